import Derived.Test.YtfjdceknbdmhpaaGreatDoorWxc03
import Derived.Test.YtfjdceknbdmhpaaGreatDoorWxc04
import Derived.Deep.RegionHeldLaw
import Derived.Lib.AppendIntMem
import Derived.Test.YtfjdceknbdmhpaaGreatDoorRows
import Derived.Test.YtfjdceknbdmhpaaGreatDoorWxc01
import Derived.Deep.RegionLaw
import Derived.Lib.SlicesCompact
import Derived.Sort.Walk0
import Derived.Shelf.Sort.Plain
import Derived.Shelf.Slices.In.SortNone
import Derived.Shelf.Slices.CompactS
set_option maxRecDepth 100000
set_option maxHeartbeats 32000000
namespace Go.Proofs.YtfjdceknbdmhpaaGreatDoor
open Go.RowKit Go.Lib
set_option linter.unusedSimpArgs false
set_option linter.unusedVariables false
attribute [local go_sem ↓] Go.wp_at_zero Go.wp_at_succ
attribute [local go_sem] as_lit_lit as_ref_lit as_ref_ref as_not_lit as_not_ref as_not_not as_neg_lit as_neg_ref as_neg_not as_neg_neg as_bin_lit as_bin_ref as_bin_not as_bin_neg as_bin_bin
def Pow (w:World):Prop:=Lib.TabIs Tryz.prog w "internal/strconv.uint64pow10" .u64 Lib.pow10Tab
theorem Pow.below {w w':World}(h:Pow w) (hb:Below w.heap.size w w'):Pow w':=tabBelow_of_tabIs h w' hb
theorem fmt_any {n:Int}(h0:0<=n) (h1:n<=1000000000) (w:World) (hp:Pow w) :
  Calls Tryz.prog 48 #[.int .i64 n,.int .i64 10] w fun e w'=>e=.returned (.string ⟨(dcN n).toArray⟩)/\Below w.heap.size w w':=by
 refine (Go.Proofs.Any.strconv_FormatInt_10 laysF n (by omega) (by omega) w hp).mono ?_
 rintro e w' ⟨rfl,k,os,rfl⟩
 refine ⟨?_,below_grow _ w Nat.le.refl k os⟩
 unfold Lib.itoa dcN
 rw [if_neg (by omega)]
theorem sd_iface:∀ {d:Nat}{t:T d},Cl d t->sdC d t=true->∃ u y,exV d t=.iface u y
 | 0,t,_,_=>Empty.elim t
 | d+1,t,hc,h=>by
  rcases exV_form (d+1) t with h1|h1
  ·rcases hc.cases with ⟨n,rfl⟩|⟨s,rfl⟩|⟨k,p,hk,rfl,hp⟩|⟨s,p,q,rfl,hp,hq⟩|rfl
   ·exact ⟨_,_,rfl⟩
   ·exact ⟨_,_,rfl⟩
   ·rcases hk with rfl|rfl<;>exact ⟨_,_,rfl⟩
   ·exact ⟨_,_,rfl⟩
   ·exact absurd h (by simp [none0,sdC_mk])
  ·exact h1
def aroX (d:Nat) (t:T d) (m:Nat):List UInt8:=txP (aroP (pcs dcN d t) m)
theorem cell3_at (w:World) (a b c:Value) (t:TypeId) (n:Nat) (hn:n=w.heap.size):(w.alloc (.cells #[a,b,c] t)).cell? ⟨n,0,none⟩=some a/\(w.alloc (.cells #[a,b,c] t)).cell? ⟨n,1,none⟩=some b/\(w.alloc (.cells #[a,b,c] t)).cell? ⟨n,2,none⟩=some c:=by subst hn;simp
theorem txt_bin {d:Nat}(s:ByteArray) (p q:T d):txtC (d+1) (mkT 5 0 s [p,q])=aroX d p (if lv (bl s)=3 then 4 else lv (bl s))++32 :: (bl s++32 :: aroX d q (lv (bl s)+1)):=by
 show txP (pcF dcN 5 0 s [pcs dcN d p,pcs dcN d q]).2=_
 show txP (aroP (pcs dcN d p) (if lv (bl s)=3 then 4 else lv (bl s))++none :: some (3,bl s) :: none :: aroP (pcs dcN d q) (lv (bl s)+1))=_
 rw [txP_app,txP_cons,txP_cons,txP_cons]
 rfl
theorem add_ok (a b c:ByteArray) (h:(bl a).length+(bl b).length<=2000000) (hc:bl c=bl a++bl b) (W:World):(Op.stringOp .add a b).run Tryz.prog W=.ok (.string c) W:=by
 have h1:a.size+b.size<=2000000:=h
 have e:a++b=c:=by
  have e1:(a++b).data=c.data:=by
   rw [ByteArray.data_append]
   apply Array.toList_inj.1
   rw [Array.toList_append];exact hc.symm
  cases c;cases h2:a++b;rw [h2] at e1;exact congrArg ByteArray.mk e1
 have h2:¬ (((a.size+b.size:Nat):Int) > IntKind.i64.max):=by
  have:IntKind.i64.max=9223372036854775807:=by decide
  rw [this];omega
 unfold Op.stringOp
 simp only [if_neg h2,e]
 rfl
def OpC (d:Nat):Prop:=∀ (t:T d) (m:Nat) (w:World),Cl d t->sdC d t=true->m<=6->(aroX d t m).length<=1000000->Pow w->Calls Tryz.prog 264 #[exV d t,.int .i64 (m:Int)] w fun e w'=>e=.returned (.string ⟨(aroX d t m).toArray⟩)/\Below w.heap.size w w'
def BtC (d:Nat):Prop:=∀ (s:ByteArray) (p q:T d) (w:World),Cl d p->Cl d q->sdC d p=true->sdC d q=true->(txtC (d+1) (mkT 5 0 s [p,q])).length<=1000000->Pow w->Calls Tryz.prog 265 #[.agg #[.string s,exV d p,exV d q]] w fun e w'=>e=.returned (.string ⟨(txtC (d+1) (mkT 5 0 s [p,q])).toArray⟩)/\Below w.heap.size w w'
def TxC (d:Nat):Prop:=∀ (t:T d) (w:World),Cl d t->sdC d t=true->(txtC d t).length<=1000000->Pow w->Calls Tryz.prog 241 #[exV d t] w fun e w'=>e=.returned (.string ⟨(txtC d t).toArray⟩)/\Below w.heap.size w w'
theorem bin_step (d:Nat) (IH:OpC d):BtC d:=by
 intro s p q w hp hq sp sq hln hw
 have hlv:=fun w1=>pLevel_any s w1
 have hI:=fun m w1 hm hl hw1=>IH p m w1 hp sp hm hl hw1
 have hJ:=fun m w1 hm hl hw1=>IH q m w1 hq sq hm hl hw1
 obtain ⟨pu,py,hpe⟩:=sd_iface hp sp
 obtain ⟨qu,qy,hqe⟩:=sd_iface hq sq
 rw [hpe,hqe]
 simp only [hpe] at hI
 simp only [hqe] at hJ
 clear hpe hqe
 have hl5:lv (bl s)<=5:=lv_le _
 obtain ⟨k,hk⟩:∃ k,lv (bl s)=k:=⟨_,rfl⟩
 rw [hk] at hl5
 simp only [hk] at hlv
 have hT:txtC (d+1) (mkT 5 0 s [p,q])=aroX d p (if k=3 then 4 else k)++32 :: (bl s++32 :: aroX d q (k+1)):=by
  rw [<- hk];exact txt_bin s p q
 obtain ⟨TX,hTX⟩:∃ TX,txtC (d+1) (mkT 5 0 s [p,q])=TX:=⟨_,rfl⟩
 rw [hTX] at hT hln ⊢
 clear hTX
 by_cases h3:k=3
 ·subst h3
  have hIm:=fun w1 h1 h=>hI 4 w1 (by omega) h1 h
  have hJm:=fun w1 h1 h=>hJ 4 w1 (by omega) h1 h
  rw [if_pos rfl] at hT
  simp only [show ((4:Nat):Int)=4 from rfl] at hIm hJm
  generalize aroX d p 4=A at hT hIm
  generalize aroX d q 4=B at hT hJm
  clear hI hJ
  have hlA:A.length<=1000000:=by have:=congrArg List.length hT;simp only [List.length_append,List.length_cons] at this;omega
  have hlB:B.length<=1000000:=by have:=congrArg List.length hT;simp only [List.length_append,List.length_cons] at this;omega
  replace hIm:=fun w1 h=>hIm w1 hlA h
  replace hJm:=fun w1 h=>hJm w1 hlB h
  clear hlA hlB
  have hA:A.length+B.length+(bl s).length+2<=1000000:=by
   have:=congrArg List.length hT
   simp only [List.length_append,List.length_cons] at this
   omega
  obtain ⟨bA,hbA⟩:∃ bA:ByteArray,⟨A.toArray⟩=bA:=⟨_,rfl⟩
  obtain ⟨bB,hbB⟩:∃ bB:ByteArray,⟨B.toArray⟩=bB:=⟨_,rfl⟩
  have hAe:bl bA=A:=by rw [<- hbA]
  have hBe:bl bB=B:=by rw [<- hbB]
  have a1:=add_ok bA ⟨#[32]⟩ ⟨(A++[32]).toArray⟩ (by rw [hAe];show A.length+1<=_;omega) (by rw [hAe])
  have a2:=add_ok ⟨(A++[32]).toArray⟩ s ⟨(A++[32]++bl s).toArray⟩ (by show (A++[32]).length+_<=_;simp only [List.length_append,List.length_cons,List.length_nil];omega) rfl
  have a3:=add_ok ⟨(A++[32]++bl s).toArray⟩ ⟨#[32]⟩ ⟨(A++[32]++bl s++[32]).toArray⟩ (by show (A++[32]++bl s).length+1<=_;simp only [List.length_append,List.length_cons,List.length_nil];omega) rfl
  have a4:=add_ok ⟨(A++[32]++bl s++[32]).toArray⟩ bB ⟨TX.toArray⟩ (by rw [hBe];show (A++[32]++bl s++[32]).length+_<=_;simp only [List.length_append,List.length_cons,List.length_nil];omega) (by rw [hBe];show TX=A++[32]++bl s++[32]++B;rw [hT];simp)
  rw [hbA] at hIm
  rw [hbB] at hJm
  clear hT hA hAe hBe hbA hbB hln
  generalize (⟨(A++[32]).toArray⟩:ByteArray)=x1 at *
  generalize (⟨(A++[32]++bl s).toArray⟩:ByteArray)=x2 at *
  generalize (⟨(A++[32]++bl s++[32]).toArray⟩:ByteArray)=x3 at *
  generalize (⟨TX.toArray⟩:ByteArray)=x4 at *
  rw [show (4:Int)=IntKind.i64.wrap 4 from by decide] at hJm
  go_enter Tryz.func265,Tryz.ntmps265
  go_wp2_with (first|(go_at_call 277;refine (hlv _).mono ?_;rintro e w2 ⟨rfl,rfl⟩))
  have hc:=cell3_at w (.string s) (.iface pu py) (.iface qu qy) 198 w.heap.size rfl
  have b1:=(Below.refl w.heap.size w).alloc Nat.le.refl (.cells #[.string s,.iface pu py,.iface qu qy] 198)
  have hw1:=hw.below b1
  clear hlv
  generalize w.alloc (.cells #[.string s,.iface pu py,.iface qu qy] 198)=w1 at *
  obtain ⟨c1,c2,c3⟩:=hc
  have bd:Below w1.heap.size w1 w1.drew:=(Below.refl _ _).drew
  have b1:=bthen b1 bd
  have s1:=hIm w1.drew (hw1.below bd)
  go_region_held_law (fun w'=>w'.cell? ⟨w.heap.size,0,none⟩=some (.string s)/\w'.cell? ⟨w.heap.size,1,none⟩=some (.iface pu py)/\w'.cell? ⟨w.heap.size,2,none⟩=some (.iface qu qy))
   (first|(with_reducible exact ⟨c1,c2,c3⟩)|(with_reducible exact ⟨d1,d2,d3⟩)|(with_reducible exact ⟨e1,e2,e3⟩)|go_keep)
   ((first
    | (go_at_call 264;(with_reducible refine s1.mono ?_);rintro e w3 ⟨rfl,b3⟩;have d1:=(b3.cell (p:=⟨w.heap.size,0,none⟩) (World.block_lt_of_cell? w1 _ c1)).trans c1;have d2:=(b3.cell (p:=⟨w.heap.size,1,none⟩) (World.block_lt_of_cell? w1 _ c2)).trans c2;have d3:=(b3.cell (p:=⟨w.heap.size,2,none⟩) (World.block_lt_of_cell? w1 _ c3)).trans c3;have b4:=bthen b1 b3;have s2:=hJm w3 ((hw1.below bd).below b3);clear s1)
    | (go_at_call 264;(with_reducible refine s2.mono ?_);rintro e w4 ⟨rfl,b5⟩;have e1:=(b5.cell (p:=⟨w.heap.size,0,none⟩) (World.block_lt_of_cell? _ _ d1)).trans d1;have e2:=(b5.cell (p:=⟨w.heap.size,1,none⟩) (World.block_lt_of_cell? _ _ d2)).trans d2;have e3:=(b5.cell (p:=⟨w.heap.size,2,none⟩) (World.block_lt_of_cell? _ _ d3)).trans d3;have b6:=bthen b4 b5;clear s2)))
  go_wp2
  go_ret
  exact ⟨rfl,b6⟩
 ·have hIm:=fun w1 h1 h=>hI k w1 (by omega) h1 h
  have hJm:=fun w1 h1 h=>hJ (k+1) w1 (by omega) h1 h
  rw [if_neg h3] at hT
  simp only [Int.natCast_add,show ((1:Nat):Int)=1 from rfl] at hJm
  generalize aroX d p k=A at hT hIm
  generalize aroX d q (k+1)=B at hT hJm
  have h3':(k:Int)≠3:=by omega
  clear hI hJ
  have hlA:A.length<=1000000:=by have:=congrArg List.length hT;simp only [List.length_append,List.length_cons] at this;omega
  have hlB:B.length<=1000000:=by have:=congrArg List.length hT;simp only [List.length_append,List.length_cons] at this;omega
  replace hIm:=fun w1 h=>hIm w1 hlA h
  replace hJm:=fun w1 h=>hJm w1 hlB h
  clear hlA hlB
  have hA:A.length+B.length+(bl s).length+2<=1000000:=by
   have:=congrArg List.length hT
   simp only [List.length_append,List.length_cons] at this
   omega
  obtain ⟨bA,hbA⟩:∃ bA:ByteArray,⟨A.toArray⟩=bA:=⟨_,rfl⟩
  obtain ⟨bB,hbB⟩:∃ bB:ByteArray,⟨B.toArray⟩=bB:=⟨_,rfl⟩
  have hAe:bl bA=A:=by rw [<- hbA]
  have hBe:bl bB=B:=by rw [<- hbB]
  have a1:=add_ok bA ⟨#[32]⟩ ⟨(A++[32]).toArray⟩ (by rw [hAe];show A.length+1<=_;omega) (by rw [hAe])
  have a2:=add_ok ⟨(A++[32]).toArray⟩ s ⟨(A++[32]++bl s).toArray⟩ (by show (A++[32]).length+_<=_;simp only [List.length_append,List.length_cons,List.length_nil];omega) rfl
  have a3:=add_ok ⟨(A++[32]++bl s).toArray⟩ ⟨#[32]⟩ ⟨(A++[32]++bl s++[32]).toArray⟩ (by show (A++[32]++bl s).length+1<=_;simp only [List.length_append,List.length_cons,List.length_nil];omega) rfl
  have a4:=add_ok ⟨(A++[32]++bl s++[32]).toArray⟩ bB ⟨TX.toArray⟩ (by rw [hBe];show (A++[32]++bl s++[32]).length+_<=_;simp only [List.length_append,List.length_cons,List.length_nil];omega) (by rw [hBe];show TX=A++[32]++bl s++[32]++B;rw [hT];simp)
  rw [hbA] at hIm
  rw [hbB] at hJm
  clear hT hA hAe hBe hbA hbB hln
  generalize (⟨(A++[32]).toArray⟩:ByteArray)=x1 at *
  generalize (⟨(A++[32]++bl s).toArray⟩:ByteArray)=x2 at *
  generalize (⟨(A++[32]++bl s++[32]).toArray⟩:ByteArray)=x3 at *
  generalize (⟨TX.toArray⟩:ByteArray)=x4 at *
  rw [show ((k:Int)+1)=IntKind.i64.wrap ((k:Int)+1) from (wrap_small _ (by omega) (by omega)).symm] at hJm
  go_enter Tryz.func265,Tryz.ntmps265
  go_wp2_with (first|(go_at_call 277;refine (hlv _).mono ?_;rintro e w2 ⟨rfl,rfl⟩))
  have hc:=cell3_at w (.string s) (.iface pu py) (.iface qu qy) 198 w.heap.size rfl
  have b1:=(Below.refl w.heap.size w).alloc Nat.le.refl (.cells #[.string s,.iface pu py,.iface qu qy] 198)
  have hw1:=hw.below b1
  clear hlv
  generalize w.alloc (.cells #[.string s,.iface pu py,.iface qu qy] 198)=w1 at *
  obtain ⟨c1,c2,c3⟩:=hc
  have bd:Below w1.heap.size w1 w1.drew:=(Below.refl _ _).drew
  have b1:=bthen b1 bd
  have s1:=hIm w1.drew (hw1.below bd)
  go_region_held_law (fun w'=>w'.cell? ⟨w.heap.size,0,none⟩=some (.string s)/\w'.cell? ⟨w.heap.size,1,none⟩=some (.iface pu py)/\w'.cell? ⟨w.heap.size,2,none⟩=some (.iface qu qy))
   (first|(with_reducible exact ⟨c1,c2,c3⟩)|(with_reducible exact ⟨d1,d2,d3⟩)|(with_reducible exact ⟨e1,e2,e3⟩)|go_keep)
   ((first
    | (go_at_call 264;(with_reducible refine s1.mono ?_);rintro e w3 ⟨rfl,b3⟩;have d1:=(b3.cell (p:=⟨w.heap.size,0,none⟩) (World.block_lt_of_cell? w1 _ c1)).trans c1;have d2:=(b3.cell (p:=⟨w.heap.size,1,none⟩) (World.block_lt_of_cell? w1 _ c2)).trans c2;have d3:=(b3.cell (p:=⟨w.heap.size,2,none⟩) (World.block_lt_of_cell? w1 _ c3)).trans c3;have b4:=bthen b1 b3;have s2:=hJm w3 ((hw1.below bd).below b3);clear s1)
    | (go_at_call 264;(with_reducible refine s2.mono ?_);rintro e w4 ⟨rfl,b5⟩;have e1:=(b5.cell (p:=⟨w.heap.size,0,none⟩) (World.block_lt_of_cell? _ _ d1)).trans d1;have e2:=(b5.cell (p:=⟨w.heap.size,1,none⟩) (World.block_lt_of_cell? _ _ d2)).trans d2;have e3:=(b5.cell (p:=⟨w.heap.size,2,none⟩) (World.block_lt_of_cell? _ _ d3)).trans d3;have b6:=bthen b4 b5;clear s2)))
  go_wp2
  go_ret
  exact ⟨rfl,b6⟩
theorem aro_same {d:Nat}{k n:Int}{s:ByteArray}{ps:List (T d)}{m:Nat}(hk:k≠5) (hm:m<=6):aroX (d+1) (mkT k n s ps) m=txtC (d+1) (mkT k n s ps):=by
 unfold aroX aroP txtC
 rw [if_neg]
 show ¬ (if k=5 then lv s.data.toList else 6) < m
 rw [if_neg hk];omega
theorem aro_bin {d:Nat}{s:ByteArray}{p q:T d}{m:Nat}:aroX (d+1) (mkT 5 0 s [p,q]) m=if lv (bl s) < m then 40 :: (txtC (d+1) (mkT 5 0 s [p,q])++[41]) else txtC (d+1) (mkT 5 0 s [p,q]):=by
 have e:(pcs dcN (d+1) (mkT 5 0 s [p,q])).1=lv (bl s):=rfl
 unfold aroX aroP txtC
 rw [e]
 split
 ·rw [txP_cons,txP_app];rfl
 ·rfl
theorem ba_app (a b:List UInt8):(⟨a.toArray⟩:ByteArray)++⟨b.toArray⟩=⟨(a++b).toArray⟩:=by
 have e1:((⟨a.toArray⟩:ByteArray)++⟨b.toArray⟩).data=(a++b).toArray:=by
  rw [ByteArray.data_append]
  apply Array.toList_inj.1
  rw [Array.toList_append]
 cases h2:(⟨a.toArray⟩:ByteArray)++⟨b.toArray⟩
 rw [h2] at e1
 exact congrArg ByteArray.mk e1
theorem ba_one (x:UInt8) (X:List UInt8):(⟨#[x]⟩++⟨X.toArray⟩:ByteArray)=⟨(x :: X).toArray⟩:=ba_app [x] X
theorem ba_par (X:List UInt8):(⟨#[40]⟩++⟨X.toArray⟩++⟨#[41]⟩:ByteArray)=⟨(40 :: (X++[41])).toArray⟩:=
 (congrArg (fun b:ByteArray=>b++⟨#[41]⟩) (ba_one 40 X)).trans (ba_app (40 :: X) [41])
theorem as_lit_bin (w:World) (n:Value):(Instr.typeAssert (.iface 191 (.agg #[n])) 130 198 true).run Tryz.prog w=.ok (.tuple #[.agg #[.string ⟨#[]⟩,.nilIface,.nilIface],.bool false]) w:=by kernel_rfl
theorem as_ref_bin (w:World) (n:Value):(Instr.typeAssert (.iface 193 (.agg #[n])) 130 198 true).run Tryz.prog w=.ok (.tuple #[.agg #[.string ⟨#[]⟩,.nilIface,.nilIface],.bool false]) w:=by kernel_rfl
theorem as_not_bin (w:World) (n:Value):(Instr.typeAssert (.iface 195 (.agg #[n])) 130 198 true).run Tryz.prog w=.ok (.tuple #[.agg #[.string ⟨#[]⟩,.nilIface,.nilIface],.bool false]) w:=by kernel_rfl
theorem as_neg_bin (w:World) (n:Value):(Instr.typeAssert (.iface 196 (.agg #[n])) 130 198 true).run Tryz.prog w=.ok (.tuple #[.agg #[.string ⟨#[]⟩,.nilIface,.nilIface],.bool false]) w:=by kernel_rfl
attribute [local go_sem] as_lit_bin as_ref_bin as_not_bin as_neg_bin
theorem op_step (d:Nat) (HB:BtC d) (HX:TxC (d+1)):OpC (d+1):=by
 intro t m w hc hs hm hl hw
 have hX:=fun w1 hl1 hw1=>HX t w1 hc hs hl1 hw1
 have bz:=(Below.refl w.heap.size w).alloc Nat.le.refl (.cells #[.string ⟨#[]⟩,.nilIface,.nilIface] 198)
 have hwz:=hw.below bz
 rcases hc.cases with ⟨n,rfl⟩|⟨s,rfl⟩|⟨k,p,hk,rfl,hp⟩|⟨s,p,q,rfl,hp,hq⟩|rfl
 ·have e:exV (d+1) (mkT 1 n ⟨#[]⟩ []:T (d+1))=.iface 191 (.agg #[.int .i64 n]):=rfl
  rw [aro_same (by decide) hm] at hl ⊢
  replace hX:=fun w1 hw1=>hX w1 hl hw1
  rw [e] at hX ⊢
  generalize txtC (d+1) (mkT 1 n ⟨#[]⟩ []:T (d+1))=X at *
  clear e hs hc
  go_enter Tryz.func264,Tryz.ntmps264
  go_wp2_with (first|(go_at_call 241;refine (hX _ hwz).mono ?_;rintro e w2 ⟨rfl,b2⟩))
  go_ret
  exact ⟨rfl,bthen bz b2⟩
 ·have e:exV (d+1) (mkT 2 0 s []:T (d+1))=.iface 193 (.agg #[.string s]):=rfl
  rw [aro_same (by decide) hm] at hl ⊢
  replace hX:=fun w1 hw1=>hX w1 hl hw1
  rw [e] at hX ⊢
  generalize txtC (d+1) (mkT 2 0 s []:T (d+1))=X at *
  clear e hs hc
  go_enter Tryz.func264,Tryz.ntmps264
  go_wp2_with (first|(go_at_call 241;refine (hX _ hwz).mono ?_;rintro e w2 ⟨rfl,b2⟩))
  go_ret
  exact ⟨rfl,bthen bz b2⟩
 ·rcases hk with rfl|rfl
  ·have e:exV (d+1) (mkT 3 0 ⟨#[]⟩ [p]:T (d+1))=.iface 195 (.agg #[exV d p]):=rfl
   rw [aro_same (by decide) hm] at hl ⊢
   replace hX:=fun w1 hw1=>hX w1 hl hw1
   rw [e] at hX ⊢
   generalize txtC (d+1) (mkT 3 0 ⟨#[]⟩ [p]:T (d+1))=X at *
   generalize exV d p=pv at *
   clear e hs hc
   go_enter Tryz.func264,Tryz.ntmps264
   go_wp2_with (first|(go_at_call 241;refine (hX _ hwz).mono ?_;rintro e w2 ⟨rfl,b2⟩))
   go_ret
   exact ⟨rfl,bthen bz b2⟩
  ·have e:exV (d+1) (mkT 4 0 ⟨#[]⟩ [p]:T (d+1))=.iface 196 (.agg #[exV d p]):=rfl
   rw [aro_same (by decide) hm] at hl ⊢
   replace hX:=fun w1 hw1=>hX w1 hl hw1
   rw [e] at hX ⊢
   generalize txtC (d+1) (mkT 4 0 ⟨#[]⟩ [p]:T (d+1))=X at *
   generalize exV d p=pv at *
   clear e hs hc
   go_enter Tryz.func264,Tryz.ntmps264
   go_wp2_with (first|(go_at_call 241;refine (hX _ hwz).mono ?_;rintro e w2 ⟨rfl,b2⟩))
   go_ret
   exact ⟨rfl,bthen bz b2⟩
 ·have sd:=hs
  rw [sdC_mk,if_neg (by decide),if_neg (by decide),if_neg (by decide),if_pos rfl] at sd
  simp only [List.all_cons,List.all_nil,Bool.and_true,Bool.and_eq_true] at sd
  obtain ⟨_,sp,sq⟩:=sd
  have hB:=fun w1 hl1 hw1=>HB s p q w1 hp hq sp sq hl1 hw1
  have hlv:=fun w1=>pLevel_any s w1
  rw [aro_bin] at hl ⊢
  have e:exV (d+1) (mkT 5 0 s [p,q]:T (d+1))=.iface 198 (.agg #[.string s,exV d p,exV d q]):=rfl
  rw [e] at hX ⊢
  obtain ⟨pu,py,hpe⟩:=sd_iface hp sp
  obtain ⟨qu,qy,hqe⟩:=sd_iface hq sq
  rw [hpe,hqe] at hX hB ⊢
  generalize txtC (d+1) (mkT 5 0 s [p,q]:T (d+1))=X at *
  clear e hs hc hpe hqe
  have bz:=(Below.refl w.heap.size w).alloc Nat.le.refl (.cells #[.string s,.iface pu py,.iface qu qy] 198)
  have hwz:=hw.below bz
  by_cases hlt:lv (bl s) < m
  ·rw [if_pos hlt] at hl ⊢
   have hl2:X.length+2<=1000000:=by simpa using hl
   replace hB:=fun w1 hw1=>hB w1 (by omega) hw1
   have hlt':((lv (bl s):Nat):Int) < (m:Int):=by omega
   go_enter Tryz.func264,Tryz.ntmps264
   go_wp2_with (first
    | (go_at_call 277;refine (hlv _).mono ?_;rintro e w2 ⟨rfl,rfl⟩)
    | (go_at_call 265;refine (hB _ hwz).mono ?_;rintro e w2 ⟨rfl,b2⟩))
   go_ret
   exact ⟨congrArg (fun b=>Ending.returned (.string b)) (ba_par X),bthen bz b2⟩
  ·rw [if_neg hlt] at hl ⊢
   replace hX:=fun w1 hw1=>hX w1 hl hw1
   have hlt':¬ ((lv (bl s):Nat):Int) < (m:Int):=by omega
   go_enter Tryz.func264,Tryz.ntmps264
   go_wp2_with (first
    | (go_at_call 277;refine (hlv _).mono ?_;rintro e w2 ⟨rfl,rfl⟩)
    | (go_at_call 241;refine (hX _ hwz).mono ?_;rintro e w2 ⟨rfl,b2⟩))
   go_ret
   exact ⟨rfl,bthen bz b2⟩
 ·exact absurd hs (by simp [none0,sdC_mk])
theorem tx_step (d:Nat) (HO:OpC d) (HB:BtC d):TxC (d+1):=by
 intro t w hc hs hl hw
 rcases hc.cases with ⟨n,rfl⟩|⟨s,rfl⟩|⟨k,p,hk,rfl,hp⟩|⟨s,p,q,rfl,hp,hq⟩|rfl
 ·have e:exV (d+1) (mkT 1 n ⟨#[]⟩ []:T (d+1))=.iface 191 (.agg #[.int .i64 n]):=rfl
  have eT:txtC (d+1) (mkT 1 n ⟨#[]⟩ []:T (d+1))=dcN n:=by
   show txP [some (2,dcN n)]=dcN n
   rw [txP_cons];exact List.append_nil _
  rw [eT,e]
  rw [sdC_mk,if_pos rfl] at hs
  simp only [Bool.and_eq_true,decide_eq_true_eq] at hs
  have hF:=fun w1 h=>fmt_any hs.1 hs.2 w1 h
  have bz:=(Below.refl w.heap.size w).alloc Nat.le.refl (.cells #[.int .i64 n] 191)
  have hwz:=hw.below bz
  generalize dcN n=X at *
  clear e hc eT
  go_enter Tryz.func241,Tryz.ntmps241
  go_wp2_with (first|(go_at_call 48;refine (hF _ hwz).mono ?_;rintro e w2 ⟨rfl,b2⟩))
  go_ret
  exact ⟨rfl,bthen bz b2⟩
 ·have e:exV (d+1) (mkT 2 0 s []:T (d+1))=.iface 193 (.agg #[.string s]):=rfl
  have eT:(⟨(txtC (d+1) (mkT 2 0 s []:T (d+1))).toArray⟩:ByteArray)=s:=by
   have:txtC (d+1) (mkT 2 0 s []:T (d+1))=s.data.toList:=by
    show txP [some (1,s.data.toList)]=_
    rw [txP_cons];exact List.append_nil _
   rw [this]
  rw [eT,e]
  have hsz:s.size<=1000000:=by
   have h1:=hl
   rw [show txtC (d+1) (mkT 2 0 s []:T (d+1))=s.data.toList from by show txP [some (1,s.data.toList)]=_;rw [txP_cons];exact List.append_nil _] at h1
   exact h1
  have hC:=fun w1=>pClone_any s w1 (by omega)
  have bz:=(Below.refl w.heap.size w).alloc Nat.le.refl (.cells #[.string s] 193)
  clear e hc eT hs
  go_enter Tryz.func241,Tryz.ntmps241
  go_wp2_with (first|(go_at_call 38;refine (hC _).mono ?_;rintro e w2 ⟨rfl,b2⟩))
  go_ret
  exact ⟨rfl,bthen bz b2⟩
 ·rcases hk with rfl|rfl
  ·have e:exV (d+1) (mkT 3 0 ⟨#[]⟩ [p]:T (d+1))=.iface 195 (.agg #[exV d p]):=rfl
   have sp:sdC d p=true:=by
    rw [sdC_mk,if_neg (by decide),if_neg (by decide),if_pos (by decide)] at hs
    simpa using hs
   have eT:txtC (d+1) (mkT 3 0 ⟨#[]⟩ [p]:T (d+1))=33 :: aroX d p 6:=rfl
   rw [eT] at hl ⊢
   have hl2:(aroX d p 6).length+1<=1000000:=by simpa using hl
   have hO:=fun w1 hw1=>HO p 6 w1 hp sp (by omega) (by omega) hw1
   obtain ⟨pu,py,hpe⟩:=sd_iface hp sp
   rw [e,hpe]
   simp only [hpe,show ((6:Nat):Int)=6 from rfl] at hO
   generalize aroX d p 6=X at *
   clear e hpe hs hc eT
   have bz:=(Below.refl w.heap.size w).alloc Nat.le.refl (.cells #[.iface pu py] 195)
   have hwz:=hw.below bz
   go_enter Tryz.func241,Tryz.ntmps241
   go_wp2_with (first|(go_at_call 264;refine (hO _ hwz).mono ?_;rintro e w2 ⟨rfl,b2⟩))
   go_ret
   exact ⟨congrArg (fun b=>Ending.returned (.string b)) (ba_one _ X),bthen bz b2⟩
  ·have e:exV (d+1) (mkT 4 0 ⟨#[]⟩ [p]:T (d+1))=.iface 196 (.agg #[exV d p]):=rfl
   have sp:sdC d p=true:=by
    rw [sdC_mk,if_neg (by decide),if_neg (by decide),if_pos (by decide)] at hs
    simpa using hs
   have eT:txtC (d+1) (mkT 4 0 ⟨#[]⟩ [p]:T (d+1))=45 :: aroX d p 6:=rfl
   rw [eT] at hl ⊢
   have hl2:(aroX d p 6).length+1<=1000000:=by simpa using hl
   have hO:=fun w1 hw1=>HO p 6 w1 hp sp (by omega) (by omega) hw1
   obtain ⟨pu,py,hpe⟩:=sd_iface hp sp
   rw [e,hpe]
   simp only [hpe,show ((6:Nat):Int)=6 from rfl] at hO
   generalize aroX d p 6=X at *
   clear e hpe hs hc eT
   have bz:=(Below.refl w.heap.size w).alloc Nat.le.refl (.cells #[.iface pu py] 196)
   have hwz:=hw.below bz
   go_enter Tryz.func241,Tryz.ntmps241
   go_wp2_with (first|(go_at_call 264;refine (hO _ hwz).mono ?_;rintro e w2 ⟨rfl,b2⟩))
   go_ret
   exact ⟨congrArg (fun b=>Ending.returned (.string b)) (ba_one _ X),bthen bz b2⟩
 ·have e:exV (d+1) (mkT 5 0 s [p,q]:T (d+1))=.iface 198 (.agg #[.string s,exV d p,exV d q]):=rfl
  have sd:=hs
  rw [sdC_mk,if_neg (by decide),if_neg (by decide),if_neg (by decide),if_pos rfl] at sd
  simp only [List.all_cons,List.all_nil,Bool.and_true,Bool.and_eq_true] at sd
  obtain ⟨_,sp,sq⟩:=sd
  have hB:=fun w1 hw1=>HB s p q w1 hp hq sp sq hl hw1
  obtain ⟨pu,py,hpe⟩:=sd_iface hp sp
  obtain ⟨qu,qy,hqe⟩:=sd_iface hq sq
  rw [e]
  rw [hpe,hqe] at hB ⊢
  generalize txtC (d+1) (mkT 5 0 s [p,q]:T (d+1))=X at *
  clear e hs hc hpe hqe
  have bz:=(Below.refl w.heap.size w).alloc Nat.le.refl (.cells #[.string s,.iface pu py,.iface qu qy] 198)
  have hwz:=hw.below bz
  go_enter Tryz.func241,Tryz.ntmps241
  go_wp2_with (first|(go_at_call 265;refine (hB _ hwz).mono ?_;rintro e w2 ⟨rfl,b2⟩))
  go_ret
  exact ⟨rfl,bthen bz b2⟩
 ·exact absurd hs (by simp [none0,sdC_mk])
theorem op_any:∀ d,OpC d
 | 0=>fun t=>Empty.elim t
 | d+1=>op_step d (bin_step d (op_any d)) (tx_step d (op_any d) (bin_step d (op_any d)))
theorem text_any:∀ d,TxC d
 | 0=>fun t=>Empty.elim t
 | d+1=>tx_step d (op_any d) (bin_step d (op_any d))
def KidsN (lo:Nat) (w:World) (v:Value) (l:List Value):Prop:=Kids w v l/\∀ g,v.ownBlock=some g->lo<=g
theorem kidsN0 (lo:Nat) (w:World):KidsN lo w (.slice none 0 0) []:=⟨kids0 w,fun g hg=>by cases hg⟩
theorem kidsN1 {lo:Nat}{w:World}{g:Nat}{x:Value}(hl:lo<=g) (h:w.cell? ⟨g,0,none⟩=some x):KidsN lo w (.slice (some ⟨g,0,none⟩) 1 1) [x]:=⟨kids1 h,fun g' hg=>by simp [Value.ownBlock] at hg;omega⟩
theorem kidsN2 {lo:Nat}{w:World}{g:Nat}{x y:Value}(hl:lo<=g) (h:w.cell? ⟨g,0,none⟩=some x) (h':w.cell? ⟨g,1,none⟩=some y):KidsN lo w (.slice (some ⟨g,0,none⟩) 2 2) [x,y]:=⟨kids2 h h',fun g' hg=>by simp [Value.ownBlock] at hg;omega⟩
theorem topN_nil (w:World):Calls Tryz.prog 192 #[.nilIface] w fun e w'=>∃ sl,e=.returned (topV 0 0 ⟨#[]⟩ sl)/\KidsN w.heap.size w' sl []/\Below w.heap.size w w':=by
 go_enter Tryz.func192,Tryz.ntmps192
 go_wp2
 refine bodyPost_ret (v:=topV 0 0 ⟨#[]⟩ (.slice none 0 0)) (by simp [results,Tryz.results192,go_sem]) rfl ⟨_,rfl,kidsN0 _ _,?_⟩
 ·(repeat (refine Below.alloc ?_ (by simp<;>omega) _));exact Below.refl _ _
theorem topN_lit (n:Int) (w:World):Calls Tryz.prog 192 #[.iface 191 (.agg #[.int .i64 n])] w fun e w'=>∃ sl,e=.returned (topV 1 n ⟨#[]⟩ sl)/\KidsN w.heap.size w' sl []/\Below w.heap.size w w':=by
 go_enter Tryz.func192,Tryz.ntmps192
 go_wp2
 refine bodyPost_ret (v:=topV 1 n ⟨#[]⟩ (.slice none 0 0)) (by simp [results,Tryz.results192,go_sem]) rfl ⟨_,rfl,kidsN0 _ _,?_⟩
 ·(repeat (refine Below.alloc ?_ (by simp<;>omega) _));exact Below.refl _ _
theorem topN_ref (s:ByteArray) (w:World):Calls Tryz.prog 192 #[.iface 193 (.agg #[.string s])] w fun e w'=>∃ sl,e=.returned (topV 2 0 s sl)/\KidsN w.heap.size w' sl []/\Below w.heap.size w w':=by
 go_enter Tryz.func192,Tryz.ntmps192
 go_wp2
 refine bodyPost_ret (v:=topV 2 0 s (.slice none 0 0)) (by simp [results,Tryz.results192,go_sem]) rfl ⟨_,rfl,kidsN0 _ _,?_⟩
 ·(repeat (refine Below.alloc ?_ (by simp<;>omega) _));exact Below.refl _ _
theorem topN_not (x:Value) (hx:Ifc x) (w:World):Calls Tryz.prog 192 #[.iface 195 (.agg #[x])] w fun e w'=>∃ sl,e=.returned (topV 3 0 ⟨#[]⟩ sl)/\KidsN w.heap.size w' sl [x]/\Below w.heap.size w w':=by
 rcases hx with rfl|⟨u,y,rfl⟩
 ·go_enter Tryz.func192,Tryz.ntmps192
  go_wp2
  refine bodyPost_ret (v:=topV 3 0 ⟨#[]⟩ (.slice (some ⟨w.heap.size+4,0,none⟩) 1 1)) (by simp [results,Tryz.results192,go_sem]) rfl ⟨_,rfl,kidsN1 ?_ ?_,?_⟩
  ·simp
  ·exact cell1_new _ _ _ _ (by simp)
  ·(repeat (refine Below.alloc ?_ (by simp<;>omega) _));exact Below.refl _ _
 ·go_enter Tryz.func192,Tryz.ntmps192
  go_wp2
  refine bodyPost_ret (v:=topV 3 0 ⟨#[]⟩ (.slice (some ⟨w.heap.size+4,0,none⟩) 1 1)) (by simp [results,Tryz.results192,go_sem]) rfl ⟨_,rfl,kidsN1 ?_ ?_,?_⟩
  ·simp
  ·exact cell1_new _ _ _ _ (by simp)
  ·(repeat (refine Below.alloc ?_ (by simp<;>omega) _));exact Below.refl _ _
theorem topN_neg (x:Value) (hx:Ifc x) (w:World):Calls Tryz.prog 192 #[.iface 196 (.agg #[x])] w fun e w'=>∃ sl,e=.returned (topV 4 0 ⟨#[]⟩ sl)/\KidsN w.heap.size w' sl [x]/\Below w.heap.size w w':=by
 rcases hx with rfl|⟨u,y,rfl⟩
 ·go_enter Tryz.func192,Tryz.ntmps192
  go_wp2
  refine bodyPost_ret (v:=topV 4 0 ⟨#[]⟩ (.slice (some ⟨w.heap.size+5,0,none⟩) 1 1)) (by simp [results,Tryz.results192,go_sem]) rfl ⟨_,rfl,kidsN1 ?_ ?_,?_⟩
  ·simp
  ·exact cell1_new _ _ _ _ (by simp)
  ·(repeat (refine Below.alloc ?_ (by simp<;>omega) _));exact Below.refl _ _
 ·go_enter Tryz.func192,Tryz.ntmps192
  go_wp2
  refine bodyPost_ret (v:=topV 4 0 ⟨#[]⟩ (.slice (some ⟨w.heap.size+5,0,none⟩) 1 1)) (by simp [results,Tryz.results192,go_sem]) rfl ⟨_,rfl,kidsN1 ?_ ?_,?_⟩
  ·simp
  ·exact cell1_new _ _ _ _ (by simp)
  ·(repeat (refine Below.alloc ?_ (by simp<;>omega) _));exact Below.refl _ _
theorem topN_bin (s:ByteArray) (x x':Value) (hx:Ifc x) (hx':Ifc x') (w:World):Calls Tryz.prog 192 #[.iface 198 (.agg #[.string s,x,x'])] w fun e w'=>∃ sl,e=.returned (topV 5 0 s sl)/\KidsN w.heap.size w' sl [x,x']/\Below w.heap.size w w':=by
 rcases hx with rfl|⟨u,y,rfl⟩<;>rcases hx' with rfl|⟨u',y',rfl⟩
 ·go_enter Tryz.func192,Tryz.ntmps192
  go_wp2
  refine bodyPost_ret (v:=topV 5 0 s (.slice (some ⟨w.heap.size+6,0,none⟩) 2 2)) (by simp [results,Tryz.results192,go_sem]) rfl ⟨_,rfl,kidsN2 ?_ ?_ ?_,?_⟩
  ·simp
  ·exact (cell2_new _ _ _ _ _ (by simp)).1
  ·exact (cell2_new _ _ _ _ _ (by simp)).2
  ·(repeat (refine Below.alloc ?_ (by simp<;>omega) _));exact Below.refl _ _
 ·go_enter Tryz.func192,Tryz.ntmps192
  go_wp2
  refine bodyPost_ret (v:=topV 5 0 s (.slice (some ⟨w.heap.size+6,0,none⟩) 2 2)) (by simp [results,Tryz.results192,go_sem]) rfl ⟨_,rfl,kidsN2 ?_ ?_ ?_,?_⟩
  ·simp
  ·exact (cell2_new _ _ _ _ _ (by simp)).1
  ·exact (cell2_new _ _ _ _ _ (by simp)).2
  ·(repeat (refine Below.alloc ?_ (by simp<;>omega) _));exact Below.refl _ _
 ·go_enter Tryz.func192,Tryz.ntmps192
  go_wp2
  refine bodyPost_ret (v:=topV 5 0 s (.slice (some ⟨w.heap.size+6,0,none⟩) 2 2)) (by simp [results,Tryz.results192,go_sem]) rfl ⟨_,rfl,kidsN2 ?_ ?_ ?_,?_⟩
  ·simp
  ·exact (cell2_new _ _ _ _ _ (by simp)).1
  ·exact (cell2_new _ _ _ _ _ (by simp)).2
  ·(repeat (refine Below.alloc ?_ (by simp<;>omega) _));exact Below.refl _ _
 ·go_enter Tryz.func192,Tryz.ntmps192
  go_wp2
  refine bodyPost_ret (v:=topV 5 0 s (.slice (some ⟨w.heap.size+6,0,none⟩) 2 2)) (by simp [results,Tryz.results192,go_sem]) rfl ⟨_,rfl,kidsN2 ?_ ?_ ?_,?_⟩
  ·simp
  ·exact (cell2_new _ _ _ _ _ (by simp)).1
  ·exact (cell2_new _ _ _ _ _ (by simp)).2
  ·(repeat (refine Below.alloc ?_ (by simp<;>omega) _));exact Below.refl _ _
theorem topN_any {d:Nat}{t:T (d+1)}(hc:Cl (d+1) t):∃ k n s ps,t=mkT k n s ps/\∀ w,Calls Tryz.prog 192 #[exV (d+1) t] w fun e w'=>∃ sl,e=.returned (.agg #[.int .i64 k,.int .i64 n,.string s,sl])/\KidsN w.heap.size w' sl (ps.map (exV d))/\Below w.heap.size w w':=by
 rcases hc.cases with ⟨n,rfl⟩|⟨s,rfl⟩|⟨k,p,hk,rfl,hp⟩|⟨s,p,q,rfl,hp,hq⟩|rfl
 ·exact ⟨1,n,_,[],rfl,fun w=>topN_lit n w⟩
 ·exact ⟨2,0,s,[],rfl,fun w=>topN_ref s w⟩
 ·rcases hk with rfl|rfl
  ·exact ⟨3,0,_,[p],rfl,fun w=>topN_not (exV d p) (ifc_ex p) w⟩
  ·exact ⟨4,0,_,[p],rfl,fun w=>topN_neg (exV d p) (ifc_ex p) w⟩
 ·exact ⟨5,0,s,[p,q],rfl,fun w=>topN_bin s (exV d p) (exV d q) (ifc_ex p) (ifc_ex q) w⟩
 ·exact ⟨0,0,_,[],rfl,fun w=>topN_nil w⟩
end Go.Proofs.YtfjdceknbdmhpaaGreatDoor
namespace Go.Proofs.YtfjdceknbdmhpaaGreatDoor
open Go.RowKit Go.Lib
set_option linter.unusedSimpArgs false
set_option linter.unusedVariables false
attribute [local go_sem ↓] Go.wp_at_zero Go.wp_at_succ
theorem str_is2 (s:ByteArray) (x:List UInt8):(s.toList == x)=(bl s == x):=by rw [ByteArray.toList_eq]
theorem pOperator_any (s:ByteArray) (w:World):Calls Tryz.prog 294 #[.string s] w fun e w'=>e=.returned (.bool (opr s))/\w=w':=by
 have hS:=str_is2 s
 obtain ⟨l,hl⟩:∃ l,bl s=l:=⟨_,rfl⟩
 have ho:opr s=ops9.any (fun x=>l == x):=by rw [<- hl];rfl
 rw [ho]
 simp only [hl] at hS
 clear hl ho
 obtain ⟨L,hL⟩:∃ L,s.toList=L:=⟨_,rfl⟩
 have q0:(s.toList == [43])=(l == [43]):=hS _
 have q1:(s.toList == [45])=(l == [45]):=hS _
 have q2:(s.toList == [42])=(l == [42]):=hS _
 have q3:(s.toList == [60])=(l == [60]):=hS _
 have q4:(s.toList == [60,61])=(l == [60,61]):=hS _
 have q5:(s.toList == [61,61])=(l == [61,61]):=hS _
 have q6:(s.toList == [33,61])=(l == [33,61]):=hS _
 have q7:(s.toList == [38,38])=(l == [38,38]):=hS _
 have q8:(s.toList == [124,124])=(l == [124,124]):=hS _
 clear hS hL
 simp only [ops9,List.any_cons,List.any_nil,Bool.or_false]
 cases r0:(l == [43])
 case true=>rw [r0] at q0;clear q1 q2 q3 q4 q5 q6 q7 q8;go_enter Tryz.func294,Tryz.ntmps294;go_wp2;go_ret;exact ⟨ret_bool (by simp),rfl⟩
 cases r1:(l == [45])
 case true=>rw [r0] at q0;rw [r1] at q1;clear q2 q3 q4 q5 q6 q7 q8;go_enter Tryz.func294,Tryz.ntmps294;go_wp2;go_ret;exact ⟨ret_bool (by simp),rfl⟩
 rw [r0] at q0;rw [r1] at q1
 cases r2:(l == [42])
 case true=>rw [r2] at q2;clear q3 q4 q5 q6 q7 q8;go_enter Tryz.func294,Tryz.ntmps294;go_wp2;go_ret;exact ⟨ret_bool (by simp),rfl⟩
 rw [r2] at q2
 cases r3:(l == [60])
 case true=>rw [r3] at q3;clear q4 q5 q6 q7 q8;go_enter Tryz.func294,Tryz.ntmps294;go_wp2;go_ret;exact ⟨ret_bool (by simp),rfl⟩
 rw [r3] at q3
 cases r4:(l == [60,61])
 case true=>rw [r4] at q4;clear q5 q6 q7 q8;go_enter Tryz.func294,Tryz.ntmps294;go_wp2;go_ret;exact ⟨ret_bool (by simp),rfl⟩
 rw [r4] at q4
 cases r5:(l == [61,61])
 case true=>rw [r5] at q5;clear q6 q7 q8;go_enter Tryz.func294,Tryz.ntmps294;go_wp2;go_ret;exact ⟨ret_bool (by simp),rfl⟩
 rw [r5] at q5
 cases r6:(l == [33,61])
 case true=>rw [r6] at q6;clear q7 q8;go_enter Tryz.func294,Tryz.ntmps294;go_wp2;go_ret;exact ⟨ret_bool (by simp),rfl⟩
 rw [r6] at q6
 cases r7:(l == [38,38])
 case true=>rw [r7] at q7;clear q8;go_enter Tryz.func294,Tryz.ntmps294;go_wp2;go_ret;exact ⟨ret_bool (by simp),rfl⟩
 rw [r7] at q7
 cases r8:(l == [124,124])
 case true=>rw [r8] at q8;go_enter Tryz.func294,Tryz.ntmps294;go_wp2;go_ret;exact ⟨ret_bool (by simp),rfl⟩
 rw [r8] at q8
 go_enter Tryz.func294,Tryz.ntmps294
 go_wp2
 go_ret
 exact ⟨ret_bool (by simp),rfl⟩
def rtC (k n:Int) (s:ByteArray):Bool:=if k=1 then decide (0<=n) && decide (n<=1000000000) else if k=2 then nameS (bl s) else if k=3∨k=4 then true else if k=5 then opr s else false
theorem rightTop_any (k n:Int) (s:ByteArray) (a:Option Addr) (m:Nat) (hs:s.size<=1000) (w:World) :
  Calls Tryz.prog 276 #[.agg #[.int .i64 k,.int .i64 n,.string s,.slice a m m]] w fun e w'=>e=.returned (.bool (rtC k n s))/\Below w.heap.size w w':=by
 have hb:Below w.heap.size w (w.alloc (.cells #[.int .i64 k,.int .i64 n,.string s,.slice a m m] 244)):=(Below.refl _ _).alloc Nat.le.refl _
 have h1:=fun w1=>pName_any s w1 (by omega)
 have h2:=fun w1=>pOperator_any s w1
 unfold rtC
 by_cases k1:k=1
 ·subst k1
  rw [if_pos rfl]
  clear h1 h2
  by_cases c1:0<=n
  ·by_cases c2:n<=1000000000
   ·rw [decide_eq_true c1,decide_eq_true c2]
    go_enter Tryz.func276,Tryz.ntmps276
    go_wp2
    go_ret
    exact ⟨rfl,hb⟩
   ·rw [decide_eq_true c1,decide_eq_false c2]
    go_enter Tryz.func276,Tryz.ntmps276
    go_wp2
    go_ret
    exact ⟨rfl,hb⟩
  ·rw [decide_eq_false c1,Bool.false_and]
   go_enter Tryz.func276,Tryz.ntmps276
   go_wp2
   go_ret
   exact ⟨rfl,hb⟩
 rw [if_neg k1]
 have e1:(k == 1)=false:=beq_eq_false_iff_ne.2 k1
 by_cases k2:k=2
 ·subst k2
  rw [if_pos rfl]
  clear h2 k1 e1
  go_enter Tryz.func276,Tryz.ntmps276
  go_wp2_with (first
   | (go_at_call 89;refine (h1 _).mono ?_;rintro e w1 ⟨rfl,b1⟩))
  go_ret
  exact ⟨rfl,hb.trans (b1.mono hb.size)⟩
 rw [if_neg k2]
 have e2:(k == 2)=false:=beq_eq_false_iff_ne.2 k2
 by_cases k34:k=3∨k=4
 ·rw [if_pos k34]
  clear h1 h2
  rcases k34 with rfl|rfl
  ·go_enter Tryz.func276,Tryz.ntmps276
   go_wp2
   go_ret
   exact ⟨rfl,hb⟩
  ·go_enter Tryz.func276,Tryz.ntmps276
   go_wp2
   go_ret
   exact ⟨rfl,hb⟩
 rw [if_neg k34]
 have e3:(k == 3)=false:=beq_eq_false_iff_ne.2 (by omega)
 have e4:(k == 4)=false:=beq_eq_false_iff_ne.2 (by omega)
 clear k34
 by_cases k5:k=5
 ·subst k5
  rw [if_pos rfl]
  clear h1 k1 k2 e1 e2 e3 e4
  go_enter Tryz.func276,Tryz.ntmps276
  go_wp2_with (first
   | (go_at_call 294;refine (h2 _).mono ?_;rintro e w1 ⟨rfl,rfl⟩))
  go_ret
  exact ⟨rfl,hb⟩
 rw [if_neg k5]
 have e5:(k == 5)=false:=beq_eq_false_iff_ne.2 k5
 clear h1 h2
 go_enter Tryz.func276,Tryz.ntmps276
 go_wp2
 go_ret
 exact ⟨rfl,hb⟩
end Go.Proofs.YtfjdceknbdmhpaaGreatDoor
namespace Go.Proofs.YtfjdceknbdmhpaaGreatDoor
open Go.RowKit Go.Lib
set_option linter.unusedSimpArgs false
set_option linter.unusedVariables false
attribute [local go_sem ↓] Go.wp_at_zero Go.wp_at_succ
attribute [local go_sem] fld_i
theorem stk_len:∀ (st:List Sg),st.length<=(st.map cntS).sum
 | []=>by simp
 | x :: r=>by
  have:=stk_len r
  have h1:1<=cntS x:=cnt_pos x.1 x.2
  simp only [List.map_cons,List.sum_cons,List.length_cons]
  omega
theorem pNodes_cnt (d:Nat) (t:T d) (w:World) (hc:Cl d t) (hn:cnt d t<=100000):Calls Tryz.prog 194 #[exV d t] w fun r w'=>r=.returned (.int .i64 ((min (cnt d t) 41:Nat):Int))/\Below w.heap.size w w':=by
 obtain ⟨i0,hi,hz0,hz1,hz2⟩:=info_parts Tryz.infoE
 obtain ⟨x,hx⟩:∃ x,exV d t=x:=⟨_,rfl⟩
 have hf:=exV_form d t
 obtain ⟨N,hN⟩:∃ N,cnt d t=N:=⟨_,rfl⟩
 have hst:Hid (Stk (w.alloc (.cells #[x] 130)) w.heap.size (.slice (some ⟨w.heap.size,0,none⟩) 1 1) [(⟨d,t⟩:Sg)]):=by
  have:=World.ownsRow_lit (e:=130) (base:=w.heap.size) (size:=1) w #[x] 1 Nat.le.refl (by simp [maxLen]) (by simp)
  show Stk _ _ _ _
  unfold Stk
  simpa [exS,hx] using this
 have hcl:Hid (∀ y∈[(⟨d,t⟩:Sg)],ClS y):=fun y hy=>by simp at hy;subst hy;exact hc
 have hsum:Hid (0+(([(⟨d,t⟩:Sg)]).map cntS).sum=N):=by show 0+(cnt d t+0)=N;omega
 obtain ⟨V,hV⟩:∃ V,min (cnt d t) 41=V:=⟨_,rfl⟩
 rw [hV]
 have HV:Hid (min N 41=V):=by rw [<- hN];exact hV
 rw [hN] at hn
 rw [hx] at hf ⊢
 clear hx hN hc hV
 obtain ⟨S,hS⟩:∃ S,[(⟨d,t⟩:Sg)]=S:=⟨_,rfl⟩
 rw [hS] at hst hcl hsum
 clear hS t d
 rcases hf with rfl|⟨u,y,rfl⟩
 ·go_enter Tryz.func194,Tryz.ntmps194
  go_wp2
  go_loopw [3,4] (fun a v wr=>∃ (c:Nat) (st:List Sg),a=.int .i64 (c:Int)/\c<=41/\Stk wr w.heap.size v st/\Hid (∀ y∈st,ClS y)/\Hid (c+(st.map cntS).sum=N)/\Below w.heap.size w wr) (fun a _ _=>41 - (RowKit.intOf a).toNat)
  case atStart=>exact ⟨0,S,rfl,by omega,hst.out,hcl,hsum,(Below.refl _ _).alloc Nat.le.refl _⟩
  case round=>
   obtain ⟨c,st,rfl,hc41,hS,hC,hM,hb⟩:=hrel
   by_cases he:st=[]
   ·subst he
    obtain ⟨a,cap,rfl⟩:=hS.nil
    have hm:=hM.out
    simp only [List.map_nil,List.sum_nil,Nat.add_zero] at hm
    subst hm
    have hmin:V=c:=by rw [<- HV.out];omega
    subst hmin
    clear hsum
    go_wp2
    go_ret
    exact ⟨rfl,hb⟩
   obtain ⟨st',y,rfl⟩:=last_of he
   obtain ⟨g,cap,rfl,hcap,hcm,hgb,hgl,hcell,hS'⟩:=hS.pop
   have hm:=hM.out
   rw [List.map_append,List.sum_append,List.map_singleton,List.sum_singleton] at hm
   have hcl1:=hC.out y (by simp)
   obtain ⟨e,t⟩:=y
   cases e with
   | zero=>exact Empty.elim t
   | succ e=>
   obtain ⟨k,n,s,ps,rfl,htop⟩:=top_any (d:=e) (t:=t) hcl1
   have hcs:cntS ⟨e+1,mkT k n s ps⟩=(ps.map (cnt e)).sum+1:=cnt_mk k n s ps
   rw [hcs] at hm
   have i1:((st'.length:Int)+1 > 0):=by omega
   by_cases hc40:c=41
   ·have i2:¬ (c:Int)<=40:=by omega
    have hmin:V=c:=by rw [<- HV.out];omega
    subst hmin
    clear hsum htop hcell hm hcs hC hM hS hS' hcl1 hst HV
    go_wp2
    go_ret
    exact ⟨rfl,hb⟩
   have i2:(c:Int)<=40:=by omega
   have hS2:=fun w1 (b:Below wr.heap.size wr w1)=>hS'.on b Nat.le.refl
   have hq:=hb.size
   have i3:(0:Int)<=(st'.length:Int):=by omega
   have i4:(st'.length:Int)<=(cap:Int):=by omega
   have i5:(st'.length:Int) < (st'.length:Int)+1:=by omega
   have hpl:ps.length<=2:=(Cl.parts hcl1).1
   have hsl:st'.length<=100000:=by
    have:st'.length<=(st'.map cntS).sum:=stk_len st'
    omega
   have hNM:Hid (c+1+((st'++kidS ps).map cntS).sum=N):=by
    show _=_
    rw [List.map_append,List.sum_append,kidS_cnt];omega
   have hNC:Hid (∀ y∈st'++kidS ps,ClS y):=fun y hy=>by
    rcases List.mem_append.1 hy with h|h
    ·exact hC.out y (by simp [h])
    ·obtain ⟨p,hp,rfl⟩:=List.mem_map.1 h
     exact (Cl.parts hcl1).2 p hp
   obtain ⟨L,hL⟩:∃ L,ps.map (exV e)=L:=⟨_,rfl⟩
   obtain ⟨z,hz⟩:∃ z,exS ⟨e+1,mkT k n s ps⟩=z:=⟨_,rfl⟩
   have hzf:=exS_form ⟨e+1,mkT k n s ps⟩
   have hti:Hid (∀ v∈L,Ifc v):=by rw [<- hL];exact ifc_map ps
   have hLl:Hid (L.length=ps.length):=by rw [<- hL];show _=_;simp
   have hL2:L.length<=2:=by rw [hLl.out];exact hpl
   have htop':∀ w1,Calls Tryz.prog 192 #[z] w1 fun e w'=>∃ sl,e=.returned (.agg #[.int .i64 k,.int .i64 n,.string s,sl])/\Kids w' sl L/\Below w1.heap.size w1 w':=by rw [<- hz,<- hL];exact htop
   rw [hz] at hcell hzf
   have hLH:Hid (ps.map (exV e)=L):=hL
   clear hL hz htop hm hcs hC hM hS hcl1 hst hsum hS'
   go_wp2
   go_region_law (first
     | (refine step_append_both _ (by rfl) (.tmp 20) (.tmp 26) 242 242 (by rfl) w.heap.size 130 i0 .nilIface 1 16 Tryz.underlying242 hi hz0 hz1 hz2 rfl _ st'.length _ (by rfl) ho1 _ L.length L (by rfl) (hk1.src hti.out) L.length (.inr (by omega)) Nat.le.refl (by unfold maxLen;omega) (Nat.le_trans hq b1'.size) ?_;intro v4 w4 ho4 hg4 _)
     | (go_simp;refine (htop' _).mono ?_;rintro e w1 ⟨sl,rfl,hk1,b1⟩;obtain ⟨a1,rfl⟩:=hk1.form;have b1':Below wr.heap.size wr w1:=((Below.refl _ wr).drew).trans b1;have ho1:=hS2 w1 b1'))
   have bel4:Below w.heap.size w w4:=(hb.trans (b1'.mono hq)).grown hg4 (Nat.le_trans hq b1'.size) (fun k hk=>(World.ownsRow.lt ho1 k hk).1)
   have hS4:Stk w4 w.heap.size v4 (st'++kidS ps):=Stk.push (n:=st'.length+L.length) (by rw [hLl.out]) (by rw [hLH.out];exact ho4)
   clear ho4 hg4 ho1 hk1 b1 b1' hS2 hcell htop' hb
   go_wp2
   go_roundw
   case rel=>exact ⟨c+1,st'++kidS ps,by go_num,by omega,hS4,hNC,hNM,bel4⟩
   case measure=>simp [RowKit.intOf];omega
 ·go_enter Tryz.func194,Tryz.ntmps194
  go_wp2
  go_loopw [3,4] (fun a v wr=>∃ (c:Nat) (st:List Sg),a=.int .i64 (c:Int)/\c<=41/\Stk wr w.heap.size v st/\Hid (∀ y∈st,ClS y)/\Hid (c+(st.map cntS).sum=N)/\Below w.heap.size w wr) (fun a _ _=>41 - (RowKit.intOf a).toNat)
  case atStart=>exact ⟨0,S,rfl,by omega,hst.out,hcl,hsum,(Below.refl _ _).alloc Nat.le.refl _⟩
  case round=>
   obtain ⟨c,st,rfl,hc41,hS,hC,hM,hb⟩:=hrel
   by_cases he:st=[]
   ·subst he
    obtain ⟨a,cap,rfl⟩:=hS.nil
    have hm:=hM.out
    simp only [List.map_nil,List.sum_nil,Nat.add_zero] at hm
    subst hm
    have hmin:V=c:=by rw [<- HV.out];omega
    subst hmin
    clear hsum
    go_wp2
    go_ret
    exact ⟨rfl,hb⟩
   obtain ⟨st',y,rfl⟩:=last_of he
   obtain ⟨g,cap,rfl,hcap,hcm,hgb,hgl,hcell,hS'⟩:=hS.pop
   have hm:=hM.out
   rw [List.map_append,List.sum_append,List.map_singleton,List.sum_singleton] at hm
   have hcl1:=hC.out y (by simp)
   obtain ⟨e,t⟩:=y
   cases e with
   | zero=>exact Empty.elim t
   | succ e=>
   obtain ⟨k,n,s,ps,rfl,htop⟩:=top_any (d:=e) (t:=t) hcl1
   have hcs:cntS ⟨e+1,mkT k n s ps⟩=(ps.map (cnt e)).sum+1:=cnt_mk k n s ps
   rw [hcs] at hm
   have i1:((st'.length:Int)+1 > 0):=by omega
   by_cases hc40:c=41
   ·have i2:¬ (c:Int)<=40:=by omega
    have hmin:V=c:=by rw [<- HV.out];omega
    subst hmin
    clear hsum htop hcell hm hcs hC hM hS hS' hcl1 hst HV
    go_wp2
    go_ret
    exact ⟨rfl,hb⟩
   have i2:(c:Int)<=40:=by omega
   have hS2:=fun w1 (b:Below wr.heap.size wr w1)=>hS'.on b Nat.le.refl
   have hq:=hb.size
   have i3:(0:Int)<=(st'.length:Int):=by omega
   have i4:(st'.length:Int)<=(cap:Int):=by omega
   have i5:(st'.length:Int) < (st'.length:Int)+1:=by omega
   have hpl:ps.length<=2:=(Cl.parts hcl1).1
   have hsl:st'.length<=100000:=by
    have:st'.length<=(st'.map cntS).sum:=stk_len st'
    omega
   have hNM:Hid (c+1+((st'++kidS ps).map cntS).sum=N):=by
    show _=_
    rw [List.map_append,List.sum_append,kidS_cnt];omega
   have hNC:Hid (∀ y∈st'++kidS ps,ClS y):=fun y hy=>by
    rcases List.mem_append.1 hy with h|h
    ·exact hC.out y (by simp [h])
    ·obtain ⟨p,hp,rfl⟩:=List.mem_map.1 h
     exact (Cl.parts hcl1).2 p hp
   obtain ⟨L,hL⟩:∃ L,ps.map (exV e)=L:=⟨_,rfl⟩
   obtain ⟨z,hz⟩:∃ z,exS ⟨e+1,mkT k n s ps⟩=z:=⟨_,rfl⟩
   have hzf:=exS_form ⟨e+1,mkT k n s ps⟩
   have hti:Hid (∀ v∈L,Ifc v):=by rw [<- hL];exact ifc_map ps
   have hLl:Hid (L.length=ps.length):=by rw [<- hL];show _=_;simp
   have hL2:L.length<=2:=by rw [hLl.out];exact hpl
   have htop':∀ w1,Calls Tryz.prog 192 #[z] w1 fun e w'=>∃ sl,e=.returned (.agg #[.int .i64 k,.int .i64 n,.string s,sl])/\Kids w' sl L/\Below w1.heap.size w1 w':=by rw [<- hz,<- hL];exact htop
   rw [hz] at hcell hzf
   have hLH:Hid (ps.map (exV e)=L):=hL
   clear hL hz htop hm hcs hC hM hS hcl1 hst hsum hS'
   go_wp2
   go_region_law (first
     | (refine step_append_both _ (by rfl) (.tmp 20) (.tmp 26) 242 242 (by rfl) w.heap.size 130 i0 .nilIface 1 16 Tryz.underlying242 hi hz0 hz1 hz2 rfl _ st'.length _ (by rfl) ho1 _ L.length L (by rfl) (hk1.src hti.out) L.length (.inr (by omega)) Nat.le.refl (by unfold maxLen;omega) (Nat.le_trans hq b1'.size) ?_;intro v4 w4 ho4 hg4 _)
     | (go_simp;refine (htop' _).mono ?_;rintro e w1 ⟨sl,rfl,hk1,b1⟩;obtain ⟨a1,rfl⟩:=hk1.form;have b1':Below wr.heap.size wr w1:=((Below.refl _ wr).drew).trans b1;have ho1:=hS2 w1 b1'))
   have bel4:Below w.heap.size w w4:=(hb.trans (b1'.mono hq)).grown hg4 (Nat.le_trans hq b1'.size) (fun k hk=>(World.ownsRow.lt ho1 k hk).1)
   have hS4:Stk w4 w.heap.size v4 (st'++kidS ps):=Stk.push (n:=st'.length+L.length) (by rw [hLl.out]) (by rw [hLH.out];exact ho4)
   clear ho4 hg4 ho1 hk1 b1 b1' hS2 hcell htop' hb
   go_wp2
   go_roundw
   case rel=>exact ⟨c+1,st'++kidS ps,by go_num,by omega,hS4,hNC,hNM,bel4⟩
   case measure=>simp [RowKit.intOf];omega
end Go.Proofs.YtfjdceknbdmhpaaGreatDoor
namespace Go.Proofs.YtfjdceknbdmhpaaGreatDoor
open Go.RowKit Go.Lib
set_option linter.unusedSimpArgs false
set_option linter.unusedVariables false
attribute [local go_sem ↓] Go.wp_at_zero Go.wp_at_succ
theorem ndC_cnt:∀ (d:Nat) (t:T d),ndC d t=min (cnt d t) 41
 | 0,t=>Empty.elim t
 | d+1,t=>by
  obtain ⟨k,n,s,ps,rfl⟩:=T.open t
  rw [ndC_mk,cnt_mk]
  have:∀ l:List (T d),min ((l.map (ndC d)).sum+1) 41=min ((l.map (cnt d)).sum+1) 41:=fun l=>by
   induction l with
   | nil=>rfl
   | cons p r ih=>
    have:=ndC_cnt d p
    simp only [List.map_cons,List.sum_cons]
    omega
  exact this ps
theorem foldl_max_iff {m:Nat}:∀ (l:List Nat) (a:Nat),l.foldl max a<=m↔a<=m/\∀ x∈l,x<=m
 | [],a=>by simp
 | x :: r,a=>by
  rw [List.foldl_cons,foldl_max_iff r,Nat.max_le]
  simp only [List.mem_cons,forall_eq_or_imp,and_assoc]
theorem sd_rt {d:Nat}{k n:Int}{s:ByteArray}{ps:List (T d)}(h:Cl (d+1) (mkT k n s ps)):sdC (d+1) (mkT k n s ps)=(rtC k n s && ps.all (sdC d)):=by
 rw [sdC_mk]
 unfold rtC
 rcases h with ⟨h1,h2,h3⟩|⟨h1,h2,h3⟩|⟨h1,h2,h3,p,h4,h5⟩|⟨h1,h2,p,q,h3,h4,h5⟩|⟨h1,h2,h3,h4⟩
 ·simp only at h1 h3;subst h1 h3;simp
 ·simp only at h1 h3;subst h1 h3;simp
 ·simp only at h1 h4;rcases h1 with rfl|rfl<;>simp
 ·simp only at h1 h3;subst h1 h3;simp
 ·simp only at h1 h4;subst h1 h4;simp
theorem within_all {d:Nat}{k n:Int}{s:ByteArray}{ps:List (T d)}(h:Cl (d+1) (mkT k n s ps)) (r:Nat) :
  (decide (dpC (d+1) (mkT k n s ps)<=r+1) && sdC (d+1) (mkT k n s ps))=(rtC k n s && ps.all (fun p=>decide (dpC d p<=r) && sdC d p)):=by
 rw [sd_rt h,dpC_mk]
 have e1:decide ((ps.map (dpC d)).foldl max 0+1<=r+1)=ps.all (fun p=>decide (dpC d p<=r)):=by
  rw [Bool.eq_iff_iff]
  simp only [decide_eq_true_eq,List.all_eq_true]
  rw [Nat.add_le_add_iff_right,foldl_max_iff]
  simp
 have e2:ps.all (fun p=>decide (dpC d p<=r) && sdC d p)=(ps.all (fun p=>decide (dpC d p<=r)) && ps.all (sdC d)):=by
  induction ps with
  | nil=>rfl
  | cons p q ih=>
   simp only [List.all_cons]
   have:q.all (fun p=>decide (dpC d p<=r) && sdC d p)=(q.all (fun p=>decide (dpC d p<=r)) && q.all (sdC d)):=by
    clear ih e1 h
    induction q with
    | nil=>rfl
    | cons a b ih=>simp only [List.all_cons];rw [ih];cases decide (dpC d a<=r)<;>cases sdC d a<;>simp
   rw [this]
   cases decide (dpC d p<=r)<;>cases sdC d p<;>simp
 rw [e1,e2]
 cases rtC k n s<;>simp
theorem dpC_pos (d:Nat) (t:T d):1<=dpC d t:=by
 match d,t with
 | 0,t=>exact Empty.elim t
 | d+1,t=>
  obtain ⟨k,n,s,ps,rfl⟩:=T.open t
  rw [dpC_mk];omega
def RightC (d:Nat):Prop:=∀ (t:T d) (r:Nat) (w:World),Cl d t->shrt 1000 d t=true->r<=12->
 Calls Tryz.prog 263 #[exV d t,.int .i64 (r:Int)] w fun e w'=>e=.returned (.bool (decide (dpC d t<=r) && sdC d t))/\Below w.heap.size w w'
theorem right_step (d:Nat) (IH:RightC d):RightC (d+1):=by
 intro t r w hc hs hr
 obtain ⟨k,n,s,ps,rfl,htop⟩:=top_any hc
 rw [shrt_mk] at hs
 simp only [Bool.and_eq_true,decide_eq_true_eq,List.all_eq_true] at hs
 obtain ⟨hs1,hs2⟩:=hs
 obtain ⟨x,hx⟩:∃ x,exV (d+1) (mkT k n s ps)=x:=⟨_,rfl⟩
 rw [hx] at htop ⊢
 have htop':∀ w1,Calls Tryz.prog 192 #[x] w1 fun e w'=>∃ sl,e=.returned (.agg #[.int .i64 k,.int .i64 n,.string s,sl])/\Kids w' sl (ps.map (exV d))/\Below w1.heap.size w1 w':=htop
 cases r with
 | zero=>
  have e1:(((0:Nat):Int) < 1):=by omega
  have hd:=dpC_pos (d+1) (mkT k n s ps)
  rw [decide_eq_false (by omega),Bool.false_and]
  go_enter Tryz.func263,Tryz.ntmps263
  go_wp2_with (first
   | (go_at_call 192;refine (htop' _).mono ?_;rintro e w1 ⟨sl,rfl,hk1,b1⟩;obtain ⟨a1,rfl⟩:=hk1.form))
  go_ret
  exact ⟨rfl,b1.alloc b1.size _⟩
 | succ r=>
 rw [within_all hc]
 obtain ⟨L,hL⟩:∃ L,ps.map (exV d)=L:=⟨_,rfl⟩
 have hkid:Hid (∀ (j:Nat) (h:j < L.length) (h':j < ps.length) (w1:World),Calls Tryz.prog 263 #[L[j],.int .i64 (r:Int)] w1 fun e w'=>e=.returned (.bool (decide (dpC d ps[j]<=r) && sdC d ps[j]))/\Below w1.heap.size w1 w'):=
  fun j h h' w1=>by
   have:=IH ps[j] r w1 ((Cl.parts hc).2 _ (List.getElem_mem h')) (hs2 _ (List.getElem_mem h')) (by omega)
   subst hL
   simpa using this
 have hrt:=fun a m w1=>rightTop_any k n s a m hs1 w1
 have hpl:L.length<=2:=by rw [<- hL];simpa using (Cl.parts hc).1
 have hLl:Hid (L.length=ps.length):=by rw [<- hL];show _=_;simp
 have i0:¬ ((r:Int)+1 < 1):=by omega
 have i1:(((r+1:Nat):Int))=(r:Int)+1:=by omega
 rw [i1]
 obtain ⟨g,hg⟩:∃ g,rtC k n s=g:=⟨_,rfl⟩
 simp only [hg] at hrt
 simp only [hL] at htop'
 rw [hg]
 clear hg i1 htop hs1 hs2 hc hx hL
 cases g with
 | false=>
  rw [Bool.false_and]
  go_enter Tryz.func263,Tryz.ntmps263
  go_wp2_with (first
   | (go_at_call 192;refine (htop' _).mono ?_;rintro e w1 ⟨sl,rfl,hk1,b1⟩;obtain ⟨a1,rfl⟩:=hk1.form;have b2:=b1.alloc b1.size (.cells #[.int .i64 k,.int .i64 n,.string s,.slice a1 L.length L.length] 244))
   | (go_at_call 276;refine (hrt _ _ _).mono ?_;rintro e w2 ⟨rfl,b3⟩))
  go_ret
  exact ⟨rfl,b2.trans (b3.mono b2.size)⟩
 | true=>
  rw [Bool.true_and]
  obtain ⟨V,hV⟩:∃ V,ps.all (fun p=>decide (dpC d p<=r) && sdC d p)=V:=⟨_,rfl⟩
  rw [hV]
  have HV:Hid (ps.all (fun p=>decide (dpC d p<=r) && sdC d p)=V):=hV
  clear hV
  go_enter Tryz.func263,Tryz.ntmps263
  go_wp2_with (first
   | (go_at_call 192;refine (htop' _).mono ?_;rintro e w1 ⟨sl,rfl,hk1,b1⟩;obtain ⟨a1,rfl⟩:=hk1.form;have b2:=b1.alloc b1.size (.cells #[.int .i64 k,.int .i64 n,.string s,.slice a1 L.length L.length] 244))
   | (go_at_call 276;refine (hrt _ _ _).mono ?_;rintro e w2 ⟨rfl,b3⟩;obtain ⟨y0,y1,y2,y3⟩:=(At4.new w1 (.int .i64 k) (.int .i64 n) (.string s) (.slice a1 L.length L.length) 244).keepB b3 (by simp)))
  have b4:=b2.trans (b3.mono b2.size)
  have hk2:=(hk1.below ((Below.refl _ _).alloc Nat.le.refl _) Nat.le.refl).below b3 Nat.le.refl
  clear hrt htop' hk1 b1 b2 b3
  go_loopw [20] (fun i wr=>∃ j:Nat,j<=L.length/\i=.int .i64 (j:Int)/\Hid ((ps.take j).all (fun p=>decide (dpC d p<=r) && sdC d p)=true)/\Hid (Kids wr (.slice a1 L.length L.length) L)/\Below w.heap.size w wr) (fun i _=>L.length - (RowKit.intOf i).toNat)
  case atStart=>exact ⟨0,Nat.zero_le _,rfl,rfl,hk2,b4⟩
  case round=>
   obtain ⟨j,hj,rfl,hA,hK,hb⟩:=hrel
   have i2:(0:Int)<=(j:Int):=by omega
   have hll:=hLl.out
   by_cases hlt:j < L.length
   ·have i3:(j:Int) < (L.length:Int):=by omega
    obtain ⟨gg,hgg,hcell⟩:=hK.out.at hlt
    have hc2:=hkid.out j hlt (by omega)
    have h1:=all_take_succ (fun p=>decide (dpC d p<=r) && sdC d p) ps j (by omega) hA.out
    have h2:=all_not (fun p=>decide (dpC d p<=r) && sdC d p) ps j (by omega)
    obtain ⟨z,hz⟩:∃ z,L[j]=z:=⟨_,rfl⟩
    obtain ⟨q,hq⟩:∃ q,(decide (dpC d (ps[j]'(by omega))<=r) && sdC d (ps[j]'(by omega)))=q:=⟨_,rfl⟩
    rw [hz] at hcell
    simp only [hz,hq] at hc2
    simp only [hq] at h1 h2
    subst hgg
    have hK2:=fun w3 (b:Below wr.heap.size wr w3)=>hK.out.below b Nat.le.refl
    have hS:Hid (_->_):=h1
    have hN:Hid (_->_):=h2
    clear hz hq h1 h2 hll hK hA
    cases q with
    | false=>
     have hF:V=false:=by rw [<- HV.out];exact hN.out rfl
     subst hF
     go_wp2_with (first
      | (go_at_call 263;refine (hc2 _).mono ?_;rintro e w3 ⟨rfl,b5⟩))
     go_ret
     exact ⟨rfl,hb.trans (b5.mono hb.size)⟩
    | true=>
     have hT:=hS.out rfl
     have HT:Hid ((ps.take (j+1)).all (fun p=>decide (dpC d p<=r) && sdC d p)=true):=hT
     clear hT hS hN
     go_wp2_with (first
      | (go_at_call 263;refine (hc2 _).mono ?_;rintro e w3 ⟨rfl,b5⟩))
     have hK3:Hid _:=hK2 _ b5
     have b6:=hb.trans (b5.mono hb.size)
     go_roundw
     case rel=>exact ⟨j+1,hlt,by go_num,HT,hK3,b6⟩
     case measure=>simp [RowKit.intOf];omega
   ·have i3:¬ (j:Int) < (L.length:Int):=by omega
    have hF:V=true:=by
     rw [<- HV.out,<- hA.out,List.take_of_length_le (by omega)]
    subst hF
    clear hll
    go_wp2
    go_ret
    exact ⟨rfl,hb⟩
theorem right_any:∀ (d:Nat),RightC d
 | 0=>fun t=>Empty.elim t
 | d+1=>right_step d (right_any d)
theorem pNodes_any (d:Nat) (t:T d) (w:World) (hc:Cl d t) (hn:cnt d t<=100000):Calls Tryz.prog 194 #[exV d t] w fun r w'=>r=.returned (.int .i64 (ndC d t:Int))/\Below w.heap.size w w':=by
 rw [ndC_cnt]
 exact pNodes_cnt d t w hc hn
theorem formedP:FormedP:=by
 intro d t w hc hn hs
 have h1:=pNodes_any d t w hc hn
 have h2:=fun w1=>right_any d t 12 w1 hc hs Nat.le.refl
 unfold fmC
 obtain ⟨N,hN⟩:∃ N,ndC d t=N:=⟨_,rfl⟩
 obtain ⟨q,hq⟩:∃ q,(decide (dpC d t<=12) && sdC d t)=q:=⟨_,rfl⟩
 obtain ⟨x,hx⟩:∃ x,exV d t=x:=⟨_,rfl⟩
 rw [Bool.and_assoc,hN,hq]
 rw [hN] at h1
 simp only [hq] at h2
 rw [hx] at h1 ⊢
 simp only [hx] at h2
 clear hN hq hx hc hn hs
 by_cases h40:N<=40
 ·have e1:(N:Int)<=40:=by omega
  rw [decide_eq_true h40,Bool.true_and]
  go_enter Tryz.func240,Tryz.ntmps240
  go_wp2_with (first
   | (go_at_call 194;refine h1.mono ?_;rintro e w1 ⟨rfl,b1⟩)
   | (go_at_call 263;refine (h2 _).mono ?_;rintro e w2 ⟨rfl,b2⟩))
  go_ret
  exact ⟨rfl,bthen b1 b2⟩
 ·have e1:¬ (N:Int)<=40:=by omega
  rw [decide_eq_false h40,Bool.false_and]
  go_enter Tryz.func240,Tryz.ntmps240
  go_wp2_with (first
   | (go_at_call 194;refine h1.mono ?_;rintro e w1 ⟨rfl,b1⟩))
  go_ret
  exact ⟨rfl,b1⟩
def rfC:(d:Nat)->T d->List ByteArray->List ByteArray:=fold (fun k _ s fs l=>fs.foldl (fun a f=>f a) (if k=2 then adS l s else l))
theorem rfC_mk {d:Nat}(k n:Int) (s:ByteArray) (ps:List (T d)) (l:List ByteArray):rfC (d+1) (mkT k n s ps) l=ps.foldl (fun a p=>rfC d p a) (if k=2 then adS l s else l):=by
 show (ps.map (rfC d)).foldl (fun a f=>f a) (if k=2 then adS l s else l)=_
 rw [List.foldl_map]
def rfT (d:Nat) (t:T d):List ByteArray:=if fmC d t=true then rfC d t [] else []
def nmC:(d:Nat)->T d->List ByteArray:=fold (fun k _ s l=>(if k=2 then [s] else [])++l.flatten)
theorem nmC_mk {d:Nat}(k n:Int) (s:ByteArray) (ps:List (T d)):nmC (d+1) (mkT k n s ps)=(if k=2 then [s] else [])++(ps.map (nmC d)).flatten:=rfl
theorem rf_nm:∀ (d:Nat) (t:T d) (l:List ByteArray),rfC d t l=(nmC d t).foldl adS l
 | 0,t,_=>Empty.elim t
 | d+1,t,l=>by
  obtain ⟨k,n,s,ps,rfl⟩:=T.open t
  rw [rfC_mk,nmC_mk,List.foldl_append]
  have e1:(if k=2 then [s] else []).foldl adS l=if k=2 then adS l s else l:=by split<;>rfl
  rw [e1]
  generalize (if k=2 then adS l s else l)=a
  induction ps generalizing a with
  | nil=>rfl
  | cons p r ih=>
   simp only [List.foldl_cons,List.map_cons,List.flatten_cons,List.foldl_append]
   rw [rf_nm d p a]
   exact ih _
theorem nm_len:∀ (d:Nat) (t:T d),(nmC d t).length<=cnt d t
 | 0,t=>Empty.elim t
 | d+1,t=>by
  obtain ⟨k,n,s,ps,rfl⟩:=T.open t
  rw [nmC_mk,cnt_mk,List.length_append]
  have h1:(if k=2 then [s] else []).length<=1:=by split<;>simp
  have h2:((ps.map (nmC d)).flatten).length<=(ps.map (cnt d)).sum:=by
   induction ps with
   | nil=>simp
   | cons p r ih=>
    have:=nm_len d p
    simp only [List.map_cons,List.flatten_cons,List.length_append,List.sum_cons]
    omega
  omega
abbrev Bs:=List UInt8
def Up (l:List Bs):Prop:=l.Pairwise (· < ·)
theorem up_eq:∀ {a b:List Bs},Up a->Up b->(∀ x,x∈a↔x∈b)->a=b
 | [],[],_,_,_=>rfl
 | [],y :: b,_,_,h=>by have:=(h y).2 (by simp);simp at this
 | x :: a,[],_,_,h=>by have:=(h x).1 (by simp);simp at this
 | x :: a,y :: b,ha,hb,h=>by
  obtain ⟨ha1,ha2⟩:=List.pairwise_cons.1 ha
  obtain ⟨hb1,hb2⟩:=List.pairwise_cons.1 hb
  have hxy:x=y:=by
   rcases List.mem_cons.1 ((h x).1 (by simp)) with e|e
   ·exact e
   ·rcases List.mem_cons.1 ((h y).2 (by simp)) with e' | e'
    ·exact e'.symm
    ·exact absurd (List.lt_trans (hb1 _ e) (ha1 _ e')) (List.lt_irrefl _)
  subst hxy
  have:a=b:=up_eq ha2 hb2 (fun z=>by
   constructor
   ·intro hz
    rcases List.mem_cons.1 ((h z).1 (by simp [hz])) with e|e
    ·subst e;exact absurd (ha1 _ hz) (List.lt_irrefl _)
    ·exact e
   ·intro hz
    rcases List.mem_cons.1 ((h z).2 (by simp [hz])) with e|e
    ·subst e;exact absurd (hb1 _ hz) (List.lt_irrefl _)
    ·exact e)
  rw [this]
theorem lss_lt (a b:ByteArray):lss a b=decide (bl a < bl b):=by
 unfold lss
 rw [bytesLess_eq,ByteArray.toList_eq,ByteArray.toList_eq]
theorem bl_inj {a b:ByteArray}(h:bl a=bl b):a=b:=ByteArray.ext (Array.toList_inj.1 h)
theorem adS_up {ls:List ByteArray}(s:ByteArray) (h:Up (ls.map bl)):Up ((adS ls s).map bl)/\∀ x,x∈(adS ls s).map bl↔x∈ls.map bl∨x=bl s:=by
 induction ls with
 | nil=>
  have e:adS [] s=[s]:=rfl
  rw [e]
  exact ⟨by simp [Up],fun x=>by simp⟩
 | cons y r ih=>
  obtain ⟨h1,h2⟩:=List.pairwise_cons.1 h
  obtain ⟨i1,i2⟩:=ih h2
  by_cases hl:bl y < bl s
  ·have e1:lss y s=true:=by rw [lss_lt];exact decide_eq_true hl
   have e2:lead (y :: r) s=lead r s+1:=by unfold lead;rw [List.takeWhile_cons,if_pos e1];rfl
   have e3:adS (y :: r) s=y :: adS r s:=by
    unfold adS
    rw [e2,List.getElem?_cons_succ]
    split
    ·rfl
    ·simp
   rw [e3]
   refine ⟨List.pairwise_cons.2 ⟨fun x hx=>?_,i1⟩,fun x=>?_⟩
   ·rcases (i2 x).1 hx with e|e
    ·exact h1 x e
    ·rw [e];exact hl
   ·simp only [List.map_cons,List.mem_cons]
    rw [i2 x]
    constructor
    ·rintro (e|e|e)
     ·exact .inl (.inl e)
     ·exact .inl (.inr e)
     ·exact .inr e
    ·rintro ((e|e)|e)
     ·exact .inl e
     ·exact .inr (.inl e)
     ·exact .inr (.inr e)
  ·have e1:lss y s=false:=by rw [lss_lt];exact decide_eq_false hl
   have e2:lead (y :: r) s=0:=by unfold lead;rw [List.takeWhile_cons,if_neg (by rw [e1];decide)];rfl
   by_cases he:y=s
   ·subst he
    have e3:adS (y :: r) y=y :: r:=by unfold adS;rw [e2];simp
    rw [e3]
    exact ⟨h,fun x=>⟨.inl,fun e=>e.elim id (fun e=>by rw [e];simp)⟩⟩
   ·have e3:adS (y :: r) s=s :: y :: r:=by
     unfold adS
     rw [e2,if_neg (by simpa using he)]
     rfl
    rw [e3]
    have hlt:bl s < bl y:=by
     rcases List.le_total (bl s) (bl y) with q|q
     ·by_cases hq:bl s < bl y
      ·exact hq
      ·exact absurd (bl_inj (List.le_antisymm (List.not_lt.1 hq) q)) he
     ·exact absurd (bl_inj (List.le_antisymm q (List.not_lt.1 hl))) he
    refine ⟨List.pairwise_cons.2 ⟨fun x hx=>?_,h⟩,fun x=>?_⟩
    ·rcases List.mem_cons.1 hx with e|e
     ·rw [e];exact hlt
     ·exact List.lt_trans hlt (h1 x e)
    ·simp only [List.map_cons,List.mem_cons]
     constructor
     ·rintro (e|e)
      ·exact .inr e
      ·exact .inl e
     ·rintro (e|e)
      ·exact .inr e
      ·exact .inl e
theorem fold_up:∀ (ns ls:List ByteArray),Up (ls.map bl)->Up ((ns.foldl adS ls).map bl)/\∀ x,x∈(ns.foldl adS ls).map bl↔x∈ls.map bl∨x∈ns.map bl
 | [],ls,h=>⟨h,fun x=>by simp⟩
 | s :: r,ls,h=>by
  obtain ⟨a1,a2⟩:=adS_up s h
  obtain ⟨b1,b2⟩:=fold_up r (adS ls s) a1
  refine ⟨b1,fun x=>?_⟩
  rw [List.foldl_cons,b2 x,a2 x]
  simp only [List.map_cons,List.mem_cons]
  constructor
  ·rintro ((e|e)|e)
   ·exact .inl e
   ·exact .inr (.inl e)
   ·exact .inr (.inr e)
  ·rintro (e|e|e)
   ·exact .inl (.inl e)
   ·exact .inl (.inr e)
   ·exact .inr e
def lrB (x y:Bs):Bool:=decide (x<=y)
theorem comp_up (zs:List Bs) (h:zs.Pairwise (fun a b=>lrB a b=true)):∀ m,m<=zs.length->Up (compactUpTo zs.toArray m)/\∀ x,x∈compactUpTo zs.toArray m↔∃ j,j < m/\zs.toArray[j]! = x
 | 0,_=>⟨List.Pairwise.nil,fun x=>by simp [compactUpTo]⟩
 | m+1,hm=>by
  obtain ⟨a1,a2⟩:=comp_up zs h m (by omega)
  have hle:∀ i j,i < j->j < zs.length->zs.toArray[i]!<=zs.toArray[j]!:=fun i j hij hj=>by
   have:=List.pairwise_iff_getElem.1 h i j (by omega) hj hij
   unfold lrB at this
   rw [decide_eq_true_eq] at this
   simpa [getElem!_pos,show i < zs.length by omega,hj] using this
  rw [compactUpTo_succ]
  by_cases hk:keeps zs.toArray m=true
  ·rw [if_pos hk]
   refine ⟨List.pairwise_append.2 ⟨a1,by simp,fun x hx y hy=>?_⟩,fun x=>?_⟩
   ·simp at hy
    subst hy
    obtain ⟨j,hj,rfl⟩:=(a2 x).1 hx
    have hm0:m≠0:=by omega
    have hne:zs.toArray[m]!≠zs.toArray[m - 1]!:=by simpa [keeps,hm0] using hk
    have l1:=hle (m - 1) m (by omega) (by omega)
    have l2:zs.toArray[m - 1]! < zs.toArray[m]!:=by
     by_cases q:zs.toArray[m - 1]! < zs.toArray[m]!
     ·exact q
     ·exact absurd (List.le_antisymm (List.not_lt.1 q) l1) hne
    have l3:zs.toArray[j]!<=zs.toArray[m - 1]!:=by
     rcases Nat.lt_or_ge j (m - 1) with q|q
     ·exact hle j (m - 1) q (by omega)
     ·have:j=m - 1:=by omega
      subst this
      exact List.not_lt.1 (List.lt_irrefl _)
    have l4:=List.lt_of_le_of_lt l3 l2
    simpa using l4
   ·rw [List.mem_append,a2 x]
    constructor
    ·rintro (⟨j,hj,e⟩|e)
     ·exact ⟨j,by omega,e⟩
     ·exact ⟨m,by omega,(List.mem_singleton.1 e).symm⟩
    ·rintro ⟨j,hj,e⟩
     rcases Nat.lt_or_ge j m with q|q
     ·exact .inl ⟨j,q,e⟩
     ·have:j=m:=by omega
      subst this
      exact .inr (by rw [e];simp)
  ·rw [if_neg hk,List.append_nil]
   refine ⟨a1,fun x=>?_⟩
   rw [a2 x]
   have hk':m≠0/\zs.toArray[m]! = zs.toArray[m - 1]!:=by
    simp only [keeps,decide_eq_true_eq] at hk
    exact ⟨fun e=>hk (.inl e),Classical.byContradiction (fun q=>hk (.inr q))⟩
   constructor
   ·rintro ⟨j,hj,e⟩
    exact ⟨j,by omega,e⟩
   ·rintro ⟨j,hj,e⟩
    rcases Nat.lt_or_ge j m with q|q
    ·exact ⟨j,q,e⟩
    ·have:j=m:=by omega
     subst this
     exact ⟨j - 1,by omega,by rw [<- hk'.2];exact e⟩
theorem get_bang (zs:List Bs) (j:Nat) (hj:j < zs.length):zs.toArray[j]! = zs[j]:=by simp [getElem!_pos,hj]
theorem sort_names (ns:List ByteArray):compact ((ns.map bl).mergeSort lrB)=(ns.foldl adS []).map bl:=by
 have tr:∀ a b c:Bs,lrB a b=true->lrB b c=true->lrB a c=true:=fun a b c h1 h2=>by
  unfold lrB at *
  rw [decide_eq_true_eq] at *
  exact List.le_trans h1 h2
 have tot:∀ a b:Bs,(lrB a b || lrB b a)=true:=fun a b=>by
  unfold lrB
  rw [Bool.or_eq_true,decide_eq_true_eq,decide_eq_true_eq]
  exact List.le_total a b
 obtain ⟨a1,a2⟩:=comp_up ((ns.map bl).mergeSort lrB) (List.pairwise_mergeSort tr tot _) _ Nat.le.refl
 obtain ⟨b1,b2⟩:=fold_up ns [] (by simp [Up])
 refine up_eq a1 b1 (fun x=>?_)
 rw [show compact ((ns.map bl).mergeSort lrB)=compactUpTo ((ns.map bl).mergeSort lrB).toArray ((ns.map bl).mergeSort lrB).length from rfl,a2 x,b2 x]
 simp only [List.map_nil,List.not_mem_nil,false_or]
 rw [<- List.mem_mergeSort (le:=lrB) (l:=ns.map bl)]
 constructor
 ·rintro ⟨j,hj,e⟩
  rw [<- e,get_bang _ j hj]
  exact List.getElem_mem hj
 ·intro hx
  obtain ⟨j,hj,e⟩:=List.mem_iff_getElem.1 hx
  exact ⟨j,hj,by rw [get_bang _ j hj,e]⟩
end Go.Proofs.YtfjdceknbdmhpaaGreatDoor
namespace Go.Proofs.YtfjdceknbdmhpaaGreatDoor
open Go.Shelf
set_option linter.unusedVariables false
def renS:Ren:={ f:=fun x=>match x with|190=>251|125=>272|258=>271|128=>292|129=>201|302=>283|303=>284|304=>285|305=>286|306=>287|307=>288|308=>289|309=>290|310=>291|333=>300|329=>301|330=>302|334=>303|335=>304|336=>305|344=>309|n=>n,t:=fun x=>match x with|31=>265|9=>9|3=>3|46=>255|0=>0|51=>253|53=>212|4=>4|183=>336|182=>335|131=>340|5=>5|218=>348|222=>352|228=>354|229=>148|n=>n,g:=fun x=>x }
theorem laysS:Lays.n190 Tryz.prog renS:=
 {mixed:=by kernel_rfl,f125:=Tryz.func272.trans (congrArg some (by kernel_rfl)),f128:=Tryz.func292.trans (congrArg some (by kernel_rfl)),f129:=Tryz.func201.trans (congrArg some (by kernel_rfl)),f190:=Tryz.func251.trans (congrArg some (by kernel_rfl)),f258:=Tryz.func271.trans (congrArg some (by kernel_rfl)),f302:=Tryz.func283.trans (congrArg some (by kernel_rfl)),f303:=Tryz.func284.trans (congrArg some (by kernel_rfl)),f304:=Tryz.func285.trans (congrArg some (by kernel_rfl)),f305:=Tryz.func286.trans (congrArg some (by kernel_rfl)),f306:=Tryz.func287.trans (congrArg some (by kernel_rfl)),f307:=Tryz.func288.trans (congrArg some (by kernel_rfl)),f308:=Tryz.func289.trans (congrArg some (by kernel_rfl)),f309:=Tryz.func290.trans (congrArg some (by kernel_rfl)),f310:=Tryz.func291.trans (congrArg some (by kernel_rfl)),f329:=Tryz.func301.trans (congrArg some (by kernel_rfl)),f330:=Tryz.func302.trans (congrArg some (by kernel_rfl)),f333:=Tryz.func300.trans (congrArg some (by kernel_rfl)),f334:=Tryz.func303.trans (congrArg some (by kernel_rfl)),f335:=Tryz.func304.trans (congrArg some (by kernel_rfl)),f336:=Tryz.func305.trans (congrArg some (by kernel_rfl)),f344:=Tryz.func309.trans (congrArg some (by kernel_rfl)),t0:=Tryz.underlying0,a0:=Tryz.isAgg0,z0:=Tryz.sizeOf0,v0:=Tryz.zeroValue0,t3:=Tryz.underlying3,a3:=Tryz.isAgg3,z3:=Tryz.sizeOf3,v3:=Tryz.zeroValue3,t4:=Tryz.underlying4,a4:=Tryz.isAgg4,z4:=Tryz.sizeOf4,v4:=Tryz.zeroValue4,t5:=Tryz.underlying5,a5:=Tryz.isAgg5,z5:=Tryz.sizeOf5,v5:=Tryz.zeroValue5,t9:=Tryz.underlying9,a9:=Tryz.isAgg9,z9:=Tryz.sizeOf9,v9:=Tryz.zeroValue9,t31:=Tryz.underlying265,a31:=Tryz.isAgg265,z31:=Tryz.sizeOf265,v31:=Tryz.zeroValue265,t46:=Tryz.underlying255,a46:=Tryz.isAgg255,z46:=Tryz.sizeOf255,v46:=Tryz.zeroValue255,t51:=Tryz.underlying253,a51:=Tryz.isAgg253,z51:=Tryz.sizeOf253,v51:=Tryz.zeroValue253,t53:=Tryz.underlying212,a53:=Tryz.isAgg212,z53:=Tryz.sizeOf212,v53:=Tryz.zeroValue212,t131:=Tryz.underlying340,a131:=Tryz.isAgg340,z131:=Tryz.sizeOf340,v131:=Tryz.zeroValue340,t182:=Tryz.underlying335,a182:=Tryz.isAgg335,z182:=Tryz.sizeOf335,v182:=Tryz.zeroValue335,t183:=Tryz.underlying336,a183:=Tryz.isAgg336,z183:=Tryz.sizeOf336,v183:=Tryz.zeroValue336,t218:=Tryz.underlying348,a218:=Tryz.isAgg348,z218:=Tryz.sizeOf348,v218:=Tryz.zeroValue348,t222:=Tryz.underlying352,a222:=Tryz.isAgg352,z222:=Tryz.sizeOf352,v222:=Tryz.zeroValue352,t228:=Tryz.underlying354,a228:=Tryz.isAgg354,z228:=Tryz.sizeOf354,v228:=Tryz.zeroValue354,t229:=Tryz.underlying148,a229:=Tryz.isAgg148,z229:=Tryz.sizeOf148,v229:=Tryz.zeroValue148 }
def renK:Ren:={ f:=fun x=>match x with|194=>252|n=>n,t:=fun x=>match x with|31=>265|9=>9|3=>3|4=>4|0=>0|n=>n,g:=fun x=>x }
theorem laysK:Lays.n194 Tryz.prog renK:=
 {mixed:=by kernel_rfl,f194:=Tryz.func252.trans (congrArg some (by kernel_rfl)),t0:=Tryz.underlying0,a0:=Tryz.isAgg0,z0:=Tryz.sizeOf0,v0:=Tryz.zeroValue0,t3:=Tryz.underlying3,a3:=Tryz.isAgg3,z3:=Tryz.sizeOf3,v3:=Tryz.zeroValue3,t4:=Tryz.underlying4,a4:=Tryz.isAgg4,z4:=Tryz.sizeOf4,v4:=Tryz.zeroValue4,t9:=Tryz.underlying9,a9:=Tryz.isAgg9,z9:=Tryz.sizeOf9,v9:=Tryz.zeroValue9,t31:=Tryz.underlying265,a31:=Tryz.isAgg265,z31:=Tryz.sizeOf265,v31:=Tryz.zeroValue265 }
