import Derived.Test.YtlgnahpfggagoaaGreatDoorWzc03
import Derived.Test.YtlgnahpfggagoaaGreatDoorWzc04
import Derived.Test.YtlgnahpfggagoaaGreatDoorWzc08
import Derived.Test.YtlgnahpfggagoaaGreatDoorWzc05
import Derived.Test.YtlgnahpfggagoaaGreatDoorWzc06
import Derived.Deep.RegionHeldLaw
import Derived.Lib.AppendIntMem
import Derived.Test.YtlgnahpfggagoaaGreatDoorWzc07
/- binText, operandText, textOf: the text of an expression. -/
namespace Go.Proofs.YtlgnahpfggagoaaGreatDoor
open Go.RowKit Go.Lib
set_option linter.unusedSimpArgs false
set_option linter.unusedVariables false
attribute [local go_sem ↓] Go.wp_at_zero Go.wp_at_succ
attribute [local go_sem] as_lit_lit as_ref_lit as_ref_ref as_not_lit as_not_ref as_not_not as_neg_lit as_neg_ref as_neg_not as_neg_neg as_bin_lit as_bin_ref as_bin_not as_bin_neg as_bin_bin
/-- The table of powers of ten. -/
def Pow (w:World):Prop:=Lib.TabIs Tryz.prog w "internal/strconv.uint64pow10" .u64 Lib.pow10Tab
theorem Pow.below {w w':World}(h:Pow w) (hb:Below w.heap.size w w'):Pow w':=tabBelow_of_tabIs h w' hb
theorem fmt_any {n:Int}(h0:0≤n) (h1:n≤1000000000) (w:World) (hp:Pow w) :
  Calls Tryz.prog 132 #[.int .i64 n,.int .i64 10] w fun e w'=>e=.returned (.string ⟨(dcN n).toArray⟩)∧Below w.heap.size w w':=by
 refine (Go.Proofs.Any.strconv_FormatInt_10 laysF n (by omega) (by omega) w hp).mono ?_
 rintro e w' ⟨rfl,k,os,rfl⟩
 refine ⟨?_,below_grow _ w (Nat.le_refl _) k os⟩
 unfold Lib.itoa dcN
 rw [if_neg (by omega)]
theorem sd_iface:∀ {d:Nat}{t:T d},Cl d t→sdC d t=true→∃ u y,exV d t=.iface u y
 | 0,t,_,_=>Empty.elim t
 | d+1,t,hc,h=>by
  rcases exV_form (d+1) t with h1 | h1
  ·rcases hc.cases with ⟨n,rfl⟩ | ⟨s,rfl⟩ | ⟨k,p,hk,rfl,hp⟩ | ⟨s,p,q,rfl,hp,hq⟩ | rfl
   ·exact ⟨_,_,rfl⟩
   ·exact ⟨_,_,rfl⟩
   ·rcases hk with rfl | rfl <;> exact ⟨_,_,rfl⟩
   ·exact ⟨_,_,rfl⟩
   ·exact absurd h (by simp [none0,sdC_mk])
  ·exact h1
/-- An operand's text. -/
def aroX (d:Nat) (t:T d) (m:Nat):List UInt8:=txP (aroP (pcs dcN d t) m)
theorem cell3_at (w:World) (a b c:Value) (t:TypeId) (n:Nat) (hn:n=w.heap.size):(w.alloc (.cells #[a,b,c] t)).cell? ⟨n,0,none⟩=some a∧(w.alloc (.cells #[a,b,c] t)).cell? ⟨n,1,none⟩=some b∧(w.alloc (.cells #[a,b,c] t)).cell? ⟨n,2,none⟩=some c:=by subst hn;simp
theorem txt_bin {d:Nat}(s:ByteArray) (p q:T d):txtC (d+1) (mkT 5 0 s [p,q])=aroX d p (if lv (bl s)=3 then 4 else lv (bl s))++32 :: (bl s++32 :: aroX d q (lv (bl s)+1)):=by
 show txP (pcF dcN 5 0 s [pcs dcN d p,pcs dcN d q]).2=_
 show txP (aroP (pcs dcN d p) (if lv (bl s)=3 then 4 else lv (bl s))++none :: some (3,bl s) :: none :: aroP (pcs dcN d q) (lv (bl s)+1))=_
 rw [txP_app,txP_cons,txP_cons,txP_cons]
 rfl
theorem add_ok (a b c:ByteArray) (h:(bl a).length+(bl b).length≤2000000) (hc:bl c=bl a++bl b) (W:World):(Op.stringOp .add a b).run Tryz.prog W=.ok (.string c) W:=by
 have h1:a.size+b.size≤2000000:=h
 have e:a++b=c:=by
  have e1:(a++b).data=c.data:=by
   rw [ByteArray.data_append]
   apply Array.toList_inj.1
   rw [Array.toList_append];exact hc.symm
  cases c;cases h2:a++b;rw [h2] at e1;exact congrArg ByteArray.mk e1
 have h2:¬ (((a.size+b.size:Nat):Int) > IntKind.i64.max):=by
  have:IntKind.i64.max=9223372036854775807:=by decide
  rw [this];omega
 unfold Op.stringOp
 simp only [if_neg h2,e]
 rfl
def OpC (d:Nat):Prop:=∀ (t:T d) (m:Nat) (w:World),Cl d t→sdC d t=true→m≤6→(aroX d t m).length≤1000000→Pow w→Calls Tryz.prog 133 #[exV d t,.int .i64 (m:Int)] w fun e w'=>e=.returned (.string ⟨(aroX d t m).toArray⟩)∧Below w.heap.size w w'
def BtC (d:Nat):Prop:=∀ (s:ByteArray) (p q:T d) (w:World),Cl d p→Cl d q→sdC d p=true→sdC d q=true→(txtC (d+1) (mkT 5 0 s [p,q])).length≤1000000→Pow w→Calls Tryz.prog 134 #[.agg #[.string s,exV d p,exV d q]] w fun e w'=>e=.returned (.string ⟨(txtC (d+1) (mkT 5 0 s [p,q])).toArray⟩)∧Below w.heap.size w w'
def TxC (d:Nat):Prop:=∀ (t:T d) (w:World),Cl d t→sdC d t=true→(txtC d t).length≤1000000→Pow w→Calls Tryz.prog 120 #[exV d t] w fun e w'=>e=.returned (.string ⟨(txtC d t).toArray⟩)∧Below w.heap.size w w'
set_option maxRecDepth 100000 in
set_option maxHeartbeats 4000000 in
theorem bin_step (d:Nat) (IH:OpC d):BtC d:=by
 intro s p q w hp hq sp sq hln hw
 have hlv:=fun w1=>pLevel_any s w1
 have hI:=fun m w1 hm hl hw1=>IH p m w1 hp sp hm hl hw1
 have hJ:=fun m w1 hm hl hw1=>IH q m w1 hq sq hm hl hw1
 obtain ⟨pu,py,hpe⟩:=sd_iface hp sp
 obtain ⟨qu,qy,hqe⟩:=sd_iface hq sq
 rw [hpe,hqe]
 simp only [hpe] at hI
 simp only [hqe] at hJ
 clear hpe hqe
 have hl5:lv (bl s)≤5:=lv_le _
 obtain ⟨k,hk⟩:∃ k,lv (bl s)=k:=⟨_,rfl⟩
 rw [hk] at hl5
 simp only [hk] at hlv
 have hT:txtC (d+1) (mkT 5 0 s [p,q])=aroX d p (if k=3 then 4 else k)++32 :: (bl s++32 :: aroX d q (k+1)):=by
  rw [← hk];exact txt_bin s p q
 obtain ⟨TX,hTX⟩:∃ TX,txtC (d+1) (mkT 5 0 s [p,q])=TX:=⟨_,rfl⟩
 rw [hTX] at hT hln ⊢
 clear hTX
 by_cases h3:k=3
 ·subst h3
  have hIm:=fun w1 h1 h=>hI 4 w1 (by omega) h1 h
  have hJm:=fun w1 h1 h=>hJ 4 w1 (by omega) h1 h
  rw [if_pos rfl] at hT
  simp only [show ((4:Nat):Int)=4 from rfl] at hIm hJm
  generalize aroX d p 4=A at hT hIm
  generalize aroX d q 4=B at hT hJm
  clear hI hJ
  have hlA:A.length≤1000000:=by have:=congrArg List.length hT;simp only [List.length_append,List.length_cons] at this;omega
  have hlB:B.length≤1000000:=by have:=congrArg List.length hT;simp only [List.length_append,List.length_cons] at this;omega
  replace hIm:=fun w1 h=>hIm w1 hlA h
  replace hJm:=fun w1 h=>hJm w1 hlB h
  clear hlA hlB
  have hA:A.length+B.length+(bl s).length+2≤1000000:=by
   have:=congrArg List.length hT
   simp only [List.length_append,List.length_cons] at this
   omega
  obtain ⟨bA,hbA⟩:∃ bA:ByteArray,⟨A.toArray⟩=bA:=⟨_,rfl⟩
  obtain ⟨bB,hbB⟩:∃ bB:ByteArray,⟨B.toArray⟩=bB:=⟨_,rfl⟩
  have hAe:bl bA=A:=by rw [← hbA]
  have hBe:bl bB=B:=by rw [← hbB]
  have a1:=add_ok bA ⟨#[32]⟩ ⟨(A++[32]).toArray⟩ (by rw [hAe];show A.length+1≤_;omega) (by rw [hAe])
  have a2:=add_ok ⟨(A++[32]).toArray⟩ s ⟨(A++[32]++bl s).toArray⟩ (by show (A++[32]).length+_≤_;simp only [List.length_append,List.length_cons,List.length_nil];omega) rfl
  have a3:=add_ok ⟨(A++[32]++bl s).toArray⟩ ⟨#[32]⟩ ⟨(A++[32]++bl s++[32]).toArray⟩ (by show (A++[32]++bl s).length+1≤_;simp only [List.length_append,List.length_cons,List.length_nil];omega) rfl
  have a4:=add_ok ⟨(A++[32]++bl s++[32]).toArray⟩ bB ⟨TX.toArray⟩ (by rw [hBe];show (A++[32]++bl s++[32]).length+_≤_;simp only [List.length_append,List.length_cons,List.length_nil];omega) (by rw [hBe];show TX=A++[32]++bl s++[32]++B;rw [hT];simp)
  rw [hbA] at hIm
  rw [hbB] at hJm
  clear hT hA hAe hBe hbA hbB hln
  generalize (⟨(A++[32]).toArray⟩:ByteArray)=x1 at *
  generalize (⟨(A++[32]++bl s).toArray⟩:ByteArray)=x2 at *
  generalize (⟨(A++[32]++bl s++[32]).toArray⟩:ByteArray)=x3 at *
  generalize (⟨TX.toArray⟩:ByteArray)=x4 at *
  rw [show (4:Int)=IntKind.i64.wrap 4 from by decide] at hJm
  go_enter Tryz.func134,Tryz.ntmps134
  go_wp2_with (first | (go_at_call 154;refine (hlv _).mono ?_;rintro e w2 ⟨rfl,rfl⟩))
  have hc:=cell3_at w (.string s) (.iface pu py) (.iface qu qy) 111 w.heap.size rfl
  have b1:=(Below.refl w.heap.size w).alloc (Nat.le_refl _) (.cells #[.string s,.iface pu py,.iface qu qy] 111)
  have hw1:=hw.below b1
  clear hlv
  generalize w.alloc (.cells #[.string s,.iface pu py,.iface qu qy] 111)=w1 at *
  obtain ⟨c1,c2,c3⟩:=hc
  have bd:Below w1.heap.size w1 w1.drew:=(Below.refl _ _).drew
  have b1:=bthen b1 bd
  have s1:=hIm w1.drew (hw1.below bd)
  go_region_held_law (fun w'=>w'.cell? ⟨w.heap.size,0,none⟩=some (.string s)∧w'.cell? ⟨w.heap.size,1,none⟩=some (.iface pu py)∧w'.cell? ⟨w.heap.size,2,none⟩=some (.iface qu qy))
   (first | (with_reducible exact ⟨c1,c2,c3⟩) | (with_reducible exact ⟨d1,d2,d3⟩) | (with_reducible exact ⟨e1,e2,e3⟩) | go_keep)
   ((first
    | (go_at_call 133;(with_reducible refine s1.mono ?_);rintro e w3 ⟨rfl,b3⟩;have d1:=(b3.cell (p:=⟨w.heap.size,0,none⟩) (World.block_lt_of_cell? w1 _ c1)).trans c1;have d2:=(b3.cell (p:=⟨w.heap.size,1,none⟩) (World.block_lt_of_cell? w1 _ c2)).trans c2;have d3:=(b3.cell (p:=⟨w.heap.size,2,none⟩) (World.block_lt_of_cell? w1 _ c3)).trans c3;have b4:=bthen b1 b3;have s2:=hJm w3 ((hw1.below bd).below b3);clear s1)
    | (go_at_call 133;(with_reducible refine s2.mono ?_);rintro e w4 ⟨rfl,b5⟩;have e1:=(b5.cell (p:=⟨w.heap.size,0,none⟩) (World.block_lt_of_cell? _ _ d1)).trans d1;have e2:=(b5.cell (p:=⟨w.heap.size,1,none⟩) (World.block_lt_of_cell? _ _ d2)).trans d2;have e3:=(b5.cell (p:=⟨w.heap.size,2,none⟩) (World.block_lt_of_cell? _ _ d3)).trans d3;have b6:=bthen b4 b5;clear s2)))
  go_wp2
  go_ret
  exact ⟨rfl,b6⟩
 ·have hIm:=fun w1 h1 h=>hI k w1 (by omega) h1 h
  have hJm:=fun w1 h1 h=>hJ (k+1) w1 (by omega) h1 h
  rw [if_neg h3] at hT
  simp only [Int.natCast_add,show ((1:Nat):Int)=1 from rfl] at hJm
  generalize aroX d p k=A at hT hIm
  generalize aroX d q (k+1)=B at hT hJm
  have h3':(k:Int)≠3:=by omega
  clear hI hJ
  have hlA:A.length≤1000000:=by have:=congrArg List.length hT;simp only [List.length_append,List.length_cons] at this;omega
  have hlB:B.length≤1000000:=by have:=congrArg List.length hT;simp only [List.length_append,List.length_cons] at this;omega
  replace hIm:=fun w1 h=>hIm w1 hlA h
  replace hJm:=fun w1 h=>hJm w1 hlB h
  clear hlA hlB
  have hA:A.length+B.length+(bl s).length+2≤1000000:=by
   have:=congrArg List.length hT
   simp only [List.length_append,List.length_cons] at this
   omega
  obtain ⟨bA,hbA⟩:∃ bA:ByteArray,⟨A.toArray⟩=bA:=⟨_,rfl⟩
  obtain ⟨bB,hbB⟩:∃ bB:ByteArray,⟨B.toArray⟩=bB:=⟨_,rfl⟩
  have hAe:bl bA=A:=by rw [← hbA]
  have hBe:bl bB=B:=by rw [← hbB]
  have a1:=add_ok bA ⟨#[32]⟩ ⟨(A++[32]).toArray⟩ (by rw [hAe];show A.length+1≤_;omega) (by rw [hAe])
  have a2:=add_ok ⟨(A++[32]).toArray⟩ s ⟨(A++[32]++bl s).toArray⟩ (by show (A++[32]).length+_≤_;simp only [List.length_append,List.length_cons,List.length_nil];omega) rfl
  have a3:=add_ok ⟨(A++[32]++bl s).toArray⟩ ⟨#[32]⟩ ⟨(A++[32]++bl s++[32]).toArray⟩ (by show (A++[32]++bl s).length+1≤_;simp only [List.length_append,List.length_cons,List.length_nil];omega) rfl
  have a4:=add_ok ⟨(A++[32]++bl s++[32]).toArray⟩ bB ⟨TX.toArray⟩ (by rw [hBe];show (A++[32]++bl s++[32]).length+_≤_;simp only [List.length_append,List.length_cons,List.length_nil];omega) (by rw [hBe];show TX=A++[32]++bl s++[32]++B;rw [hT];simp)
  rw [hbA] at hIm
  rw [hbB] at hJm
  clear hT hA hAe hBe hbA hbB hln
  generalize (⟨(A++[32]).toArray⟩:ByteArray)=x1 at *
  generalize (⟨(A++[32]++bl s).toArray⟩:ByteArray)=x2 at *
  generalize (⟨(A++[32]++bl s++[32]).toArray⟩:ByteArray)=x3 at *
  generalize (⟨TX.toArray⟩:ByteArray)=x4 at *
  rw [show ((k:Int)+1)=IntKind.i64.wrap ((k:Int)+1) from (wrap_small _ (by omega) (by omega)).symm] at hJm
  go_enter Tryz.func134,Tryz.ntmps134
  go_wp2_with (first | (go_at_call 154;refine (hlv _).mono ?_;rintro e w2 ⟨rfl,rfl⟩))
  have hc:=cell3_at w (.string s) (.iface pu py) (.iface qu qy) 111 w.heap.size rfl
  have b1:=(Below.refl w.heap.size w).alloc (Nat.le_refl _) (.cells #[.string s,.iface pu py,.iface qu qy] 111)
  have hw1:=hw.below b1
  clear hlv
  generalize w.alloc (.cells #[.string s,.iface pu py,.iface qu qy] 111)=w1 at *
  obtain ⟨c1,c2,c3⟩:=hc
  have bd:Below w1.heap.size w1 w1.drew:=(Below.refl _ _).drew
  have b1:=bthen b1 bd
  have s1:=hIm w1.drew (hw1.below bd)
  go_region_held_law (fun w'=>w'.cell? ⟨w.heap.size,0,none⟩=some (.string s)∧w'.cell? ⟨w.heap.size,1,none⟩=some (.iface pu py)∧w'.cell? ⟨w.heap.size,2,none⟩=some (.iface qu qy))
   (first | (with_reducible exact ⟨c1,c2,c3⟩) | (with_reducible exact ⟨d1,d2,d3⟩) | (with_reducible exact ⟨e1,e2,e3⟩) | go_keep)
   ((first
    | (go_at_call 133;(with_reducible refine s1.mono ?_);rintro e w3 ⟨rfl,b3⟩;have d1:=(b3.cell (p:=⟨w.heap.size,0,none⟩) (World.block_lt_of_cell? w1 _ c1)).trans c1;have d2:=(b3.cell (p:=⟨w.heap.size,1,none⟩) (World.block_lt_of_cell? w1 _ c2)).trans c2;have d3:=(b3.cell (p:=⟨w.heap.size,2,none⟩) (World.block_lt_of_cell? w1 _ c3)).trans c3;have b4:=bthen b1 b3;have s2:=hJm w3 ((hw1.below bd).below b3);clear s1)
    | (go_at_call 133;(with_reducible refine s2.mono ?_);rintro e w4 ⟨rfl,b5⟩;have e1:=(b5.cell (p:=⟨w.heap.size,0,none⟩) (World.block_lt_of_cell? _ _ d1)).trans d1;have e2:=(b5.cell (p:=⟨w.heap.size,1,none⟩) (World.block_lt_of_cell? _ _ d2)).trans d2;have e3:=(b5.cell (p:=⟨w.heap.size,2,none⟩) (World.block_lt_of_cell? _ _ d3)).trans d3;have b6:=bthen b4 b5;clear s2)))
  go_wp2
  go_ret
  exact ⟨rfl,b6⟩
theorem aro_same {d:Nat}{k n:Int}{s:ByteArray}{ps:List (T d)}{m:Nat}(hk:k≠5) (hm:m≤6):aroX (d+1) (mkT k n s ps) m=txtC (d+1) (mkT k n s ps):=by
 unfold aroX aroP txtC
 rw [if_neg]
 show ¬ (if k=5 then lv s.data.toList else 6) < m
 rw [if_neg hk];omega
theorem aro_bin {d:Nat}{s:ByteArray}{p q:T d}{m:Nat}:aroX (d+1) (mkT 5 0 s [p,q]) m=if lv (bl s) < m then 40 :: (txtC (d+1) (mkT 5 0 s [p,q])++[41]) else txtC (d+1) (mkT 5 0 s [p,q]):=by
 have e:(pcs dcN (d+1) (mkT 5 0 s [p,q])).1=lv (bl s):=rfl
 unfold aroX aroP txtC
 rw [e]
 split
 ·rw [txP_cons,txP_app];rfl
 ·rfl
theorem ba_app (a b:List UInt8):(⟨a.toArray⟩:ByteArray)++⟨b.toArray⟩=⟨(a++b).toArray⟩:=by
 have e1:((⟨a.toArray⟩:ByteArray)++⟨b.toArray⟩).data=(a++b).toArray:=by
  rw [ByteArray.data_append]
  apply Array.toList_inj.1
  rw [Array.toList_append]
 cases h2:(⟨a.toArray⟩:ByteArray)++⟨b.toArray⟩
 rw [h2] at e1
 exact congrArg ByteArray.mk e1
theorem ba_one (x:UInt8) (X:List UInt8):(⟨#[x]⟩++⟨X.toArray⟩:ByteArray)=⟨(x :: X).toArray⟩:=ba_app [x] X
theorem ba_par (X:List UInt8):(⟨#[40]⟩++⟨X.toArray⟩++⟨#[41]⟩:ByteArray)=⟨(40 :: (X++[41])).toArray⟩:=
 (congrArg (fun b:ByteArray=>b++⟨#[41]⟩) (ba_one 40 X)).trans (ba_app (40 :: X) [41])
theorem as_lit_bin (w:World) (n:Value):(Instr.typeAssert (.iface 104 (.agg #[n])) 76 111 true).run Tryz.prog w=.ok (.tuple #[.agg #[.string ⟨#[]⟩,.nilIface,.nilIface],.bool false]) w:=by kernel_rfl
theorem as_ref_bin (w:World) (n:Value):(Instr.typeAssert (.iface 106 (.agg #[n])) 76 111 true).run Tryz.prog w=.ok (.tuple #[.agg #[.string ⟨#[]⟩,.nilIface,.nilIface],.bool false]) w:=by kernel_rfl
theorem as_not_bin (w:World) (n:Value):(Instr.typeAssert (.iface 108 (.agg #[n])) 76 111 true).run Tryz.prog w=.ok (.tuple #[.agg #[.string ⟨#[]⟩,.nilIface,.nilIface],.bool false]) w:=by kernel_rfl
theorem as_neg_bin (w:World) (n:Value):(Instr.typeAssert (.iface 109 (.agg #[n])) 76 111 true).run Tryz.prog w=.ok (.tuple #[.agg #[.string ⟨#[]⟩,.nilIface,.nilIface],.bool false]) w:=by kernel_rfl
attribute [local go_sem] as_lit_bin as_ref_bin as_not_bin as_neg_bin
set_option maxRecDepth 100000 in
set_option maxHeartbeats 4000000 in
theorem op_step (d:Nat) (HB:BtC d) (HX:TxC (d+1)):OpC (d+1):=by
 intro t m w hc hs hm hl hw
 have hX:=fun w1 hl1 hw1=>HX t w1 hc hs hl1 hw1
 have bz:=(Below.refl w.heap.size w).alloc (Nat.le_refl _) (.cells #[.string ⟨#[]⟩,.nilIface,.nilIface] 111)
 have hwz:=hw.below bz
 rcases hc.cases with ⟨n,rfl⟩ | ⟨s,rfl⟩ | ⟨k,p,hk,rfl,hp⟩ | ⟨s,p,q,rfl,hp,hq⟩ | rfl
 ·have e:exV (d+1) (mkT 1 n ⟨#[]⟩ []:T (d+1))=.iface 104 (.agg #[.int .i64 n]):=rfl
  rw [aro_same (by decide) hm] at hl ⊢
  replace hX:=fun w1 hw1=>hX w1 hl hw1
  rw [e] at hX ⊢
  generalize txtC (d+1) (mkT 1 n ⟨#[]⟩ []:T (d+1))=X at *
  clear e hs hc
  go_enter Tryz.func133,Tryz.ntmps133
  go_wp2_with (first | (go_at_call 120;refine (hX _ hwz).mono ?_;rintro e w2 ⟨rfl,b2⟩))
  go_ret
  exact ⟨rfl,bthen bz b2⟩
 ·have e:exV (d+1) (mkT 2 0 s []:T (d+1))=.iface 106 (.agg #[.string s]):=rfl
  rw [aro_same (by decide) hm] at hl ⊢
  replace hX:=fun w1 hw1=>hX w1 hl hw1
  rw [e] at hX ⊢
  generalize txtC (d+1) (mkT 2 0 s []:T (d+1))=X at *
  clear e hs hc
  go_enter Tryz.func133,Tryz.ntmps133
  go_wp2_with (first | (go_at_call 120;refine (hX _ hwz).mono ?_;rintro e w2 ⟨rfl,b2⟩))
  go_ret
  exact ⟨rfl,bthen bz b2⟩
 ·rcases hk with rfl | rfl
  ·have e:exV (d+1) (mkT 3 0 ⟨#[]⟩ [p]:T (d+1))=.iface 108 (.agg #[exV d p]):=rfl
   rw [aro_same (by decide) hm] at hl ⊢
   replace hX:=fun w1 hw1=>hX w1 hl hw1
   rw [e] at hX ⊢
   generalize txtC (d+1) (mkT 3 0 ⟨#[]⟩ [p]:T (d+1))=X at *
   generalize exV d p=pv at *
   clear e hs hc
   go_enter Tryz.func133,Tryz.ntmps133
   go_wp2_with (first | (go_at_call 120;refine (hX _ hwz).mono ?_;rintro e w2 ⟨rfl,b2⟩))
   go_ret
   exact ⟨rfl,bthen bz b2⟩
  ·have e:exV (d+1) (mkT 4 0 ⟨#[]⟩ [p]:T (d+1))=.iface 109 (.agg #[exV d p]):=rfl
   rw [aro_same (by decide) hm] at hl ⊢
   replace hX:=fun w1 hw1=>hX w1 hl hw1
   rw [e] at hX ⊢
   generalize txtC (d+1) (mkT 4 0 ⟨#[]⟩ [p]:T (d+1))=X at *
   generalize exV d p=pv at *
   clear e hs hc
   go_enter Tryz.func133,Tryz.ntmps133
   go_wp2_with (first | (go_at_call 120;refine (hX _ hwz).mono ?_;rintro e w2 ⟨rfl,b2⟩))
   go_ret
   exact ⟨rfl,bthen bz b2⟩
 ·have sd:=hs
  rw [sdC_mk,if_neg (by decide),if_neg (by decide),if_neg (by decide),if_pos rfl] at sd
  simp only [List.all_cons,List.all_nil,Bool.and_true,Bool.and_eq_true] at sd
  obtain ⟨_,sp,sq⟩:=sd
  have hB:=fun w1 hl1 hw1=>HB s p q w1 hp hq sp sq hl1 hw1
  have hlv:=fun w1=>pLevel_any s w1
  rw [aro_bin] at hl ⊢
  have e:exV (d+1) (mkT 5 0 s [p,q]:T (d+1))=.iface 111 (.agg #[.string s,exV d p,exV d q]):=rfl
  rw [e] at hX ⊢
  obtain ⟨pu,py,hpe⟩:=sd_iface hp sp
  obtain ⟨qu,qy,hqe⟩:=sd_iface hq sq
  rw [hpe,hqe] at hX hB ⊢
  generalize txtC (d+1) (mkT 5 0 s [p,q]:T (d+1))=X at *
  clear e hs hc hpe hqe
  have bz:=(Below.refl w.heap.size w).alloc (Nat.le_refl _) (.cells #[.string s,.iface pu py,.iface qu qy] 111)
  have hwz:=hw.below bz
  by_cases hlt:lv (bl s) < m
  ·rw [if_pos hlt] at hl ⊢
   have hl2:X.length+2≤1000000:=by simpa using hl
   replace hB:=fun w1 hw1=>hB w1 (by omega) hw1
   have hlt':((lv (bl s):Nat):Int) < (m:Int):=by omega
   go_enter Tryz.func133,Tryz.ntmps133
   go_wp2_with (first
    | (go_at_call 154;refine (hlv _).mono ?_;rintro e w2 ⟨rfl,rfl⟩)
    | (go_at_call 134;refine (hB _ hwz).mono ?_;rintro e w2 ⟨rfl,b2⟩))
   go_ret
   exact ⟨congrArg (fun b=>Ending.returned (.string b)) (ba_par X),bthen bz b2⟩
  ·rw [if_neg hlt] at hl ⊢
   replace hX:=fun w1 hw1=>hX w1 hl hw1
   have hlt':¬ ((lv (bl s):Nat):Int) < (m:Int):=by omega
   go_enter Tryz.func133,Tryz.ntmps133
   go_wp2_with (first
    | (go_at_call 154;refine (hlv _).mono ?_;rintro e w2 ⟨rfl,rfl⟩)
    | (go_at_call 120;refine (hX _ hwz).mono ?_;rintro e w2 ⟨rfl,b2⟩))
   go_ret
   exact ⟨rfl,bthen bz b2⟩
 ·exact absurd hs (by simp [none0,sdC_mk])
set_option maxRecDepth 100000 in
set_option maxHeartbeats 4000000 in
theorem tx_step (d:Nat) (HO:OpC d) (HB:BtC d):TxC (d+1):=by
 intro t w hc hs hl hw
 rcases hc.cases with ⟨n,rfl⟩ | ⟨s,rfl⟩ | ⟨k,p,hk,rfl,hp⟩ | ⟨s,p,q,rfl,hp,hq⟩ | rfl
 ·have e:exV (d+1) (mkT 1 n ⟨#[]⟩ []:T (d+1))=.iface 104 (.agg #[.int .i64 n]):=rfl
  have eT:txtC (d+1) (mkT 1 n ⟨#[]⟩ []:T (d+1))=dcN n:=by
   show txP [some (2,dcN n)]=dcN n
   rw [txP_cons];exact List.append_nil _
  rw [eT,e]
  rw [sdC_mk,if_pos rfl] at hs
  simp only [Bool.and_eq_true,decide_eq_true_eq] at hs
  have hF:=fun w1 h=>fmt_any hs.1 hs.2 w1 h
  have bz:=(Below.refl w.heap.size w).alloc (Nat.le_refl _) (.cells #[.int .i64 n] 104)
  have hwz:=hw.below bz
  generalize dcN n=X at *
  clear e hc eT
  go_enter Tryz.func120,Tryz.ntmps120
  go_wp2_with (first | (go_at_call 132;refine (hF _ hwz).mono ?_;rintro e w2 ⟨rfl,b2⟩))
  go_ret
  exact ⟨rfl,bthen bz b2⟩
 ·have e:exV (d+1) (mkT 2 0 s []:T (d+1))=.iface 106 (.agg #[.string s]):=rfl
  have eT:(⟨(txtC (d+1) (mkT 2 0 s []:T (d+1))).toArray⟩:ByteArray)=s:=by
   have:txtC (d+1) (mkT 2 0 s []:T (d+1))=s.data.toList:=by
    show txP [some (1,s.data.toList)]=_
    rw [txP_cons];exact List.append_nil _
   rw [this]
  rw [eT,e]
  have hsz:s.size≤1000000:=by
   have h1:=hl
   rw [show txtC (d+1) (mkT 2 0 s []:T (d+1))=s.data.toList from by show txP [some (1,s.data.toList)]=_;rw [txP_cons];exact List.append_nil _] at h1
   exact h1
  have hC:=fun w1=>pClone_any s w1 (by omega)
  have bz:=(Below.refl w.heap.size w).alloc (Nat.le_refl _) (.cells #[.string s] 106)
  clear e hc eT hs
  go_enter Tryz.func120,Tryz.ntmps120
  go_wp2_with (first | (go_at_call 69;refine (hC _).mono ?_;rintro e w2 ⟨rfl,b2⟩))
  go_ret
  exact ⟨rfl,bthen bz b2⟩
 ·rcases hk with rfl | rfl
  ·have e:exV (d+1) (mkT 3 0 ⟨#[]⟩ [p]:T (d+1))=.iface 108 (.agg #[exV d p]):=rfl
   have sp:sdC d p=true:=by
    rw [sdC_mk,if_neg (by decide),if_neg (by decide),if_pos (by decide)] at hs
    simpa using hs
   have eT:txtC (d+1) (mkT 3 0 ⟨#[]⟩ [p]:T (d+1))=33 :: aroX d p 6:=rfl
   rw [eT] at hl ⊢
   have hl2:(aroX d p 6).length+1≤1000000:=by simpa using hl
   have hO:=fun w1 hw1=>HO p 6 w1 hp sp (by omega) (by omega) hw1
   obtain ⟨pu,py,hpe⟩:=sd_iface hp sp
   rw [e,hpe]
   simp only [hpe,show ((6:Nat):Int)=6 from rfl] at hO
   generalize aroX d p 6=X at *
   clear e hpe hs hc eT
   have bz:=(Below.refl w.heap.size w).alloc (Nat.le_refl _) (.cells #[.iface pu py] 108)
   have hwz:=hw.below bz
   go_enter Tryz.func120,Tryz.ntmps120
   go_wp2_with (first | (go_at_call 133;refine (hO _ hwz).mono ?_;rintro e w2 ⟨rfl,b2⟩))
   go_ret
   exact ⟨congrArg (fun b=>Ending.returned (.string b)) (ba_one _ X),bthen bz b2⟩
  ·have e:exV (d+1) (mkT 4 0 ⟨#[]⟩ [p]:T (d+1))=.iface 109 (.agg #[exV d p]):=rfl
   have sp:sdC d p=true:=by
    rw [sdC_mk,if_neg (by decide),if_neg (by decide),if_pos (by decide)] at hs
    simpa using hs
   have eT:txtC (d+1) (mkT 4 0 ⟨#[]⟩ [p]:T (d+1))=45 :: aroX d p 6:=rfl
   rw [eT] at hl ⊢
   have hl2:(aroX d p 6).length+1≤1000000:=by simpa using hl
   have hO:=fun w1 hw1=>HO p 6 w1 hp sp (by omega) (by omega) hw1
   obtain ⟨pu,py,hpe⟩:=sd_iface hp sp
   rw [e,hpe]
   simp only [hpe,show ((6:Nat):Int)=6 from rfl] at hO
   generalize aroX d p 6=X at *
   clear e hpe hs hc eT
   have bz:=(Below.refl w.heap.size w).alloc (Nat.le_refl _) (.cells #[.iface pu py] 109)
   have hwz:=hw.below bz
   go_enter Tryz.func120,Tryz.ntmps120
   go_wp2_with (first | (go_at_call 133;refine (hO _ hwz).mono ?_;rintro e w2 ⟨rfl,b2⟩))
   go_ret
   exact ⟨congrArg (fun b=>Ending.returned (.string b)) (ba_one _ X),bthen bz b2⟩
 ·have e:exV (d+1) (mkT 5 0 s [p,q]:T (d+1))=.iface 111 (.agg #[.string s,exV d p,exV d q]):=rfl
  have sd:=hs
  rw [sdC_mk,if_neg (by decide),if_neg (by decide),if_neg (by decide),if_pos rfl] at sd
  simp only [List.all_cons,List.all_nil,Bool.and_true,Bool.and_eq_true] at sd
  obtain ⟨_,sp,sq⟩:=sd
  have hB:=fun w1 hw1=>HB s p q w1 hp hq sp sq hl hw1
  obtain ⟨pu,py,hpe⟩:=sd_iface hp sp
  obtain ⟨qu,qy,hqe⟩:=sd_iface hq sq
  rw [e]
  rw [hpe,hqe] at hB ⊢
  generalize txtC (d+1) (mkT 5 0 s [p,q]:T (d+1))=X at *
  clear e hs hc hpe hqe
  have bz:=(Below.refl w.heap.size w).alloc (Nat.le_refl _) (.cells #[.string s,.iface pu py,.iface qu qy] 111)
  have hwz:=hw.below bz
  go_enter Tryz.func120,Tryz.ntmps120
  go_wp2_with (first | (go_at_call 134;refine (hB _ hwz).mono ?_;rintro e w2 ⟨rfl,b2⟩))
  go_ret
  exact ⟨rfl,bthen bz b2⟩
 ·exact absurd hs (by simp [none0,sdC_mk])
theorem op_any:∀ d,OpC d
 | 0=>fun t=>Empty.elim t
 | d+1=>op_step d (bin_step d (op_any d)) (tx_step d (op_any d) (bin_step d (op_any d)))
theorem text_any:∀ d,TxC d
 | 0=>fun t=>Empty.elim t
 | d+1=>tx_step d (op_any d) (bin_step d (op_any d))
end Go.Proofs.YtlgnahpfggagoaaGreatDoor
/- guard.Print. -/
namespace Go.Proofs.YtlgnahpfggagoaaGreatDoor
open Go.RowKit Go.Lib
set_option linter.unusedSimpArgs false
set_option linter.unusedVariables false
attribute [local go_sem ↓] Go.wp_at_zero Go.wp_at_succ
theorem nm_plain:∀ (d:Nat) (t:T d),(nmC d t).any (fun s=>rsvB (bl s)) = !plC d t
 | 0,t=>Empty.elim t
 | d+1,t=>by
  obtain ⟨k,n,s,ps,rfl⟩:=T.open t
  rw [nmC_mk,plC_mk,List.any_append]
  have h1:∀ l:List (T d),(l.map (nmC d)).flatten.any (fun s=>rsvB (bl s)) = !(l.all (plC d)):=fun l=>by
   induction l with
   | nil=>rfl
   | cons p r ih=>
    have h2:=nm_plain d p
    rw [List.map_cons,List.flatten_cons,List.any_append,ih,h2,List.all_cons]
    cases plC d p <;> rfl
  rw [h1]
  have h3:(if k=2 then [s] else []).any (fun s=>rsvB (bl s))=(decide (k=2) && rsvB s.data.toList):=by
   by_cases hk:k=2
   ·rw [if_pos hk,decide_eq_true hk];simp
   ·rw [if_neg hk,decide_eq_false hk];rfl
  rw [h3]
  cases (decide (k=2) && rsvB s.data.toList) <;> cases ps.all (plC d) <;> rfl
theorem rf_plain (d:Nat) (t:T d):(rfC d t []).any (fun s=>rsvB (bl s)) = !plC d t:=by
 rw [← nm_plain]
 have h:=(fold_up (nmC d t) [] (by simp [Up])).2
 rw [← rf_nm] at h
 have e:∀ l:List ByteArray,l.any (fun s=>rsvB (bl s))=(l.map bl).any rsvB:=fun l=>by rw [List.any_map];rfl
 rw [e,e,Bool.eq_iff_iff,List.any_eq_true,List.any_eq_true]
 constructor
 ·rintro ⟨x,hx,hr⟩;exact ⟨x,by simpa using (h x).1 hx,hr⟩
 ·rintro ⟨x,hx,hr⟩;exact ⟨x,(h x).2 (.inr hx),hr⟩
/-- What is printed, or an error. -/
def prC (d:Nat) (t:T d):List UInt8 × Int:=if fmC d t=true∧plC d t=true then (txtC d t,0) else ([],1)
theorem txt_len {d:Nat}{t:T d}(hc:Cl d t) (hf:fmC d t=true) (hp:plC d t=true):(txtC d t).length≤4000:=by
 obtain ⟨h40,hs⟩:=fm_parts hf
 obtain ⟨ho,hr⟩:=ok_sound d t hc hs hp
 have hb:=pcs_len d t hc hr
 show (txP (pcs dcN d t).2).length≤4000
 omega
set_option maxRecDepth 100000 in
set_option maxHeartbeats 4000000 in
theorem printP {d:Nat}{t:T d}(w:World) (hc:Cl d t) (hn:cnt d t≤1000) (hs:shrt 1000 d t=true) (hw:Pow w) :
  Calls Tryz.prog 108 #[exV d t] w fun e w'=>e=.returned (.tuple #[.string ⟨(prC d t).1.toArray⟩,.int .i64 (prC d t).2])∧Below w.heap.size w w':=by
 have h1:=formedP d t w hc (by omega) hs
 have h2:=fun w1=>refs_anyP w1 hc hn hs
 have h3:=fun (hf:fmC d t=true) (hp:plC d t=true) w1 hw1=>text_any d t w1 hc (fm_parts hf).2 (by have:=txt_len hc hf hp;omega) hw1
 have h4:=fun (v:Value) (w1:World) (h:RdS w1 v (rfT d t))=>contains_any h
 have hpl:=rf_plain d t
 unfold prC
 obtain ⟨ev,hev⟩:∃ ev,exV d t=ev:=⟨_,rfl⟩
 have hfm:ev=.nilIface∨∃ u y,ev=.iface u y:=by rw [← hev];exact exV_form d t
 rw [hev] at h1 ⊢
 simp only [hev] at h2 h3
 clear hev
 by_cases hf:fmC d t=true
 case neg=>
  rw [if_neg (fun h=>hf h.1)]
  have hf':fmC d t=false:=by simpa using hf
  rw [hf'] at h1
  clear h2 h3 h4 hpl hf hf'
  rcases hfm with rfl | ⟨u,y,rfl⟩
  all_goals
   go_enter Tryz.func108,Tryz.ntmps108
   go_wp2_with (first | (go_at_call 110;refine h1.mono ?_;rintro e w2 ⟨rfl,b2⟩))
   go_ret2
   exact ⟨rfl,b2⟩
 rw [hf] at h1
 unfold rfT at h2 h4
 simp only [if_pos hf,hpl] at h2 h4
 by_cases hp:plC d t=true
 ·rw [if_pos ⟨hf,hp⟩]
  rw [hp] at h4
  replace h3:=h3 hf hp
  generalize txtC d t=X at *
  rcases hfm with rfl | ⟨u,y,rfl⟩
  all_goals
   go_enter Tryz.func108,Tryz.ntmps108
   go_wp2_with (first
    | (go_at_call 110;refine h1.mono ?_;rintro e w2 ⟨rfl,b2⟩)
    | (go_at_call 93;refine (h2 _).mono ?_;rintro e w3 ⟨v,rfl,hv,b3⟩;have b3':=bthen b2 b3;obtain ⟨a,cap,rfl,_,_⟩:=hv.at')
    | (go_at_call 92;refine (h4 _ _ hv).mono ?_;rintro e w4 ⟨rfl,rfl⟩)
    | (go_at_call 120;refine (h3 _ (hw.below b3')).mono ?_;rintro e w5 ⟨rfl,b5⟩;have b5':=bthen b3' b5))
   go_ret2
   exact ⟨rfl,b5'⟩
 ·rw [if_neg (fun h=>hp h.2)]
  have hp':plC d t=false:=by simpa using hp
  rw [hp'] at h4
  clear h3
  rcases hfm with rfl | ⟨u,y,rfl⟩
  all_goals
   go_enter Tryz.func108,Tryz.ntmps108
   go_wp2_with (first
    | (go_at_call 110;refine h1.mono ?_;rintro e w2 ⟨rfl,b2⟩)
    | (go_at_call 93;refine (h2 _).mono ?_;rintro e w3 ⟨v,rfl,hv,b3⟩;have b3':=bthen b2 b3;obtain ⟨a,cap,rfl,_,_⟩:=hv.at')
    | (go_at_call 92;refine (h4 _ _ hv).mono ?_;rintro e w4 ⟨rfl,rfl⟩))
   go_ret2
   exact ⟨rfl,b3'⟩
end Go.Proofs.YtlgnahpfggagoaaGreatDoor
/- The text of a chart and its words. Math alone. -/
namespace Go.Proofs.YtlgnahpfggagoaaGreatDoor
open Go.RowKit Go.Lib
set_option linter.unusedSimpArgs false
set_option linter.unusedVariables false
abbrev ChX (d:Nat):=(List UInt8 × Pl) × Int × List (List UInt8 × Int × Pl) × List (St d)
/-- What is formed. -/
def plX (x:Sx):Bool:=plC x.1 x.2
def nbB (n:Int):Bool:=decide (0≤n∧n≤1000000000)
def exF (x:Sx):Bool:=fmX x && plX x
def setF (s:List UInt8 × Sx):Bool:=plainB s.1 && exF s.2
def onF (o:OnC):Bool:=plainB o.1 && ((!o.2.1.1 || exF o.2.1.2) && (plainB o.2.2.1 && o.2.2.2.1.all setF))
def stepB (h:HdC):Bool:=!(decide (h.2.2.1.1=[]) && decide (h.2.2.1.2=[]) && decide (h.2.2.2.1.1=0) && decide (h.2.2.2.1.2=0))
def kndF (h:HdC):Bool:=if stepB h=true then !h.2.1.1 && !h.2.1.2 && plainB h.2.2.1.1 && plainB h.2.2.1.2 && nbB h.2.2.2.1.1 && nbB h.2.2.2.1.2 else !h.2.1.1 || !h.2.1.2
def stF:(d:Nat)→Nat→St d→Bool
 | 0,_,t=>Empty.elim t
 | d+1,n,t=>decide (n≤6) && plainB t.1.1.1 && kndF t.1 && t.1.2.2.2.2.all onF && t.2.all (stF d (n+1))
def varF (v:List UInt8 × Int × Pl):Bool:=plainB v.1 && decide (-1000000000≤v.2.1∧v.2.1≤1000000000)
def chF (d:Nat) (c:ChX d):Bool:=plainB c.1.1 && nbB c.2.1 && c.2.2.1.all varF && c.2.2.2.all (stF d 1)
/-- Its expressions are clean ones. -/
def OnCl (o:OnC):Prop:=(o.2.1.1=true→ClX o.2.1.2)∧∀ s∈o.2.2.2.1,ClX s.2
def StCl:(d:Nat)→St d→Prop
 | 0,t=>Empty.elim t
 | d+1,t=>(∀ o∈t.1.2.2.2.2,OnCl o)∧∀ x∈t.2,StCl d x
/-- They fit. -/
theorem plain_name {s:List UInt8}(h:plainB s=true):nameS s=true:=by
 unfold plainB at h
 exact ((Bool.and_eq_true _ _).mp h).1
theorem exF_parts {x:Sx}(hc:ClX x) (h:exF x=true):okT (valB 0) rsvB dcN x.1 x.2∧rtT dcN x.1 x.2:=by
 unfold exF at h
 rw [Bool.and_eq_true] at h
 exact ok_sound x.1 x.2 hc (fm_parts h.1).2 h.2
end Go.Proofs.YtlgnahpfggagoaaGreatDoor
/- Package show's rightName, rightNumber, rightExpression. -/
namespace Go.Proofs.YtlgnahpfggagoaaGreatDoor
open Go.RowKit Go.Lib
set_option linter.unusedSimpArgs false
set_option linter.unusedVariables false
attribute [local go_sem ↓] Go.wp_at_zero Go.wp_at_succ
theorem rname_any (s:List UInt8) (w:World) (hs:s.length≤140737488351232):Calls Tryz.prog 21 #[sV s] w fun e w'=>e=.returned (.bool (plainB s))∧Below w.heap.size w w':=by
 have hz:(⟨s.toArray⟩:ByteArray).size≤140737488351232:=by show s.toArray.size≤_;simpa using hs
 have h1:=fun w1=>pName_any ⟨s.toArray⟩ w1 hz
 have h2:=fun w1=>pReserved_any ⟨s.toArray⟩ w1
 have e1:bl (⟨s.toArray⟩:ByteArray)=s:=by unfold bl;simp
 rw [e1] at h1 h2
 unfold plainB sV
 generalize (⟨s.toArray⟩:ByteArray)=t at *
 cases h3:nameS s <;> cases h4:rsvB s
 all_goals (
  simp only [h3] at h1
  simp only [h4] at h2
  go_enter Tryz.func21,Tryz.ntmps21
  go_wp2_with (first
   | (go_at_call 40;refine (h1 _).mono ?_;rintro e w1 ⟨rfl,b1⟩)
   | (go_at_call 41;refine (h2 _).mono ?_;rintro e w2 ⟨rfl,hw2⟩;subst hw2)
   | fail)
  go_ret
  exact ⟨rfl,b1⟩)
theorem rnum_any (n:Int) (w:World):Calls Tryz.prog 22 #[.int .i64 n] w fun e w'=>e=.returned (.bool (nbB n))∧Below w.heap.size w w':=by
 unfold nbB
 by_cases h1:0≤n
 ·by_cases h2:n≤1000000000
  ·rw [decide_eq_true ⟨h1,h2⟩]
   go_enter Tryz.func22,Tryz.ntmps22
   go_wp2
   go_ret
   exact ⟨rfl,Below.refl _ _⟩
  ·rw [decide_eq_false (fun q=>h2 q.2)]
   go_enter Tryz.func22,Tryz.ntmps22
   go_wp2
   go_ret
   exact ⟨rfl,Below.refl _ _⟩
 ·rw [decide_eq_false (fun q=>h1 q.1)]
  go_enter Tryz.func22,Tryz.ntmps22
  go_wp2
  go_ret
  exact ⟨rfl,Below.refl _ _⟩
theorem rexp_any {x:Sx}(h:ExOk x) (hn:cntX x≤1000) (w:World) (hw:Pow w):Calls Tryz.prog 81 #[exX x] w fun e w'=>e=.returned (.bool (exF x))∧Below w.heap.size w w':=by
 have h1:=printP w h.1 (by unfold cntX at hn;exact hn) h.2.2 hw
 have h2:Calls Tryz.prog 108 #[exX x] w fun e w'=>e=.returned (.tuple #[.string ⟨(prC x.1 x.2).1.toArray⟩,.int .i64 (if exF x=true then 0 else 1)])∧Below w.heap.size w w':=by
  refine h1.mono ?_
  rintro e w' ⟨he,hb⟩
  refine ⟨?_,hb⟩
  rw [he]
  have:(prC x.1 x.2).2=if exF x=true then 0 else 1:=by
   unfold prC exF fmX plX
   simp only [Bool.and_eq_true]
   split <;> rfl
  rw [this]
 generalize exX x=v at *
 cases h3:exF x
 all_goals (
  simp only [h3] at h2
  go_enter Tryz.func81,Tryz.ntmps81
  go_wp2_with (first
   | (go_at_call 108;refine h2.mono ?_;rintro e w1 ⟨rfl,b1⟩)
   | fail)
  go_ret
  exact ⟨rfl,b1⟩)
def SetK (s:List UInt8 × Sx):Prop:=SetOk s∧cntX s.2≤1000
set_option maxRecDepth 100000 in
set_option maxHeartbeats 8000000 in
theorem rset_nil (s0:ByteArray) (bn be:Bool) (w:World) (hn:∀ w1,Below w.heap.size w w1→Calls Tryz.prog 21 #[.string s0] w1 fun e w'=>e=.returned (.bool bn)∧Below w1.heap.size w1 w') (he:∀ w1,Below w.heap.size w w1→Calls Tryz.prog 81 #[.nilIface] w1 fun e w'=>e=.returned (.bool be)∧Below w1.heap.size w1 w'):Calls Tryz.prog 83 #[.agg #[.string s0,.nilIface]] w fun e w'=>e=.returned (.bool (bn && be))∧Below w.heap.size w w':=by
 have hal:Below w.heap.size w (w.alloc (.cells #[.string s0,.nilIface] 82)):=(Below.refl w.heap.size w).alloc (Nat.le_refl _) _
 have hX:Bn (w.alloc (.cells #[.string s0,.nilIface] 82)) w.heap.size [.string s0,.nilIface]:=Bn.new w [.string s0,.nilIface] 82 _ rfl
 cases bn <;> cases be
 all_goals (
  go_enter Tryz.func83,Tryz.ntmps83
  go_upto_region 1 with fail
  generalize (w.alloc (.cells #[.string s0,.nilIface] 82))=wx at *
  have hB:Below wx.heap.size wx wx:=Below.refl _ _
  obtain ⟨x0,_⟩:=hX 0 _ rfl
  obtain ⟨x1,_⟩:=hX 1 _ rfl
  go_wp2_with (first
   | (go_at_call 21;refine (hn _ (hal.trans (hB.mono hal.size))).mono ?_;rintro e w1 ⟨rfl,b1⟩;have hB:=Below.nx hB b1;obtain ⟨x1,_⟩:=(hX.on hB) 1 _ rfl)
   | (go_at_call 81;refine (he _ (hal.trans (hB.mono hal.size))).mono ?_;rintro e w1 ⟨rfl,b1⟩;have hB:=Below.nx hB b1;skip)
   | fail)
  go_ret
  exact ⟨rfl,hal.trans (hB.mono hal.size)⟩)
set_option maxRecDepth 100000 in
set_option maxHeartbeats 8000000 in
theorem rset_ifc (s0:ByteArray) (tu:TypeId) (ty:Value) (bn be:Bool) (w:World) (hn:∀ w1,Below w.heap.size w w1→Calls Tryz.prog 21 #[.string s0] w1 fun e w'=>e=.returned (.bool bn)∧Below w1.heap.size w1 w') (he:∀ w1,Below w.heap.size w w1→Calls Tryz.prog 81 #[.iface tu ty] w1 fun e w'=>e=.returned (.bool be)∧Below w1.heap.size w1 w'):Calls Tryz.prog 83 #[.agg #[.string s0,.iface tu ty]] w fun e w'=>e=.returned (.bool (bn && be))∧Below w.heap.size w w':=by
 have hal:Below w.heap.size w (w.alloc (.cells #[.string s0,.iface tu ty] 82)):=(Below.refl w.heap.size w).alloc (Nat.le_refl _) _
 have hX:Bn (w.alloc (.cells #[.string s0,.iface tu ty] 82)) w.heap.size [.string s0,.iface tu ty]:=Bn.new w [.string s0,.iface tu ty] 82 _ rfl
 cases bn <;> cases be
 all_goals (
  go_enter Tryz.func83,Tryz.ntmps83
  go_upto_region 1 with fail
  generalize (w.alloc (.cells #[.string s0,.iface tu ty] 82))=wx at *
  have hB:Below wx.heap.size wx wx:=Below.refl _ _
  obtain ⟨x0,_⟩:=hX 0 _ rfl
  obtain ⟨x1,_⟩:=hX 1 _ rfl
  go_wp2_with (first
   | (go_at_call 21;refine (hn _ (hal.trans (hB.mono hal.size))).mono ?_;rintro e w1 ⟨rfl,b1⟩;have hB:=Below.nx hB b1;obtain ⟨x1,_⟩:=(hX.on hB) 1 _ rfl)
   | (go_at_call 81;refine (he _ (hal.trans (hB.mono hal.size))).mono ?_;rintro e w1 ⟨rfl,b1⟩;have hB:=Below.nx hB b1;skip)
   | fail)
  go_ret
  exact ⟨rfl,hal.trans (hB.mono hal.size)⟩)
set_option maxRecDepth 100000 in
set_option maxHeartbeats 8000000 in
theorem everySet_any  {ok:Nat→Prop}{w:World}{l:List (List UInt8 × Sx)}{v:Value}(h:RdK ok w 2 (rSet ok w) l v) (hok:∀ s∈l,SetK s) (hp:Pow w) :
  Calls Tryz.prog 82 #[v,.func (.func 83) #[] #[]] w fun e w'=>e=.returned (.bool (l.all (setF)))∧Below w.heap.size w w':=by
 obtain ⟨a,cap,rfl,hlc,hcm⟩:=h.form
 unfold maxLen at hcm
 have HC:=mkHid h
 have HK:=mkHid hok
 obtain ⟨n,hn⟩:∃ n,l.length=n:=⟨_,rfl⟩
 rw [hn] at hlc ⊢
 have HN:Hid (l.length=n):=hn
 obtain ⟨f,hf⟩:∃ f:(List UInt8 × Sx)→Bool,(setF)=f:=⟨_,rfl⟩
 rw [hf]
 have HF:=mkHid hf
 obtain ⟨V,HA⟩:∃ V,l.all f=V:=⟨_,rfl⟩
 rw [HA]
 have HAA:=mkHid HA
 clear h hok hn hf HA
 go_enter Tryz.func82,Tryz.ntmps82
 go_wp2
 go_loopw [9] (fun ix wr=>∃ (i:Nat),i≤n∧ix=.int .i64 (i:Int)∧Hid (∀ x∈l.take i,f x=true)∧Below w.heap.size w wr) (fun ix _=>n - (RowKit.intOf ix).toNat)
 case atStart=>exact ⟨0,Nat.zero_le _,rfl,(show Hid _ from fun x hx=>by simp at hx),Below.refl _ _⟩
 case round=>
  obtain ⟨i,hi,rfl,hT,hb⟩:=hrel
  by_cases hlt:i < n
  ·have hil:i < l.length:=by rw [HN.out];exact hlt
   have HA:=HAA.out
   obtain ⟨b,off,rfl,hbl,hc⟩:=setQ_at HC.out i hil
   have hks:=HK.out _ (List.getElem_mem hil)
   obtain ⟨q,hq⟩:∃ q,l[i]=q:=⟨_,rfl⟩
   have HQ:=mkHid hq
   rw [hq] at hc hks
   have hfx:f q=(plainB q.1 && exF q.2):=by rw [← HF.out];rfl
   have hnm:=fun w1=>rname_any q.1 w1 hks.1.1
   have hex:=fun w1 hp=>rexp_any hks.1.2 hks.2 w1 hp
   obtain ⟨s0,hs0⟩:∃ s0,sV q.1=.string s0:=⟨_,rfl⟩
   have hform:=exX_form q.2
   obtain ⟨tv,htv⟩:∃ tv,exX q.2=tv:=⟨_,rfl⟩
   rw [hs0,htv] at hc
   rw [hs0] at hnm
   rw [htv] at hform hex
   clear hs0 htv hq hks
   have i1:(i:Int) < (n:Int):=by omega
   have i2:(0:Int)≤(i:Int):=by omega
   have C0:=(hb.cell (p:=⟨b,off+i*2+0,none⟩) hbl).trans (hc 0 _ rfl)
   have C1:=(hb.cell (p:=⟨b,off+i*2+1,none⟩) hbl).trans (hc 1 _ rfl)
   rw [Nat.add_zero] at C0
   clear hc
   rcases hform with rfl | ⟨tu,ty,rfl⟩
   ·have hal:Below wr.heap.size wr (wr.alloc (.cells #[.string s0,.nilIface] 82)):=(Below.refl _ _).alloc (Nat.le_refl _) _
    have hX:Bn (wr.alloc (.cells #[.string s0,.nilIface] 82)) wr.heap.size [.string s0,.nilIface]:=Bn.new wr [.string s0,.nilIface] 82 _ rfl
    have hbx:=hb.trans (hal.mono hb.size)
    have hcall:∀ w1,Below w.heap.size w w1→Calls Tryz.prog 83 #[.agg #[.string s0,.nilIface]] w1 fun e w'=>e=.returned (.bool (f q))∧Below w1.heap.size w1 w':=fun w1 b1=>by
     rw [hfx]
     exact rset_nil s0 _ _ w1 (fun w2 _=>hnm w2) (fun w2 b2=>hex w2 ((hp.below b1).below b2))
    clear hnm hex hfx
    have hac2:Hid (f q=true→(∀ x∈l.take (i+1),f x=true)):=fun hq=>by
     rw [List.take_succ_eq_append_getElem hil,HQ.out]
     intro x hx
     rcases List.mem_append.1 hx with hx | hx
     ·exact hT.out x hx
     ·rw [List.mem_singleton.1 hx];exact hq
    have hall:Hid (f q=false→l.all f=false):=fun hq=>by
     show l.all f=false
     rw [List.all_eq_false]
     exact ⟨q,by rw [← HQ.out];exact List.getElem_mem hil,by rw [hq];decide⟩
    cases hfq:f q with
    | true=>
     rw [hfq] at hcall
     have hT2:Hid (∀ x∈l.take (i+1),f x=true):=hac2.out hfq
     clear hac2 hall hfq
     go_upto_region 4 with fail
     clear C0 C1
     generalize (wr.alloc (.cells #[.string s0,.nilIface] 82))=wx at *
     obtain ⟨x0,_⟩:=hX 0 _ rfl
     obtain ⟨x1,_⟩:=hX 1 _ rfl
     go_wp2_with (first
      | (go_at_call 83;refine (hcall _ hbx).mono ?_;rintro e w1 ⟨rfl,b1⟩)
      | fail)
     have hb2:=hbx.trans (b1.mono hbx.size)
     go_wp2
     go_roundw
     case rel=>exact ⟨i+1,hlt,by go_num,hT2,hb2⟩
     case measure=>simp [RowKit.intOf];omega
    | false=>
     rw [hfq] at hcall
     have hA:=hall.out hfq
     rw [hA] at HA
     subst HA
     clear hac2 hall hfq hA
     go_upto_region 4 with fail
     clear C0 C1
     generalize (wr.alloc (.cells #[.string s0,.nilIface] 82))=wx at *
     obtain ⟨x0,_⟩:=hX 0 _ rfl
     obtain ⟨x1,_⟩:=hX 1 _ rfl
     go_wp2_with (first
      | (go_at_call 83;refine (hcall _ hbx).mono ?_;rintro e w1 ⟨rfl,b1⟩)
      | fail)
     go_ret
     exact ⟨rfl,hbx.trans (b1.mono hbx.size)⟩
   ·have hal:Below wr.heap.size wr (wr.alloc (.cells #[.string s0,.iface tu ty] 82)):=(Below.refl _ _).alloc (Nat.le_refl _) _
    have hX:Bn (wr.alloc (.cells #[.string s0,.iface tu ty] 82)) wr.heap.size [.string s0,.iface tu ty]:=Bn.new wr [.string s0,.iface tu ty] 82 _ rfl
    have hbx:=hb.trans (hal.mono hb.size)
    have hcall:∀ w1,Below w.heap.size w w1→Calls Tryz.prog 83 #[.agg #[.string s0,.iface tu ty]] w1 fun e w'=>e=.returned (.bool (f q))∧Below w1.heap.size w1 w':=fun w1 b1=>by
     rw [hfx]
     exact rset_ifc s0 tu ty _ _ w1 (fun w2 _=>hnm w2) (fun w2 b2=>hex w2 ((hp.below b1).below b2))
    clear hnm hex hfx
    have hac2:Hid (f q=true→(∀ x∈l.take (i+1),f x=true)):=fun hq=>by
     rw [List.take_succ_eq_append_getElem hil,HQ.out]
     intro x hx
     rcases List.mem_append.1 hx with hx | hx
     ·exact hT.out x hx
     ·rw [List.mem_singleton.1 hx];exact hq
    have hall:Hid (f q=false→l.all f=false):=fun hq=>by
     show l.all f=false
     rw [List.all_eq_false]
     exact ⟨q,by rw [← HQ.out];exact List.getElem_mem hil,by rw [hq];decide⟩
    cases hfq:f q with
    | true=>
     rw [hfq] at hcall
     have hT2:Hid (∀ x∈l.take (i+1),f x=true):=hac2.out hfq
     clear hac2 hall hfq
     go_upto_region 4 with fail
     clear C0 C1
     generalize (wr.alloc (.cells #[.string s0,.iface tu ty] 82))=wx at *
     obtain ⟨x0,_⟩:=hX 0 _ rfl
     obtain ⟨x1,_⟩:=hX 1 _ rfl
     go_wp2_with (first
      | (go_at_call 83;refine (hcall _ hbx).mono ?_;rintro e w1 ⟨rfl,b1⟩)
      | fail)
     have hb2:=hbx.trans (b1.mono hbx.size)
     go_wp2
     go_roundw
     case rel=>exact ⟨i+1,hlt,by go_num,hT2,hb2⟩
     case measure=>simp [RowKit.intOf];omega
    | false=>
     rw [hfq] at hcall
     have hA:=hall.out hfq
     rw [hA] at HA
     subst HA
     clear hac2 hall hfq hA
     go_upto_region 4 with fail
     clear C0 C1
     generalize (wr.alloc (.cells #[.string s0,.iface tu ty] 82))=wx at *
     obtain ⟨x0,_⟩:=hX 0 _ rfl
     obtain ⟨x1,_⟩:=hX 1 _ rfl
     go_wp2_with (first
      | (go_at_call 83;refine (hcall _ hbx).mono ?_;rintro e w1 ⟨rfl,b1⟩)
      | fail)
     go_ret
     exact ⟨rfl,hbx.trans (b1.mono hbx.size)⟩
  ·have i1:¬ (i:Int) < (n:Int):=by omega
   have hV:V=true:=by
    rw [← HAA.out,List.all_eq_true]
    have hf:=hT.out
    rw [List.take_of_length_le (by rw [HN.out];omega)] at hf
    exact hf
   subst hV
   go_wp2
   go_ret
   exact ⟨rfl,hb⟩
def OnK (o:OnC):Prop:=o.1.length≤140737488351232∧o.2.2.1.length≤140737488351232∧(o.2.1.1=true→ExOk o.2.1.2∧cntX o.2.1.2≤1000∧exX o.2.1.2≠.nilIface)∧∀ s∈o.2.2.2.1,SetK s
theorem sV_out (s:List UInt8) (h:s.length≤140737488351232):∃ e:ByteArray,sV s=.string e∧bl e=s∧e.size≤140737488351232:=⟨⟨s.toArray⟩,rfl,by unfold bl;simp,by show s.toArray.size≤_;simpa using h⟩
theorem rnameB (s:ByteArray) (w:World) (hs:s.size≤140737488351232):Calls Tryz.prog 21 #[.string s] w fun e w'=>e=.returned (.bool (plainB (bl s)))∧Below w.heap.size w w':=by
 have h:=rname_any (bl s) w (by unfold bl;simpa using hs)
 have e:sV (bl s)=.string s:=by unfold sV bl;simp
 rw [e] at h
 exact h
theorem rgrd_any {o:OnC}(h:OnK o):(gdV o.2.1=.nilIface∧(!o.2.1.1 || exF o.2.1.2)=true)∨∃ gu gy,gdV o.2.1=.iface gu gy∧∀ w,Pow w→Calls Tryz.prog 81 #[.iface gu gy] w fun e w'=>e=.returned (.bool (!o.2.1.1 || exF o.2.1.2))∧Below w.heap.size w w':=by
 cases hb:o.2.1.1 with
 | false=>
  left
  refine ⟨?_,rfl⟩
  unfold gdV;rw [hb];rfl
 | true=>
  right
  obtain ⟨h1,h2,h3⟩:=h.2.2.1 hb
  have hg:gdV o.2.1=exX o.2.1.2:=by unfold gdV;rw [hb];rfl
  rw [hg]
  rcases exX_form o.2.1.2 with h4 | ⟨u,y,h4⟩
  ·exact absurd h4 h3
  ·refine ⟨u,y,h4,fun w hw=>?_⟩
   have:=rexp_any h1 h2 w hw
   rw [h4] at this
   exact this
set_option maxRecDepth 100000 in
set_option maxHeartbeats 8000000 in
theorem ron_nil (ev tg:ByteArray) (ol oc:Int) (s1:Option Addr) (ns s3:Nat) (bq:Bool) (w:World) (hev:ev.size≤140737488351232) (htg:tg.size≤140737488351232) (hq:∀ w1,Below w.heap.size w w1→Calls Tryz.prog 82 #[.slice s1 ns s3,.func (.func 83) #[] #[]] w1 fun e w'=>e=.returned (.bool bq)∧Below w1.heap.size w1 w'):Calls Tryz.prog 46 #[.agg #[.string ev,.nilIface,.string tg,.slice s1 ns s3,.int .i64 ol,.int .i64 oc]] w fun e w'=>e=.returned (.bool (plainB (bl ev) && ((plainB (bl tg) && bq))))∧Below w.heap.size w w':=by
 have hal:Below w.heap.size w (w.alloc (.cells #[.string ev,.nilIface,.string tg,.slice s1 ns s3,.int .i64 ol,.int .i64 oc] 79)):=(Below.refl w.heap.size w).alloc (Nat.le_refl _) _
 have hX:Bn (w.alloc (.cells #[.string ev,.nilIface,.string tg,.slice s1 ns s3,.int .i64 ol,.int .i64 oc] 79)) w.heap.size [.string ev,.nilIface,.string tg,.slice s1 ns s3,.int .i64 ol,.int .i64 oc]:=Bn.new w [.string ev,.nilIface,.string tg,.slice s1 ns s3,.int .i64 ol,.int .i64 oc] 79 _ rfl
 cases h1:plainB (bl ev) <;> cases h2:plainB (bl tg) <;> cases bq
 all_goals (
  go_enter Tryz.func46,Tryz.ntmps46
  go_upto_region 1 with fail
  generalize (w.alloc (.cells #[.string ev,.nilIface,.string tg,.slice s1 ns s3,.int .i64 ol,.int .i64 oc] 79))=wx at *
  have hB:Below wx.heap.size wx wx:=Below.refl _ _
  obtain ⟨x0,_⟩:=hX 0 _ rfl
  obtain ⟨x1,_⟩:=hX 1 _ rfl
  obtain ⟨x2,_⟩:=hX 2 _ rfl
  obtain ⟨x3,_⟩:=hX 3 _ rfl
  obtain ⟨x4,_⟩:=hX 4 _ rfl
  obtain ⟨x5,_⟩:=hX 5 _ rfl
  go_wp2_with (first
   | (go_at_call 21;refine (rnameB _ _ (by assumption)).mono ?_;rintro e w1 ⟨rfl,b1⟩;simp only [h1,h2];have hB:=Below.nx hB b1;obtain ⟨x1,_⟩:=(hX.on hB) 1 _ rfl;obtain ⟨x2,_⟩:=(hX.on hB) 2 _ rfl;obtain ⟨x3,_⟩:=(hX.on hB) 3 _ rfl)
   | (go_at_call 82;refine (hq _ (hal.trans (hB.mono hal.size))).mono ?_;rintro e w1 ⟨rfl,b1⟩;have hB:=Below.nx hB b1;skip)
   | fail)
  go_ret
  exact ⟨rfl,hal.trans (hB.mono hal.size)⟩)
set_option maxRecDepth 100000 in
set_option maxHeartbeats 8000000 in
theorem ron_ifc (ev tg:ByteArray) (gu:TypeId) (gy:Value) (ol oc:Int) (s1:Option Addr) (ns s3:Nat) (be bq:Bool) (w:World) (hev:ev.size≤140737488351232) (htg:tg.size≤140737488351232) (he:∀ w1,Below w.heap.size w w1→Calls Tryz.prog 81 #[.iface gu gy] w1 fun e w'=>e=.returned (.bool be)∧Below w1.heap.size w1 w') (hq:∀ w1,Below w.heap.size w w1→Calls Tryz.prog 82 #[.slice s1 ns s3,.func (.func 83) #[] #[]] w1 fun e w'=>e=.returned (.bool bq)∧Below w1.heap.size w1 w'):Calls Tryz.prog 46 #[.agg #[.string ev,.iface gu gy,.string tg,.slice s1 ns s3,.int .i64 ol,.int .i64 oc]] w fun e w'=>e=.returned (.bool (plainB (bl ev) && (be && (plainB (bl tg) && bq))))∧Below w.heap.size w w':=by
 have hal:Below w.heap.size w (w.alloc (.cells #[.string ev,.iface gu gy,.string tg,.slice s1 ns s3,.int .i64 ol,.int .i64 oc] 79)):=(Below.refl w.heap.size w).alloc (Nat.le_refl _) _
 have hX:Bn (w.alloc (.cells #[.string ev,.iface gu gy,.string tg,.slice s1 ns s3,.int .i64 ol,.int .i64 oc] 79)) w.heap.size [.string ev,.iface gu gy,.string tg,.slice s1 ns s3,.int .i64 ol,.int .i64 oc]:=Bn.new w [.string ev,.iface gu gy,.string tg,.slice s1 ns s3,.int .i64 ol,.int .i64 oc] 79 _ rfl
 cases h1:plainB (bl ev) <;> cases h2:plainB (bl tg) <;> cases bq <;> cases be
 all_goals (
  go_enter Tryz.func46,Tryz.ntmps46
  go_upto_region 1 with fail
  generalize (w.alloc (.cells #[.string ev,.iface gu gy,.string tg,.slice s1 ns s3,.int .i64 ol,.int .i64 oc] 79))=wx at *
  have hB:Below wx.heap.size wx wx:=Below.refl _ _
  obtain ⟨x0,_⟩:=hX 0 _ rfl
  obtain ⟨x1,_⟩:=hX 1 _ rfl
  obtain ⟨x2,_⟩:=hX 2 _ rfl
  obtain ⟨x3,_⟩:=hX 3 _ rfl
  obtain ⟨x4,_⟩:=hX 4 _ rfl
  obtain ⟨x5,_⟩:=hX 5 _ rfl
  go_wp2_with (first
   | (go_at_call 21;refine (rnameB _ _ (by assumption)).mono ?_;rintro e w1 ⟨rfl,b1⟩;simp only [h1,h2];have hB:=Below.nx hB b1;obtain ⟨x1,_⟩:=(hX.on hB) 1 _ rfl;obtain ⟨x2,_⟩:=(hX.on hB) 2 _ rfl;obtain ⟨x3,_⟩:=(hX.on hB) 3 _ rfl)
   | (go_at_call 81;refine (he _ (hal.trans (hB.mono hal.size))).mono ?_;rintro e w1 ⟨rfl,b1⟩;have hB:=Below.nx hB b1;obtain ⟨x2,_⟩:=(hX.on hB) 2 _ rfl;obtain ⟨x3,_⟩:=(hX.on hB) 3 _ rfl)
   | (go_at_call 82;refine (hq _ (hal.trans (hB.mono hal.size))).mono ?_;rintro e w1 ⟨rfl,b1⟩;have hB:=Below.nx hB b1;skip)
   | fail)
  go_ret
  exact ⟨rfl,hal.trans (hB.mono hal.size)⟩)
set_option maxRecDepth 100000 in
set_option maxHeartbeats 8000000 in
theorem everyOn_any  {ok:Nat→Prop}{w:World}{l:List (OnC)}{v:Value}(h:RdK ok w 6 (rOn ok w) l v) (hok:∀ s∈l,OnK s) (hp:Pow w) :
  Calls Tryz.prog 45 #[v,.func (.func 46) #[] #[]] w fun e w'=>e=.returned (.bool (l.all (onF)))∧Below w.heap.size w w':=by
 obtain ⟨a,cap,rfl,hlc,hcm⟩:=h.form
 unfold maxLen at hcm
 have HC:=mkHid h
 have HK:=mkHid hok
 obtain ⟨n,hn⟩:∃ n,l.length=n:=⟨_,rfl⟩
 rw [hn] at hlc ⊢
 have HN:Hid (l.length=n):=hn
 obtain ⟨f,hf⟩:∃ f:(OnC)→Bool,(onF)=f:=⟨_,rfl⟩
 rw [hf]
 have HF:=mkHid hf
 obtain ⟨V,HA⟩:∃ V,l.all f=V:=⟨_,rfl⟩
 rw [HA]
 have HAA:=mkHid HA
 clear h hok hn hf HA
 go_enter Tryz.func45,Tryz.ntmps45
 go_wp2
 go_loopw [9] (fun ix wr=>∃ (i:Nat),i≤n∧ix=.int .i64 (i:Int)∧Hid (∀ x∈l.take i,f x=true)∧Below w.heap.size w wr) (fun ix _=>n - (RowKit.intOf ix).toNat)
 case atStart=>exact ⟨0,Nat.zero_le _,rfl,(show Hid _ from fun x hx=>by simp at hx),Below.refl _ _⟩
 case round=>
  obtain ⟨i,hi,rfl,hT,hb⟩:=hrel
  by_cases hlt:i < n
  ·have hil:i < l.length:=by rw [HN.out];exact hlt
   have HA:=HAA.out
   obtain ⟨b,off,s1,s3,rfl,hbl,hSe,hc⟩:=onQ_at HC.out i hil
   have hko:=HK.out _ (List.getElem_mem hil)
   obtain ⟨q,ho⟩:∃ o,l[i]=o:=⟨_,rfl⟩
   have HQ:=mkHid ho
   rw [ho] at hSe hc hko
   obtain ⟨ns,hns⟩:∃ m,q.2.2.2.1.length=m:=⟨_,rfl⟩
   rw [hns] at hSe hc
   have hgd:=rgrd_any hko
   obtain ⟨ev,hev,hevb,hevs⟩:=sV_out q.1 hko.1
   obtain ⟨tg,htg,htgb,htgs⟩:=sV_out q.2.2.1 hko.2.1
   have hfx:f q=(plainB (bl ev) && ((!q.2.1.1 || exF q.2.1.2) && (plainB (bl tg) && q.2.2.2.1.all setF))):=by rw [← HF.out,hevb,htgb];rfl
   obtain ⟨gv,hgv⟩:∃ gv,gdV q.2.1=gv:=⟨_,rfl⟩
   obtain ⟨be,hbe⟩:∃ be,(!q.2.1.1 || exF q.2.1.2)=be:=⟨_,rfl⟩
   obtain ⟨ol,oc,hov⟩:∃ ol oc,onV q=fun sl=>[sV q.1,gdV q.2.1,sV q.2.2.1,sl,.int .i64 ol,.int .i64 oc]:=⟨_,_,rfl⟩
   rw [hov] at hc
   rw [hev,htg,hgv] at hc
   rw [hgv,hbe] at hgd
   rw [hbe] at hfx
   have HSE:=mkHid hSe
   have HKO:=mkHid hko
   clear ho hns hgv hov hSe hko hev htg hevb htgb hbe
   have i1:(i:Int) < (n:Int):=by omega
   have i2:(0:Int)≤(i:Int):=by omega
   have C0:=(hb.cell (p:=⟨b,off+i*6+0,none⟩) hbl).trans (hc 0 _ rfl)
   have C1:=(hb.cell (p:=⟨b,off+i*6+1,none⟩) hbl).trans (hc 1 _ rfl)
   have C2:=(hb.cell (p:=⟨b,off+i*6+2,none⟩) hbl).trans (hc 2 _ rfl)
   have C3:=(hb.cell (p:=⟨b,off+i*6+3,none⟩) hbl).trans (hc 3 _ rfl)
   have C4:=(hb.cell (p:=⟨b,off+i*6+4,none⟩) hbl).trans (hc 4 _ rfl)
   have C5:=(hb.cell (p:=⟨b,off+i*6+5,none⟩) hbl).trans (hc 5 _ rfl)
   rw [Nat.add_zero] at C0
   clear hc
   rcases hgd with ⟨rfl,rfl⟩ | ⟨gu,gy,rfl,hex⟩
   ·have hal:Below wr.heap.size wr (wr.alloc (.cells #[.string ev,.nilIface,.string tg,.slice s1 ns s3,.int .i64 ol,.int .i64 oc] 79)):=(Below.refl _ _).alloc (Nat.le_refl _) _
    have hX:Bn (wr.alloc (.cells #[.string ev,.nilIface,.string tg,.slice s1 ns s3,.int .i64 ol,.int .i64 oc] 79)) wr.heap.size [.string ev,.nilIface,.string tg,.slice s1 ns s3,.int .i64 ol,.int .i64 oc]:=Bn.new wr [.string ev,.nilIface,.string tg,.slice s1 ns s3,.int .i64 ol,.int .i64 oc] 79 _ rfl
    have hbx:=hb.trans (hal.mono hb.size)
    have hcall:∀ w1,Below w.heap.size w w1→Calls Tryz.prog 46 #[.agg #[.string ev,.nilIface,.string tg,.slice s1 ns s3,.int .i64 ol,.int .i64 oc]] w1 fun e w'=>e=.returned (.bool (f q))∧Below w1.heap.size w1 w':=fun w1 b1=>by
     rw [hfx]
     exact ron_nil ev tg ol oc s1 ns s3 _ w1 hevs htgs (fun w2 b2=>everySet_any (HSE.out.stay kp_set (ok':=ok) (fun b hb hl=>⟨hb,((b2.block b (Nat.lt_of_lt_of_le hl b1.size)).trans (b1.block b hl))⟩)) HKO.out.2.2.2 ((hp.below b1).below b2))
    clear hfx hevs htgs
    have hac2:Hid (f q=true→(∀ x∈l.take (i+1),f x=true)):=fun hq=>by
     rw [List.take_succ_eq_append_getElem hil,HQ.out]
     intro x hx
     rcases List.mem_append.1 hx with hx | hx
     ·exact hT.out x hx
     ·rw [List.mem_singleton.1 hx];exact hq
    have hall:Hid (f q=false→l.all f=false):=fun hq=>by
     show l.all f=false
     rw [List.all_eq_false]
     exact ⟨q,by rw [← HQ.out];exact List.getElem_mem hil,by rw [hq];decide⟩
    cases hfq:f q with
    | true=>
     rw [hfq] at hcall
     have hT2:Hid (∀ x∈l.take (i+1),f x=true):=hac2.out hfq
     clear hac2 hall hfq
     go_upto_region 4 with fail
     clear C0 C1 C2 C3 C4 C5
     generalize (wr.alloc (.cells #[.string ev,.nilIface,.string tg,.slice s1 ns s3,.int .i64 ol,.int .i64 oc] 79))=wx at *
     obtain ⟨x0,_⟩:=hX 0 _ rfl
     obtain ⟨x1,_⟩:=hX 1 _ rfl
     obtain ⟨x2,_⟩:=hX 2 _ rfl
     obtain ⟨x3,_⟩:=hX 3 _ rfl
     obtain ⟨x4,_⟩:=hX 4 _ rfl
     obtain ⟨x5,_⟩:=hX 5 _ rfl
     go_wp2_with (first
      | (go_at_call 46;refine (hcall _ hbx).mono ?_;rintro e w1 ⟨rfl,b1⟩)
      | fail)
     have hb2:=hbx.trans (b1.mono hbx.size)
     go_wp2
     go_roundw
     case rel=>exact ⟨i+1,hlt,by go_num,hT2,hb2⟩
     case measure=>simp [RowKit.intOf];omega
    | false=>
     rw [hfq] at hcall
     have hA:=hall.out hfq
     rw [hA] at HA
     subst HA
     clear hac2 hall hfq hA
     go_upto_region 4 with fail
     clear C0 C1 C2 C3 C4 C5
     generalize (wr.alloc (.cells #[.string ev,.nilIface,.string tg,.slice s1 ns s3,.int .i64 ol,.int .i64 oc] 79))=wx at *
     obtain ⟨x0,_⟩:=hX 0 _ rfl
     obtain ⟨x1,_⟩:=hX 1 _ rfl
     obtain ⟨x2,_⟩:=hX 2 _ rfl
     obtain ⟨x3,_⟩:=hX 3 _ rfl
     obtain ⟨x4,_⟩:=hX 4 _ rfl
     obtain ⟨x5,_⟩:=hX 5 _ rfl
     go_wp2_with (first
      | (go_at_call 46;refine (hcall _ hbx).mono ?_;rintro e w1 ⟨rfl,b1⟩)
      | fail)
     go_ret
     exact ⟨rfl,hbx.trans (b1.mono hbx.size)⟩
   ·have hal:Below wr.heap.size wr (wr.alloc (.cells #[.string ev,.iface gu gy,.string tg,.slice s1 ns s3,.int .i64 ol,.int .i64 oc] 79)):=(Below.refl _ _).alloc (Nat.le_refl _) _
    have hX:Bn (wr.alloc (.cells #[.string ev,.iface gu gy,.string tg,.slice s1 ns s3,.int .i64 ol,.int .i64 oc] 79)) wr.heap.size [.string ev,.iface gu gy,.string tg,.slice s1 ns s3,.int .i64 ol,.int .i64 oc]:=Bn.new wr [.string ev,.iface gu gy,.string tg,.slice s1 ns s3,.int .i64 ol,.int .i64 oc] 79 _ rfl
    have hbx:=hb.trans (hal.mono hb.size)
    have hcall:∀ w1,Below w.heap.size w w1→Calls Tryz.prog 46 #[.agg #[.string ev,.iface gu gy,.string tg,.slice s1 ns s3,.int .i64 ol,.int .i64 oc]] w1 fun e w'=>e=.returned (.bool (f q))∧Below w1.heap.size w1 w':=fun w1 b1=>by
     rw [hfx]
     exact ron_ifc ev tg gu gy ol oc s1 ns s3 _ _ w1 hevs htgs (fun w2 b2=>hex w2 ((hp.below b1).below b2)) (fun w2 b2=>everySet_any (HSE.out.stay kp_set (ok':=ok) (fun b hb hl=>⟨hb,((b2.block b (Nat.lt_of_lt_of_le hl b1.size)).trans (b1.block b hl))⟩)) HKO.out.2.2.2 ((hp.below b1).below b2))
    clear hfx hevs htgs hex
    have hac2:Hid (f q=true→(∀ x∈l.take (i+1),f x=true)):=fun hq=>by
     rw [List.take_succ_eq_append_getElem hil,HQ.out]
     intro x hx
     rcases List.mem_append.1 hx with hx | hx
     ·exact hT.out x hx
     ·rw [List.mem_singleton.1 hx];exact hq
    have hall:Hid (f q=false→l.all f=false):=fun hq=>by
     show l.all f=false
     rw [List.all_eq_false]
     exact ⟨q,by rw [← HQ.out];exact List.getElem_mem hil,by rw [hq];decide⟩
    cases hfq:f q with
    | true=>
     rw [hfq] at hcall
     have hT2:Hid (∀ x∈l.take (i+1),f x=true):=hac2.out hfq
     clear hac2 hall hfq
     go_upto_region 4 with fail
     clear C0 C1 C2 C3 C4 C5
     generalize (wr.alloc (.cells #[.string ev,.iface gu gy,.string tg,.slice s1 ns s3,.int .i64 ol,.int .i64 oc] 79))=wx at *
     obtain ⟨x0,_⟩:=hX 0 _ rfl
     obtain ⟨x1,_⟩:=hX 1 _ rfl
     obtain ⟨x2,_⟩:=hX 2 _ rfl
     obtain ⟨x3,_⟩:=hX 3 _ rfl
     obtain ⟨x4,_⟩:=hX 4 _ rfl
     obtain ⟨x5,_⟩:=hX 5 _ rfl
     go_wp2_with (first
      | (go_at_call 46;refine (hcall _ hbx).mono ?_;rintro e w1 ⟨rfl,b1⟩)
      | fail)
     have hb2:=hbx.trans (b1.mono hbx.size)
     go_wp2
     go_roundw
     case rel=>exact ⟨i+1,hlt,by go_num,hT2,hb2⟩
     case measure=>simp [RowKit.intOf];omega
    | false=>
     rw [hfq] at hcall
     have hA:=hall.out hfq
     rw [hA] at HA
     subst HA
     clear hac2 hall hfq hA
     go_upto_region 4 with fail
     clear C0 C1 C2 C3 C4 C5
     generalize (wr.alloc (.cells #[.string ev,.iface gu gy,.string tg,.slice s1 ns s3,.int .i64 ol,.int .i64 oc] 79))=wx at *
     obtain ⟨x0,_⟩:=hX 0 _ rfl
     obtain ⟨x1,_⟩:=hX 1 _ rfl
     obtain ⟨x2,_⟩:=hX 2 _ rfl
     obtain ⟨x3,_⟩:=hX 3 _ rfl
     obtain ⟨x4,_⟩:=hX 4 _ rfl
     obtain ⟨x5,_⟩:=hX 5 _ rfl
     go_wp2_with (first
      | (go_at_call 46;refine (hcall _ hbx).mono ?_;rintro e w1 ⟨rfl,b1⟩)
      | fail)
     go_ret
     exact ⟨rfl,hbx.trans (b1.mono hbx.size)⟩
  ·have i1:¬ (i:Int) < (n:Int):=by omega
   have hV:V=true:=by
    rw [← HAA.out,List.all_eq_true]
    have hf:=hT.out
    rw [List.take_of_length_le (by rw [HN.out];omega)] at hf
    exact hf
   subst hV
   go_wp2
   go_ret
   exact ⟨rfl,hb⟩
end Go.Proofs.YtlgnahpfggagoaaGreatDoor
