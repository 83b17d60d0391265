import Derived.Test.YtlgnahpfggagoaaGreatDoorWzc22
import Derived.Test.YtlgnahpfggagoaaGreatDoorWzc18
import Derived.Test.YtlgnahpfggagoaaGreatDoorRows
import Derived.Lib.LaidU8
import Derived.Lib.LaidTab
import Derived.MakeChecks
import Derived.Test.YtlgnahpfggagoaaGreatDoorWzc09
import Derived.Test.YtlgnahpfggagoaaGreatDoorWzc01
import Derived.ProofKit
import Derived.OpenShut
import Derived.ShutString
import Derived.ChangeOld
import Derived.SizedLaws
import Derived.Below
/- A row of states, and one state more behind a copy of it. -/
namespace Go.Proofs.YtlgnahpfggagoaaGreatDoor
open Go.RowKit Go.Lib
set_option linter.unusedSimpArgs false
set_option linter.unusedVariables false
/-- All the cells of a row, from off on. -/
def rowK (w:World) (b off m:Nat):List Value:=(List.range m).map (fun k=>(w.cell? ⟨b,off+k,none⟩).getD .nilIface)
theorem rowK_len (w:World) (b off m:Nat):(rowK w b off m).length=m:=by simp [rowK]
theorem rowK_at {w:World}{b off m k:Nat}{u:Value}(hk:k < m) (h:w.cell? ⟨b,off+k,none⟩=some u):(rowK w b off m)[k]?=some u:=by
 simp [rowK,hk,h]
theorem stD_one:∀ {d:Nat}{ok:Nat→Prop}{w:World}{t:St d}{cs:List Value},rStD d ok w t cs→∀ u∈cs,u.oneCell'=true
 | 0,_,_,t,_,_=>Empty.elim t
 | d+1,_,_,t,_,h=>by
  obtain ⟨so,si,rfl,h2,h3⟩:=h
  obtain ⟨a,c,rfl,_⟩:=h2.form
  obtain ⟨a',c',rfl,_⟩:=h3.form
  intro u hu
  simp only [hdD,List.mem_cons,List.not_mem_nil,or_false] at hu
  rcases hu with rfl | rfl | rfl | rfl | rfl | rfl | rfl | rfl | rfl | rfl | rfl <;> rfl
theorem rowK_is {ok:Nat→Prop}{w:World}{d:Nat}{l:List (St d)}{b off n c:Nat}(h:RdK ok w 11 (rStD d ok w) l (.slice (some ⟨b,off,none⟩) n c)) (i:Nat) (hi:i < l.length) :
  ∃ cs:List Value,cs.length=11∧rStD d ok w l[i] cs∧b < w.heap.size∧∀ j u,cs[j]?=some u→w.cell? ⟨b,off+(i*11+j),none⟩=some u∧(rowK w b off (l.length*11))[i*11+j]?=some u:=by
 obtain ⟨b',off',cs,ha,_,hb,hl,hr,hc⟩:=rdK_at h i hi
 simp only [Option.some.injEq,Addr.mk.injEq,and_true] at ha
 obtain ⟨rfl,rfl⟩:=ha
 refine ⟨cs,hl,hr,hb,fun j u hu=>?_⟩
 have hj:j < 11:=by
  have:=(List.getElem?_eq_some_iff.1 hu).1
  omega
 have h1:=hc j u hu
 rw [Nat.add_assoc] at h1
 exact ⟨h1,rowK_at (by omega) h1⟩
theorem rowK_of {ok:Nat→Prop}{w:World}{d:Nat}{l:List (St d)}{b off n c:Nat}(h:RdK ok w 11 (rStD d ok w) l (.slice (some ⟨b,off,none⟩) n c)) (k:Nat) (u:Value) (hu:(rowK w b off (l.length*11))[k]?=some u) :
  u.oneCell'=true∧b < w.heap.size∧w.cell? ⟨b,off+k,none⟩=some u:=by
 have hk:k < l.length*11:=by
  have:=(List.getElem?_eq_some_iff.1 hu).1
  rwa [rowK_len] at this
 have hi:k / 11 < l.length:=by omega
 obtain ⟨cs,hl,hr,hb,hc⟩:=rowK_is h (k / 11) hi
 have hj:k % 11 < cs.length:=by omega
 obtain ⟨h1,h2⟩:=hc (k % 11) cs[k % 11] (List.getElem?_eq_getElem hj)
 have e:k / 11*11+k % 11=k:=by omega
 rw [e] at h1 h2
 rw [h2] at hu
 obtain rfl:=Option.some.inj hu
 exact ⟨stD_one hr _ (List.getElem_mem hj),hb,h1⟩
theorem rowK_src {ok:Nat→Prop}{w W:World}{d:Nat}{l:List (St d)}{b off n c:Nat}(h:RdK ok w 11 (rStD d ok w) l (.slice (some ⟨b,off,none⟩) n c)) (hn:n=l.length) (hB:Below w.heap.size w W) :
  Src Tryz.prog 11 25 (.slice (some ⟨b,off,none⟩) n c) n (rowK w b off (n*11)) W:=by
 subst hn
 refine Src.ofSlice W Tryz.underlying25 _ _ c _ (rowK_len ..) (fun j u hu=>?_) (fun u hu=>?_)
 ·obtain ⟨_,hb,h1⟩:=rowK_of h j u hu
  rw [add_plain]
  exact (hB.cell (p:=⟨b,off+j,none⟩) hb).trans h1
 ·obtain ⟨k,hk,rfl⟩:=List.getElem_of_mem hu
  exact (rowK_of h k _ (List.getElem?_eq_getElem hk)).1
/-- The cells of the state more. -/
def twV (nm:ByteArray):List Value:=[.string nm,.int .i64 99,.int .i64 9,.bool false,.bool true,.string ⟨#[]⟩,.string ⟨#[]⟩,.int .i64 0,.int .i64 0,.slice none 0 0,.slice none 0 0]
theorem twV_rd (w:World) (e:Nat) (nm:List UInt8):rStD (e+1) (fun _=>True) w (twT e nm) (twV ⟨nm.toArray⟩):=⟨.slice none 0 0,.slice none 0 0,rfl,rdK_none _ _ _ _,rdK_none _ _ _ _⟩
theorem twV_one (nm:ByteArray):∀ u∈twV nm,u.oneCell'=true:=by
 intro u hu
 simp only [twV,List.mem_cons,List.not_mem_nil,or_false] at hu
 rcases hu with rfl | rfl | rfl | rfl | rfl | rfl | rfl | rfl | rfl | rfl | rfl <;> rfl
theorem row_more {w W:World}{d:Nat}{l:List (St d)}{t:St d}{cx:List Value}{b off n c base m vc:Nat}{va:Option Addr}(h:RdK (fun _=>True) w 11 (rStD d (fun _=>True) w) l (.slice (some ⟨b,off,none⟩) n c)) (hn:n=l.length) (hB:Below w.heap.size w W)
  (ho:W.ownsRow base 40 11 (.slice va m vc) (n+1) (rowK w b off (n*11)++cx)) (hm:m=n+1) (hcx:cx.length=11) (ht:rStD d (fun _=>True) W t cx):RdK (fun _=>True) W 11 (rStD d (fun _=>True) W) (l++[t]) (.slice va m vc):=by
 subst hn hm
 have hc:=fun g=>World.ownsRow.cells ho (g:=g)
 rcases ho.2 with ⟨_,h0⟩ | ⟨g,cap,cur,he,hb,hg,hnc,hcm,hcs,htake⟩
 ·omega
 ·simp only [Value.slice.injEq] at he
  obtain ⟨rfl,_,rfl⟩:=he
  have hgl:g < W.heap.size:=(Array.getElem?_eq_some_iff.1 hg).1
  have hrl:=rowK_len w b off (l.length*11)
  refine ⟨some ⟨g,0,none⟩,vc,by rw [List.length_append];rfl,by rw [List.length_append];exact hnc,hcm,fun i hi=>?_⟩
  by_cases hil:i < l.length
  ·obtain ⟨cs,hl,hr,hbl,hcell⟩:=rowK_is h i hil
   refine ⟨g,0,cs,rfl,trivial,hgl,hl,?_,fun j u hu=>?_⟩
   ·rw [List.getElem_append_left hil]
    exact kp_stD d hr (fun k _ hk=>⟨trivial,hB.block k hk⟩)
   ·have hk:=(hcell j u hu).2
    have hkl:=(List.getElem?_eq_some_iff.1 hk).1
    have:=hc g rfl (i*11+j) u (by rw [List.getElem?_append_left hkl];exact hk)
    rw [add_plain] at this
    simpa using this
  ·have hie:i=l.length:=by simp at hi;omega
   subst hie
   refine ⟨g,0,cx,rfl,trivial,hgl,hcx,by simpa using ht,fun j u hu=>?_⟩
   have:=hc g rfl (l.length*11+j) u (by rw [List.getElem?_append_right (by rw [hrl];omega),hrl,Nat.add_sub_cancel_left];exact hu)
   rw [add_plain] at this
   simpa using this
theorem Tryz.infoDst:(Tryz.prog.info? 40).map (fun i=>(i.zero,i.size,i.bytes))=some (some (.agg #[.string ⟨#[]⟩,.int .i64 0,.int .i64 0,.bool false,.bool false,.string ⟨#[]⟩,.string ⟨#[]⟩,.int .i64 0,.int .i64 0,.slice none 0 0,.slice none 0 0]),11,136):=by kernel_rfl
end Go.Proofs.YtlgnahpfggagoaaGreatDoor
/- CheckTwice: a state more of a name that is there is refused, at it, where it isn't one too many. -/
namespace Go.Proofs.YtlgnahpfggagoaaGreatDoor
open Go.RowKit Go.Lib
set_option linter.unusedSimpArgs false
set_option linter.unusedVariables false
attribute [local go_sem ↓] Go.wp_at_zero Go.wp_at_succ
theorem own0 (w:World) (e:TypeId) (k base n:Nat) (hn:n=w.heap.size) (hb:base≤n):(w.alloc (.cells #[] e)).ownsRow base e k (.slice (some ⟨n,0,none⟩) 0 0) 0 []:=by
 subst hn
 exact ⟨by simp,.inr ⟨w.heap.size,0,#[],rfl,hb,heap_alloc_new w _,by simp,by simp [maxLen],by simp,by simp⟩⟩
theorem ownK_form {w:World}{base e k n:Nat}{v:Value}{xs:List Value}(h:w.ownsRow base e k v n xs):∃ a c,v=.slice a n c:=by
 rcases h.2 with ⟨h1,h2⟩ | ⟨g,cap,cur,h1,_⟩
 ·exact ⟨none,0,by rw [h1,h2]⟩
 ·exact ⟨_,_,h1⟩
theorem ownK_on {w w':World}{base e k n:Nat}{v:Value}{xs:List Value}(h:w.ownsRow base e k v n xs) (hb:Below w.heap.size w w'):w'.ownsRow base e k v n xs:=ownsRow_keep h (fun g hg=>hb.block g (ownsRow_lt h g hg).2)
theorem cell_alk {w:World}{p:Addr}{v:Value}{O:Obj}(h:w.cell? p=some v):(w.alloc O).cell? p=some v:=(((Below.refl w.heap.size w).alloc (Nat.le_refl _) O).cell (World.block_lt_of_cell? w _ h)).trans h
theorem cell_setk {w:World}{X Y i j:Nat}{v u:Value}(hne:Y≠X) (h:w.cell? ⟨X,i,none⟩=some v):(w.setCell ⟨Y,j,none⟩ u).cell? ⟨X,i,none⟩=some v:=keep_cell (p:=⟨X,i,none⟩) (Below.heap_setCell _ _ _ _ (fun e=>hne e.symm)) h
theorem src_keep {w w':World}{b:Nat}{xs:List Value}(h:∀ j u,xs[j]?=some u→w.cell? ⟨b,j,none⟩=some u) (hl:xs.length=11) (h1:∀ u∈xs,u.oneCell'=true) (hk:w'.heap[b]?=w.heap[b]?):Src Tryz.prog 11 25 (.slice (some ⟨b,0,none⟩) 1 1) 1 xs w':=
 Src.ofSlice w' Tryz.underlying25 _ 1 1 xs (by rw [hl]) (fun j u hu=>by rw [add_plain,Nat.zero_add];exact keep_cell (p:=⟨b,j,none⟩) hk (h j u hu)) h1
theorem rdD_tw {w W:World}{e:Nat}{c:ChD (e+1)}{nm:List UInt8}{g0:ByteArray}{g1 g2 g3:Int}{g4:Option Addr}{g5 g6:Nat}{s:Value}{va:Option Addr}{m vc:Nat}(hr:RdD (fun _=>True) w (e+1) c (.agg #[.string g0,.int .i64 g1,.int .i64 g2,.int .i64 g3,.slice g4 g5 g6,s])) (hB:Below w.heap.size w W)
  (h:RdK (fun _=>True) W 11 (rStD (e+1) (fun _=>True) W) (c.2.2.2++[twT e nm]) (.slice va m vc)):RdD (fun _=>True) W (e+1) (twC e c nm) (.agg #[.string g0,.int .i64 g1,.int .i64 g2,.int .i64 g3,.slice g4 g5 g6,.slice va m vc]):=by
 obtain ⟨sv,ss,he,q1,q2⟩:=hr
 simp only [Value.agg.injEq,Array.mk.injEq,List.cons.injEq,and_true] at he
 obtain ⟨e1,e2,e3,e4,e5,e6⟩:=he
 refine ⟨.slice g4 g5 g6,.slice va m vc,?_,?_,h⟩
 ·show _=Value.agg #[sD c.1.1,.int .i64 c.2.1,.int .i64 c.1.2.1,.int .i64 c.1.2.2,.slice g4 g5 g6,.slice va m vc]
  rw [← e1,← e2,← e3,← e4]
 ·rw [e5]
  exact q1.stay kp_varD (fun k _ hk=>⟨trivial,hB.block k hk⟩)
set_option maxRecDepth 100000 in
set_option maxHeartbeats 32000000 in
theorem checkTwice_walk {w:World}(hPw:Pow w) (hE:Esy w) {d:Nat}{c:ChD d}{v:Value}(hr:RdD (fun _=>True) w d c v) (hwf:WfC d c) (x:Int) (wfx:(Lit.int .u8 x).wf=true):Calls Tryz.prog 4 #[v,.int .u8 x] w fun e w'=>e=.returned (.bool true)∧Below w.heap.size w w':=by
 obtain ⟨g0,g1,g2,g3,g4,g5,g6,g7,g8,g9,rfl⟩:=rdD_letT hr
 have h1:=fun w1 (b:Below w.heap.size w w1)=>awakeK w1 (hE.on b) (hPw.below b)
 have hal:Below w.heap.size w (w.alloc (.cells #[.string g0,.int .i64 g1,.int .i64 g2,.int .i64 g3,.slice g4 g5 g6,.slice g7 g8 g9] 27)):=(Below.refl w.heap.size w).alloc (Nat.le_refl _) _
 have hX:Bn (w.alloc (.cells #[.string g0,.int .i64 g1,.int .i64 g2,.int .i64 g3,.slice g4 g5 g6,.slice g7 g8 g9] 27)) w.heap.size [.string g0,.int .i64 g1,.int .i64 g2,.int .i64 g3,.slice g4 g5 g6,.slice g7 g8 g9]:=Bn.new w [.string g0,.int .i64 g1,.int .i64 g2,.int .i64 g3,.slice g4 g5 g6,.slice g7 g8 g9] 27 _ rfl
 have h2:=fun w1 (b:Below w.heap.size w w1)=>small_any (hr.keep (ok':=fun _=>True) (fun k hk hl=>⟨trivial,b.block k hl⟩)) hwf (w:=w1)
 go_enter Tryz.func4,Tryz.ntmps4
 go_upto_region 1 with fail
 generalize (w.alloc (.cells #[.string g0,.int .i64 g1,.int .i64 g2,.int .i64 g3,.slice g4 g5 g6,.slice g7 g8 g9] 27))=wx at *
 have hAw:=h1 _ hal
 go_wp2_with (first
  | (go_at_call 5;refine hAw.mono ?_;rintro e wa ⟨rfl,ba⟩;have hX1:=hX.on ba;obtain ⟨x0,x1,x2,x3,x4,x5⟩:=sixK hX1)
  | fail)
 have hb1:=hal.trans (ba.mono hal.size)
 clear hAw ba hX hal
 go_at_call 6
 refine (h2 _ hb1).mono ?_
 rintro e w2 ⟨bb,rfl,hsm,b2⟩
 have hb2:=hb1.trans (b2.mono hb1.size)
 have hX2:=hX1.on b2
 clear x0 x1 x2 x3 x4 x5 hX1 b2 hb1 h2
 obtain ⟨x0,x1,x2,x3,x4,x5⟩:=sixK hX2
 cases bb with
 | false=>
  have hAw:=h1 _ hb2
  go_wp2_with (first
   | (go_at_call 5;refine hAw.mono ?_;rintro e wa ⟨rfl,ba⟩)
   | fail)
  go_ret
  exact ⟨rfl,hb2.trans (ba.mono hb2.size)⟩
 | true=>
 replace hsm:=hsm rfl
 have hlenM:(flM d 0 c.2.2.2).length≤400:=by
  have:=hsm.2.2.1
  rw [← flM_len d 0,← flP_len d 0 (-1) 0,flP_thP,List.length_map,flP_len d 0] at this
  exact this
 have h3:∀ w1,Below w.heap.size w w1→Calls Tryz.prog 8 #[.agg #[.string g0,.int .i64 g1,.int .i64 g2,.int .i64 g3,.slice g4 g5 g6,.slice g7 g8 g9]] w1 fun e w'=>∃ e0 e1 e2 e3 e4 e5 e6 e7 e8 e9,e=.returned (.agg #[.string e0,.int .i64 e1,.int .i64 e2,.int .i64 e3,.slice e4 e5 e6,.slice e7 e8 e9])∧RdC (fun b=>w1.heap.size≤b∧b < w'.heap.size) w' d (thC d c) (.agg #[.string e0,.int .i64 e1,.int .i64 e2,.int .i64 e3,.slice e4 e5 e6,.slice e7 e8 e9])∧Below w1.heap.size w1 w':=fun w1 b1=>(theirs_ch (hr.keep (ok':=fun _=>True) (fun k hk hl=>⟨trivial,b1.block k hl⟩)) hsm.2.2.2 hsm.2.2.1 (by have:=hsm.2.1;omega)).mono (fun e w' hh=>by
  obtain ⟨u,q1,q2,q3⟩:=hh
  obtain ⟨e0,e1,e2,e3,e4,e5,e6,e7,e8,e9,rfl⟩:=rdC_letT q2
  exact ⟨e0,e1,e2,e3,e4,e5,e6,e7,e8,e9,q1,q2.keep (fun k hk hl=>⟨⟨hk,hl⟩,rfl⟩),q3⟩)
 obtain ⟨q,hq⟩:∃ q,((ckC (thC d c)).2 == 0)=q:=⟨_,rfl⟩
 have h4:∀ (lo:Nat) w1 v,RdC (fun b=>lo≤b∧b < w1.heap.size) w1 d (thC d c) v→Pow w1→Calls Tryz.prog 7 #[v] w1 fun e w'=>e=.returned (.bool q)∧Below w1.heap.size w1 w':=fun lo w1 v h hp=>by
  rw [← hq]
  exact rightC_any h (fun b hb=>hb.2) (chOk_th hsm hwf) (chK_th hsm hwf) hp
 have hss:RdK (fun _=>True) w 11 (rStD d (fun _=>True) w) c.2.2.2 (.slice g7 g8 g9):=by
  obtain ⟨sv,ss,he,q1,q2⟩:=hr
  simp only [Value.agg.injEq,Array.mk.injEq,List.cons.injEq,and_true] at he
  rw [he.2.2.2.2.2]
  exact q2
 have h7:=fun w1 (b1:Below w.heap.size w w1)=>allD_any hss b1 (by omega)
 cases q with
 | false=>
  go_upto_region 2 with (first
   | (go_at_call 8;refine (h3 _ hb2).mono ?_;rintro e w3 ⟨e0,e1,e2,e3,e4,e5,e6,e7,e8,e9,rfl,hr3,b3⟩;have hb3:=hb2.trans (b3.mono hb2.size))
   | (go_at_call 7;refine (h4 _ _ _ hr3 (hPw.below hb3)).mono ?_;rintro e w4 ⟨rfl,b4⟩)
   | fail)
  have hb4:=hb3.trans (b4.mono hb3.size)
  have hAw:=h1 _ hb4
  clear h1 h3 h4 h7 hr3 b4 hb3
  go_wp2_with (first
   | (go_at_call 5;refine hAw.mono ?_;rintro e wa ⟨rfl,ba⟩)
   | fail)
  go_ret
  exact ⟨rfl,hb4.trans (ba.mono hb4.size)⟩
 | true=>
 replace hq:(ckC (thC d c)).2=0:=by simpa using hq
 go_upto_region 3 with (first
  | (go_at_call 8;refine (h3 _ hb2).mono ?_;rintro e w3 ⟨e0,e1,e2,e3,e4,e5,e6,e7,e8,e9,rfl,hr3,b3⟩;have hb3:=hb2.trans (b3.mono hb2.size))
  | (go_at_call 7;refine (h4 _ _ _ hr3 (hPw.below hb3)).mono ?_;rintro e w4 ⟨rfl,b4⟩)
  | fail)
 have hb4:=hb3.trans (b4.mono hb3.size)
 have hX4:=(hX2.on b3).on b4
 clear x0 x1 x2 x3 x4 x5 h1 h4 hr3 b4 b3 hb3 hb2 hX2
 obtain ⟨x0,x1,x2,x3,x4,x5⟩:=sixK hX4
 have hAll:=h7 _ hb4
 have HG:=hidOf (right_is hq)
 have HQ:=hidOf hq
 clear hq h7
 go_upto_region 4 with (first
  | (go_at_call 9;refine hAll.mono ?_;rintro e w5 ⟨la,ln,lc,rfl,hO,b5⟩)
  | fail)
 have hL:=hO.rd (kp_fl _ _)
 have hb5:=hb4.trans (b5.mono hb4.size)
 have hX5:=hX4.on b5
 have hd:∃ e,d=e+1:=by
  cases d with
  | zero=>exact absurd HG.out.n1 (by simp [flP])
  | succ e=>exact ⟨e,rfl⟩
 obtain ⟨e,rfl⟩:=hd
 obtain ⟨L,hLd⟩:∃ L,flP (e+1) (-1) 0 c.2.2.2=L:=⟨_,rfl⟩
 have HSM:=hidOf hsm
 have HLM:=hidOf hlenM
 have HSS:=hidOf hss
 have HR:=hidOf hr
 rw [hLd] at hL HG
 have HLD:=hidOf hLd
 obtain ⟨ya,yc,hv,hlc,hcm⟩:=hL.form
 simp only [Value.slice.injEq] at hv
 obtain ⟨rfl,rfl,rfl⟩:=hv
 obtain ⟨n,hn⟩:∃ n,L.length=n:=⟨_,rfl⟩
 have n1:=HG.out.n1
 have n40:=HG.out.n40
 have HL:=hidOf hL
 rw [hn] at hlc n1 n40 HL ⊢
 have HN:=hidOf hn
 unfold maxLen at hcm
 clear hn hL hO hAll b5 hX4 x0 x1 x2 x3 x4 x5 hLd h3 hsm hlenM hss hr hb4
 have i0:¬ (n:Int)=0:=by omega
 have hx:0≤x∧x < 256:=by simp [Lit.wf,IntKind.min,IntKind.max,IntKind.bits,IntKind.signed] at wfx;omega
 have k1:0≤x % (n:Int):=Int.emod_nonneg x i0
 have k2:x % (n:Int) < (n:Int):=Int.emod_lt_of_pos x (show (0:Int) < n by omega)
 obtain ⟨p,hp,hpn⟩:∃ p:Nat,(x % (n:Int)).toNat=p∧p < n:=⟨_,rfl,by omega⟩
 have hpl:p < L.length:=by rw [HN.out];exact hpn
 obtain ⟨b,off,sn,sl,sc,sb,se,sd,su,sw,sr,p1,p3,p4,p6,rfl,hbl,HS,_,hc⟩:=fl_let HL.out p hpl
 have HSN:=hidOf HS.out.1
 have C0:=hc 0 _ rfl
 rw [Nat.add_zero] at C0
 have hal6:Below w5.heap.size w5 (w5.alloc (.cells #[.string sn,.int .i64 99,.int .i64 9,.bool false,.bool true,.string ⟨#[]⟩,.string ⟨#[]⟩,.int .i64 0,.int .i64 0,.slice none 0 0,.slice none 0 0] 40)):=(Below.refl _ _).alloc (Nat.le_refl _) _
 have hS6:=Bn.new w5 [.string sn,.int .i64 99,.int .i64 9,.bool false,.bool true,.string ⟨#[]⟩,.string ⟨#[]⟩,.int .i64 0,.int .i64 0,.slice none 0 0,.slice none 0 0] 40 _ rfl
 have hX6:=hX5.on hal6
 clear hc HS
 go_upto_region 5 with fail
 clear C0 hp k1 k2
 obtain ⟨Z6,hZ6⟩:∃ Z,w5.heap.size=Z:=⟨_,rfl⟩
 generalize (w5.alloc (.cells #[.string sn,.int .i64 99,.int .i64 9,.bool false,.bool true,.string ⟨#[]⟩,.string ⟨#[]⟩,.int .i64 0,.int .i64 0,.slice none 0 0,.slice none 0 0] 40))=w6 at *
 rw [hZ6] at hS6 ⊢
 have HZ6:=hidOf hZ6
 clear hZ6
 obtain ⟨x0,x1,x2,x3,x4,x5⟩:=sixK hX6
 have hal7:Below w6.heap.size w6 (w6.alloc (.cells #[.string g0,.int .i64 g1,.int .i64 g2,.int .i64 g3,.slice g4 g5 g6,.slice g7 g8 g9] 27)):=(Below.refl _ _).alloc (Nat.le_refl _) _
 have hS7:=hS6.on hal7
 have hX7:=hX6.on hal7
 have hD7:=Bn.new w6 [.string g0,.int .i64 g1,.int .i64 g2,.int .i64 g3,.slice g4 g5 g6,.slice g7 g8 g9] 27 _ rfl
 go_upto_region 6 with fail
 clear x0 x1 x2 x3 x4 x5
 have l67:Z6 < w6.heap.size:=hS6.lt
 have l57:w.heap.size < w6.heap.size:=hX6.lt
 obtain ⟨Z7,hZ7⟩:∃ Z,w6.heap.size=Z:=⟨_,rfl⟩
 generalize (w6.alloc (.cells #[.string g0,.int .i64 g1,.int .i64 g2,.int .i64 g3,.slice g4 g5 g6,.slice g7 g8 g9] 27))=w7 at *
 rw [hZ7] at hD7 l67 l57 ⊢
 have HZ7:=hidOf hZ7
 clear hZ7
 obtain ⟨XB,hXB⟩:∃ X,w.heap.size=X:=⟨_,rfl⟩
 rw [hXB] at hX7 l57 ⊢
 have n57:Z7≠XB:=by omega
 have n67:Z7≠Z6:=by omega
 have HXB:=hidOf hXB
 clear hXB hX5 hX6 hS6
 have z5:=(hX7 5 _ rfl).1
 have ux0:=(hS7 0 _ rfl).1
 have ux1:=(hS7 1 _ rfl).1
 have ux2:=(hS7 2 _ rfl).1
 have ux3:=(hS7 3 _ rfl).1
 have ux4:=(hS7 4 _ rfl).1
 have ux5:=(hS7 5 _ rfl).1
 have ux6:=(hS7 6 _ rfl).1
 have ux7:=(hS7 7 _ rfl).1
 have ux8:=(hS7 8 _ rfl).1
 have ux9:=(hS7 9 _ rfl).1
 have ux10:=(hS7 10 _ rfl).1
 have lX:=hX7.lt
 have lS:=hS7.lt
 have lD:=hD7.lt
 have hb67:Below Z6 w5 w7:=by
  rw [← HZ6.out]
  exact hal6.trans (hal7.mono hal6.size)
 have hne:0 < c.2.2.2.length:=by
  cases hcs:c.2.2.2 with
  | nil=>
   have h8:=HLD.out
   rw [hcs] at h8
   have h9:L.length=0:=by rw [← h8];rfl
   omega
  | cons t r=>simp
 obtain ⟨tb,toff,_,hg7,_,_,_,_,_⟩:=rdK_at HSS.out 0 hne
 subst hg7
 have hg8:g8=c.2.2.2.length:=by
  obtain ⟨_,_,he,_⟩:=HSS.out.form
  simp only [Value.slice.injEq] at he
  exact he.2.1
 have hg8l:g8≤400:=by
  have h8:=tot_length c.2.2.2
  have h9:=HSM.out.2.2.1
  omega
 have HG8:=hidOf hg8
 have hW7:Below w.heap.size w w7:=hb5.trans ((by rw [← HZ6.out] at hb67;exact hb67.mono hb5.size))
 have HSRC:=hidOf (fun W (h:Below w7.heap.size w7 W)=>rowK_src HSS.out hg8 (hW7.trans (h.mono hW7.size)))
 obtain ⟨K,hK⟩:∃ K,rowK w tb toff (g8*11)=K:=⟨_,rfl⟩
 rw [hK] at HSRC
 have HKK:=hidOf hK
 clear hK hg8
 obtain ⟨i9,hi,hz0,hz1,hz2⟩:=info_parts Tryz.infoDst
 have aE:=Below.refl w7.heap.size w7
 have hWa:Below w7.heap.size w7 (w7.alloc (.cells #[] 40)).drew:=(aE.alloc (Nat.le_refl _) _).drew
 have hWb:Below w7.heap.size w7 ((w7.alloc (.cells #[] 40)).alloc (.cells #[.string sn,.int .i64 99,.int .i64 9,.bool false,.bool true,.string ⟨#[]⟩,.string ⟨#[]⟩,.int .i64 0,.int .i64 0,.slice none 0 0,.slice none 0 0] 40)).drew:=((aE.alloc (Nat.le_refl _) _).alloc (by simp) _).drew
 have hWc:Below w7.heap.size w7 ((w7.alloc (.cells #[.string sn,.int .i64 99,.int .i64 9,.bool false,.bool true,.string ⟨#[]⟩,.string ⟨#[]⟩,.int .i64 0,.int .i64 0,.slice none 0 0,.slice none 0 0] 40)).alloc (.cells #[] 40)).drew:=((aE.alloc (Nat.le_refl _) _).alloc (by simp) _).drew
 have oa:(w7.alloc (.cells #[] 40)).drew.ownsRow w7.heap.size 40 11 (.slice (some ⟨w7.heap.size,0,none⟩) 0 0) 0 []:=own0 w7 40 11 w7.heap.size w7.heap.size rfl (Nat.le_refl _)
 have ob:((w7.alloc (.cells #[] 40)).alloc (.cells #[.string sn,.int .i64 99,.int .i64 9,.bool false,.bool true,.string ⟨#[]⟩,.string ⟨#[]⟩,.int .i64 0,.int .i64 0,.slice none 0 0,.slice none 0 0] 40)).drew.ownsRow w7.heap.size 40 11 (.slice (some ⟨w7.heap.size,0,none⟩) 0 0) 0 []:=ownK_on (own0 w7 40 11 w7.heap.size w7.heap.size rfl (Nat.le_refl _)) (((Below.refl _ _).alloc (Nat.le_refl _) _).drew)
 have oc:((w7.alloc (.cells #[.string sn,.int .i64 99,.int .i64 9,.bool false,.bool true,.string ⟨#[]⟩,.string ⟨#[]⟩,.int .i64 0,.int .i64 0,.slice none 0 0,.slice none 0 0] 40)).alloc (.cells #[] 40)).drew.ownsRow w7.heap.size 40 11 (.slice (some ⟨w7.heap.size+1,0,none⟩) 0 0) 0 []:=own0 (w7.alloc (.cells #[.string sn,.int .i64 99,.int .i64 9,.bool false,.bool true,.string ⟨#[]⟩,.string ⟨#[]⟩,.int .i64 0,.int .i64 0,.slice none 0 0,.slice none 0 0] 40)) 40 11 w7.heap.size (w7.heap.size+1) (by simp) (by omega)
 have sa:=HSRC.out _ hWa
 have sb:=HSRC.out _ hWb
 have sc:=HSRC.out _ hWc
 have nb:=Bn.new (w7.alloc (.cells #[] 40)) [.string sn,.int .i64 99,.int .i64 9,.bool false,.bool true,.string ⟨#[]⟩,.string ⟨#[]⟩,.int .i64 0,.int .i64 0,.slice none 0 0,.slice none 0 0] 40 (w7.heap.size+1) (by simp)
 have nc:=(Bn.new w7 [.string sn,.int .i64 99,.int .i64 9,.bool false,.bool true,.string ⟨#[]⟩,.string ⟨#[]⟩,.int .i64 0,.int .i64 0,.slice none 0 0,.slice none 0 0] 40 w7.heap.size rfl).on ((Below.refl _ _).alloc (Nat.le_refl _) (.cells #[] 40))
 have hone:=twV_one sn
 unfold twV at hone
 have S2b:∀ w8,((w7.alloc (.cells #[] 40)).alloc (.cells #[.string sn,.int .i64 99,.int .i64 9,.bool false,.bool true,.string ⟨#[]⟩,.string ⟨#[]⟩,.int .i64 0,.int .i64 0,.slice none 0 0,.slice none 0 0] 40)).drew.grownBy w8 (Value.slice (some ⟨w7.heap.size,0,none⟩) 0 0).ownBlock→Src Tryz.prog 11 25 (.slice (some ⟨w7.heap.size+1,0,none⟩) 1 1) 1 [.string sn,.int .i64 99,.int .i64 9,.bool false,.bool true,.string ⟨#[]⟩,.string ⟨#[]⟩,.int .i64 0,.int .i64 0,.slice none 0 0,.slice none 0 0] w8:=fun w8 hg=>src_keep (w:=(w7.alloc (.cells #[] 40)).alloc (.cells #[.string sn,.int .i64 99,.int .i64 9,.bool false,.bool true,.string ⟨#[]⟩,.string ⟨#[]⟩,.int .i64 0,.int .i64 0,.slice none 0 0,.slice none 0 0] 40)) (fun j u hu=>(nb j u hu).1) rfl hone (hg.block (w7.heap.size+1) (by show _ < ((w7.alloc _).alloc _).heap.size;simp only [World.size_alloc];omega) (fun e=>by have h9:w7.heap.size+1=w7.heap.size:=Option.some.inj e;omega))
 have S2c:∀ w8,((w7.alloc (.cells #[.string sn,.int .i64 99,.int .i64 9,.bool false,.bool true,.string ⟨#[]⟩,.string ⟨#[]⟩,.int .i64 0,.int .i64 0,.slice none 0 0,.slice none 0 0] 40)).alloc (.cells #[] 40)).drew.grownBy w8 (Value.slice (some ⟨w7.heap.size+1,0,none⟩) 0 0).ownBlock→Src Tryz.prog 11 25 (.slice (some ⟨w7.heap.size,0,none⟩) 1 1) 1 [.string sn,.int .i64 99,.int .i64 9,.bool false,.bool true,.string ⟨#[]⟩,.string ⟨#[]⟩,.int .i64 0,.int .i64 0,.slice none 0 0,.slice none 0 0] w8:=fun w8 hg=>src_keep (w:=(w7.alloc (.cells #[.string sn,.int .i64 99,.int .i64 9,.bool false,.bool true,.string ⟨#[]⟩,.string ⟨#[]⟩,.int .i64 0,.int .i64 0,.slice none 0 0,.slice none 0 0] 40)).alloc (.cells #[] 40)) (fun j u hu=>(nc j u hu).1) rfl hone (hg.block w7.heap.size (by show _ < ((w7.alloc _).alloc _).heap.size;simp only [World.size_alloc];omega) (fun e=>by have h9:w7.heap.size=w7.heap.size+1:=Option.some.inj e;omega))
 clear nb nc aE
 have hB:=Below.refl w7.heap.size w7
 have y5:=z5
 have vx0:=ux0
 have vx1:=ux1
 have vx2:=ux2
 have vx3:=ux3
 have vx4:=ux4
 have vx5:=ux5
 have vx6:=ux6
 have vx7:=ux7
 have vx8:=ux8
 have vx9:=ux9
 have vx10:=ux10
 go_cut [] (fun wc=>∃ va m vc,Hid (m=g8+1)∧Hid (wc.ownsRow w7.heap.size 40 11 (.slice va m vc) (g8+1) (K++[.string sn,.int .i64 99,.int .i64 9,.bool false,.bool true,.string ⟨#[]⟩,.string ⟨#[]⟩,.int .i64 0,.int .i64 0,.slice none 0 0,.slice none 0 0]))∧Hid (Bn wc Z7 [.string g0,.int .i64 g1,.int .i64 g2,.int .i64 g3,.slice g4 g5 g6,.slice va m vc])∧Hid (Bn wc Z6 [.string sn,.int .i64 99,.int .i64 9,.bool false,.bool true,.string ⟨#[]⟩,.string ⟨#[]⟩,.int .i64 0,.int .i64 0,.slice none 0 0,.slice none 0 0])∧Hid (Below Z6 w5 wc))
 case first=>
  go_region_held_law (fun w'=>w'.cell? ⟨XB,5,none⟩=some (.slice (some ⟨tb,toff,none⟩) g8 g9)∧w'.cell? ⟨Z6,0,none⟩=some (.string sn)∧w'.cell? ⟨Z6,1,none⟩=some (.int .i64 99)∧w'.cell? ⟨Z6,2,none⟩=some (.int .i64 9)∧w'.cell? ⟨Z6,3,none⟩=some (.bool false)∧w'.cell? ⟨Z6,4,none⟩=some (.bool true)∧w'.cell? ⟨Z6,5,none⟩=some (.string ⟨#[]⟩)∧w'.cell? ⟨Z6,6,none⟩=some (.string ⟨#[]⟩)∧w'.cell? ⟨Z6,7,none⟩=some (.int .i64 0)∧w'.cell? ⟨Z6,8,none⟩=some (.int .i64 0)∧w'.cell? ⟨Z6,9,none⟩=some (.slice none 0 0)∧w'.cell? ⟨Z6,10,none⟩=some (.slice none 0 0))
   ((refine ⟨?_,?_,?_,?_,?_,?_,?_,?_,?_,?_,?_,?_⟩ <;> (repeat (first | (with_reducible exact y5) | (with_reducible exact vx0) | (with_reducible exact vx1) | (with_reducible exact vx2) | (with_reducible exact vx3) | (with_reducible exact vx4) | (with_reducible exact vx5) | (with_reducible exact vx6) | (with_reducible exact vx7) | (with_reducible exact vx8) | (with_reducible exact vx9) | (with_reducible exact vx10) | (with_reducible refine cell_drw ?_) | (with_reducible refine cell_alk ?_) | (with_reducible refine cell_setk n57 ?_) | (with_reducible refine cell_setk n67 ?_))) <;> done))
   (first
    | (refine step_append_at _ rfl _ _ 25 25 rfl w7.heap.size 40 i9 (.agg #[.string ⟨#[]⟩,.int .i64 0,.int .i64 0,.bool false,.bool false,.string ⟨#[]⟩,.string ⟨#[]⟩,.int .i64 0,.int .i64 0,.slice none 0 0,.slice none 0 0]) 11 136 Tryz.underlying25 hi hz0 hz1 hz2 rfl _ g8 K rfl o2 _ 1 [.string sn,.int .i64 99,.int .i64 9,.bool false,.bool true,.string ⟨#[]⟩,.string ⟨#[]⟩,.int .i64 0,.int .i64 0,.slice none 0 0,.slice none 0 0] rfl s2 1 (.inr (by omega)) (Nat.le_refl _) (by unfold maxLen;omega) hB2.size ?_;intro v9 w9 ho9 hg9 hat9;have hB:=hB2.grown hg9 hB2.size (fun k hk=>(ownsRow_lt o2 k hk).1);obtain ⟨a9,c9,rfl⟩:=ownK_form ho9;have hD9:=hD7.on hB;obtain ⟨d5,f5⟩:=hD9 5 _ rfl;have y5:=(hB.cell (p:=⟨XB,5,none⟩) lX).trans z5;have vx0:=(hB.cell (p:=⟨Z6,0,none⟩) lS).trans ux0;have vx1:=(hB.cell (p:=⟨Z6,1,none⟩) lS).trans ux1;have vx2:=(hB.cell (p:=⟨Z6,2,none⟩) lS).trans ux2;have vx3:=(hB.cell (p:=⟨Z6,3,none⟩) lS).trans ux3;have vx4:=(hB.cell (p:=⟨Z6,4,none⟩) lS).trans ux4;have vx5:=(hB.cell (p:=⟨Z6,5,none⟩) lS).trans ux5;have vx6:=(hB.cell (p:=⟨Z6,6,none⟩) lS).trans ux6;have vx7:=(hB.cell (p:=⟨Z6,7,none⟩) lS).trans ux7;have vx8:=(hB.cell (p:=⟨Z6,8,none⟩) lS).trans ux8;have vx9:=(hB.cell (p:=⟨Z6,9,none⟩) lS).trans ux9;have vx10:=(hB.cell (p:=⟨Z6,10,none⟩) lS).trans ux10)
    | (refine step_append_at _ rfl _ _ 25 25 rfl w7.heap.size 40 i9 (.agg #[.string ⟨#[]⟩,.int .i64 0,.int .i64 0,.bool false,.bool false,.string ⟨#[]⟩,.string ⟨#[]⟩,.int .i64 0,.int .i64 0,.slice none 0 0,.slice none 0 0]) 11 136 Tryz.underlying25 hi hz0 hz1 hz2 rfl _ 0 [] rfl ob _ g8 K rfl sb g8 (.inr (by omega)) (Nat.le_refl _) (by unfold maxLen;omega) hWb.size ?_;intro v8 w8 ho8 hg8 hat8;have hB2:=hWb.grown hg8 hWb.size (fun k hk=>(ownsRow_lt ob k hk).1);rw [Nat.zero_add,List.nil_append] at ho8;obtain ⟨a8,c8,rfl⟩:=ownK_form ho8;have o2:=ho8;have s2:=S2b w8 hg8;have hB:=hB2;have y5:=(hB.cell (p:=⟨XB,5,none⟩) lX).trans z5;have vx0:=(hB.cell (p:=⟨Z6,0,none⟩) lS).trans ux0;have vx1:=(hB.cell (p:=⟨Z6,1,none⟩) lS).trans ux1;have vx2:=(hB.cell (p:=⟨Z6,2,none⟩) lS).trans ux2;have vx3:=(hB.cell (p:=⟨Z6,3,none⟩) lS).trans ux3;have vx4:=(hB.cell (p:=⟨Z6,4,none⟩) lS).trans ux4;have vx5:=(hB.cell (p:=⟨Z6,5,none⟩) lS).trans ux5;have vx6:=(hB.cell (p:=⟨Z6,6,none⟩) lS).trans ux6;have vx7:=(hB.cell (p:=⟨Z6,7,none⟩) lS).trans ux7;have vx8:=(hB.cell (p:=⟨Z6,8,none⟩) lS).trans ux8;have vx9:=(hB.cell (p:=⟨Z6,9,none⟩) lS).trans ux9;have vx10:=(hB.cell (p:=⟨Z6,10,none⟩) lS).trans ux10)
    | (refine step_append_at _ rfl _ _ 25 25 rfl w7.heap.size 40 i9 (.agg #[.string ⟨#[]⟩,.int .i64 0,.int .i64 0,.bool false,.bool false,.string ⟨#[]⟩,.string ⟨#[]⟩,.int .i64 0,.int .i64 0,.slice none 0 0,.slice none 0 0]) 11 136 Tryz.underlying25 hi hz0 hz1 hz2 rfl _ 0 [] rfl oc _ g8 K rfl sc g8 (.inr (by omega)) (Nat.le_refl _) (by unfold maxLen;omega) hWc.size ?_;intro v8 w8 ho8 hg8 hat8;have hB2:=hWc.grown hg8 hWc.size (fun k hk=>(ownsRow_lt oc k hk).1);rw [Nat.zero_add,List.nil_append] at ho8;obtain ⟨a8,c8,rfl⟩:=ownK_form ho8;have o2:=ho8;have s2:=S2c w8 hg8;have hB:=hB2;have y5:=(hB.cell (p:=⟨XB,5,none⟩) lX).trans z5;have vx0:=(hB.cell (p:=⟨Z6,0,none⟩) lS).trans ux0;have vx1:=(hB.cell (p:=⟨Z6,1,none⟩) lS).trans ux1;have vx2:=(hB.cell (p:=⟨Z6,2,none⟩) lS).trans ux2;have vx3:=(hB.cell (p:=⟨Z6,3,none⟩) lS).trans ux3;have vx4:=(hB.cell (p:=⟨Z6,4,none⟩) lS).trans ux4;have vx5:=(hB.cell (p:=⟨Z6,5,none⟩) lS).trans ux5;have vx6:=(hB.cell (p:=⟨Z6,6,none⟩) lS).trans ux6;have vx7:=(hB.cell (p:=⟨Z6,7,none⟩) lS).trans ux7;have vx8:=(hB.cell (p:=⟨Z6,8,none⟩) lS).trans ux8;have vx9:=(hB.cell (p:=⟨Z6,9,none⟩) lS).trans ux9;have vx10:=(hB.cell (p:=⟨Z6,10,none⟩) lS).trans ux10)
    | (refine step_append_at _ rfl _ _ 25 25 rfl w7.heap.size 40 i9 (.agg #[.string ⟨#[]⟩,.int .i64 0,.int .i64 0,.bool false,.bool false,.string ⟨#[]⟩,.string ⟨#[]⟩,.int .i64 0,.int .i64 0,.slice none 0 0,.slice none 0 0]) 11 136 Tryz.underlying25 hi hz0 hz1 hz2 rfl _ 0 [] rfl oa _ g8 K rfl sa g8 (.inr (by omega)) (Nat.le_refl _) (by unfold maxLen;omega) hWa.size ?_;intro v8 w8 ho8 hg8 hat8;have hB1:=hWa.grown hg8 hWa.size (fun k hk=>(ownsRow_lt oa k hk).1);rw [Nat.zero_add,List.nil_append] at ho8;obtain ⟨a8,c8,rfl⟩:=ownK_form ho8;have hal8:Below w8.heap.size w8 (w8.alloc (.cells #[.string sn,.int .i64 99,.int .i64 9,.bool false,.bool true,.string ⟨#[]⟩,.string ⟨#[]⟩,.int .i64 0,.int .i64 0,.slice none 0 0,.slice none 0 0] 40)):=(Below.refl _ _).alloc (Nat.le_refl _) _;have hB2:=hB1.trans (hal8.mono hB1.size);have o2:=ownK_on ho8 hal8;have s2:=src_row (P:=Tryz.prog) (t:=25) Tryz.underlying25 w8 [.string sn,.int .i64 99,.int .i64 9,.bool false,.bool true,.string ⟨#[]⟩,.string ⟨#[]⟩,.int .i64 0,.int .i64 0,.slice none 0 0,.slice none 0 0] rfl hone;have hB:=hB1;have y5:=(hB.cell (p:=⟨XB,5,none⟩) lX).trans z5;have vx0:=(hB.cell (p:=⟨Z6,0,none⟩) lS).trans ux0;have vx1:=(hB.cell (p:=⟨Z6,1,none⟩) lS).trans ux1;have vx2:=(hB.cell (p:=⟨Z6,2,none⟩) lS).trans ux2;have vx3:=(hB.cell (p:=⟨Z6,3,none⟩) lS).trans ux3;have vx4:=(hB.cell (p:=⟨Z6,4,none⟩) lS).trans ux4;have vx5:=(hB.cell (p:=⟨Z6,5,none⟩) lS).trans ux5;have vx6:=(hB.cell (p:=⟨Z6,6,none⟩) lS).trans ux6;have vx7:=(hB.cell (p:=⟨Z6,7,none⟩) lS).trans ux7;have vx8:=(hB.cell (p:=⟨Z6,8,none⟩) lS).trans ux8;have vx9:=(hB.cell (p:=⟨Z6,9,none⟩) lS).trans ux9;have vx10:=(hB.cell (p:=⟨Z6,10,none⟩) lS).trans ux10)
    | fail)
  all_goals (
   have HO9:=hidOf ho9
   have HB9:=hidOf hB
   have HD9:=hidOf hD9
   clear ho9 hD9
   try simp only [List.getElem_toArray,List.getElem_cons_succ,List.getElem_cons_zero,List.set_cons_succ,List.set_cons_zero,List.setIfInBounds_toArray]
   go_wp2
   go_meet
   case rel=>
    refine ⟨a9,g8+1,c9,rfl,ownsRow_keep HO9.out (fun g hg=>Below.heap_setCell _ _ _ _ (fun e=>?_)),HD9.out.set (i:=5) (by simp) _,(hS7.on HB9.out).far (X:=Z7) (i:=5) (by omega) _,(hb67.trans (HB9.out.mono (Nat.le_of_lt lS))).setCell (p:=⟨Z7,5,none⟩) (by simp;omega) _⟩
    have h9:=(ownsRow_lt HO9.out g hg).1
    have h10:g=Z7:=e
    omega)
 case rest=>
  obtain ⟨va,m,vc,HM,HO,HD,HS6,HB⟩:=hcut
  obtain ⟨nm,hnm⟩:∃ nm,(sgH (L[p]).2).1.1=nm:=⟨_,rfl⟩
  have hsn:sn=⟨nm.toArray⟩:=by
   rw [HSN.out,← hnm]
   rfl
  have hB5:Below w5.heap.size w5 wc:=by
   rw [HZ6.out]
   exact HB.out
  have hbc:=hb5.trans (hB5.mono hb5.size)
  have hLp:(flP (e+1) (-1) 0 c.2.2.2).length=n:=by rw [HLD.out];exact HN.out
  have htot:totS (e+1) c.2.2.2≤40:=by
   rw [← flM_len (e+1) 0,← flP_len (e+1) 0 (-1) 0,flP_thP,List.length_map,hLp]
   exact n40
  have hpl':p < (flP (e+1) (-1) 0 c.2.2.2).length:=by rw [hLp];exact hpn
  have hnm':(sgH ((flP (e+1) (-1) 0 c.2.2.2)[p]).2).1.1=nm:=by
   rw [← hnm]
   simp only [HLD.out]
  have hnl:nm.length≤20050:=by
   have h8:=flP_sm HSM.out.2.2.2 _ (List.getElem_mem hpl')
   rw [← hnm']
   generalize (flP (e+1) (-1) 0 c.2.2.2)[p]=y at h8 ⊢
   obtain ⟨k,e',t⟩:=y
   cases e' with
   | zero=>exact Empty.elim t
   | succ e'=>exact h8.1.1
  have hsm':=tw_small HSM.out htot hnl
  have hwf':=tw_wf hwf (by rw [← HG8.out];exact hg8l) hnl
  have hck:=tw_ck HQ.out hpl'
  rw [hnm',hLp] at hck
  have hrow:=row_more (t:=twT e nm) (cx:=twV ⟨nm.toArray⟩) HSS.out HG8.out hbc (by rw [HKK.out,← hsn];exact HO.out) HM.out rfl (twV_rd wc e nm)
  have hrd:=rdD_tw HR.out hbc hrow
  have hTh:Calls Tryz.prog 8 #[.agg #[.string g0,.int .i64 g1,.int .i64 g2,.int .i64 g3,.slice g4 g5 g6,.slice va m vc]] wc fun e' w'=>∃ e0 e1 e2 e3 e4 e5 e6 e7 e8 e9,e'=.returned (.agg #[.string e0,.int .i64 e1,.int .i64 e2,.int .i64 e3,.slice e4 e5 e6,.slice e7 e8 e9])∧RdC (fun b=>wc.heap.size≤b∧b < w'.heap.size) w' (e+1) (thC (e+1) (twC e c nm)) (.agg #[.string e0,.int .i64 e1,.int .i64 e2,.int .i64 e3,.slice e4 e5 e6,.slice e7 e8 e9])∧Below wc.heap.size wc w':=(theirs_ch hrd hsm'.2.2.2 hsm'.2.2.1 (by have:=hsm'.2.1;omega)).mono (fun e' w' hh=>by
   obtain ⟨u,q1,q2,q3⟩:=hh
   obtain ⟨e0,e1,e2,e3,e4,e5,e6,e7,e8,e9,rfl⟩:=rdC_letT q2
   exact ⟨e0,e1,e2,e3,e4,e5,e6,e7,e8,e9,q1,q2.keep (fun k hk hl=>⟨⟨hk,hl⟩,rfl⟩),q3⟩)
  have hCk:∀ w1 v,RdC (fun b=>wc.heap.size≤b∧b < w1.heap.size) w1 (e+1) (thC (e+1) (twC e c nm)) v→Pow w1→Calls Tryz.prog 10 #[v] w1 fun e w'=>e=.returned (.tuple #[.agg #[.int .i64 99,.int .i64 9],.int .i64 (if n=40 then 4 else 14)])∧Below w1.heap.size w1 w':=fun w1 v h hp=>by
   have h8:=check_any h (fun b hb=>hb.2) (chOk_th hsm' hwf').fo (chK_th hsm' hwf') hp (fsOk_of (chOk_th hsm' hwf') (chK_th hsm' hwf'))
   rw [hck] at h8
   exact h8
  have hD:=HD.out
  have hS:=HS6.out
  obtain ⟨E,hE9⟩:∃ E:Int,(if n=40 then 4 else 14)=E:=⟨_,rfl⟩
  simp only [hE9] at hCk
  have HE9:=hidOf hE9
  obtain ⟨x0,x1,x2,x3,x4,x5⟩:=sixK hD
  have HPW:=hidOf hPw
  have HBC:=hidOf hbc
  clear HM HO HD HS6 HB hrow hrd hck hsm' hwf' hnl htot hpl' hnm' hLp hsn hnm HKK HSRC HSS HR HQ HSM hE9 hB5 hbc S2b S2c sa sb sc oa ob oc hWa hWb hWc hb67 hW7 hD7 hS7 hX7 hal6 hal7 hPw
  clear z5 y5 hB ux0 vx0 ux1 vx1 ux2 vx2 ux3 vx3 ux4 vx4 ux5 vx5 ux6 vx6 ux7 vx7 ux8 vx8 ux9 vx9 ux10 vx10
  go_upto_region 8 with (first
   | (go_at_call 8;refine hTh.mono ?_;rintro e' w8 ⟨e0,e1,e2,e3,e4,e5,e6,e7,e8,e9,rfl,hr8,b8⟩;have hb8:=HBC.out.trans (b8.mono HBC.out.size))
   | (go_at_call 10;refine (hCk _ _ hr8 (HPW.out.below hb8)).mono ?_;rintro e' w9 ⟨rfl,b9⟩)
   | fail)
  have hb9:=hb8.trans (b9.mono hb8.size)
  have hal9:Below w9.heap.size w9 (w9.alloc (.cells #[.int .i64 99,.int .i64 9] 23)):=(Below.refl _ _).alloc (Nat.le_refl _) _
  have hP:=Bn.new w9 [.int .i64 99,.int .i64 9] 23 _ rfl
  have hS9:=((hS.on b8).on b9).on hal9
  have hb10:=hb9.trans (hal9.mono hb9.size)
  clear x0 x1 x2 x3 x4 x5 hTh hCk hr8
  generalize (w9.alloc (.cells #[.int .i64 99,.int .i64 9] 23))=w10 at *
  obtain ⟨q0,_⟩:=hP 0 _ rfl
  obtain ⟨q1,_⟩:=hP 1 _ rfl
  obtain ⟨r1,_⟩:=hS9 1 _ rfl
  obtain ⟨r2,_⟩:=hS9 2 _ rfl
  by_cases hn40:n=40
  ·have hE:E=4:=by rw [← HE9.out,if_pos hn40]
   subst hE
   have j1:(n:Int)=40:=by omega
   clear HE9
   go_wp2
   go_ret
   exact ⟨rfl,hb10⟩
  ·have hE:E=14:=by rw [← HE9.out,if_neg hn40]
   subst hE
   have j1:¬ (n:Int)=40:=by omega
   clear HE9
   go_wp2
   go_ret
   exact ⟨rfl,hb10⟩
end Go.Proofs.YtlgnahpfggagoaaGreatDoor
/- What strconv.ErrSyntax holds, by the row's list. -/
namespace Go.Proofs.YtlgnahpfggagoaaGreatDoor
open Go.RowKit Go.Lib
set_option linter.unusedVariables false
theorem iface_of {P:Program}{w:World}{t:TypeId}{fuel:Nat}{cs:List Value}{name:String}{d:DataW Unit}{p:List MemPlace}(ht:(P.underlying t).map (fun u=>match u with | .interface _=>true | _=>false)=some true) (h:DataW.trod (fun _=>()) P w 0 (fun _=>true) false fuel t cs=some (.iface name d,p)):∃ u v,cs=[.iface u v]:=by
 cases fuel with
 | zero=>simp [DataW.trod] at h
 | succ fuel=>
  unfold DataW.trod at h
  cases hu:P.underlying t with
  | none=>rw [hu] at ht;simp at ht
  | some u=>
   rw [hu] at ht h
   cases u <;> simp at ht
   split at h <;> simp_all
theorem esy_of {w:World}{L:List (String × DataW Unit)}(h:laidMetH Tryz.prog L w) (hp:(L.all fun x=>x.2.handleName?.isNone)=true) (m:("strconv.ErrSyntax",Rows.laid_strconv_ErrSyntax)∈L):Esy w:=by
 rw [MakeChecks.laidMetH_plain _ _ _ hp] at h
 obtain ⟨g,t,cs,fuel,p,hg,ht,hvar,hd⟩:=Lib.laidMet.reads h m
 have hg2:Tryz.prog.globalNamed "strconv.ErrSyntax" = some (renA.g 15):=by kernel_rfl
 rw [hg] at hg2
 obtain rfl:=Option.some.inj hg2
 have ht2:((Tryz.prog.globals[renA.g 15]?).map (·.type)).bind (fun t=>(Tryz.prog.underlying t).map (fun u=>match u with | .interface _=>true | _=>false))=some true:=by kernel_rfl
 rw [ht,Option.bind_some] at ht2
 obtain ⟨u,v,hcs⟩:=iface_of ht2 hd
 have:cs=#[.iface u v]:=by cases cs;simp at hcs;rw [hcs]
 subst this
 unfold World.var? at hvar
 rw [hg,Option.bind_some] at hvar
 refine ⟨.iface u v,?_,.inr ⟨u,v,rfl⟩⟩
 cases hh:w.heap[renA.g 15]? with
 | none=>rw [hh] at hvar;simp at hvar
 | some o=>
  rw [hh] at hvar
  cases o with
  | cells cs e f=>
   simp only [Option.some.injEq] at hvar
   subst hvar
   exact (cell_of_row w _ 0 _ _ _ hh).trans rfl
  | _=>simp at hvar
end Go.Proofs.YtlgnahpfggagoaaGreatDoor
/- The table of powers of ten, by the row's list. -/
namespace Go.Proofs.YtlgnahpfggagoaaGreatDoor
open Go.RowKit Go.Lib
theorem pow_of {w:World}{L:List (String × DataW Unit)}(h:laidMetH Tryz.prog L w) (hp:(L.all fun x=>x.2.handleName?.isNone)=true) (m:("internal/strconv.uint64pow10",Rows.laid_internal_strconv_uint64pow10)∈L):Pow w:=by
 rw [MakeChecks.laidMetH_plain _ _ _ hp] at h
 have h1:=Lib.laidMet.reads h m
 have d1:(Rows.laid_internal_strconv_uint64pow10:DataW Unit)=Lib.tabData .u64 Lib.pow10Tab:=by kernel_rfl
 rw [d1] at h1
 obtain ⟨g,t,cs,fuel,p,hg,ht,hvar,hd⟩:=h1
 have hg2:((Tryz.prog.globalNamed "internal/strconv.uint64pow10").bind fun g=>(Tryz.prog.globals[g]?).map (·.type))=some 243:=by kernel_rfl
 rw [hg,Option.bind_some,ht] at hg2
 obtain rfl:=Option.some.inj hg2
 unfold Pow Lib.TabIs
 rw [hvar,← cells_of_tab Tryz.underlying243 Tryz.underlying206 (by kernel_rfl) (by kernel_rfl) hd]
end Go.Proofs.YtlgnahpfggagoaaGreatDoor
/- An argument that is a slice of bytes, opened: the bytes that it reads as, each from 0 to 255, and their number within the form's reach. -/
namespace Go.Proofs.YtlgnahpfggagoaaGreatDoor
open Go.ChangeShapes Go.WideShapes Go.ChangeAt Go.RowKit
end Go.Proofs.YtlgnahpfggagoaaGreatDoor
