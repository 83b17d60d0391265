import Derived.Test.YtfjdceknbdmhpaaGreatDoorWvc20
import Derived.Test.YtfjdceknbdmhpaaGreatDoorWvc21
import Derived.Test.YtfjdceknbdmhpaaGreatDoorWvc23
import Derived.Test.YtfjdceknbdmhpaaGreatDoorWvc30
import Derived.Test.YtfjdceknbdmhpaaGreatDoorWvc01
import Derived.ProofKit
import Derived.OpenShut
import Derived.ShutString
import Derived.ChangeOld
import Derived.SizedLaws
import Derived.Below
import Derived.Test.YtfjdceknbdmhpaaGreatDoorWvc07
import Derived.Test.YtfjdceknbdmhpaaGreatDoorRows
import Derived.Lib.LaidU8
import Derived.Lib.LaidTab
import Derived.MakeChecks
/- The walk of ShowReads. -/
namespace Go.Proofs.YtfjdceknbdmhpaaGreatDoor
open Go.RowKit Go.Lib
set_option linter.unusedSimpArgs false
set_option linter.unusedVariables false
attribute [local go_sem ↓] Go.wp_at_zero Go.wp_at_succ
set_option maxRecDepth 100000 in
set_option maxHeartbeats 32000000 in
theorem showReads_walk {w:World} (hPw:Pow w) (hE:Esy w) (s:ByteArray) (hs:s.size≤140737488351232):Calls Tryz.prog 6 #[.string s] w fun e w'=>e=.returned (.bool true)∧Below w.heap.size w w':=by
 have h1:=awakeS w hPw
 have h2:=fun w1 (b:Below w.heap.size w w1)=>readP_any s w1 (hE.on b) hs
 obtain ⟨C,hC⟩:∃ C,(readC (bl s)).1=C:=⟨_,rfl⟩
 obtain ⟨P1,hP1⟩:∃ x,(readC (bl s)).2.1.1=x:=⟨_,rfl⟩
 obtain ⟨P2,hP2⟩:∃ x,(readC (bl s)).2.1.2=x:=⟨_,rfl⟩
 obtain ⟨E,hEr⟩:∃ x,(readC (bl s)).2.2=x:=⟨_,rfl⟩
 by_cases hz:E=0
 ·subst hz
  obtain ⟨hcf,hcl⟩:=read_formed hEr
  have hok:=read_chok (bl s)
  rw [hC] at hcf hcl hok
  simp only [hC,hP1,hP2,hEr] at h2
  have hck:=chK_of hcf hcl
  have h3:=fun (ok:Nat→Prop) w1 v (h:RdC ok w1 7 C v) (hp:Pow w1)=>printC_any h hck hcl hp
  have h4:=fun (ok:Nat→Prop) w1 v (h:RdC ok w1 7 C v) (hp:Pow w1)=>formedC_any h hck hp
  rw [hcf] at h4
  have h5:=fun (ok:Nat→Prop) w1 v (h:RdC ok w1 7 C v)=>strip_any h hok
  by_cases hsh:(txQ (chQ 7 C)).length≤12000∧(tkQ (chQ 7 C)).length≤3000
  ·have epr:prG 7 C=(txQ (chQ 7 C),0):=by unfold prG;rw [if_pos hcf,if_pos hsh]
   rw [epr] at h3
   obtain ⟨C',hrd,hak⟩:=read_printed hcf hcl hsh.1 hsh.2
   have hok':=read_chok (txQ (chQ 7 C))
   rw [hrd] at hok'
   obtain ⟨T,hT,eT,zT⟩:=letter_of (txQ (chQ 7 C))
   rw [hT] at h3
   have h6:=fun w1 (b:Below w.heap.size w w1)=>readP_any T w1 (hE.on b) (by omega)
   rw [eT,hrd] at h6
   have h7:=fun (ok:Nat→Prop) w1 v (h:RdC ok w1 7 C' v)=>strip_any h hok'
   obtain ⟨G,hG⟩:∃ G,stG 7 C'=G:=⟨_,rfl⟩
   have h8:=fun (ok ok':Nat→Prop) w1 v v' (h:RdC ok w1 7 G v) (h':RdC ok' w1 7 G v')=>same_any h h' (hG ▸ chok_st hok')
   have h5':∀ (ok:Nat→Prop) w1 v,RdC ok w1 7 C v→Calls Tryz.prog 16 #[v] w1 fun e w'=>∃ u,e=.returned u∧RdC (fun b=>w1.heap.size≤b) w' 7 G u∧Below w1.heap.size w1 w':=fun ok w1 v h=>(h5 ok w1 v h).mono (fun e w' hh=>by
    obtain ⟨u,q1,q2,q3⟩:=hh
    exact ⟨u,q1,hG ▸ rd_alike hak q2,q3⟩)
   rw [hG] at h7
   clear h5 hak hG hok hok' hrd epr hsh hck hcl hcf hT eT hEr hC hP1 hP2 zT hs
   go_enter Tryz.func6,Tryz.ntmps6
   go_upto_region 3 with (first
    | (go_at_call 18;refine h1.mono ?_;rintro e w1 ⟨rfl,b1⟩))
   go_upto_region 4 with (first
    | (go_at_call 23;refine (h2 _ b1).mono ?_;rintro e w2 ⟨v2,rfl,hr2,b2⟩;obtain ⟨c0,c1,c2,c3,c4,c5,c6,c7,c8,c9,rfl⟩:=rdC_formB hr2))
   have hb2:=b1.trans (b2.mono b1.size)
   have hal:=((Below.refl w2.heap.size w2).alloc (Nat.le_refl _) (.cells #[.string c0,.int .i64 c1,.int .i64 c2,.int .i64 c3,.slice c4 c5 c6,.slice c7 c8 c9] 33)).alloc (by simp) (.cells #[.int .i64 P1,.int .i64 P2] 23)
   have hA:Bn ((w2.alloc (.cells #[.string c0,.int .i64 c1,.int .i64 c2,.int .i64 c3,.slice c4 c5 c6,.slice c7 c8 c9] 33)).alloc (.cells #[.int .i64 P1,.int .i64 P2] 23)) w2.heap.size [.string c0,.int .i64 c1,.int .i64 c2,.int .i64 c3,.slice c4 c5 c6,.slice c7 c8 c9]:=(Bn.new w2 [.string c0,.int .i64 c1,.int .i64 c2,.int .i64 c3,.slice c4 c5 c6,.slice c7 c8 c9] 33 _ rfl).on ((Below.refl _ _).alloc (Nat.le_refl _) _)
   have hr3:=hr2.keep (fun b hb hl=>⟨hb,hal.block b hl⟩)
   have hb3:=hb2.trans (hal.mono hb2.size)
   clear hr2 b1 b2 hb2 hal h2
   generalize ((w2.alloc (.cells #[.string c0,.int .i64 c1,.int .i64 c2,.int .i64 c3,.slice c4 c5 c6,.slice c7 c8 c9] 33)).alloc (.cells #[.int .i64 P1,.int .i64 P2] 23))=w3 at *
   obtain ⟨XA,hXA⟩:∃ x,w2.heap.size=x:=⟨_,rfl⟩
   rw [hXA] at hA ⊢
   clear hXA w2
   obtain ⟨a0,_⟩:=hA 0 _ rfl
   obtain ⟨a1,_⟩:=hA 1 _ rfl
   obtain ⟨a2,_⟩:=hA 2 _ rfl
   obtain ⟨a3,_⟩:=hA 3 _ rfl
   obtain ⟨a4,_⟩:=hA 4 _ rfl
   obtain ⟨a5,_⟩:=hA 5 _ rfl
   have h3':=h3 _ w3 _ hr3 (hPw.below hb3)
   clear h3
   go_upto_region 9 with (first
    | (go_at_call 19;refine h3'.mono ?_;rintro e w3b ⟨rfl,b3⟩))
   clear a0 a1 a2 a3 a4 a5
   have hb3b:=hb3.trans (b3.mono hb3.size)
   have hA3:=hA.on b3
   have hr3b:=hr3.keep (fun b hb hl=>⟨hb,b3.block b hl⟩)
   go_upto_region 10 with (first
    | (go_at_call 23;refine (h6 _ hb3b).mono ?_;rintro e w4 ⟨v4,rfl,hr4,b4⟩;obtain ⟨d0,d1,d2,d3,d4,d5,d6,d7,d8,d9,rfl⟩:=rdC_formB hr4))
   have hb4:=hb3b.trans (b4.mono hb3b.size)
   have hal:=((Below.refl w4.heap.size w4).alloc (Nat.le_refl _) (.cells #[.string d0,.int .i64 d1,.int .i64 d2,.int .i64 d3,.slice d4 d5 d6,.slice d7 d8 d9] 33)).alloc (by simp) (.cells #[.int .i64 0,.int .i64 0] 23)
   have hB:Bn ((w4.alloc (.cells #[.string d0,.int .i64 d1,.int .i64 d2,.int .i64 d3,.slice d4 d5 d6,.slice d7 d8 d9] 33)).alloc (.cells #[.int .i64 0,.int .i64 0] 23)) w4.heap.size [.string d0,.int .i64 d1,.int .i64 d2,.int .i64 d3,.slice d4 d5 d6,.slice d7 d8 d9]:=(Bn.new w4 [.string d0,.int .i64 d1,.int .i64 d2,.int .i64 d3,.slice d4 d5 d6,.slice d7 d8 d9] 33 _ rfl).on ((Below.refl _ _).alloc (Nat.le_refl _) _)
   have hr5:=hr4.keep (fun b hb hl=>⟨hb,hal.block b hl⟩)
   have hb5:=hb4.trans (hal.mono hb4.size)
   have hbw:=b4.trans (hal.mono b4.size)
   have hr6:=hr3b.keep (fun b hb hl=>⟨hb,hbw.block b hl⟩)
   have hA5:=hA3.on hbw
   clear hr3 hr4 b4 hb4 hal hb3 hbw hA h6 b3 hb3b hA3 hr3b
   generalize ((w4.alloc (.cells #[.string d0,.int .i64 d1,.int .i64 d2,.int .i64 d3,.slice d4 d5 d6,.slice d7 d8 d9] 33)).alloc (.cells #[.int .i64 0,.int .i64 0] 23))=w5 at *
   obtain ⟨XB,hXB⟩:∃ x,w4.heap.size=x:=⟨_,rfl⟩
   rw [hXB] at hB ⊢
   clear hXB
   have hB0:Below w5.heap.size w5 w5:=Below.refl _ _
   have lA:=hA5.lt
   have lB:=hB.lt
   obtain ⟨a0,_⟩:=hA5 0 _ rfl
   obtain ⟨b0,_⟩:=hB 0 _ rfl
   obtain ⟨a1,_⟩:=hA5 1 _ rfl
   obtain ⟨b1,_⟩:=hB 1 _ rfl
   obtain ⟨a2,_⟩:=hA5 2 _ rfl
   obtain ⟨b2,_⟩:=hB 2 _ rfl
   obtain ⟨a3,_⟩:=hA5 3 _ rfl
   obtain ⟨b3,_⟩:=hB 3 _ rfl
   obtain ⟨a4,_⟩:=hA5 4 _ rfl
   obtain ⟨b4,_⟩:=hB 4 _ rfl
   obtain ⟨a5,_⟩:=hA5 5 _ rfl
   obtain ⟨b5,_⟩:=hB 5 _ rfl
   have g0:∀ w1,Below w5.heap.size w5 w1→Calls Tryz.prog 21 #[.agg #[.string c0,.int .i64 c1,.int .i64 c2,.int .i64 c3,.slice c4 c5 c6,.slice c7 c8 c9]] w1 fun e w'=>e=.returned (.bool true)∧Below w1.heap.size w1 w':=fun w1 bb=>h4 _ w1 _ (hr6.keep (ok':=fun _=>True) (fun b hb hl=>⟨trivial,bb.block b hl⟩)) (hPw.below (hb5.trans (bb.mono hb5.size)))
   have g1:∀ w1,Below w5.heap.size w5 w1→Calls Tryz.prog 16 #[.agg #[.string c0,.int .i64 c1,.int .i64 c2,.int .i64 c3,.slice c4 c5 c6,.slice c7 c8 c9]] w1 fun e w'=>∃ e0 e1 e2 e3 e4 e5 e6 e7 e8 e9,e=.returned (.agg #[.string e0,.int .i64 e1,.int .i64 e2,.int .i64 e3,.slice e4 e5 e6,.slice e7 e8 e9])∧RdC (fun b=>w1.heap.size≤b) w' 7 G (.agg #[.string e0,.int .i64 e1,.int .i64 e2,.int .i64 e3,.slice e4 e5 e6,.slice e7 e8 e9])∧Below w1.heap.size w1 w':=fun w1 bb=>(h5' _ w1 _ (hr6.keep (ok':=fun _=>True) (fun b hb hl=>⟨trivial,bb.block b hl⟩))).mono (fun e w' hh=>by
    obtain ⟨u,h1,h2,h3⟩:=hh
    obtain ⟨e0,e1,e2,e3,e4,e5,e6,e7,e8,e9,rfl⟩:=rdC_formB h2
    exact ⟨e0,e1,e2,e3,e4,e5,e6,e7,e8,e9,h1,h2,h3⟩)
   have g2:∀ w1,Below w5.heap.size w5 w1→Calls Tryz.prog 16 #[.agg #[.string d0,.int .i64 d1,.int .i64 d2,.int .i64 d3,.slice d4 d5 d6,.slice d7 d8 d9]] w1 fun e w'=>∃ e0 e1 e2 e3 e4 e5 e6 e7 e8 e9,e=.returned (.agg #[.string e0,.int .i64 e1,.int .i64 e2,.int .i64 e3,.slice e4 e5 e6,.slice e7 e8 e9])∧RdC (fun b=>w1.heap.size≤b) w' 7 G (.agg #[.string e0,.int .i64 e1,.int .i64 e2,.int .i64 e3,.slice e4 e5 e6,.slice e7 e8 e9])∧Below w1.heap.size w1 w':=fun w1 bb=>(h7 _ w1 _ (hr5.keep (ok':=fun _=>True) (fun b hb hl=>⟨trivial,bb.block b hl⟩))).mono (fun e w' hh=>by
    obtain ⟨u,h1,h2,h3⟩:=hh
    obtain ⟨e0,e1,e2,e3,e4,e5,e6,e7,e8,e9,rfl⟩:=rdC_formB h2
    exact ⟨e0,e1,e2,e3,e4,e5,e6,e7,e8,e9,h1,h2,h3⟩)
   clear h4 h5' h7 hr5 hr6 hA5 hB hE
   go_region_held_law (fun w'=>w'.cell? ⟨XA,0,none⟩=some (.string c0)∧w'.cell? ⟨XA,1,none⟩=some (.int .i64 c1)∧w'.cell? ⟨XA,2,none⟩=some (.int .i64 c2)∧w'.cell? ⟨XA,3,none⟩=some (.int .i64 c3)∧w'.cell? ⟨XA,4,none⟩=some (.slice c4 c5 c6)∧w'.cell? ⟨XA,5,none⟩=some (.slice c7 c8 c9)∧w'.cell? ⟨XB,0,none⟩=some (.string d0)∧w'.cell? ⟨XB,1,none⟩=some (.int .i64 d1)∧w'.cell? ⟨XB,2,none⟩=some (.int .i64 d2)∧w'.cell? ⟨XB,3,none⟩=some (.int .i64 d3)∧w'.cell? ⟨XB,4,none⟩=some (.slice d4 d5 d6)∧w'.cell? ⟨XB,5,none⟩=some (.slice d7 d8 d9))
    (exact ⟨(hB0.cell (p:=⟨XA,0,none⟩) lA).trans a0,(hB0.cell (p:=⟨XA,1,none⟩) lA).trans a1,(hB0.cell (p:=⟨XA,2,none⟩) lA).trans a2,(hB0.cell (p:=⟨XA,3,none⟩) lA).trans a3,(hB0.cell (p:=⟨XA,4,none⟩) lA).trans a4,(hB0.cell (p:=⟨XA,5,none⟩) lA).trans a5,(hB0.cell (p:=⟨XB,0,none⟩) lB).trans b0,(hB0.cell (p:=⟨XB,1,none⟩) lB).trans b1,(hB0.cell (p:=⟨XB,2,none⟩) lB).trans b2,(hB0.cell (p:=⟨XB,3,none⟩) lB).trans b3,(hB0.cell (p:=⟨XB,4,none⟩) lB).trans b4,(hB0.cell (p:=⟨XB,5,none⟩) lB).trans b5⟩)
    (first
     | (go_at_call 12;(first | (with_reducible refine (h8 _ _ _ _ _ hrA hrB).mono ?_) | (with_reducible refine (h8 _ _ _ _ _ (hrA.keep (ok':=fun _=>True) (fun b hb hl=>⟨trivial,rfl⟩)) (hrB.keep (ok':=fun _=>True) (fun b hb hl=>⟨trivial,rfl⟩))).mono ?_));rintro e w7 ⟨rfl,bb⟩;(first | have hB0:=Below.nxd hB0 bb | have hB0:=Below.nx hB0 bb))
     | (go_at_call 21;(first | (with_reducible refine (g0 _ hB0).mono ?_) | (with_reducible refine (g0 _ hB0.drew).mono ?_));rintro e w6 ⟨rfl,bb⟩;(first | have hB0:=Below.nxd hB0 bb | have hB0:=Below.nx hB0 bb))
     | (go_at_call 16;(first | (with_reducible refine (g1 _ hB0).mono ?_) | (with_reducible refine (g1 _ hB0.drew).mono ?_));rintro e w6 ⟨e0,e1,e2,e3,e4,e5,e6,e7,e8,e9,rfl,hrA,bb⟩;(try have hrB:=hrB.keep (w':=w6) (ok':=fun _=>True) (fun b hb hl=>⟨trivial,bb.block b hl⟩));(first | have hB0:=Below.nxd hB0 bb | have hB0:=Below.nx hB0 bb))
     | (go_at_call 16;(first | (with_reducible refine (g2 _ hB0).mono ?_) | (with_reducible refine (g2 _ hB0.drew).mono ?_));rintro e w6 ⟨f0,f1,f2,f3,f4,f5,f6,f7,f8,f9,rfl,hrB,bb⟩;(try have hrA:=hrA.keep (w':=w6) (ok':=fun _=>True) (fun b hb hl=>⟨trivial,bb.block b hl⟩));(first | have hB0:=Below.nxd hB0 bb | have hB0:=Below.nx hB0 bb))
     | fail)
   all_goals (
    go_wp2
    go_ret
    exact ⟨rfl,hb5.trans (hB0.mono hb5.size)⟩)
  ·have epr:prG 7 C=([],4):=by unfold prG;rw [if_pos hcf,if_neg hsh]
   rw [epr] at h3
   clear h5 hok epr hsh hck hcl hcf hEr hC hP1 hP2
   go_enter Tryz.func6,Tryz.ntmps6
   go_upto_region 3 with (first
    | (go_at_call 18;refine h1.mono ?_;rintro e w1 ⟨rfl,b1⟩))
   go_upto_region 4 with (first
    | (go_at_call 23;refine (h2 _ b1).mono ?_;rintro e w2 ⟨v2,rfl,hr2,b2⟩;obtain ⟨c0,c1,c2,c3,c4,c5,c6,c7,c8,c9,rfl⟩:=rdC_formB hr2))
   have hb2:=b1.trans (b2.mono b1.size)
   have hal:=((Below.refl w2.heap.size w2).alloc (Nat.le_refl _) (.cells #[.string c0,.int .i64 c1,.int .i64 c2,.int .i64 c3,.slice c4 c5 c6,.slice c7 c8 c9] 33)).alloc (by simp) (.cells #[.int .i64 P1,.int .i64 P2] 23)
   have hA:Bn ((w2.alloc (.cells #[.string c0,.int .i64 c1,.int .i64 c2,.int .i64 c3,.slice c4 c5 c6,.slice c7 c8 c9] 33)).alloc (.cells #[.int .i64 P1,.int .i64 P2] 23)) w2.heap.size [.string c0,.int .i64 c1,.int .i64 c2,.int .i64 c3,.slice c4 c5 c6,.slice c7 c8 c9]:=(Bn.new w2 [.string c0,.int .i64 c1,.int .i64 c2,.int .i64 c3,.slice c4 c5 c6,.slice c7 c8 c9] 33 _ rfl).on ((Below.refl _ _).alloc (Nat.le_refl _) _)
   have hr3:=hr2.keep (fun b hb hl=>⟨hb,hal.block b hl⟩)
   have hb3:=hb2.trans (hal.mono hb2.size)
   clear hr2 b1 b2 hb2 hal h2
   generalize ((w2.alloc (.cells #[.string c0,.int .i64 c1,.int .i64 c2,.int .i64 c3,.slice c4 c5 c6,.slice c7 c8 c9] 33)).alloc (.cells #[.int .i64 P1,.int .i64 P2] 23))=w3 at *
   obtain ⟨XA,hXA⟩:∃ x,w2.heap.size=x:=⟨_,rfl⟩
   rw [hXA] at hA ⊢
   clear hXA w2
   obtain ⟨a0,_⟩:=hA 0 _ rfl
   obtain ⟨a1,_⟩:=hA 1 _ rfl
   obtain ⟨a2,_⟩:=hA 2 _ rfl
   obtain ⟨a3,_⟩:=hA 3 _ rfl
   obtain ⟨a4,_⟩:=hA 4 _ rfl
   obtain ⟨a5,_⟩:=hA 5 _ rfl
   have h3':=h3 _ w3 _ hr3 (hPw.below hb3)
   have h4':=fun w1 (bb:Below w3.heap.size w3 w1)=>h4 _ w1 _ (hr3.keep (ok':=fun _=>True) (fun b hb hl=>⟨trivial,bb.block b hl⟩)) (hPw.below (hb3.trans (bb.mono hb3.size)))
   clear h3 h4
   go_wp2_with (first
    | (go_at_call 19;refine h3'.mono ?_;rintro e w3b ⟨rfl,b3⟩;have a0:=(b3.cell (p:=⟨XA,0,none⟩) hA.lt).trans a0;have a1:=(b3.cell (p:=⟨XA,1,none⟩) hA.lt).trans a1;have a2:=(b3.cell (p:=⟨XA,2,none⟩) hA.lt).trans a2;have a3:=(b3.cell (p:=⟨XA,3,none⟩) hA.lt).trans a3;have a4:=(b3.cell (p:=⟨XA,4,none⟩) hA.lt).trans a4;have a5:=(b3.cell (p:=⟨XA,5,none⟩) hA.lt).trans a5)
    | (go_at_call 21;refine (h4' _ b3).mono ?_;rintro e w4 ⟨rfl,b4⟩)
    | fail)
   go_ret
   have q1:=hb3.trans (b3.mono hb3.size)
   exact ⟨rfl,q1.trans (b4.mono q1.size)⟩
 ·have hno:=read_bad (s:=bl s) (by rw [hEr];exact hz)
  rw [hC] at hno
  subst hno
  simp only [hC,hP1,hP2,hEr] at h2
  have hz2:(E == 0)=false:=by simpa using hz
  have h2':∀ w1,Below w.heap.size w w1→Calls Tryz.prog 23 #[.string s] w1 fun e w'=>∃ c1 c2 c3 c4 c6 c7 c9,e=.returned (.tuple #[.agg #[.string ⟨#[]⟩,.int .i64 c1,.int .i64 c2,.int .i64 c3,.slice c4 0 c6,.slice c7 0 c9],.agg #[.int .i64 P1,.int .i64 P2],.int .i64 E])∧Below w1.heap.size w1 w':=fun w1 b=>(h2 w1 b).mono (fun e w' hh=>by
   obtain ⟨v,q1,⟨sv,ss,rfl,q2,q3⟩,q4⟩:=hh
   obtain ⟨p1,p3,rfl,_⟩:=q2.form
   obtain ⟨p4,p6,rfl,_⟩:=q3.form
   exact ⟨_,_,_,_,_,_,_,q1,q4⟩)
  clear h2 hEr hC hP1 hP2
  go_enter Tryz.func6,Tryz.ntmps6
  go_upto_region 3 with (first
   | (go_at_call 18;refine h1.mono ?_;rintro e w1 ⟨rfl,b1⟩))
  go_upto_region 4 with (first
   | (go_at_call 23;refine (h2' _ b1).mono ?_;rintro e w2 ⟨c1,c2,c3,c4,c6,c7,c9,rfl,b2⟩))
  have hb2:=b1.trans (b2.mono b1.size)
  have hal:=((Below.refl w2.heap.size w2).alloc (Nat.le_refl _) (.cells #[.string ⟨#[]⟩,.int .i64 c1,.int .i64 c2,.int .i64 c3,.slice c4 0 c6,.slice c7 0 c9] 33)).alloc (by simp) (.cells #[.int .i64 P1,.int .i64 P2] 23)
  have hA:Bn ((w2.alloc (.cells #[.string ⟨#[]⟩,.int .i64 c1,.int .i64 c2,.int .i64 c3,.slice c4 0 c6,.slice c7 0 c9] 33)).alloc (.cells #[.int .i64 P1,.int .i64 P2] 23)) w2.heap.size [.string ⟨#[]⟩,.int .i64 c1,.int .i64 c2,.int .i64 c3,.slice c4 0 c6,.slice c7 0 c9]:=(Bn.new w2 [.string ⟨#[]⟩,.int .i64 c1,.int .i64 c2,.int .i64 c3,.slice c4 0 c6,.slice c7 0 c9] 33 _ rfl).on ((Below.refl _ _).alloc (Nat.le_refl _) _)
  have hb3:=hb2.trans (hal.mono hb2.size)
  generalize ((w2.alloc (.cells #[.string ⟨#[]⟩,.int .i64 c1,.int .i64 c2,.int .i64 c3,.slice c4 0 c6,.slice c7 0 c9] 33)).alloc (.cells #[.int .i64 P1,.int .i64 P2] 23))=w3 at *
  obtain ⟨a0,_⟩:=hA 0 _ rfl
  obtain ⟨a5,_⟩:=hA 5 _ rfl
  clear hal
  go_wp2
  go_ret
  exact ⟨rfl,hb3⟩
end Go.Proofs.YtfjdceknbdmhpaaGreatDoor
/- An argument that is a slice of bytes, opened: the bytes that it reads as, each from 0 to 255, and their number within the form's reach. -/
namespace Go.Proofs.YtfjdceknbdmhpaaGreatDoor
open Go.ChangeShapes Go.WideShapes Go.ChangeAt Go.RowKit
theorem sized_text {H:Type} {P:Program} {ts:List TypeId} {ds:List (DataW H)} (h:(DataW.weightsEach P ts ds).all (·≤reachBytes)=true) {j:Nat} {t:TypeId} {s:ByteArray}
  (ht:ts[j]?=some t) (hd:ds[j]?=some (.lit (.string s.data.toList))):s.size≤140737488351232:=by
 have:=sized_string h ht hd
 simp only [reachBytes,Array.length_toList] at this
 exact this
end Go.Proofs.YtfjdceknbdmhpaaGreatDoor
/- The table of powers of ten, by the row's list. -/
namespace Go.Proofs.YtfjdceknbdmhpaaGreatDoor
open Go.RowKit Go.Lib
theorem pow_of {w:World} {L:List (String × DataW Unit)} (h:laidMetH Tryz.prog L w) (hp:(L.all fun x=>x.2.handleName?.isNone)=true) (m:("internal/strconv.uint64pow10",Rows.laid_internal_strconv_uint64pow10)∈L):Pow w:=by
 rw [MakeChecks.laidMetH_plain _ _ _ hp] at h
 have h1:=Lib.laidMet.reads h m
 have d1:(Rows.laid_internal_strconv_uint64pow10:DataW Unit)=Lib.tabData .u64 Lib.pow10Tab:=by kernel_rfl
 rw [d1] at h1
 obtain ⟨g,t,cs,fuel,p,hg,ht,hvar,hd⟩:=h1
 have hg2:((Tryz.prog.globalNamed "internal/strconv.uint64pow10").bind fun g=>(Tryz.prog.globals[g]?).map (·.type))=some 252:=by kernel_rfl
 rw [hg,Option.bind_some,ht] at hg2
 obtain rfl:=Option.some.inj hg2
 unfold Pow Lib.TabIs
 rw [hvar,← cells_of_tab Tryz.underlying252 Tryz.underlying212 (by kernel_rfl) (by kernel_rfl) hd]
end Go.Proofs.YtfjdceknbdmhpaaGreatDoor
/- What strconv.ErrSyntax holds, by the row's list. -/
namespace Go.Proofs.YtfjdceknbdmhpaaGreatDoor
open Go.RowKit Go.Lib
set_option linter.unusedVariables false
theorem iface_of {P:Program} {w:World} {t:TypeId} {fuel:Nat} {cs:List Value} {name:String} {d:DataW Unit} {p:List MemPlace} (ht:(P.underlying t).map (fun u=>match u with | .interface _=>true | _=>false)=some true) (h:DataW.trod (fun _=>()) P w 0 (fun _=>true) false fuel t cs=some (.iface name d,p)):∃ u v,cs=[.iface u v]:=by
 cases fuel with
 | zero=>simp [DataW.trod] at h
 | succ fuel=>
  unfold DataW.trod at h
  cases hu:P.underlying t with
  | none=>rw [hu] at ht;simp at ht
  | some u=>
   rw [hu] at ht h
   cases u <;> simp at ht
   split at h <;> simp_all
theorem esy_of {w:World} {L:List (String × DataW Unit)} (h:laidMetH Tryz.prog L w) (hp:(L.all fun x=>x.2.handleName?.isNone)=true) (m:("strconv.ErrSyntax",Rows.laid_strconv_ErrSyntax)∈L):Esy w:=by
 rw [MakeChecks.laidMetH_plain _ _ _ hp] at h
 obtain ⟨g,t,cs,fuel,p,hg,ht,hvar,hd⟩:=Lib.laidMet.reads h m
 have hg2:Tryz.prog.globalNamed "strconv.ErrSyntax" = some (renA.g 15):=by kernel_rfl
 rw [hg] at hg2
 obtain rfl:=Option.some.inj hg2
 have ht2:((Tryz.prog.globals[renA.g 15]?).map (·.type)).bind (fun t=>(Tryz.prog.underlying t).map (fun u=>match u with | .interface _=>true | _=>false))=some true:=by kernel_rfl
 rw [ht,Option.bind_some] at ht2
 obtain ⟨u,v,hcs⟩:=iface_of ht2 hd
 have:cs=#[.iface u v]:=by cases cs;simp at hcs;rw [hcs]
 subst this
 unfold World.var? at hvar
 rw [hg,Option.bind_some] at hvar
 refine ⟨.iface u v,?_,.inr ⟨u,v,rfl⟩⟩
 cases hh:w.heap[renA.g 15]? with
 | none=>rw [hh] at hvar;simp at hvar
 | some o=>
  rw [hh] at hvar
  cases o with
  | cells cs e f=>
   simp only [Option.some.injEq] at hvar
   subst hvar
   exact (cell_of_row w _ 0 _ _ _ hh).trans rfl
  | _=>simp at hvar
end Go.Proofs.YtfjdceknbdmhpaaGreatDoor
