import Derived.Test.YtfjdceknbdmhpaaGreatDoorWvc05
import Derived.Test.YtfjdceknbdmhpaaGreatDoorWvc02
import Derived.Test.YtfjdceknbdmhpaaGreatDoorWvc08
import Derived.Test.YtfjdceknbdmhpaaGreatDoorWvc07
import Derived.Deep.RegionLaw
import Derived.Deep.LoopGhost
import Derived.Deep.DeepCutAuto
import Derived.Test.YtfjdceknbdmhpaaGreatDoorWvc11
/- What the program's Same does: what its rounds lean on. -/
namespace Go.Proofs.YtfjdceknbdmhpaaGreatDoor
open Go.RowKit Go.Lib
set_option linter.unusedSimpArgs false
set_option linter.unusedVariables false
attribute [local go_sem ↓] Go.wp_at_zero Go.wp_at_succ
def alk (k n:Int) (s:ByteArray) (k' n':Int) (s':ByteArray):Bool:=decide (k=k') && decide (n=n') && decide (s=s')
set_option maxRecDepth 100000 in
set_option maxHeartbeats 4000000 in
theorem alike_any (k n:Int) (s:ByteArray) (a:Option Addr) (m:Nat) (k' n':Int) (s':ByteArray) (a':Option Addr) (m':Nat) (hk:k≠6) (w:World) :
  Calls Tryz.prog 193 #[.agg #[.int .i64 k,.int .i64 n,.string s,.slice a m m],.agg #[.int .i64 k',.int .i64 n',.string s',.slice a' m' m']] w fun e w'=>e=.returned (.bool (alk k n s k' n' s'))∧Below w.heap.size w w':=by
 have e6:(k == 6)=false:=beq_eq_false_iff_ne.2 hk
 have n6:(k != 6)=true:=by simp [hk]
 have hb:Below w.heap.size w ((w.alloc (.cells #[.int .i64 k,.int .i64 n,.string s,.slice a m m] 244)).alloc (.cells #[.int .i64 k',.int .i64 n',.string s',.slice a' m' m'] 244)):=((Below.refl _ _).alloc (Nat.le_refl _) _).alloc (by simp) _
 unfold alk
 by_cases h1:k=k'
 ·subst h1
  rw [decide_eq_true rfl,Bool.true_and]
  by_cases h2:n=n'
  ·subst h2
   rw [decide_eq_true rfl,Bool.true_and]
   by_cases h3:s=s'
   ·subst h3
    rw [decide_eq_true rfl]
    go_enter Tryz.func193,Tryz.ntmps193
    go_wp2
    go_ret
    exact ⟨rfl,hb⟩
   ·have e3:=bytes_ne h3
    rw [decide_eq_false h3]
    clear h3
    go_enter Tryz.func193,Tryz.ntmps193
    go_wp2
    go_ret
    exact ⟨rfl,hb⟩
  ·have e2:(n == n')=false:=beq_eq_false_iff_ne.2 h2
   rw [decide_eq_false h2,Bool.false_and]
   go_enter Tryz.func193,Tryz.ntmps193
   go_wp2
   go_ret
   exact ⟨rfl,hb⟩
 ·have e1:(k == k')=false:=beq_eq_false_iff_ne.2 h1
  rw [decide_eq_false h1,Bool.false_and,Bool.false_and]
  go_enter Tryz.func193,Tryz.ntmps193
  go_wp2
  go_ret
  exact ⟨rfl,hb⟩
theorem B4.keep' {w w':World} {X:Nat} {a b c e:Value} (hb:Below w.heap.size w w') (h:B4 w X a b c e):B4 w' X a b c e:=h.keep hb
theorem cell_al {w:World} {p:Addr} {v:Value} {O:Obj} (h:w.cell? p=some v):(w.alloc O).cell? p=some v:=(((Below.refl w.heap.size w).alloc (Nat.le_refl _) O).cell (World.block_lt_of_cell? w _ h)).trans h
theorem cell_pt {w:World} {X Y j:Nat} {v a b c e:Value} (h:w.cell? ⟨Y,j,none⟩=some v) (hne:Y≠X):(put4 w X a b c e).cell? ⟨Y,j,none⟩=some v:=cell_far4 (by omega) (cell_far4 (by omega) (cell_far4 (by omega) (cell_far4 (by omega) h)))
theorem sz1 (w:World) (o:Obj):w.heap.size+1=(w.alloc o).heap.size:=by simp
theorem z4_al {w:World} {X:Nat} (h:B4 w X (.int .i64 0) (.int .i64 0) (.string ⟨#[]⟩) (.slice none 0 0)) (O:Obj):(w.alloc O).cell? ⟨X,0,none⟩=some (.int .i64 0)∧(w.alloc O).cell? ⟨X,1,none⟩=some (.int .i64 0)∧(w.alloc O).cell? ⟨X,2,none⟩=some (.string ⟨#[]⟩)∧(w.alloc O).cell? ⟨X,3,none⟩=some (.slice none 0 0)∧
  (w.alloc O).frozen? ⟨X,0,none⟩=false∧(w.alloc O).frozen? ⟨X,1,none⟩=false∧(w.alloc O).frozen? ⟨X,2,none⟩=false∧(w.alloc O).frozen? ⟨X,3,none⟩=false:=by
 have k:=h.keep ((Below.refl _ _).alloc (Nat.le_refl _) O)
 exact ⟨k.c0,k.c1,k.c2,k.c3,k.f0,k.f1,k.f2,k.f3⟩
def samS (x y:Sg):Bool:=samC x.1 y.1 x.2 y.2
def oneB (u v:Value):Prop:=∀ g,u.ownBlock=some g→v.ownBlock=some g→False
abbrev z4 (w:World) (X:Nat):Prop:=B4 w X (.int .i64 0) (.int .i64 0) (.string ⟨#[]⟩) (.slice none 0 0)
theorem cell_dr {w:World} {p:Addr} {v:Value} (h:w.cell? p=some v):w.drew.cell? p=some v:=h
theorem ne_pt {X Y i j:Nat} (h:Y≠X):¬ (X=Y∧i=j):=fun e=>h e.1.symm
theorem bw0 {w w1:World} (b:Below w.drew.heap.size w.drew w1):Below w.heap.size w w1:=((Below.refl _ w).drew).trans b
theorem bw1 {w w1:World} (b:Below (w.alloc (.cells #[.int .i64 0,.int .i64 0,.string ⟨#[]⟩,.slice none 0 0] 244)).drew.heap.size (w.alloc (.cells #[.int .i64 0,.int .i64 0,.string ⟨#[]⟩,.slice none 0 0] 244)).drew w1):Below w.heap.size w w1:=(((Below.refl _ w).alloc (Nat.le_refl _) _).drew).trans (b.mono (by simp))
theorem bw2 {w w1:World} (b:Below ((w.alloc (.cells #[.int .i64 0,.int .i64 0,.string ⟨#[]⟩,.slice none 0 0] 244)).alloc (.cells #[.int .i64 0,.int .i64 0,.string ⟨#[]⟩,.slice none 0 0] 244)).drew.heap.size ((w.alloc (.cells #[.int .i64 0,.int .i64 0,.string ⟨#[]⟩,.slice none 0 0] 244)).alloc (.cells #[.int .i64 0,.int .i64 0,.string ⟨#[]⟩,.slice none 0 0] 244)).drew w1):Below w.heap.size w w1:=((((Below.refl _ w).alloc (Nat.le_refl _) _).alloc (by simp) _).drew).trans (b.mono (by simp;omega))
theorem bx1 {w w1:World} (b:Below (w.alloc (.cells #[.int .i64 0,.int .i64 0,.string ⟨#[]⟩,.slice none 0 0] 244)).heap.size (w.alloc (.cells #[.int .i64 0,.int .i64 0,.string ⟨#[]⟩,.slice none 0 0] 244)) w1):Below w.heap.size w w1:=((Below.refl _ w).alloc (Nat.le_refl _) _).trans (b.mono (by simp))
theorem bx2 {w w1:World} (b:Below ((w.alloc (.cells #[.int .i64 0,.int .i64 0,.string ⟨#[]⟩,.slice none 0 0] 244)).alloc (.cells #[.int .i64 0,.int .i64 0,.string ⟨#[]⟩,.slice none 0 0] 244)).heap.size ((w.alloc (.cells #[.int .i64 0,.int .i64 0,.string ⟨#[]⟩,.slice none 0 0] 244)).alloc (.cells #[.int .i64 0,.int .i64 0,.string ⟨#[]⟩,.slice none 0 0] 244)) w1):Below w.heap.size w w1:=(((Below.refl _ w).alloc (Nat.le_refl _) _).alloc (by simp) _).trans (b.mono (by simp;omega))
theorem zC1 {w w1:World} (b:Below (w.alloc (.cells #[.int .i64 0,.int .i64 0,.string ⟨#[]⟩,.slice none 0 0] 244)).heap.size (w.alloc (.cells #[.int .i64 0,.int .i64 0,.string ⟨#[]⟩,.slice none 0 0] 244)) w1):z4 w1 w.heap.size:=(B4.new w _ _ _ _ _ _ rfl).keep b
theorem zC2 {w w1:World} (b:Below ((w.alloc (.cells #[.int .i64 0,.int .i64 0,.string ⟨#[]⟩,.slice none 0 0] 244)).alloc (.cells #[.int .i64 0,.int .i64 0,.string ⟨#[]⟩,.slice none 0 0] 244)).heap.size ((w.alloc (.cells #[.int .i64 0,.int .i64 0,.string ⟨#[]⟩,.slice none 0 0] 244)).alloc (.cells #[.int .i64 0,.int .i64 0,.string ⟨#[]⟩,.slice none 0 0] 244)) w1):z4 w1 w.heap.size:=((B4.new w _ _ _ _ 244 _ rfl).keep ((Below.refl _ _).alloc (Nat.le_refl _) _)).keep b
theorem zD2 {w w1:World} (b:Below ((w.alloc (.cells #[.int .i64 0,.int .i64 0,.string ⟨#[]⟩,.slice none 0 0] 244)).alloc (.cells #[.int .i64 0,.int .i64 0,.string ⟨#[]⟩,.slice none 0 0] 244)).heap.size ((w.alloc (.cells #[.int .i64 0,.int .i64 0,.string ⟨#[]⟩,.slice none 0 0] 244)).alloc (.cells #[.int .i64 0,.int .i64 0,.string ⟨#[]⟩,.slice none 0 0] 244)) w1):z4 w1 (w.heap.size+1):=(B4.new (w.alloc (.cells #[.int .i64 0,.int .i64 0,.string ⟨#[]⟩,.slice none 0 0] 244)) _ _ _ _ _ _ (sz1 w _)).keep b
theorem zA1 {w w1:World} (b:Below (w.alloc (.cells #[.int .i64 0,.int .i64 0,.string ⟨#[]⟩,.slice none 0 0] 244)).drew.heap.size (w.alloc (.cells #[.int .i64 0,.int .i64 0,.string ⟨#[]⟩,.slice none 0 0] 244)).drew w1):z4 w1 w.heap.size:=((B4.new w _ _ _ _ _ _ rfl).keep ((Below.refl _ _).drew)).keep b
theorem zA2 {w w1:World} (b:Below ((w.alloc (.cells #[.int .i64 0,.int .i64 0,.string ⟨#[]⟩,.slice none 0 0] 244)).alloc (.cells #[.int .i64 0,.int .i64 0,.string ⟨#[]⟩,.slice none 0 0] 244)).drew.heap.size ((w.alloc (.cells #[.int .i64 0,.int .i64 0,.string ⟨#[]⟩,.slice none 0 0] 244)).alloc (.cells #[.int .i64 0,.int .i64 0,.string ⟨#[]⟩,.slice none 0 0] 244)).drew w1):z4 w1 w.heap.size:=(((B4.new w _ _ _ _ 244 _ rfl).keep ((Below.refl _ _).alloc (Nat.le_refl _) _)).keep ((Below.refl _ _).drew)).keep b
theorem zB2 {w w1:World} (b:Below ((w.alloc (.cells #[.int .i64 0,.int .i64 0,.string ⟨#[]⟩,.slice none 0 0] 244)).alloc (.cells #[.int .i64 0,.int .i64 0,.string ⟨#[]⟩,.slice none 0 0] 244)).drew.heap.size ((w.alloc (.cells #[.int .i64 0,.int .i64 0,.string ⟨#[]⟩,.slice none 0 0] 244)).alloc (.cells #[.int .i64 0,.int .i64 0,.string ⟨#[]⟩,.slice none 0 0] 244)).drew w1):z4 w1 (w.heap.size+1):=((B4.new (w.alloc (.cells #[.int .i64 0,.int .i64 0,.string ⟨#[]⟩,.slice none 0 0] 244)) _ _ _ _ _ _ (sz1 w _)).keep ((Below.refl _ _).drew)).keep b
theorem Kids.put {w:World} {sl:Value} {L:List Value} {X:Nat} {a b c e:Value} (h:Kids w sl L) (hi:∀ v∈L,Ifc v) (hz:z4 w X):Kids (put4 w X a b c e) sl L:=by
 rcases h with h | ⟨g,hv,hc⟩
 ·exact .inl h
 ·refine .inr ⟨g,hv,fun i hl=>?_⟩
  have hne:g≠X:=fun e=>by
   subst e
   have h0:=hc 0 (by omega)
   rw [hz.c0] at h0
   have h1:=Option.some.inj h0
   rcases hi _ (List.getElem_mem (by omega:0 < L.length)) with q | ⟨u,y,q⟩
   ·rw [q] at h1;cases h1
   ·rw [q] at h1;cases h1
  exact cell_pt (hc i hl) hne
theorem KidsN.put {lo:Nat} {w:World} {sl:Value} {L:List Value} {X:Nat} {a b c e:Value} (h:KidsN lo w sl L) (hi:∀ v∈L,Ifc v) (hz:z4 w X):KidsN lo (put4 w X a b c e) sl L:=⟨h.1.put hi hz,h.2⟩
theorem KidsN.al {lo:Nat} {w:World} {sl:Value} {L:List Value} {O:Obj} (h:KidsN lo w sl L):KidsN lo (w.alloc O) sl L:=⟨h.1.below ((Below.refl _ _).alloc (Nat.le_refl _) O) (Nat.le_refl _),h.2⟩
theorem B4.at {w:World} {X:Nat} {a b c e:Value} (h:B4 w X a b c e):At4 w X a b c e:=⟨h.c0,h.c1,h.c2,h.c3⟩
/-- Both are there, in blocks of their own. -/
def Both (wr wc:World) (X Y:Nat) (a b c sl a' b' c' sl':Value) (L M:List Value):Prop:=
 At4 wc X a b c sl∧At4 wc Y a' b' c' sl'∧KidsN wr.heap.size wc sl L∧KidsN wr.heap.size wc sl' M∧wr.heap.size≤X∧wr.heap.size≤Y∧Below wr.heap.size wr wc
section
variable {wr w2:World} {X Y:Nat} {a b c sl a' b' c' sl':Value} {L M:List Value}
theorem fin_C (bv:Below wr.heap.size wr w2) (hT:(∀ v∈L,Ifc v)∧(∀ v∈M,Ifc v)) (K1:KidsN wr.heap.size w2 sl L) (K2:KidsN wr.heap.size w2 sl' M) (qX:z4 w2 X) (qY:z4 w2 Y) (hne:X≠Y) (hX:wr.heap.size≤X) (hY:wr.heap.size≤Y) :
  Both wr (put4 (put4 w2 X a b c sl) Y a' b' c' sl') X Y a b c sl a' b' c' sl' L M:=by
 have qY':=qY.farPut hne a b c sl
 exact ⟨((qX.put a b c sl).farPut hne.symm a' b' c' sl').at,(qY'.put a' b' c' sl').at,(K1.put hT.1 qX).put hT.1 qY',(K2.put hT.2 qX).put hT.2 qY',hX,hY,below_put (below_put bv hX _ _ _ _) hY _ _ _ _⟩
theorem fin_B (bv:Below wr.heap.size wr w2) (hT:(∀ v∈L,Ifc v)∧(∀ v∈M,Ifc v)) (K1:KidsN wr.heap.size w2 sl L) (K2:KidsN wr.heap.size w2 sl' M) (qX:z4 w2 X) (hX:wr.heap.size≤X) :
  Both wr (put4 (put4 (w2.alloc (.cells #[.int .i64 0,.int .i64 0,.string ⟨#[]⟩,.slice none 0 0] 244)) X a b c sl) w2.heap.size a' b' c' sl') X w2.heap.size a b c sl a' b' c' sl' L M:=
 fin_C (bv.alloc bv.size _) hT K1.al K2.al (qX.keep ((Below.refl _ _).alloc (Nat.le_refl _) _)) (B4.new w2 _ _ _ _ _ _ rfl) (Nat.ne_of_lt qX.lt) hX bv.size
theorem fin_D (bv:Below wr.heap.size wr w2) (hT:(∀ v∈L,Ifc v)∧(∀ v∈M,Ifc v)) (K1:KidsN wr.heap.size w2 sl L) (K2:KidsN wr.heap.size w2 sl' M) (qY:z4 w2 Y) (hY:wr.heap.size≤Y) :
  Both wr (put4 (w2.alloc (.cells #[a,b,c,sl] 244)) Y a' b' c' sl') w2.heap.size Y a b c sl a' b' c' sl' L M:=by
 have q:=qY.keep ((Below.refl w2.heap.size w2).alloc (Nat.le_refl _) (.cells #[a,b,c,sl] 244))
 have h:=B4.new w2 a b c sl 244 w2.heap.size rfl
 exact ⟨(h.farPut (Nat.ne_of_lt qY.lt) a' b' c' sl').at,(q.put a' b' c' sl').at,K1.al.put hT.1 q,K2.al.put hT.2 q,bv.size,hY,below_put (bv.alloc bv.size _) hY _ _ _ _⟩
theorem fin_A (bv:Below wr.heap.size wr w2) (K1:KidsN wr.heap.size w2 sl L) (K2:KidsN wr.heap.size w2 sl' M) :
  Both wr ((w2.alloc (.cells #[a,b,c,sl] 244)).alloc (.cells #[a',b',c',sl'] 244)) w2.heap.size (w2.heap.size+1) a b c sl a' b' c' sl' L M:=by
 have h:=(B4.new w2 a b c sl 244 w2.heap.size rfl).keep ((Below.refl _ _).alloc (Nat.le_refl _) (.cells #[a',b',c',sl'] 244))
 have h':=B4.new (w2.alloc (.cells #[a,b,c,sl] 244)) a' b' c' sl' 244 (w2.heap.size+1) (sz1 w2 _)
 exact ⟨h.at,h'.at,K1.al.al,K2.al.al,bv.size,Nat.le_succ_of_le bv.size,(bv.alloc bv.size _).alloc (by simp;exact Nat.le_succ_of_le bv.size) _⟩
theorem fin_E (bv:Below wr.heap.size wr w2) (K1:KidsN wr.heap.size w2 sl L) (K2:KidsN wr.heap.size w2 sl' M) :
  Both wr ((w2.alloc (.cells #[a',b',c',sl'] 244)).alloc (.cells #[a,b,c,sl] 244)) (w2.heap.size+1) w2.heap.size a b c sl a' b' c' sl' L M:=by
 have h:=(B4.new w2 a' b' c' sl' 244 w2.heap.size rfl).keep ((Below.refl _ _).alloc (Nat.le_refl _) (.cells #[a,b,c,sl] 244))
 have h':=B4.new (w2.alloc (.cells #[a',b',c',sl'] 244)) a b c sl 244 (w2.heap.size+1) (sz1 w2 _)
 exact ⟨h'.at,h.at,K1.al.al,K2.al.al,Nat.le_succ_of_le bv.size,bv.size,(bv.alloc bv.size _).alloc (by simp;exact Nat.le_succ_of_le bv.size) _⟩
end
theorem allz_app {α β:Type} (f:α→β→Bool):∀ (x:List α) (y:List β) (a:List α) (b:List β),x.length=y.length→allz f (x++a) (y++b)=(allz f x y && allz f a b)
 | [],[],a,b,_=>by simp [allz]
 | [],_ :: _,_,_,h=>by simp at h
 | _ :: _,[],_,_,h=>by simp at h
 | p :: x,q :: y,a,b,h=>by
  show (f p q && allz f (x++a) (y++b))=(f p q && allz f x y && allz f a b)
  rw [allz_app f x y a b (by simpa using h),Bool.and_assoc]
theorem allz_kid {d e:Nat}:∀ (ps:List (T d)) (qs:List (T e)),allz samS (kidS ps) (kidS qs)=allz (samC d e) ps qs
 | [],_=>by simp [kidS,allz]
 | _ :: _,[]=>by simp [kidS,allz]
 | p :: r,q :: t=>by
  show (samC d e p q && allz samS (kidS r) (kidS t))=_
  rw [allz_kid r t];rfl
theorem cl_n {d:Nat} {k n:Int} {s:ByteArray} {ps:List (T d)} (h:Cl (d+1) (mkT k n s ps)):k≠6∧ps.length=if k=3∨k=4 then 1 else if k=5 then 2 else 0:=by
 rcases h with ⟨h1,_,h3⟩ | ⟨h1,_,h3⟩ | ⟨h1,_,_,p,h4,_⟩ | ⟨h1,_,p,q,h3,_⟩ | ⟨h1,_,_,h4⟩
 ·simp only at h1 h3;subst h1 h3;simp
 ·simp only at h1 h3;subst h1 h3;simp
 ·simp only at h1 h4;subst h4;rcases h1 with rfl | rfl <;> simp
 ·simp only at h1 h3;subst h1 h3;simp
 ·simp only at h1 h4;subst h1 h4;simp
theorem sam_no {d e:Nat} {k n k' n':Int} {s s':ByteArray} {ps:List (T d)} {qs:List (T e)} (h:alk k n s k' n' s'=false):samS ⟨d+1,mkT k n s ps⟩ ⟨e+1,mkT k' n' s' qs⟩=false:=by
 show samC (d+1) (e+1) (mkT k n s ps) (mkT k' n' s' qs)=false
 rw [samC_mk]
 unfold alk at h
 rw [h];simp
theorem sam_yes {d e:Nat} {k n k' n':Int} {s s':ByteArray} {ps:List (T d)} {qs:List (T e)} (h:alk k n s k' n' s'=true) (hc:Cl (d+1) (mkT k n s ps)) (hc':Cl (e+1) (mkT k' n' s' qs)) :
  ps.length=qs.length∧samS ⟨d+1,mkT k n s ps⟩ ⟨e+1,mkT k' n' s' qs⟩=allz (samC d e) ps qs:=by
 have hk:k=k':=by unfold alk at h;simp only [Bool.and_eq_true,decide_eq_true_eq] at h;exact h.1.1
 have hl:ps.length=qs.length:=by rw [(cl_n hc).2,(cl_n hc').2,hk]
 refine ⟨hl,?_⟩
 show samC (d+1) (e+1) (mkT k n s ps) (mkT k' n' s' qs)=_
 rw [samC_mk]
 unfold alk at h
 rw [h,decide_eq_true hl];simp
theorem KidsN.gr {lo g:Nat} {w w':World} {sl:Value} {L:List Value} (h:KidsN lo w sl L) (hg:w.grownBy w' (some g)) (hl:g < lo):KidsN lo w' sl L:=by
 refine ⟨?_,h.2⟩
 rcases h.1 with q | ⟨b,hv,hc⟩
 ·exact .inl q
 ·refine .inr ⟨b,hv,fun i hi=>hg.cell (hc i hi) (fun e=>?_)⟩
  have:=h.2 b (by rw [hv];rfl)
  have e2:b=g:=by simpa using e
  omega
theorem KidsN.dr {lo:Nat} {w:World} {sl:Value} {L:List Value} (h:KidsN lo w sl L):KidsN lo w.drew sl L:=⟨h.1.below ((Below.refl _ _).drew) (Nat.le_refl _),h.2⟩
/-- What lies there at the start. -/
def Start (w:World) (x y:Value) (V:Bool):Prop:=∃ S S',Stk ((w.alloc (.cells #[x] 130)).alloc (.cells #[y] 130)) w.heap.size (.slice (some ⟨w.heap.size,0,none⟩) 1 1) S∧Stk ((w.alloc (.cells #[x] 130)).alloc (.cells #[y] 130)) w.heap.size (.slice (some ⟨w.heap.size+1,0,none⟩) 1 1) S'∧
 S.length=S'.length∧(∀ y∈S,ClS y)∧(∀ y∈S',ClS y)∧allz samS S S'=V∧(S.map cntS).sum≤2000∧(S'.map cntS).sum≤2000
theorem con_res {w4:World} {R:Nat} {a b c d e f:Value} {tmps:Array Value} (hR:Bn w4 R [a,b,c,d,e,f]) (ht:tmps.getD 2 undef=.pointer (some ⟨R,0,none⟩)):(results Tryz.f78 tmps).run Tryz.prog w4=.ok (.agg #[a,b,c,d,e,f]) w4:=by
 have ht':tmps[2]?.getD undef=.pointer (some ⟨R,0,none⟩):=by simpa using ht
 have c0:=(hR 0 _ rfl).1
 have c1:=(hR 1 _ rfl).1
 have c2:=(hR 2 _ rfl).1
 have c3:=(hR 3 _ rfl).1
 have c4:=(hR 4 _ rfl).1
 have c5:=(hR 5 _ rfl).1
 simp [results,Tryz.results78,go_sem,ht',c0,c1,c2,c3,c4,c5]
set_option maxRecDepth 100000 in
set_option maxHeartbeats 16000000 in
theorem son_nil {ok:Nat→Prop} {w:World} (ev tg:ByteArray) (s1:Option Addr) (ns s3:Nat) (ol oc:Int) (l:List (List UInt8 × Sx)) (h1:ev.size≤140737488351232) (h3:tg.size≤140737488351232) (h2:∀ w1,Calls Tryz.prog 134 #[.nilIface] w1 fun e w'=>e=.returned (.nilIface)∧Below w1.heap.size w1 w')
  (hs:RdK ok w 2 (rSet ok w) l (.slice s1 ns s3)) (hn:l.length=ns) (hl:ns≤100000) (hok:∀ s∈l,SetOk s):Calls Tryz.prog 78 #[.agg #[.string ev,.nilIface,.string tg,.slice s1 ns s3,.int .i64 ol,.int .i64 oc]] w fun e w'=>∃ u1 u3,e=.returned (.agg #[.string ev,.nilIface,.string tg,.slice u1 ns u3,.int .i64 0,.int .i64 0])∧RdK (fun b=>w.heap.size≤b) w' 2 (rSet (fun b=>w.heap.size≤b) w') l (.slice u1 ns u3)∧Below w.heap.size w w':=by
 have g1:=fun w1=>pClone_any ev w1 h1
 have g3:=fun w1=>pClone_any tg w1 h3
 have hal:Below w.heap.size w ((w.alloc (.cells #[.string ev,.nilIface,.string tg,.slice s1 ns s3,.int .i64 ol,.int .i64 oc] 133)).alloc (.cells #[.string ⟨#[]⟩,.nilIface,.string ⟨#[]⟩,.slice none 0 0,.int .i64 0,.int .i64 0] 133)):=((Below.refl w.heap.size w).alloc (Nat.le_refl _) _).alloc (by simp) _
 have hX:Bn ((w.alloc (.cells #[.string ev,.nilIface,.string tg,.slice s1 ns s3,.int .i64 ol,.int .i64 oc] 133)).alloc (.cells #[.string ⟨#[]⟩,.nilIface,.string ⟨#[]⟩,.slice none 0 0,.int .i64 0,.int .i64 0] 133)) w.heap.size [.string ev,.nilIface,.string tg,.slice s1 ns s3,.int .i64 ol,.int .i64 oc]:=(Bn.new w [.string ev,.nilIface,.string tg,.slice s1 ns s3,.int .i64 ol,.int .i64 oc] 133 _ rfl).on ((Below.refl _ _).alloc (Nat.le_refl _) _)
 have hR:Bn ((w.alloc (.cells #[.string ev,.nilIface,.string tg,.slice s1 ns s3,.int .i64 ol,.int .i64 oc] 133)).alloc (.cells #[.string ⟨#[]⟩,.nilIface,.string ⟨#[]⟩,.slice none 0 0,.int .i64 0,.int .i64 0] 133)) (w.heap.size+1) [.string ⟨#[]⟩,.nilIface,.string ⟨#[]⟩,.slice none 0 0,.int .i64 0,.int .i64 0]:=Bn.new (w.alloc (.cells #[.string ev,.nilIface,.string tg,.slice s1 ns s3,.int .i64 ol,.int .i64 oc] 133)) [.string ⟨#[]⟩,.nilIface,.string ⟨#[]⟩,.slice none 0 0,.int .i64 0,.int .i64 0] 133 _ (by simp)
 have hsz:w.heap.size+2≤((w.alloc (.cells #[.string ev,.nilIface,.string tg,.slice s1 ns s3,.int .i64 ol,.int .i64 oc] 133)).alloc (.cells #[.string ⟨#[]⟩,.nilIface,.string ⟨#[]⟩,.slice none 0 0,.int .i64 0,.int .i64 0] 133)).heap.size:=by simp
 go_enter Tryz.func78,Tryz.ntmps78
 go_upto_region 1 with fail
 generalize ((w.alloc (.cells #[.string ev,.nilIface,.string tg,.slice s1 ns s3,.int .i64 ol,.int .i64 oc] 133)).alloc (.cells #[.string ⟨#[]⟩,.nilIface,.string ⟨#[]⟩,.slice none 0 0,.int .i64 0,.int .i64 0] 133))=wx at *
 have hE:∀ w1,Below wx.heap.size wx w1→Calls Tryz.prog 135 #[.slice s1 ns s3,.func (.func 136) #[] #[]] w1 fun e w'=>∃ u1 u3,e=.returned (.slice u1 ns u3)∧RdK (fun b=>wx.heap.size≤b) w' 2 (rSet (fun b=>wx.heap.size≤b) w') l (.slice u1 ns u3)∧Below w1.heap.size w1 w':=fun w1 b1=>by
  have hs1:=hs.stay kp_set (ok':=ok) (w':=w1) (fun b hb hl=>⟨hb,(b1.block b (Nat.lt_of_lt_of_le hl hal.size)).trans (hal.block b hl)⟩)
  refine (eachSet_any hs1 (by omega) hok).mono ?_
  rintro e w' ⟨u,h1,h2,h3⟩
  obtain ⟨u1,u3,rfl,_⟩:=h2.form
  rw [hn] at h1 h2
  exact ⟨u1,u3,h1,h2.stay kp_set (fun b hb hl=>⟨Nat.le_trans b1.size hb,rfl⟩),h3⟩
 have hB:Below wx.heap.size wx wx:=Below.refl _ _
 obtain ⟨c0,_⟩:=hX 0 _ rfl
 obtain ⟨c1,_⟩:=hX 1 _ rfl
 obtain ⟨c2,_⟩:=hX 2 _ rfl
 obtain ⟨c3,_⟩:=hX 3 _ rfl
 have hlt:=hX.lt
 obtain ⟨S,hS⟩:∃ S,w.heap.size=S:=⟨_,rfl⟩
 rw [hS] at c0 c1 c2 c3 hlt hR hsz ⊢
 have HS:Hid (w.heap.size=S):=hS
 clear hs hX hS
 have n1:S≠S+1:=by omega
 have y0:=c0
 have y1:=c1
 have y2:=c2
 have y3:=c3
 go_region_held_law (fun w'=>w'.cell? ⟨S,0,none⟩=some (.string ev)∧w'.cell? ⟨S,1,none⟩=some (.nilIface)∧w'.cell? ⟨S,2,none⟩=some (.string tg)∧w'.cell? ⟨S,3,none⟩=some (.slice s1 ns s3))
  ((refine ⟨?_,?_,?_,?_⟩ <;> (repeat (first | (with_reducible exact y0) | (with_reducible exact y1) | (with_reducible exact y2) | (with_reducible exact y3) | (with_reducible refine cell_dr ?_) | (with_reducible refine cell_far4 (ne_pt n1) ?_))) <;> done))
  (first
   | (go_at_call 38;(with_reducible refine (g1 _).mono ?_);rintro e w1 ⟨rfl,b1⟩;(first | have hB:=Below.nxd hB b1 | have hB:=Below.nx hB b1);have hR1:=hR.on hB;obtain ⟨r0,f0⟩:=hR1 0 _ rfl;obtain ⟨r1,f1⟩:=hR1 1 _ rfl;obtain ⟨r2,f2⟩:=hR1 2 _ rfl;obtain ⟨r3,f3⟩:=hR1 3 _ rfl;obtain ⟨r4,f4⟩:=hR1 4 _ rfl;obtain ⟨r5,f5⟩:=hR1 5 _ rfl;have y0:=(hB.cell (p:=⟨S,0,none⟩) hlt).trans c0;have y1:=(hB.cell (p:=⟨S,1,none⟩) hlt).trans c1;have y2:=(hB.cell (p:=⟨S,2,none⟩) hlt).trans c2;have y3:=(hB.cell (p:=⟨S,3,none⟩) hlt).trans c3;(first | have hBr:=Below.nxd hBr b1 | have hBr:=Below.nx hBr b1 | skip))
   | (go_at_call 38;(with_reducible refine (g3 _).mono ?_);rintro e w1 ⟨rfl,b1⟩;(first | have hB:=Below.nxd hB b1 | have hB:=Below.nx hB b1);have hR1:=hR.on hB;obtain ⟨r0,f0⟩:=hR1 0 _ rfl;obtain ⟨r1,f1⟩:=hR1 1 _ rfl;obtain ⟨r2,f2⟩:=hR1 2 _ rfl;obtain ⟨r3,f3⟩:=hR1 3 _ rfl;obtain ⟨r4,f4⟩:=hR1 4 _ rfl;obtain ⟨r5,f5⟩:=hR1 5 _ rfl;have y0:=(hB.cell (p:=⟨S,0,none⟩) hlt).trans c0;have y1:=(hB.cell (p:=⟨S,1,none⟩) hlt).trans c1;have y2:=(hB.cell (p:=⟨S,2,none⟩) hlt).trans c2;have y3:=(hB.cell (p:=⟨S,3,none⟩) hlt).trans c3;(first | have hBr:=Below.nxd hBr b1 | have hBr:=Below.nx hBr b1 | skip))
   | (go_at_call 134;(with_reducible refine (h2 _).mono ?_);rintro e w1 ⟨rfl,b1⟩;(first | have hB:=Below.nxd hB b1 | have hB:=Below.nx hB b1);have hR1:=hR.on hB;obtain ⟨r0,f0⟩:=hR1 0 _ rfl;obtain ⟨r1,f1⟩:=hR1 1 _ rfl;obtain ⟨r2,f2⟩:=hR1 2 _ rfl;obtain ⟨r3,f3⟩:=hR1 3 _ rfl;obtain ⟨r4,f4⟩:=hR1 4 _ rfl;obtain ⟨r5,f5⟩:=hR1 5 _ rfl;have y0:=(hB.cell (p:=⟨S,0,none⟩) hlt).trans c0;have y1:=(hB.cell (p:=⟨S,1,none⟩) hlt).trans c1;have y2:=(hB.cell (p:=⟨S,2,none⟩) hlt).trans c2;have y3:=(hB.cell (p:=⟨S,3,none⟩) hlt).trans c3;(first | have hBr:=Below.nxd hBr b1 | have hBr:=Below.nx hBr b1 | skip))
   | (go_at_call 135;(first | (with_reducible refine (hE _ hB).mono ?_) | (with_reducible refine (hE _ hB.drew).mono ?_));rintro e w1 ⟨u1,u3,rfl,hr,b1⟩;(first | have hB:=Below.nxd hB b1 | have hB:=Below.nx hB b1);have hR1:=hR.on hB;obtain ⟨r0,f0⟩:=hR1 0 _ rfl;obtain ⟨r1,f1⟩:=hR1 1 _ rfl;obtain ⟨r2,f2⟩:=hR1 2 _ rfl;obtain ⟨r3,f3⟩:=hR1 3 _ rfl;obtain ⟨r4,f4⟩:=hR1 4 _ rfl;obtain ⟨r5,f5⟩:=hR1 5 _ rfl;have y0:=(hB.cell (p:=⟨S,0,none⟩) hlt).trans c0;have y1:=(hB.cell (p:=⟨S,1,none⟩) hlt).trans c1;have y2:=(hB.cell (p:=⟨S,2,none⟩) hlt).trans c2;have y3:=(hB.cell (p:=⟨S,3,none⟩) hlt).trans c3;have hBr:Below w1.heap.size w1 w1:=(Below.refl _ _))
   | fail)
 all_goals (
  have hrz:=hr.stay kp_set (ok':=fun b=>w.heap.size≤b) (w':=putL w1 (S+1) 0 [.string ev,.nilIface,.string tg,.slice u1 ns u3,.int .i64 0,.int .i64 0]) (fun b hb hl=>⟨by have:=HS.out;omega,(putL_heap _ _ _ _ _ (by omega)).trans (hBr.block b hl)⟩)
  have hR2:=(((((hR1.set (i:=0) (by simp) (.string ev)).set (i:=1) (by simp) (.nilIface)).set (i:=2) (by simp) (.string tg)).set (i:=3) (by simp) (.slice u1 ns u3)).set (i:=4) (by simp) (.int .i64 0)).set (i:=5) (by simp) (.int .i64 0)
  have hb2:=putL_below [.string ev,.nilIface,.string tg,.slice u1 ns u3,.int .i64 0,.int .i64 0] w1 (S+1) 0 (hal.trans (hB.mono (by have:=hal.size;omega))) (by have:=HS.out;omega)
  go_wp2
  exact bodyPost_ret (con_res hR2 rfl) rfl ⟨u1,u3,rfl,hrz,hb2⟩)
set_option maxRecDepth 100000 in
set_option maxHeartbeats 16000000 in
theorem son_ifc {ok:Nat→Prop} {w:World} (ev tg:ByteArray) (gu:TypeId) (gy:Value) (s1:Option Addr) (ns s3:Nat) (ol oc:Int) (l:List (List UInt8 × Sx)) (h1:ev.size≤140737488351232) (h3:tg.size≤140737488351232) (h2:∀ w1,Calls Tryz.prog 134 #[.iface gu gy] w1 fun e w'=>e=.returned (.iface gu gy)∧Below w1.heap.size w1 w')
  (hs:RdK ok w 2 (rSet ok w) l (.slice s1 ns s3)) (hn:l.length=ns) (hl:ns≤100000) (hok:∀ s∈l,SetOk s):Calls Tryz.prog 78 #[.agg #[.string ev,.iface gu gy,.string tg,.slice s1 ns s3,.int .i64 ol,.int .i64 oc]] w fun e w'=>∃ u1 u3,e=.returned (.agg #[.string ev,.iface gu gy,.string tg,.slice u1 ns u3,.int .i64 0,.int .i64 0])∧RdK (fun b=>w.heap.size≤b) w' 2 (rSet (fun b=>w.heap.size≤b) w') l (.slice u1 ns u3)∧Below w.heap.size w w':=by
 have g1:=fun w1=>pClone_any ev w1 h1
 have g3:=fun w1=>pClone_any tg w1 h3
 have hal:Below w.heap.size w ((w.alloc (.cells #[.string ev,.iface gu gy,.string tg,.slice s1 ns s3,.int .i64 ol,.int .i64 oc] 133)).alloc (.cells #[.string ⟨#[]⟩,.nilIface,.string ⟨#[]⟩,.slice none 0 0,.int .i64 0,.int .i64 0] 133)):=((Below.refl w.heap.size w).alloc (Nat.le_refl _) _).alloc (by simp) _
 have hX:Bn ((w.alloc (.cells #[.string ev,.iface gu gy,.string tg,.slice s1 ns s3,.int .i64 ol,.int .i64 oc] 133)).alloc (.cells #[.string ⟨#[]⟩,.nilIface,.string ⟨#[]⟩,.slice none 0 0,.int .i64 0,.int .i64 0] 133)) w.heap.size [.string ev,.iface gu gy,.string tg,.slice s1 ns s3,.int .i64 ol,.int .i64 oc]:=(Bn.new w [.string ev,.iface gu gy,.string tg,.slice s1 ns s3,.int .i64 ol,.int .i64 oc] 133 _ rfl).on ((Below.refl _ _).alloc (Nat.le_refl _) _)
 have hR:Bn ((w.alloc (.cells #[.string ev,.iface gu gy,.string tg,.slice s1 ns s3,.int .i64 ol,.int .i64 oc] 133)).alloc (.cells #[.string ⟨#[]⟩,.nilIface,.string ⟨#[]⟩,.slice none 0 0,.int .i64 0,.int .i64 0] 133)) (w.heap.size+1) [.string ⟨#[]⟩,.nilIface,.string ⟨#[]⟩,.slice none 0 0,.int .i64 0,.int .i64 0]:=Bn.new (w.alloc (.cells #[.string ev,.iface gu gy,.string tg,.slice s1 ns s3,.int .i64 ol,.int .i64 oc] 133)) [.string ⟨#[]⟩,.nilIface,.string ⟨#[]⟩,.slice none 0 0,.int .i64 0,.int .i64 0] 133 _ (by simp)
 have hsz:w.heap.size+2≤((w.alloc (.cells #[.string ev,.iface gu gy,.string tg,.slice s1 ns s3,.int .i64 ol,.int .i64 oc] 133)).alloc (.cells #[.string ⟨#[]⟩,.nilIface,.string ⟨#[]⟩,.slice none 0 0,.int .i64 0,.int .i64 0] 133)).heap.size:=by simp
 go_enter Tryz.func78,Tryz.ntmps78
 go_upto_region 1 with fail
 generalize ((w.alloc (.cells #[.string ev,.iface gu gy,.string tg,.slice s1 ns s3,.int .i64 ol,.int .i64 oc] 133)).alloc (.cells #[.string ⟨#[]⟩,.nilIface,.string ⟨#[]⟩,.slice none 0 0,.int .i64 0,.int .i64 0] 133))=wx at *
 have hE:∀ w1,Below wx.heap.size wx w1→Calls Tryz.prog 135 #[.slice s1 ns s3,.func (.func 136) #[] #[]] w1 fun e w'=>∃ u1 u3,e=.returned (.slice u1 ns u3)∧RdK (fun b=>wx.heap.size≤b) w' 2 (rSet (fun b=>wx.heap.size≤b) w') l (.slice u1 ns u3)∧Below w1.heap.size w1 w':=fun w1 b1=>by
  have hs1:=hs.stay kp_set (ok':=ok) (w':=w1) (fun b hb hl=>⟨hb,(b1.block b (Nat.lt_of_lt_of_le hl hal.size)).trans (hal.block b hl)⟩)
  refine (eachSet_any hs1 (by omega) hok).mono ?_
  rintro e w' ⟨u,h1,h2,h3⟩
  obtain ⟨u1,u3,rfl,_⟩:=h2.form
  rw [hn] at h1 h2
  exact ⟨u1,u3,h1,h2.stay kp_set (fun b hb hl=>⟨Nat.le_trans b1.size hb,rfl⟩),h3⟩
 have hB:Below wx.heap.size wx wx:=Below.refl _ _
 obtain ⟨c0,_⟩:=hX 0 _ rfl
 obtain ⟨c1,_⟩:=hX 1 _ rfl
 obtain ⟨c2,_⟩:=hX 2 _ rfl
 obtain ⟨c3,_⟩:=hX 3 _ rfl
 have hlt:=hX.lt
 obtain ⟨S,hS⟩:∃ S,w.heap.size=S:=⟨_,rfl⟩
 rw [hS] at c0 c1 c2 c3 hlt hR hsz ⊢
 have HS:Hid (w.heap.size=S):=hS
 clear hs hX hS
 have n1:S≠S+1:=by omega
 have y0:=c0
 have y1:=c1
 have y2:=c2
 have y3:=c3
 go_region_held_law (fun w'=>w'.cell? ⟨S,0,none⟩=some (.string ev)∧w'.cell? ⟨S,1,none⟩=some (.iface gu gy)∧w'.cell? ⟨S,2,none⟩=some (.string tg)∧w'.cell? ⟨S,3,none⟩=some (.slice s1 ns s3))
  ((refine ⟨?_,?_,?_,?_⟩ <;> (repeat (first | (with_reducible exact y0) | (with_reducible exact y1) | (with_reducible exact y2) | (with_reducible exact y3) | (with_reducible refine cell_dr ?_) | (with_reducible refine cell_far4 (ne_pt n1) ?_))) <;> done))
  (first
   | (go_at_call 38;(with_reducible refine (g1 _).mono ?_);rintro e w1 ⟨rfl,b1⟩;(first | have hB:=Below.nxd hB b1 | have hB:=Below.nx hB b1);have hR1:=hR.on hB;obtain ⟨r0,f0⟩:=hR1 0 _ rfl;obtain ⟨r1,f1⟩:=hR1 1 _ rfl;obtain ⟨r2,f2⟩:=hR1 2 _ rfl;obtain ⟨r3,f3⟩:=hR1 3 _ rfl;obtain ⟨r4,f4⟩:=hR1 4 _ rfl;obtain ⟨r5,f5⟩:=hR1 5 _ rfl;have y0:=(hB.cell (p:=⟨S,0,none⟩) hlt).trans c0;have y1:=(hB.cell (p:=⟨S,1,none⟩) hlt).trans c1;have y2:=(hB.cell (p:=⟨S,2,none⟩) hlt).trans c2;have y3:=(hB.cell (p:=⟨S,3,none⟩) hlt).trans c3;(first | have hBr:=Below.nxd hBr b1 | have hBr:=Below.nx hBr b1 | skip))
   | (go_at_call 38;(with_reducible refine (g3 _).mono ?_);rintro e w1 ⟨rfl,b1⟩;(first | have hB:=Below.nxd hB b1 | have hB:=Below.nx hB b1);have hR1:=hR.on hB;obtain ⟨r0,f0⟩:=hR1 0 _ rfl;obtain ⟨r1,f1⟩:=hR1 1 _ rfl;obtain ⟨r2,f2⟩:=hR1 2 _ rfl;obtain ⟨r3,f3⟩:=hR1 3 _ rfl;obtain ⟨r4,f4⟩:=hR1 4 _ rfl;obtain ⟨r5,f5⟩:=hR1 5 _ rfl;have y0:=(hB.cell (p:=⟨S,0,none⟩) hlt).trans c0;have y1:=(hB.cell (p:=⟨S,1,none⟩) hlt).trans c1;have y2:=(hB.cell (p:=⟨S,2,none⟩) hlt).trans c2;have y3:=(hB.cell (p:=⟨S,3,none⟩) hlt).trans c3;(first | have hBr:=Below.nxd hBr b1 | have hBr:=Below.nx hBr b1 | skip))
   | (go_at_call 134;(with_reducible refine (h2 _).mono ?_);rintro e w1 ⟨rfl,b1⟩;(first | have hB:=Below.nxd hB b1 | have hB:=Below.nx hB b1);have hR1:=hR.on hB;obtain ⟨r0,f0⟩:=hR1 0 _ rfl;obtain ⟨r1,f1⟩:=hR1 1 _ rfl;obtain ⟨r2,f2⟩:=hR1 2 _ rfl;obtain ⟨r3,f3⟩:=hR1 3 _ rfl;obtain ⟨r4,f4⟩:=hR1 4 _ rfl;obtain ⟨r5,f5⟩:=hR1 5 _ rfl;have y0:=(hB.cell (p:=⟨S,0,none⟩) hlt).trans c0;have y1:=(hB.cell (p:=⟨S,1,none⟩) hlt).trans c1;have y2:=(hB.cell (p:=⟨S,2,none⟩) hlt).trans c2;have y3:=(hB.cell (p:=⟨S,3,none⟩) hlt).trans c3;(first | have hBr:=Below.nxd hBr b1 | have hBr:=Below.nx hBr b1 | skip))
   | (go_at_call 135;(first | (with_reducible refine (hE _ hB).mono ?_) | (with_reducible refine (hE _ hB.drew).mono ?_));rintro e w1 ⟨u1,u3,rfl,hr,b1⟩;(first | have hB:=Below.nxd hB b1 | have hB:=Below.nx hB b1);have hR1:=hR.on hB;obtain ⟨r0,f0⟩:=hR1 0 _ rfl;obtain ⟨r1,f1⟩:=hR1 1 _ rfl;obtain ⟨r2,f2⟩:=hR1 2 _ rfl;obtain ⟨r3,f3⟩:=hR1 3 _ rfl;obtain ⟨r4,f4⟩:=hR1 4 _ rfl;obtain ⟨r5,f5⟩:=hR1 5 _ rfl;have y0:=(hB.cell (p:=⟨S,0,none⟩) hlt).trans c0;have y1:=(hB.cell (p:=⟨S,1,none⟩) hlt).trans c1;have y2:=(hB.cell (p:=⟨S,2,none⟩) hlt).trans c2;have y3:=(hB.cell (p:=⟨S,3,none⟩) hlt).trans c3;have hBr:Below w1.heap.size w1 w1:=(Below.refl _ _))
   | fail)
 all_goals (
  have hrz:=hr.stay kp_set (ok':=fun b=>w.heap.size≤b) (w':=putL w1 (S+1) 0 [.string ev,.iface gu gy,.string tg,.slice u1 ns u3,.int .i64 0,.int .i64 0]) (fun b hb hl=>⟨by have:=HS.out;omega,(putL_heap _ _ _ _ _ (by omega)).trans (hBr.block b hl)⟩)
  have hR2:=(((((hR1.set (i:=0) (by simp) (.string ev)).set (i:=1) (by simp) (.iface gu gy)).set (i:=2) (by simp) (.string tg)).set (i:=3) (by simp) (.slice u1 ns u3)).set (i:=4) (by simp) (.int .i64 0)).set (i:=5) (by simp) (.int .i64 0)
  have hb2:=putL_below [.string ev,.iface gu gy,.string tg,.slice u1 ns u3,.int .i64 0,.int .i64 0] w1 (S+1) 0 (hal.trans (hB.mono (by have:=hal.size;omega))) (by have:=HS.out;omega)
  go_wp2
  exact bodyPost_ret (con_res hR2 rfl) rfl ⟨u1,u3,rfl,hrz,hb2⟩)
theorem Tryz.infoEOn:(Tryz.prog.info? 133).map (fun i=>(i.zero,i.size,i.bytes))=some (some (.agg #[.string ⟨#[]⟩,.nilIface,.string ⟨#[]⟩,.slice none 0 0,.int .i64 0,.int .i64 0]),6,88):=by kernel_rfl
def OnOk (o:OnC):Prop:=o.1.length≤140737488351232∧o.2.2.1.length≤140737488351232∧(o.2.1.1=true→ExOk o.2.1.2)∧(∀ s∈o.2.2.2.1,SetOk s)∧o.2.2.2.1.length≤100000
theorem exOk_no:ExOk noX:=⟨cl_none (d:=0),by show cntX noX≤2000;decide,rfl⟩
theorem onQ_at {ok:Nat→Prop} {w:World} {l:List OnC} {a:Option Addr} {n cap:Nat} (h:RdK ok w 6 (rOn ok w) l (.slice a n cap)) (j:Nat) (hj:j < l.length):∃ b off s1 s3,a=some ⟨b,off,none⟩∧b < w.heap.size∧RdK ok w 2 (rSet ok w) l[j].2.2.2.1 (.slice s1 l[j].2.2.2.1.length s3)∧∀ i u,(onV l[j] (.slice s1 l[j].2.2.2.1.length s3))[i]?=some u→w.cell? ⟨b,off+j*6+i,none⟩=some u:=by
 obtain ⟨a1,cap1,he,h1,h2,h3⟩:=h
 simp only [Value.slice.injEq] at he
 obtain ⟨rfl,rfl,rfl⟩:=he
 obtain ⟨b,off,cs,ha,_,hb,hl,⟨sl,rfl,hs⟩,hc⟩:=h3 j hj
 obtain ⟨s1,s3,rfl,_⟩:=hs.form
 exact ⟨b,off,s1,s3,ha,hb,hs,hc⟩
theorem copG {o:OnC} (h:OnOk o) (w:World):Calls Tryz.prog 134 #[gdV o.2.1] w fun e w'=>e=.returned (gdV o.2.1)∧Below w.heap.size w w':=by
 unfold gdV
 split
 ·next hb=>exact copX (h.2.2.1 hb) w
 ·exact copX exOk_no w
set_option maxRecDepth 100000 in
set_option maxHeartbeats 8000000 in
theorem eachOn_any {ok:Nat→Prop} {w:World} {l:List OnC} {v:Value} (h:RdK ok w 6 (rOn ok w) l v) (hl:l.length≤100000) (hok:∀ s∈l,OnOk s) :
  Calls Tryz.prog 77 #[v,.func (.func 78) #[] #[]] w fun e w'=>∃ u,e=.returned u∧RdK (fun b=>w.heap.size≤b) w' 6 (rOn (fun b=>w.heap.size≤b) w') (l.map stO) u∧Below w.heap.size w w':=by
 obtain ⟨ie,hie,hie0,hie1,hie2⟩:=info_parts Tryz.infoEOn
 obtain ⟨a,cap,rfl,hlc,hcm⟩:=h.form
 unfold maxLen at hcm
 have HC:=mkHid h
 have HK:=mkHid hok
 obtain ⟨n,hn⟩:∃ n,l.length=n:=⟨_,rfl⟩
 rw [hn] at hlc hl ⊢
 have HN:Hid (l.length=n):=hn
 clear h hok hn
 have hmk:=run_make (P:=Tryz.prog) w 53 133 ie _ Tryz.underlying53 hie hie0 .i64 .i64 (n:Int) (n:Int) (by omega) (by omega) (by rw [hie2];omega) (by omega)
 rw [Int.toNat_natCast,hie1] at hmk
 have hG0:RowG (w.alloc (.cells (madeCells (.agg #[.string ⟨#[]⟩,.nilIface,.string ⟨#[]⟩,.slice none 0 0,.int .i64 0,.int .i64 0]:Value).cells (n*6)) 133)) w.heap.size 6 n rOn ([]:List (OnC)):=RowG.made w _ 6 n _ _
 have hb0:Below w.heap.size w (w.alloc (.cells (madeCells (.agg #[.string ⟨#[]⟩,.nilIface,.string ⟨#[]⟩,.slice none 0 0,.int .i64 0,.int .i64 0]:Value).cells (n*6)) 133)):=(Below.refl _ _).alloc (Nat.le_refl _) _
 have hs0:(w.alloc (.cells (madeCells (.agg #[.string ⟨#[]⟩,.nilIface,.string ⟨#[]⟩,.slice none 0 0,.int .i64 0,.int .i64 0]:Value).cells (n*6)) 133)).heap.size=w.heap.size+1:=by simp
 generalize w.alloc (.cells (madeCells (.agg #[.string ⟨#[]⟩,.nilIface,.string ⟨#[]⟩,.slice none 0 0,.int .i64 0,.int .i64 0]:Value).cells (n*6)) 133)=w0 at *
 go_enter Tryz.func77,Tryz.ntmps77
 go_wp2
 go_loopw [13] (fun ix wr=>∃ (i:Nat),i≤n∧ix=.int .i64 (i:Int)∧RowG wr w.heap.size 6 n rOn ((l.map stO).take i)∧Below w.heap.size w wr∧w.heap.size < wr.heap.size) (fun ix _=>n - (RowKit.intOf ix).toNat)
 case atStart=>exact ⟨0,Nat.zero_le _,rfl,hG0,hb0,by omega⟩
 case round=>
  obtain ⟨i,hi,rfl,hRow,hb,hGs⟩:=hrel
  clear hG0 hb0 hs0 hmk
  by_cases hlt:i < n
  ·have hil:i < l.length:=by rw [HN.out];exact hlt
   obtain ⟨b,off,s1,s3,rfl,hbl,hSe,hc⟩:=onQ_at HC.out i hil
   have hko:=HK.out _ (List.getElem_mem hil)
   obtain ⟨o,ho⟩:∃ o,l[i]=o:=⟨_,rfl⟩
   rw [ho] at hSe hc hko
   obtain ⟨ns,hns⟩:∃ m,o.2.2.2.1.length=m:=⟨_,rfl⟩
   rw [hns] at hSe hc
   have hg:=copG hko
   obtain ⟨ev,hev⟩:∃ ev:ByteArray,⟨o.1.toArray⟩=ev:=⟨_,rfl⟩
   obtain ⟨tg,htg⟩:∃ tg:ByteArray,⟨o.2.2.1.toArray⟩=tg:=⟨_,rfl⟩
   have hz1:ev.size≤140737488351232:=by rw [← hev];show o.1.toArray.size≤_;simpa using hko.1
   have hz2:tg.size≤140737488351232:=by rw [← htg];show o.2.2.1.toArray.size≤_;simpa using hko.2.1
   obtain ⟨ol,hol⟩:∃ x,o.2.2.2.2.1=x:=⟨_,rfl⟩
   obtain ⟨oc,hoc⟩:∃ x,o.2.2.2.2.2=x:=⟨_,rfl⟩
   have hform:=gdV_form o.2.1
   obtain ⟨gv,hgv⟩:∃ gv,gdV o.2.1=gv:=⟨_,rfl⟩
   have hov:∀ sl,onV o sl=[.string ev,gv,.string tg,sl,.int .i64 ol,.int .i64 oc]:=fun sl=>by
    unfold onV sV
    rw [hev,htg,hol,hoc,hgv]
   have hov2:∀ sl,onV (stO o) sl=[.string ev,gv,.string tg,sl,.int .i64 0,.int .i64 0]:=fun sl=>by
    show [sV o.1,gdV o.2.1,sV o.2.2.1,sl,.int .i64 0,.int .i64 0]=_
    unfold sV
    rw [hev,htg,hgv]
   rw [hov] at hc
   rw [hgv] at hform hg
   have HQ:Hid (l[i]=o):=ho
   have HOV:Hid (∀ sl,onV (stO o) sl=[.string ev,gv,.string tg,sl,.int .i64 0,.int .i64 0]):=hov2
   have HNS:Hid (o.2.2.2.1.length=ns):=hns
   have HKO:Hid (OnOk o):=hko
   have HSE:Hid (RdK ok w 2 (rSet ok w) o.2.2.2.1 (.slice s1 ns s3)):=hSe
   clear ho hns hko hSe hev htg hol hoc hgv hov hov2
   obtain ⟨acc,hac⟩:∃ acc,(l.map stO).take i=acc:=⟨_,rfl⟩
   have hla:acc.length=i:=by rw [← hac];simp [HN.out];omega
   rw [hac] at hRow
   have HAC:Hid ((l.map stO).take i=acc):=hac
   clear hac
   have i1:(i:Int) < (n:Int):=by omega
   have i2:(0:Int)≤(i:Int):=by omega
   have C0:=(hb.cell (p:=⟨b,off+i*6+0,none⟩) hbl).trans (hc 0 _ rfl)
   have C1:=(hb.cell (p:=⟨b,off+i*6+1,none⟩) hbl).trans (hc 1 _ rfl)
   have C2:=(hb.cell (p:=⟨b,off+i*6+2,none⟩) hbl).trans (hc 2 _ rfl)
   have C3:=(hb.cell (p:=⟨b,off+i*6+3,none⟩) hbl).trans (hc 3 _ rfl)
   have C4:=(hb.cell (p:=⟨b,off+i*6+4,none⟩) hbl).trans (hc 4 _ rfl)
   have C5:=(hb.cell (p:=⟨b,off+i*6+5,none⟩) hbl).trans (hc 5 _ rfl)
   rw [Nat.add_zero] at C0
   clear hc
   rcases hform with rfl | ⟨gu,gy,rfl⟩
   ·have hal:=(Below.refl wr.heap.size wr).alloc (Nat.le_refl _) (.cells #[.string ev,.nilIface,.string tg,.slice s1 ns s3,.int .i64 ol,.int .i64 oc] 133)
    have hX:=Bn.new wr [.string ev,.nilIface,.string tg,.slice s1 ns s3,.int .i64 ol,.int .i64 oc] 133 _ rfl
    have hRx:=hRow.on kp_on hGs hal
    have hbx:=hb.trans (hal.mono hb.size)
    have hGx:=Nat.lt_of_lt_of_le hGs hal.size
    have hcall:∀ w1,Below w.heap.size w w1→Calls Tryz.prog 78 #[.agg #[.string ev,.nilIface,.string tg,.slice s1 ns s3,.int .i64 ol,.int .i64 oc]] w1 fun e w'=>∃ u1 u3,e=.returned (.agg #[.string ev,.nilIface,.string tg,.slice u1 ns u3,.int .i64 0,.int .i64 0])∧RdK (fun b=>w1.heap.size≤b) w' 2 (rSet (fun b=>w1.heap.size≤b) w') o.2.2.2.1 (.slice u1 ns u3)∧Below w1.heap.size w1 w':=fun w1 b1=>son_nil ev tg s1 ns s3 ol oc o.2.2.2.1 hz1 hz2 hg (HSE.out.stay kp_set (ok':=ok) (fun b hb hl=>⟨hb,b1.block b hl⟩)) HNS.out (by have:=HKO.out.2.2.2.2;rw [HNS.out] at this;exact this) HKO.out.2.2.2.1
    clear hg
    go_upto_region 5 with fail
    clear C0 C1 C2 C3 C4 C5 hal
    generalize wr.alloc (.cells #[.string ev,.nilIface,.string tg,.slice s1 ns s3,.int .i64 ol,.int .i64 oc] 133)=wx at *
    obtain ⟨X,hXX⟩:∃ X,wr.heap.size=X:=⟨_,rfl⟩
    rw [hXX] at hX ⊢
    have HXX:Hid (wr.heap.size=X):=hXX
    clear hXX
    obtain ⟨x0,_⟩:=hX 0 _ rfl
    obtain ⟨x1,_⟩:=hX 1 _ rfl
    obtain ⟨x2,_⟩:=hX 2 _ rfl
    obtain ⟨x3,_⟩:=hX 3 _ rfl
    obtain ⟨x4,_⟩:=hX 4 _ rfl
    obtain ⟨x5,_⟩:=hX 5 _ rfl
    go_wp2_with (first
     | (go_at_call 78;refine (hcall _ hbx).mono ?_;rintro e w1 ⟨u1,u3,rfl,hr,b1⟩;have hp:rOn (fun b=>w.heap.size < b) w1 (stO o) [.string ev,.nilIface,.string tg,.slice u1 ns u3,.int .i64 0,.int .i64 0]:=(⟨.slice u1 ns u3,(HOV.out _).symm,hr.stay kp_set (fun b hb hl=>⟨Nat.lt_of_lt_of_le hGx hb,rfl⟩)⟩);clear hr;have hR1:=hRx.on kp_on hGx b1;obtain ⟨⟨r0,q0⟩,z0⟩:=hR1.1 (i*6+0) (mul_in hlt (by omega));obtain ⟨⟨r1,q1⟩,z1⟩:=hR1.1 (i*6+1) (mul_in hlt (by omega));obtain ⟨⟨r2,q2⟩,z2⟩:=hR1.1 (i*6+2) (mul_in hlt (by omega));obtain ⟨⟨r3,q3⟩,z3⟩:=hR1.1 (i*6+3) (mul_in hlt (by omega));obtain ⟨⟨r4,q4⟩,z4⟩:=hR1.1 (i*6+4) (mul_in hlt (by omega));obtain ⟨⟨r5,q5⟩,z5⟩:=hR1.1 (i*6+5) (mul_in hlt (by omega));rw [Nat.add_zero] at q0 z0)
     | fail)
    have hP:=hR1.put kp_on (x:=stO o) (cs:=[.string ev,.nilIface,.string tg,.slice u1 ns u3,.int .i64 0,.int .i64 0]) (by rw [hla];exact hlt) rfl hp
    rw [hla] at hP
    have hb2:=putL_below [.string ev,.nilIface,.string tg,.slice u1 ns u3,.int .i64 0,.int .i64 0] w1 w.heap.size (i*6) (hbx.trans (b1.mono (Nat.le_of_lt hGx))) (Nat.le_refl _)
    have hs2:w.heap.size < (putL w1 w.heap.size (i*6) [.string ev,.nilIface,.string tg,.slice u1 ns u3,.int .i64 0,.int .i64 0]).heap.size:=by rw [putL_size];exact Nat.lt_of_lt_of_le hGx b1.size
    have hac2:(l.map stO).take (i+1)=acc++[stO o]:=by
     rw [List.take_succ_eq_append_getElem (by simp [HN.out];omega),HAC.out]
     simp [HQ.out]
    clear x0 r0 q0 z0 x1 r1 q1 z1 x2 r2 q2 z2 x3 r3 q3 z3 x4 r4 q4 z4 x5 r5 q5 z5 hR1 hRx hp
    go_wp2
    go_roundw
    case rel=>exact ⟨i+1,hlt,by go_num,by rw [hac2];exact hP,hb2,hs2⟩
    case measure=>simp [RowKit.intOf];omega
   ·have hal:=(Below.refl wr.heap.size wr).alloc (Nat.le_refl _) (.cells #[.string ev,.iface gu gy,.string tg,.slice s1 ns s3,.int .i64 ol,.int .i64 oc] 133)
    have hX:=Bn.new wr [.string ev,.iface gu gy,.string tg,.slice s1 ns s3,.int .i64 ol,.int .i64 oc] 133 _ rfl
    have hRx:=hRow.on kp_on hGs hal
    have hbx:=hb.trans (hal.mono hb.size)
    have hGx:=Nat.lt_of_lt_of_le hGs hal.size
    have hcall:∀ w1,Below w.heap.size w w1→Calls Tryz.prog 78 #[.agg #[.string ev,.iface gu gy,.string tg,.slice s1 ns s3,.int .i64 ol,.int .i64 oc]] w1 fun e w'=>∃ u1 u3,e=.returned (.agg #[.string ev,.iface gu gy,.string tg,.slice u1 ns u3,.int .i64 0,.int .i64 0])∧RdK (fun b=>w1.heap.size≤b) w' 2 (rSet (fun b=>w1.heap.size≤b) w') o.2.2.2.1 (.slice u1 ns u3)∧Below w1.heap.size w1 w':=fun w1 b1=>son_ifc ev tg gu gy s1 ns s3 ol oc o.2.2.2.1 hz1 hz2 hg (HSE.out.stay kp_set (ok':=ok) (fun b hb hl=>⟨hb,b1.block b hl⟩)) HNS.out (by have:=HKO.out.2.2.2.2;rw [HNS.out] at this;exact this) HKO.out.2.2.2.1
    clear hg
    go_upto_region 5 with fail
    clear C0 C1 C2 C3 C4 C5 hal
    generalize wr.alloc (.cells #[.string ev,.iface gu gy,.string tg,.slice s1 ns s3,.int .i64 ol,.int .i64 oc] 133)=wx at *
    obtain ⟨X,hXX⟩:∃ X,wr.heap.size=X:=⟨_,rfl⟩
    rw [hXX] at hX ⊢
    have HXX:Hid (wr.heap.size=X):=hXX
    clear hXX
    obtain ⟨x0,_⟩:=hX 0 _ rfl
    obtain ⟨x1,_⟩:=hX 1 _ rfl
    obtain ⟨x2,_⟩:=hX 2 _ rfl
    obtain ⟨x3,_⟩:=hX 3 _ rfl
    obtain ⟨x4,_⟩:=hX 4 _ rfl
    obtain ⟨x5,_⟩:=hX 5 _ rfl
    go_wp2_with (first
     | (go_at_call 78;refine (hcall _ hbx).mono ?_;rintro e w1 ⟨u1,u3,rfl,hr,b1⟩;have hp:rOn (fun b=>w.heap.size < b) w1 (stO o) [.string ev,.iface gu gy,.string tg,.slice u1 ns u3,.int .i64 0,.int .i64 0]:=(⟨.slice u1 ns u3,(HOV.out _).symm,hr.stay kp_set (fun b hb hl=>⟨Nat.lt_of_lt_of_le hGx hb,rfl⟩)⟩);clear hr;have hR1:=hRx.on kp_on hGx b1;obtain ⟨⟨r0,q0⟩,z0⟩:=hR1.1 (i*6+0) (mul_in hlt (by omega));obtain ⟨⟨r1,q1⟩,z1⟩:=hR1.1 (i*6+1) (mul_in hlt (by omega));obtain ⟨⟨r2,q2⟩,z2⟩:=hR1.1 (i*6+2) (mul_in hlt (by omega));obtain ⟨⟨r3,q3⟩,z3⟩:=hR1.1 (i*6+3) (mul_in hlt (by omega));obtain ⟨⟨r4,q4⟩,z4⟩:=hR1.1 (i*6+4) (mul_in hlt (by omega));obtain ⟨⟨r5,q5⟩,z5⟩:=hR1.1 (i*6+5) (mul_in hlt (by omega));rw [Nat.add_zero] at q0 z0)
     | fail)
    have hP:=hR1.put kp_on (x:=stO o) (cs:=[.string ev,.iface gu gy,.string tg,.slice u1 ns u3,.int .i64 0,.int .i64 0]) (by rw [hla];exact hlt) rfl hp
    rw [hla] at hP
    have hb2:=putL_below [.string ev,.iface gu gy,.string tg,.slice u1 ns u3,.int .i64 0,.int .i64 0] w1 w.heap.size (i*6) (hbx.trans (b1.mono (Nat.le_of_lt hGx))) (Nat.le_refl _)
    have hs2:w.heap.size < (putL w1 w.heap.size (i*6) [.string ev,.iface gu gy,.string tg,.slice u1 ns u3,.int .i64 0,.int .i64 0]).heap.size:=by rw [putL_size];exact Nat.lt_of_lt_of_le hGx b1.size
    have hac2:(l.map stO).take (i+1)=acc++[stO o]:=by
     rw [List.take_succ_eq_append_getElem (by simp [HN.out];omega),HAC.out]
     simp [HQ.out]
    clear x0 r0 q0 z0 x1 r1 q1 z1 x2 r2 q2 z2 x3 r3 q3 z3 x4 r4 q4 z4 x5 r5 q5 z5 hR1 hRx hp
    go_wp2
    go_roundw
    case rel=>exact ⟨i+1,hlt,by go_num,by rw [hac2];exact hP,hb2,hs2⟩
    case measure=>simp [RowKit.intOf];omega
  ·have i1:¬ (i:Int) < (n:Int):=by omega
   have hin:i=n:=by omega
   have hfull:(l.map stO).take i=l.map stO:=List.take_of_length_le (by simp [HN.out];omega)
   rw [hfull] at hRow
   have hrd:=hRow.rd kp_on hGs (by simp [HN.out]) (by unfold maxLen;omega)
   go_wp2
   go_ret
   exact ⟨_,rfl,hrd,hb⟩
end Go.Proofs.YtfjdceknbdmhpaaGreatDoor
