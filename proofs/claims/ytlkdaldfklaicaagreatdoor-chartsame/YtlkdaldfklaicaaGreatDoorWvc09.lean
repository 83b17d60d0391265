import Derived.Test.YtlkdaldfklaicaaGreatDoorWvc04
import Derived.Test.YtlkdaldfklaicaaGreatDoorWvc02
import Derived.Test.YtlkdaldfklaicaaGreatDoorWvc01
import Derived.Test.YtlkdaldfklaicaaGreatDoorWvc07
import Derived.Test.YtlkdaldfklaicaaGreatDoorWvc08
import Derived.Deep.RegionLaw
import Derived.Deep.LoopGhost
import Derived.Deep.DeepCutAuto
import Derived.Test.YtlkdaldfklaicaaGreatDoorWvc03
set_option maxRecDepth 100000
set_option maxHeartbeats 32000000
namespace Go.Proofs.YtlkdaldfklaicaaGreatDoor
open Go.RowKit Go.Lib
set_option linter.unusedSimpArgs false
set_option linter.unusedVariables false
attribute [local go_sem ↓] Go.wp_at_zero Go.wp_at_succ
def alk (k n:Int) (s:ByteArray) (k' n':Int) (s':ByteArray):Bool:=decide (k=k') && decide (n=n') && decide (s=s')
theorem zcP (k n:Int) (s:ByteArray) (a:Option Addr) (m:Nat) (k' n':Int) (s':ByteArray) (a':Option Addr) (m':Nat) (hk:k≠6) (w:World) :
  Calls Tryz.prog 74 #[.agg #[.int .i64 k,.int .i64 n,.string s,.slice a m m],.agg #[.int .i64 k',.int .i64 n',.string s',.slice a' m' m']] w fun e w'=>e=.returned (.bool (alk k n s k' n' s'))/\Below w.heap.size w w':=by
 have e6:(k == 6)=false:=beq_eq_false_iff_ne.2 hk
 have n6:(k != 6)=true:=by simp [hk]
 have hb:Below w.heap.size w ((w.alloc (.cells #[.int .i64 k,.int .i64 n,.string s,.slice a m m] 146)).alloc (.cells #[.int .i64 k',.int .i64 n',.string s',.slice a' m' m'] 146)):=(zn3.alloc zn2 _).alloc (by simp) _
 unfold alk
 by_cases h1:k=k'
 ·subst h1
  rw [decide_eq_true rfl,Bool.true_and]
  by_cases h2:n=n'
  ·subst h2
   rw [decide_eq_true rfl,Bool.true_and]
   by_cases h3:s=s'
   ·subst h3
    rw [decide_eq_true rfl]
    go_enter Tryz.func74,Tryz.ntmps74
    go_wp2
    go_ret
    exact ⟨rfl,hb⟩
   ·have e3:=zge h3
    rw [decide_eq_false h3]
    clear h3
    go_enter Tryz.func74,Tryz.ntmps74
    go_wp2
    go_ret
    exact ⟨rfl,hb⟩
  ·have e2:(n == n')=false:=beq_eq_false_iff_ne.2 h2
   rw [decide_eq_false h2,Bool.false_and]
   go_enter Tryz.func74,Tryz.ntmps74
   go_wp2
   go_ret
   exact ⟨rfl,hb⟩
 ·have e1:(k == k')=false:=beq_eq_false_iff_ne.2 h1
  rw [decide_eq_false h1,Bool.false_and,Bool.false_and]
  go_enter Tryz.func74,Tryz.ntmps74
  go_wp2
  go_ret
  exact ⟨rfl,hb⟩
theorem B4.keep' {w w':World}{X:Nat}{a b c e:Value}(hb:Below w.heap.size w w') (h:B4 w X a b c e):B4 w' X a b c e:=h.keep hb
theorem zj {w:World}{p:Addr}{v:Value}{O:Obj}(h:w.cell? p=some v):(w.alloc O).cell? p=some v:=(((Below.refl w.heap.size w).alloc zn2 O).cell (World.block_lt_of_cell? w _ h)).trans h
theorem zlO {w:World}{X Y j:Nat}{v a b c e:Value}(h:w.cell? ⟨Y,j,none⟩=some v) (hne:Y≠X):(put4 w X a b c e).cell? ⟨Y,j,none⟩=some v:=za (by omega) (za (by omega) (za (by omega) (za (by omega) h)))
theorem sz1 (w:World) (o:Obj):w.heap.size+1=(w.alloc o).heap.size:=by simp
theorem zbn {w:World}{X:Nat}(h:B4 w X (.int .i64 0) (.int .i64 0) (.string ⟨#[]⟩) (.slice none 0 0)) (O:Obj):(w.alloc O).cell? ⟨X,0,none⟩=some (.int .i64 0)/\(w.alloc O).cell? ⟨X,1,none⟩=some (.int .i64 0)/\(w.alloc O).cell? ⟨X,2,none⟩=some (.string ⟨#[]⟩)/\(w.alloc O).cell? ⟨X,3,none⟩=some (.slice none 0 0)/\
  (w.alloc O).frozen? ⟨X,0,none⟩=false/\(w.alloc O).frozen? ⟨X,1,none⟩=false/\(w.alloc O).frozen? ⟨X,2,none⟩=false/\(w.alloc O).frozen? ⟨X,3,none⟩=false:=by
 have k:=h.keep (zn3.alloc zn2 O)
 exact ⟨k.c0,k.c1,k.c2,k.c3,k.f0,k.f1,k.f2,k.f3⟩
def zaZ (x y:Sg):Bool:=zaL x.1 y.1 x.2 y.2
def zgN (u v:Value):Prop:=∀ g,u.ownBlock=some g->v.ownBlock=some g->False
abbrev z4 (w:World) (X:Nat):Prop:=B4 w X (.int .i64 0) (.int .i64 0) (.string ⟨#[]⟩) (.slice none 0 0)
theorem zh {w:World}{p:Addr}{v:Value}(h:w.cell? p=some v):w.drew.cell? p=some v:=h
theorem zg {X Y i j:Nat}(h:Y≠X):¬ (X=Y/\i=j):=fun e=>h e.1.symm
abbrev O0:Obj:=.cells #[.int .i64 0,.int .i64 0,.string ⟨#[]⟩,.slice none 0 0] 146
theorem bw0 {w w1:World}(b:Below w.drew.heap.size w.drew w1):Below w.heap.size w w1:=((Below.refl _ w).drew).trans b
theorem bw1 {w w1:World}(b:Below (w.alloc (.cells #[.int .i64 0,.int .i64 0,.string ⟨#[]⟩,.slice none 0 0] 146)).drew.heap.size (w.alloc (.cells #[.int .i64 0,.int .i64 0,.string ⟨#[]⟩,.slice none 0 0] 146)).drew w1):Below w.heap.size w w1:=(((Below.refl _ w).alloc zn2 _).drew).trans (b.mono (by simp))
theorem bw2 {w w1:World}(b:Below ((w.alloc (.cells #[.int .i64 0,.int .i64 0,.string ⟨#[]⟩,.slice none 0 0] 146)).alloc (.cells #[.int .i64 0,.int .i64 0,.string ⟨#[]⟩,.slice none 0 0] 146)).drew.heap.size ((w.alloc (.cells #[.int .i64 0,.int .i64 0,.string ⟨#[]⟩,.slice none 0 0] 146)).alloc (.cells #[.int .i64 0,.int .i64 0,.string ⟨#[]⟩,.slice none 0 0] 146)).drew w1):Below w.heap.size w w1:=((((Below.refl _ w).alloc zn2 _).alloc (by simp) _).drew).trans (b.mono (by simp;omega))
theorem bx1 {w w1:World}(b:Below (w.alloc (.cells #[.int .i64 0,.int .i64 0,.string ⟨#[]⟩,.slice none 0 0] 146)).heap.size (w.alloc (.cells #[.int .i64 0,.int .i64 0,.string ⟨#[]⟩,.slice none 0 0] 146)) w1):Below w.heap.size w w1:=((Below.refl _ w).alloc zn2 _).trans (b.mono (by simp))
theorem bx2 {w w1:World}(b:Below ((w.alloc (.cells #[.int .i64 0,.int .i64 0,.string ⟨#[]⟩,.slice none 0 0] 146)).alloc (.cells #[.int .i64 0,.int .i64 0,.string ⟨#[]⟩,.slice none 0 0] 146)).heap.size ((w.alloc (.cells #[.int .i64 0,.int .i64 0,.string ⟨#[]⟩,.slice none 0 0] 146)).alloc (.cells #[.int .i64 0,.int .i64 0,.string ⟨#[]⟩,.slice none 0 0] 146)) w1):Below w.heap.size w w1:=(((Below.refl _ w).alloc zn2 _).alloc (by simp) _).trans (b.mono (by simp;omega))
theorem zC1 {w w1:World}(b:Below (w.alloc (.cells #[.int .i64 0,.int .i64 0,.string ⟨#[]⟩,.slice none 0 0] 146)).heap.size (w.alloc (.cells #[.int .i64 0,.int .i64 0,.string ⟨#[]⟩,.slice none 0 0] 146)) w1):z4 w1 w.heap.size:=(B4.new w _ _ _ _ _ _ rfl).keep b
theorem zC2 {w w1:World}(b:Below ((w.alloc (.cells #[.int .i64 0,.int .i64 0,.string ⟨#[]⟩,.slice none 0 0] 146)).alloc (.cells #[.int .i64 0,.int .i64 0,.string ⟨#[]⟩,.slice none 0 0] 146)).heap.size ((w.alloc (.cells #[.int .i64 0,.int .i64 0,.string ⟨#[]⟩,.slice none 0 0] 146)).alloc (.cells #[.int .i64 0,.int .i64 0,.string ⟨#[]⟩,.slice none 0 0] 146)) w1):z4 w1 w.heap.size:=((B4.new w _ _ _ _ 146 _ rfl).keep (zn3.alloc zn2 _)).keep b
theorem zD2 {w w1:World}(b:Below ((w.alloc (.cells #[.int .i64 0,.int .i64 0,.string ⟨#[]⟩,.slice none 0 0] 146)).alloc (.cells #[.int .i64 0,.int .i64 0,.string ⟨#[]⟩,.slice none 0 0] 146)).heap.size ((w.alloc (.cells #[.int .i64 0,.int .i64 0,.string ⟨#[]⟩,.slice none 0 0] 146)).alloc (.cells #[.int .i64 0,.int .i64 0,.string ⟨#[]⟩,.slice none 0 0] 146)) w1):z4 w1 (w.heap.size+1):=(B4.new (w.alloc (.cells #[.int .i64 0,.int .i64 0,.string ⟨#[]⟩,.slice none 0 0] 146)) _ _ _ _ _ _ (sz1 w _)).keep b
theorem zA1 {w w1:World}(b:Below (w.alloc (.cells #[.int .i64 0,.int .i64 0,.string ⟨#[]⟩,.slice none 0 0] 146)).drew.heap.size (w.alloc (.cells #[.int .i64 0,.int .i64 0,.string ⟨#[]⟩,.slice none 0 0] 146)).drew w1):z4 w1 w.heap.size:=((B4.new w _ _ _ _ _ _ rfl).keep (zn3.drew)).keep b
theorem zA2 {w w1:World}(b:Below ((w.alloc (.cells #[.int .i64 0,.int .i64 0,.string ⟨#[]⟩,.slice none 0 0] 146)).alloc (.cells #[.int .i64 0,.int .i64 0,.string ⟨#[]⟩,.slice none 0 0] 146)).drew.heap.size ((w.alloc (.cells #[.int .i64 0,.int .i64 0,.string ⟨#[]⟩,.slice none 0 0] 146)).alloc (.cells #[.int .i64 0,.int .i64 0,.string ⟨#[]⟩,.slice none 0 0] 146)).drew w1):z4 w1 w.heap.size:=(((B4.new w _ _ _ _ 146 _ rfl).keep (zn3.alloc zn2 _)).keep (zn3.drew)).keep b
theorem zB2 {w w1:World}(b:Below ((w.alloc (.cells #[.int .i64 0,.int .i64 0,.string ⟨#[]⟩,.slice none 0 0] 146)).alloc (.cells #[.int .i64 0,.int .i64 0,.string ⟨#[]⟩,.slice none 0 0] 146)).drew.heap.size ((w.alloc (.cells #[.int .i64 0,.int .i64 0,.string ⟨#[]⟩,.slice none 0 0] 146)).alloc (.cells #[.int .i64 0,.int .i64 0,.string ⟨#[]⟩,.slice none 0 0] 146)).drew w1):z4 w1 (w.heap.size+1):=((B4.new (w.alloc (.cells #[.int .i64 0,.int .i64 0,.string ⟨#[]⟩,.slice none 0 0] 146)) _ _ _ _ _ _ (sz1 w _)).keep (zn3.drew)).keep b
theorem Kids.put {w:World}{sl:Value}{L:List Value}{X:Nat}{a b c e:Value}(h:Kids w sl L) (hi:∀ v∈L,Ifc v) (hz:z4 w X):Kids (put4 w X a b c e) sl L:=by
 rcases h with h|⟨g,hv,hc⟩
 ·exact .inl h
 ·refine .inr ⟨g,hv,fun i hl=>?_⟩
  have hne:g≠X:=fun e=>by
   subst e
   have h0:=hc 0 (by omega)
   rw [hz.c0] at h0
   have h1:=Option.some.inj h0
   rcases hi _ (List.getElem_mem (by omega:0 < L.length)) with q|⟨u,y,q⟩
   ·rw [q] at h1;cases h1
   ·rw [q] at h1;cases h1
  exact zlO (hc i hl) hne
theorem KidsN.put {lo:Nat}{w:World}{sl:Value}{L:List Value}{X:Nat}{a b c e:Value}(h:KidsN lo w sl L) (hi:∀ v∈L,Ifc v) (hz:z4 w X):KidsN lo (put4 w X a b c e) sl L:=⟨h.1.put hi hz,h.2⟩
theorem KidsN.al {lo:Nat}{w:World}{sl:Value}{L:List Value}{O:Obj}(h:KidsN lo w sl L):KidsN lo (w.alloc O) sl L:=⟨h.1.below (zn3.alloc zn2 O) zn2,h.2⟩
theorem B4.at {w:World}{X:Nat}{a b c e:Value}(h:B4 w X a b c e):At4 w X a b c e:=⟨h.c0,h.c1,h.c2,h.c3⟩
def zfN (wr wc:World) (X Y:Nat) (a b c sl a' b' c' sl':Value) (L M:List Value):Prop:=
 At4 wc X a b c sl/\At4 wc Y a' b' c' sl'/\KidsN wr.heap.size wc sl L/\KidsN wr.heap.size wc sl' M/\wr.heap.size<=X/\wr.heap.size<=Y/\Below wr.heap.size wr wc
section
variable {wr w2:World}{X Y:Nat}{a b c sl a' b' c' sl':Value}{L M:List Value}
theorem zgU (bv:Below wr.heap.size wr w2) (hT:(∀ v∈L,Ifc v)/\(∀ v∈M,Ifc v)) (K1:KidsN wr.heap.size w2 sl L) (K2:KidsN wr.heap.size w2 sl' M) (qX:z4 w2 X) (qY:z4 w2 Y) (hne:X≠Y) (hX:wr.heap.size<=X) (hY:wr.heap.size<=Y) :
  zfN wr (put4 (put4 w2 X a b c sl) Y a' b' c' sl') X Y a b c sl a' b' c' sl' L M:=by
 have qY':=qY.farPut hne a b c sl
 exact ⟨((qX.put a b c sl).farPut hne.symm a' b' c' sl').at,(qY'.put a' b' c' sl').at,(K1.put hT.1 qX).put hT.1 qY',(K2.put hT.2 qX).put hT.2 qY',hX,hY,zD (zD bv hX _ _ _ _) hY _ _ _ _⟩
theorem zh4 (bv:Below wr.heap.size wr w2) (hT:(∀ v∈L,Ifc v)/\(∀ v∈M,Ifc v)) (K1:KidsN wr.heap.size w2 sl L) (K2:KidsN wr.heap.size w2 sl' M) (qX:z4 w2 X) (hX:wr.heap.size<=X) :
  zfN wr (put4 (put4 (w2.alloc (.cells #[.int .i64 0,.int .i64 0,.string ⟨#[]⟩,.slice none 0 0] 146)) X a b c sl) w2.heap.size a' b' c' sl') X w2.heap.size a b c sl a' b' c' sl' L M:=
 zgU (bv.alloc bv.size _) hT K1.al K2.al (qX.keep (zn3.alloc zn2 _)) (B4.new w2 _ _ _ _ _ _ rfl) (Nat.ne_of_lt qX.lt) hX bv.size
theorem zin (bv:Below wr.heap.size wr w2) (hT:(∀ v∈L,Ifc v)/\(∀ v∈M,Ifc v)) (K1:KidsN wr.heap.size w2 sl L) (K2:KidsN wr.heap.size w2 sl' M) (qY:z4 w2 Y) (hY:wr.heap.size<=Y) :
  zfN wr (put4 (w2.alloc (.cells #[a,b,c,sl] 146)) Y a' b' c' sl') w2.heap.size Y a b c sl a' b' c' sl' L M:=by
 have q:=qY.keep ((Below.refl w2.heap.size w2).alloc zn2 (.cells #[a,b,c,sl] 146))
 have h:=B4.new w2 a b c sl 146 w2.heap.size rfl
 exact ⟨(h.farPut (Nat.ne_of_lt qY.lt) a' b' c' sl').at,(q.put a' b' c' sl').at,K1.al.put hT.1 q,K2.al.put hT.2 q,bv.size,hY,zD (bv.alloc bv.size _) hY _ _ _ _⟩
theorem zii (bv:Below wr.heap.size wr w2) (K1:KidsN wr.heap.size w2 sl L) (K2:KidsN wr.heap.size w2 sl' M) :
  zfN wr ((w2.alloc (.cells #[a,b,c,sl] 146)).alloc (.cells #[a',b',c',sl'] 146)) w2.heap.size (w2.heap.size+1) a b c sl a' b' c' sl' L M:=by
 have h:=(B4.new w2 a b c sl 146 w2.heap.size rfl).keep (zn3.alloc zn2 (.cells #[a',b',c',sl'] 146))
 have h':=B4.new (w2.alloc (.cells #[a,b,c,sl] 146)) a' b' c' sl' 146 (w2.heap.size+1) (sz1 w2 _)
 exact ⟨h.at,h'.at,K1.al.al,K2.al.al,bv.size,Nat.le_succ_of_le bv.size,(bv.alloc bv.size _).alloc (by simp;exact Nat.le_succ_of_le bv.size) _⟩
theorem zio (bv:Below wr.heap.size wr w2) (K1:KidsN wr.heap.size w2 sl L) (K2:KidsN wr.heap.size w2 sl' M) :
  zfN wr ((w2.alloc (.cells #[a',b',c',sl'] 146)).alloc (.cells #[a,b,c,sl] 146)) (w2.heap.size+1) w2.heap.size a b c sl a' b' c' sl' L M:=by
 have h:=(B4.new w2 a' b' c' sl' 146 w2.heap.size rfl).keep (zn3.alloc zn2 (.cells #[a,b,c,sl] 146))
 have h':=B4.new (w2.alloc (.cells #[a',b',c',sl'] 146)) a b c sl 146 (w2.heap.size+1) (sz1 w2 _)
 exact ⟨h'.at,h.at,K1.al.al,K2.al.al,Nat.le_succ_of_le bv.size,bv.size,(bv.alloc bv.size _).alloc (by simp;exact Nat.le_succ_of_le bv.size) _⟩
end
theorem za1 {α β:Type}(f:α->β->Bool):∀ (x:List α) (y:List β) (a:List α) (b:List β),x.length=y.length->zax f (x++a) (y++b)=(zax f x y && zax f a b)
 | [],[],a,b,_=>by simp [zax]
 | [],_ :: _,_,_,h=>by simp at h
 | _ :: _,[],_,_,h=>by simp at h
 | p :: x,q :: y,a,b,h=>by
  show (f p q && zax f (x++a) (y++b))=(f p q && zax f x y && zax f a b)
  rw [za1 f x y a b (by simpa using h),Bool.and_assoc]
theorem zcE {d e:Nat}:∀ (ps:List (T d)) (qs:List (T e)),zax zaZ (zO ps) (zO qs)=zax (zaL d e) ps qs
 | [],_=>by simp [zO,zax]
 | _ :: _,[]=>by simp [zO,zax]
 | p :: r,q :: t=>by
  show (zaL d e p q && zax zaZ (zO r) (zO t))=_
  rw [zcE r t];rfl
theorem ziT {d:Nat}{k n:Int}{s:ByteArray}{ps:List (T d)}(h:Cl (d+1) (mkT k n s ps)):k≠6/\ps.length=if k=3∨k=4 then 1 else if k=5 then 2 else 0:=by
 rcases h with ⟨h1,_,h3⟩|⟨h1,_,h3⟩|⟨h1,_,_,p,h4,_⟩|⟨h1,_,p,q,h3,_⟩|⟨h1,_,_,h4⟩
 ·simp only at h1 h3;subst h1 h3;simp
 ·simp only at h1 h3;subst h1 h3;simp
 ·simp only at h1 h4;subst h4;rcases h1 with rfl|rfl<;>simp
 ·simp only at h1 h3;subst h1 h3;simp
 ·simp only at h1 h4;subst h1 h4;simp
theorem zfH {d e:Nat}{k n k' n':Int}{s s':ByteArray}{ps:List (T d)}{qs:List (T e)}(h:alk k n s k' n' s'=false):zaZ ⟨d+1,mkT k n s ps⟩ ⟨e+1,mkT k' n' s' qs⟩=false:=by
 show zaL (d+1) (e+1) (mkT k n s ps) (mkT k' n' s' qs)=false
 rw [zca]
 unfold alk at h
 rw [h];simp
theorem zd8 {d e:Nat}{k n k' n':Int}{s s':ByteArray}{ps:List (T d)}{qs:List (T e)}(h:alk k n s k' n' s'=true) (hc:Cl (d+1) (mkT k n s ps)) (hc':Cl (e+1) (mkT k' n' s' qs)) :
  ps.length=qs.length/\zaZ ⟨d+1,mkT k n s ps⟩ ⟨e+1,mkT k' n' s' qs⟩=zax (zaL d e) ps qs:=by
 have hk:k=k':=by unfold alk at h;simp only [Bool.and_eq_true,decide_eq_true_eq] at h;exact h.1.1
 have hl:ps.length=qs.length:=by rw [(ziT hc).2,(ziT hc').2,hk]
 refine ⟨hl,?_⟩
 show zaL (d+1) (e+1) (mkT k n s ps) (mkT k' n' s' qs)=_
 rw [zca]
 unfold alk at h
 rw [h,decide_eq_true hl];simp
theorem KidsN.gr {lo g:Nat}{w w':World}{sl:Value}{L:List Value}(h:KidsN lo w sl L) (hg:w.grownBy w' (some g)) (hl:g < lo):KidsN lo w' sl L:=by
 refine ⟨?_,h.2⟩
 rcases h.1 with q|⟨b,hv,hc⟩
 ·exact .inl q
 ·refine .inr ⟨b,hv,fun i hi=>hg.cell (hc i hi) (fun e=>?_)⟩
  have:=h.2 b (by rw [hv];rfl)
  have e2:b=g:=by simpa using e
  omega
theorem KidsN.dr {lo:Nat}{w:World}{sl:Value}{L:List Value}(h:KidsN lo w sl L):KidsN lo w.drew sl L:=⟨h.1.below (zn3.drew) zn2,h.2⟩
def zeW (w:World) (x y:Value) (V:Bool):Prop:=∃ S S',Stk ((w.alloc (.cells #[x] 87)).alloc (.cells #[y] 87)) w.heap.size (.slice (some ⟨w.heap.size,0,none⟩) 1 1) S/\Stk ((w.alloc (.cells #[x] 87)).alloc (.cells #[y] 87)) w.heap.size (.slice (some ⟨w.heap.size+1,0,none⟩) 1 1) S'/\
 S.length=S'.length/\(∀ y∈S,ClS y)/\(∀ y∈S',ClS y)/\zax zaZ S S'=V/\(S.map zaa).sum<=2000/\(S'.map zaa).sum<=2000
theorem ziv {w4:World}{R:Nat}{a b c d e f:Value}{tmps:Array Value}(hR:Bn w4 R [a,b,c,d,e,f]) (ht:tmps.getD 2 undef=.pointer (some ⟨R,0,none⟩)):(results Tryz.f41 tmps).run Tryz.prog w4=.ok (.agg #[a,b,c,d,e,f]) w4:=by
 have ht':tmps[2]?.getD undef=.pointer (some ⟨R,0,none⟩):=by simpa using ht
 have c0:=(hR 0 _ rfl).1
 have c1:=(hR 1 _ rfl).1
 have c2:=(hR 2 _ rfl).1
 have c3:=(hR 3 _ rfl).1
 have c4:=(hR 4 _ rfl).1
 have c5:=(hR 5 _ rfl).1
 simp [results,Tryz.results41,go_sem,ht',c0,c1,c2,c3,c4,c5]
theorem zmg {ok:Nat->Prop}{w:World}(ev tg:ByteArray) (s1:Option Addr) (ns s3:Nat) (ol oc:Int) (l:List (List UInt8 × Sx)) (h1:ev.size<=140737488351232) (h3:tg.size<=140737488351232) (h2:∀ w1,Calls Tryz.prog 59 #[.nilIface] w1 fun e w'=>e=.returned (.nilIface)/\Below w1.heap.size w1 w')
  (hs:RdK ok w 2 (zaq ok w) l (.slice s1 ns s3)) (hn:l.length=ns) (hl:ns<=100000) (hok:∀ s∈l,zdS s):Calls Tryz.prog 41 #[.agg #[.string ev,.nilIface,.string tg,.slice s1 ns s3,.int .i64 ol,.int .i64 oc]] w fun e w'=>∃ u1 u3,e=.returned (.agg #[.string ev,.nilIface,.string tg,.slice u1 ns u3,.int .i64 0,.int .i64 0])/\RdK (fun b=>w.heap.size<=b) w' 2 (zaq (fun b=>w.heap.size<=b) w') l (.slice u1 ns u3)/\Below w.heap.size w w':=by
 have g1:=fun w1=>zQ ev w1 h1
 have g3:=fun w1=>zQ tg w1 h3
 have hal:Below w.heap.size w ((w.alloc (.cells #[.string ev,.nilIface,.string tg,.slice s1 ns s3,.int .i64 ol,.int .i64 oc] 90)).alloc (.cells #[.string ⟨#[]⟩,.nilIface,.string ⟨#[]⟩,.slice none 0 0,.int .i64 0,.int .i64 0] 90)):=((Below.refl w.heap.size w).alloc zn2 _).alloc (by simp) _
 have hX:Bn ((w.alloc (.cells #[.string ev,.nilIface,.string tg,.slice s1 ns s3,.int .i64 ol,.int .i64 oc] 90)).alloc (.cells #[.string ⟨#[]⟩,.nilIface,.string ⟨#[]⟩,.slice none 0 0,.int .i64 0,.int .i64 0] 90)) w.heap.size [.string ev,.nilIface,.string tg,.slice s1 ns s3,.int .i64 ol,.int .i64 oc]:=(Bn.new w [.string ev,.nilIface,.string tg,.slice s1 ns s3,.int .i64 ol,.int .i64 oc] 90 _ rfl).on (zn3.alloc zn2 _)
 have hR:Bn ((w.alloc (.cells #[.string ev,.nilIface,.string tg,.slice s1 ns s3,.int .i64 ol,.int .i64 oc] 90)).alloc (.cells #[.string ⟨#[]⟩,.nilIface,.string ⟨#[]⟩,.slice none 0 0,.int .i64 0,.int .i64 0] 90)) (w.heap.size+1) [.string ⟨#[]⟩,.nilIface,.string ⟨#[]⟩,.slice none 0 0,.int .i64 0,.int .i64 0]:=Bn.new (w.alloc (.cells #[.string ev,.nilIface,.string tg,.slice s1 ns s3,.int .i64 ol,.int .i64 oc] 90)) [.string ⟨#[]⟩,.nilIface,.string ⟨#[]⟩,.slice none 0 0,.int .i64 0,.int .i64 0] 90 _ (by simp)
 have hsz:w.heap.size+2<=((w.alloc (.cells #[.string ev,.nilIface,.string tg,.slice s1 ns s3,.int .i64 ol,.int .i64 oc] 90)).alloc (.cells #[.string ⟨#[]⟩,.nilIface,.string ⟨#[]⟩,.slice none 0 0,.int .i64 0,.int .i64 0] 90)).heap.size:=by simp
 go_enter Tryz.func41,Tryz.ntmps41
 go_upto_region 1 with fail
 generalize ((w.alloc (.cells #[.string ev,.nilIface,.string tg,.slice s1 ns s3,.int .i64 ol,.int .i64 oc] 90)).alloc (.cells #[.string ⟨#[]⟩,.nilIface,.string ⟨#[]⟩,.slice none 0 0,.int .i64 0,.int .i64 0] 90))=wx at *
 have hE:∀ w1,Below wx.heap.size wx w1->Calls Tryz.prog 60 #[.slice s1 ns s3,.func (.func 61) #[] #[]] w1 fun e w'=>∃ u1 u3,e=.returned (.slice u1 ns u3)/\RdK (fun b=>wx.heap.size<=b) w' 2 (zaq (fun b=>wx.heap.size<=b) w') l (.slice u1 ns u3)/\Below w1.heap.size w1 w':=fun w1 b1=>by
  have hs1:=hs.stay zk (ok':=ok) (w':=w1) (fun b hb hl=>⟨hb,(b1.block b (zn4 hl hal.size)).trans (hal.block b hl)⟩)
  refine (zdT hs1 (by omega) hok).mono ?_
  rintro e w' ⟨u,h1,h2,h3⟩
  obtain ⟨u1,u3,rfl,_⟩:=h2.form
  rw [hn] at h1 h2
  exact ⟨u1,u3,h1,h2.stay zk (fun b hb hl=>⟨zn5 b1.size hb,rfl⟩),h3⟩
 have hB:Below wx.heap.size wx wx:=Below.refl _ _
 have c0:=(hX 0 _ rfl).1
 have c1:=(hX 1 _ rfl).1
 have c2:=(hX 2 _ rfl).1
 have c3:=(hX 3 _ rfl).1
 have hlt:=hX.lt
 obtain ⟨S,hS⟩:∃ S,w.heap.size=S:=⟨_,rfl⟩
 rw [hS] at c0 c1 c2 c3 hlt hR hsz ⊢
 have HS:Hid (w.heap.size=S):=hS
 clear hs hX hS
 have n1:S≠S+1:=by omega
 have y0:=c0
 have y1:=c1
 have y2:=c2
 have y3:=c3
 go_region_held_law (fun w'=>w'.cell? ⟨S,0,none⟩=some (.string ev)/\w'.cell? ⟨S,1,none⟩=some (.nilIface)/\w'.cell? ⟨S,2,none⟩=some (.string tg)/\w'.cell? ⟨S,3,none⟩=some (.slice s1 ns s3))
  ((refine ⟨?_,?_,?_,?_⟩<;>(repeat (with_reducible first|exact y0|exact y1|exact y2|exact y3|refine zh ?_|refine za (zg n1) ?_))<;>done))
  (first
   | (go_at_call 22;(with_reducible refine (g1 _).mono ?_);rintro e w1 ⟨rfl,b1⟩;(first|have hB:=Below.nxd hB b1|have hB:=Below.nx hB b1);have hR1:=hR.on hB;obtain ⟨r0,f0⟩:=hR1 0 _ rfl;obtain ⟨r1,f1⟩:=hR1 1 _ rfl;obtain ⟨r2,f2⟩:=hR1 2 _ rfl;obtain ⟨r3,f3⟩:=hR1 3 _ rfl;obtain ⟨r4,f4⟩:=hR1 4 _ rfl;obtain ⟨r5,f5⟩:=hR1 5 _ rfl;have y0:=(hB.cell (p:=⟨S,0,none⟩) hlt).trans c0;have y1:=(hB.cell (p:=⟨S,1,none⟩) hlt).trans c1;have y2:=(hB.cell (p:=⟨S,2,none⟩) hlt).trans c2;have y3:=(hB.cell (p:=⟨S,3,none⟩) hlt).trans c3;(first|have hBr:=Below.nxd hBr b1|have hBr:=Below.nx hBr b1|skip))
   | (go_at_call 22;(with_reducible refine (g3 _).mono ?_);rintro e w1 ⟨rfl,b1⟩;(first|have hB:=Below.nxd hB b1|have hB:=Below.nx hB b1);have hR1:=hR.on hB;obtain ⟨r0,f0⟩:=hR1 0 _ rfl;obtain ⟨r1,f1⟩:=hR1 1 _ rfl;obtain ⟨r2,f2⟩:=hR1 2 _ rfl;obtain ⟨r3,f3⟩:=hR1 3 _ rfl;obtain ⟨r4,f4⟩:=hR1 4 _ rfl;obtain ⟨r5,f5⟩:=hR1 5 _ rfl;have y0:=(hB.cell (p:=⟨S,0,none⟩) hlt).trans c0;have y1:=(hB.cell (p:=⟨S,1,none⟩) hlt).trans c1;have y2:=(hB.cell (p:=⟨S,2,none⟩) hlt).trans c2;have y3:=(hB.cell (p:=⟨S,3,none⟩) hlt).trans c3;(first|have hBr:=Below.nxd hBr b1|have hBr:=Below.nx hBr b1|skip))
   | (go_at_call 59;(with_reducible refine (h2 _).mono ?_);rintro e w1 ⟨rfl,b1⟩;(first|have hB:=Below.nxd hB b1|have hB:=Below.nx hB b1);have hR1:=hR.on hB;obtain ⟨r0,f0⟩:=hR1 0 _ rfl;obtain ⟨r1,f1⟩:=hR1 1 _ rfl;obtain ⟨r2,f2⟩:=hR1 2 _ rfl;obtain ⟨r3,f3⟩:=hR1 3 _ rfl;obtain ⟨r4,f4⟩:=hR1 4 _ rfl;obtain ⟨r5,f5⟩:=hR1 5 _ rfl;have y0:=(hB.cell (p:=⟨S,0,none⟩) hlt).trans c0;have y1:=(hB.cell (p:=⟨S,1,none⟩) hlt).trans c1;have y2:=(hB.cell (p:=⟨S,2,none⟩) hlt).trans c2;have y3:=(hB.cell (p:=⟨S,3,none⟩) hlt).trans c3;(first|have hBr:=Below.nxd hBr b1|have hBr:=Below.nx hBr b1|skip))
   | (go_at_call 60;(with_reducible first|refine (hE _ hB).mono ?_|refine (hE _ hB.drew).mono ?_);rintro e w1 ⟨u1,u3,rfl,hr,b1⟩;(first|have hB:=Below.nxd hB b1|have hB:=Below.nx hB b1);have hR1:=hR.on hB;obtain ⟨r0,f0⟩:=hR1 0 _ rfl;obtain ⟨r1,f1⟩:=hR1 1 _ rfl;obtain ⟨r2,f2⟩:=hR1 2 _ rfl;obtain ⟨r3,f3⟩:=hR1 3 _ rfl;obtain ⟨r4,f4⟩:=hR1 4 _ rfl;obtain ⟨r5,f5⟩:=hR1 5 _ rfl;have y0:=(hB.cell (p:=⟨S,0,none⟩) hlt).trans c0;have y1:=(hB.cell (p:=⟨S,1,none⟩) hlt).trans c1;have y2:=(hB.cell (p:=⟨S,2,none⟩) hlt).trans c2;have y3:=(hB.cell (p:=⟨S,3,none⟩) hlt).trans c3;have hBr:Below w1.heap.size w1 w1:=zn3)
   | fail)
 all_goals (
  have hrz:=hr.stay zk (ok':=fun b=>w.heap.size<=b) (w':=zV w1 (S+1) 0 [.string ev,.nilIface,.string tg,.slice u1 ns u3,.int .i64 0,.int .i64 0]) (fun b hb hl=>⟨by have:=HS.out;omega,(zt _ _ _ _ _ (by omega)).trans (hBr.block b hl)⟩)
  have hR2:=(((((hR1.set (i:=0) (by simp) (.string ev)).set (i:=1) (by simp) (.nilIface)).set (i:=2) (by simp) (.string tg)).set (i:=3) (by simp) (.slice u1 ns u3)).set (i:=4) (by simp) (.int .i64 0)).set (i:=5) (by simp) (.int .i64 0)
  have hb2:=zx [.string ev,.nilIface,.string tg,.slice u1 ns u3,.int .i64 0,.int .i64 0] w1 (S+1) 0 (hal.trans (hB.mono (by have:=hal.size;omega))) (by have:=HS.out;omega)
  go_wp2
  exact bodyPost_ret (ziv hR2 rfl) rfl ⟨u1,u3,rfl,hrz,hb2⟩)
theorem zlP {ok:Nat->Prop}{w:World}(ev tg:ByteArray) (gu:TypeId) (gy:Value) (s1:Option Addr) (ns s3:Nat) (ol oc:Int) (l:List (List UInt8 × Sx)) (h1:ev.size<=140737488351232) (h3:tg.size<=140737488351232) (h2:∀ w1,Calls Tryz.prog 59 #[.iface gu gy] w1 fun e w'=>e=.returned (.iface gu gy)/\Below w1.heap.size w1 w')
  (hs:RdK ok w 2 (zaq ok w) l (.slice s1 ns s3)) (hn:l.length=ns) (hl:ns<=100000) (hok:∀ s∈l,zdS s):Calls Tryz.prog 41 #[.agg #[.string ev,.iface gu gy,.string tg,.slice s1 ns s3,.int .i64 ol,.int .i64 oc]] w fun e w'=>∃ u1 u3,e=.returned (.agg #[.string ev,.iface gu gy,.string tg,.slice u1 ns u3,.int .i64 0,.int .i64 0])/\RdK (fun b=>w.heap.size<=b) w' 2 (zaq (fun b=>w.heap.size<=b) w') l (.slice u1 ns u3)/\Below w.heap.size w w':=by
 have g1:=fun w1=>zQ ev w1 h1
 have g3:=fun w1=>zQ tg w1 h3
 have hal:Below w.heap.size w ((w.alloc (.cells #[.string ev,.iface gu gy,.string tg,.slice s1 ns s3,.int .i64 ol,.int .i64 oc] 90)).alloc (.cells #[.string ⟨#[]⟩,.nilIface,.string ⟨#[]⟩,.slice none 0 0,.int .i64 0,.int .i64 0] 90)):=((Below.refl w.heap.size w).alloc zn2 _).alloc (by simp) _
 have hX:Bn ((w.alloc (.cells #[.string ev,.iface gu gy,.string tg,.slice s1 ns s3,.int .i64 ol,.int .i64 oc] 90)).alloc (.cells #[.string ⟨#[]⟩,.nilIface,.string ⟨#[]⟩,.slice none 0 0,.int .i64 0,.int .i64 0] 90)) w.heap.size [.string ev,.iface gu gy,.string tg,.slice s1 ns s3,.int .i64 ol,.int .i64 oc]:=(Bn.new w [.string ev,.iface gu gy,.string tg,.slice s1 ns s3,.int .i64 ol,.int .i64 oc] 90 _ rfl).on (zn3.alloc zn2 _)
 have hR:Bn ((w.alloc (.cells #[.string ev,.iface gu gy,.string tg,.slice s1 ns s3,.int .i64 ol,.int .i64 oc] 90)).alloc (.cells #[.string ⟨#[]⟩,.nilIface,.string ⟨#[]⟩,.slice none 0 0,.int .i64 0,.int .i64 0] 90)) (w.heap.size+1) [.string ⟨#[]⟩,.nilIface,.string ⟨#[]⟩,.slice none 0 0,.int .i64 0,.int .i64 0]:=Bn.new (w.alloc (.cells #[.string ev,.iface gu gy,.string tg,.slice s1 ns s3,.int .i64 ol,.int .i64 oc] 90)) [.string ⟨#[]⟩,.nilIface,.string ⟨#[]⟩,.slice none 0 0,.int .i64 0,.int .i64 0] 90 _ (by simp)
 have hsz:w.heap.size+2<=((w.alloc (.cells #[.string ev,.iface gu gy,.string tg,.slice s1 ns s3,.int .i64 ol,.int .i64 oc] 90)).alloc (.cells #[.string ⟨#[]⟩,.nilIface,.string ⟨#[]⟩,.slice none 0 0,.int .i64 0,.int .i64 0] 90)).heap.size:=by simp
 go_enter Tryz.func41,Tryz.ntmps41
 go_upto_region 1 with fail
 generalize ((w.alloc (.cells #[.string ev,.iface gu gy,.string tg,.slice s1 ns s3,.int .i64 ol,.int .i64 oc] 90)).alloc (.cells #[.string ⟨#[]⟩,.nilIface,.string ⟨#[]⟩,.slice none 0 0,.int .i64 0,.int .i64 0] 90))=wx at *
 have hE:∀ w1,Below wx.heap.size wx w1->Calls Tryz.prog 60 #[.slice s1 ns s3,.func (.func 61) #[] #[]] w1 fun e w'=>∃ u1 u3,e=.returned (.slice u1 ns u3)/\RdK (fun b=>wx.heap.size<=b) w' 2 (zaq (fun b=>wx.heap.size<=b) w') l (.slice u1 ns u3)/\Below w1.heap.size w1 w':=fun w1 b1=>by
  have hs1:=hs.stay zk (ok':=ok) (w':=w1) (fun b hb hl=>⟨hb,(b1.block b (zn4 hl hal.size)).trans (hal.block b hl)⟩)
  refine (zdT hs1 (by omega) hok).mono ?_
  rintro e w' ⟨u,h1,h2,h3⟩
  obtain ⟨u1,u3,rfl,_⟩:=h2.form
  rw [hn] at h1 h2
  exact ⟨u1,u3,h1,h2.stay zk (fun b hb hl=>⟨zn5 b1.size hb,rfl⟩),h3⟩
 have hB:Below wx.heap.size wx wx:=Below.refl _ _
 have c0:=(hX 0 _ rfl).1
 have c1:=(hX 1 _ rfl).1
 have c2:=(hX 2 _ rfl).1
 have c3:=(hX 3 _ rfl).1
 have hlt:=hX.lt
 obtain ⟨S,hS⟩:∃ S,w.heap.size=S:=⟨_,rfl⟩
 rw [hS] at c0 c1 c2 c3 hlt hR hsz ⊢
 have HS:Hid (w.heap.size=S):=hS
 clear hs hX hS
 have n1:S≠S+1:=by omega
 have y0:=c0
 have y1:=c1
 have y2:=c2
 have y3:=c3
 go_region_held_law (fun w'=>w'.cell? ⟨S,0,none⟩=some (.string ev)/\w'.cell? ⟨S,1,none⟩=some (.iface gu gy)/\w'.cell? ⟨S,2,none⟩=some (.string tg)/\w'.cell? ⟨S,3,none⟩=some (.slice s1 ns s3))
  ((refine ⟨?_,?_,?_,?_⟩<;>(repeat (with_reducible first|exact y0|exact y1|exact y2|exact y3|refine zh ?_|refine za (zg n1) ?_))<;>done))
  (first
   | (go_at_call 22;(with_reducible refine (g1 _).mono ?_);rintro e w1 ⟨rfl,b1⟩;(first|have hB:=Below.nxd hB b1|have hB:=Below.nx hB b1);have hR1:=hR.on hB;obtain ⟨r0,f0⟩:=hR1 0 _ rfl;obtain ⟨r1,f1⟩:=hR1 1 _ rfl;obtain ⟨r2,f2⟩:=hR1 2 _ rfl;obtain ⟨r3,f3⟩:=hR1 3 _ rfl;obtain ⟨r4,f4⟩:=hR1 4 _ rfl;obtain ⟨r5,f5⟩:=hR1 5 _ rfl;have y0:=(hB.cell (p:=⟨S,0,none⟩) hlt).trans c0;have y1:=(hB.cell (p:=⟨S,1,none⟩) hlt).trans c1;have y2:=(hB.cell (p:=⟨S,2,none⟩) hlt).trans c2;have y3:=(hB.cell (p:=⟨S,3,none⟩) hlt).trans c3;(first|have hBr:=Below.nxd hBr b1|have hBr:=Below.nx hBr b1|skip))
   | (go_at_call 22;(with_reducible refine (g3 _).mono ?_);rintro e w1 ⟨rfl,b1⟩;(first|have hB:=Below.nxd hB b1|have hB:=Below.nx hB b1);have hR1:=hR.on hB;obtain ⟨r0,f0⟩:=hR1 0 _ rfl;obtain ⟨r1,f1⟩:=hR1 1 _ rfl;obtain ⟨r2,f2⟩:=hR1 2 _ rfl;obtain ⟨r3,f3⟩:=hR1 3 _ rfl;obtain ⟨r4,f4⟩:=hR1 4 _ rfl;obtain ⟨r5,f5⟩:=hR1 5 _ rfl;have y0:=(hB.cell (p:=⟨S,0,none⟩) hlt).trans c0;have y1:=(hB.cell (p:=⟨S,1,none⟩) hlt).trans c1;have y2:=(hB.cell (p:=⟨S,2,none⟩) hlt).trans c2;have y3:=(hB.cell (p:=⟨S,3,none⟩) hlt).trans c3;(first|have hBr:=Below.nxd hBr b1|have hBr:=Below.nx hBr b1|skip))
   | (go_at_call 59;(with_reducible refine (h2 _).mono ?_);rintro e w1 ⟨rfl,b1⟩;(first|have hB:=Below.nxd hB b1|have hB:=Below.nx hB b1);have hR1:=hR.on hB;obtain ⟨r0,f0⟩:=hR1 0 _ rfl;obtain ⟨r1,f1⟩:=hR1 1 _ rfl;obtain ⟨r2,f2⟩:=hR1 2 _ rfl;obtain ⟨r3,f3⟩:=hR1 3 _ rfl;obtain ⟨r4,f4⟩:=hR1 4 _ rfl;obtain ⟨r5,f5⟩:=hR1 5 _ rfl;have y0:=(hB.cell (p:=⟨S,0,none⟩) hlt).trans c0;have y1:=(hB.cell (p:=⟨S,1,none⟩) hlt).trans c1;have y2:=(hB.cell (p:=⟨S,2,none⟩) hlt).trans c2;have y3:=(hB.cell (p:=⟨S,3,none⟩) hlt).trans c3;(first|have hBr:=Below.nxd hBr b1|have hBr:=Below.nx hBr b1|skip))
   | (go_at_call 60;(with_reducible first|refine (hE _ hB).mono ?_|refine (hE _ hB.drew).mono ?_);rintro e w1 ⟨u1,u3,rfl,hr,b1⟩;(first|have hB:=Below.nxd hB b1|have hB:=Below.nx hB b1);have hR1:=hR.on hB;obtain ⟨r0,f0⟩:=hR1 0 _ rfl;obtain ⟨r1,f1⟩:=hR1 1 _ rfl;obtain ⟨r2,f2⟩:=hR1 2 _ rfl;obtain ⟨r3,f3⟩:=hR1 3 _ rfl;obtain ⟨r4,f4⟩:=hR1 4 _ rfl;obtain ⟨r5,f5⟩:=hR1 5 _ rfl;have y0:=(hB.cell (p:=⟨S,0,none⟩) hlt).trans c0;have y1:=(hB.cell (p:=⟨S,1,none⟩) hlt).trans c1;have y2:=(hB.cell (p:=⟨S,2,none⟩) hlt).trans c2;have y3:=(hB.cell (p:=⟨S,3,none⟩) hlt).trans c3;have hBr:Below w1.heap.size w1 w1:=zn3)
   | fail)
 all_goals (
  have hrz:=hr.stay zk (ok':=fun b=>w.heap.size<=b) (w':=zV w1 (S+1) 0 [.string ev,.iface gu gy,.string tg,.slice u1 ns u3,.int .i64 0,.int .i64 0]) (fun b hb hl=>⟨by have:=HS.out;omega,(zt _ _ _ _ _ (by omega)).trans (hBr.block b hl)⟩)
  have hR2:=(((((hR1.set (i:=0) (by simp) (.string ev)).set (i:=1) (by simp) (.iface gu gy)).set (i:=2) (by simp) (.string tg)).set (i:=3) (by simp) (.slice u1 ns u3)).set (i:=4) (by simp) (.int .i64 0)).set (i:=5) (by simp) (.int .i64 0)
  have hb2:=zx [.string ev,.iface gu gy,.string tg,.slice u1 ns u3,.int .i64 0,.int .i64 0] w1 (S+1) 0 (hal.trans (hB.mono (by have:=hal.size;omega))) (by have:=HS.out;omega)
  go_wp2
  exact bodyPost_ret (ziv hR2 rfl) rfl ⟨u1,u3,rfl,hrz,hb2⟩)
def stO (o:OnC):OnC:=(o.1,o.2.1,o.2.2.1,o.2.2.2.1,(0,0))
def stS:(d:Nat)->St d->St d
 | 0,t=>Empty.elim t
 | d+1,t=>show HdC × List (St d) from (((t.1.1.1,(0,0)),t.1.2.1,t.1.2.2.1,t.1.2.2.2.1,t.1.2.2.2.2.map stO),t.2.map (stS d))
theorem Tryz.infoEOn:(Tryz.prog.info? 90).map (fun i=>(i.zero,i.size,i.bytes))=some (some (.agg #[.string ⟨#[]⟩,.nilIface,.string ⟨#[]⟩,.slice none 0 0,.int .i64 0,.int .i64 0]),6,88):=by kernel_rfl
def zeO (o:OnC):Prop:=o.1.length<=140737488351232/\o.2.2.1.length<=140737488351232/\(o.2.1.1=true->zgx o.2.1.2)/\(∀ s∈o.2.2.2.1,zdS s)/\o.2.2.2.1.length<=100000
theorem zfB:zgx noX:=⟨zd3 (d:=0),by show zb5 noX<=2000;decide,rfl⟩
theorem zhQ {ok:Nat->Prop}{w:World}{l:List OnC}{a:Option Addr}{n cap:Nat}(h:RdK ok w 6 (rOn ok w) l (.slice a n cap)) (j:Nat) (hj:j < l.length):∃ b off s1 s3,a=some ⟨b,off,none⟩/\b < w.heap.size/\RdK ok w 2 (zaq ok w) l[j].2.2.2.1 (.slice s1 l[j].2.2.2.1.length s3)/\∀ i u,(onV l[j] (.slice s1 l[j].2.2.2.1.length s3))[i]?=some u->w.cell? ⟨b,off+j*6+i,none⟩=some u:=by
 obtain ⟨a1,cap1,he,h1,h2,h3⟩:=h
 simp only [Value.slice.injEq] at he
 obtain ⟨rfl,rfl,rfl⟩:=he
 obtain ⟨b,off,cs,ha,_,hb,hl,⟨sl,rfl,hs⟩,hc⟩:=h3 j hj
 obtain ⟨s1,s3,rfl,_⟩:=hs.form
 exact ⟨b,off,s1,s3,ha,hb,hs,hc⟩
theorem zn1 {o:OnC}(h:zeO o) (w:World):Calls Tryz.prog 59 #[gdV o.2.1] w fun e w'=>e=.returned (gdV o.2.1)/\Below w.heap.size w w':=by
 unfold gdV
 split
 ·next hb=>exact znt (h.2.2.1 hb) w
 ·exact znt zfB w
theorem zhv {ok:Nat->Prop}{w:World}{l:List OnC}{v:Value}(h:RdK ok w 6 (rOn ok w) l v) (hl:l.length<=100000) (hok:∀ s∈l,zeO s) :
  Calls Tryz.prog 40 #[v,.func (.func 41) #[] #[]] w fun e w'=>∃ u,e=.returned u/\RdK (fun b=>w.heap.size<=b) w' 6 (rOn (fun b=>w.heap.size<=b) w') (l.map stO) u/\Below w.heap.size w w':=by
 obtain ⟨ie,hie,hie0,hie1,hie2⟩:=info_parts Tryz.infoEOn
 obtain ⟨a,cap,rfl,hlc,hcm⟩:=h.form
 unfold maxLen at hcm
 have HC:=zm h
 have HK:=zm hok
 obtain ⟨n,hn⟩:∃ n,l.length=n:=⟨_,rfl⟩
 rw [hn] at hlc hl ⊢
 have HN:Hid (l.length=n):=hn
 clear h hok hn
 have hmk:=run_make (P:=Tryz.prog) w 43 90 ie _ Tryz.underlying43 hie hie0 .i64 .i64 (n:Int) (n:Int) (by omega) (by omega) (by rw [hie2];omega) (by omega)
 rw [Int.toNat_natCast,hie1] at hmk
 have hG0:RowG (w.alloc (.cells (madeCells (.agg #[.string ⟨#[]⟩,.nilIface,.string ⟨#[]⟩,.slice none 0 0,.int .i64 0,.int .i64 0]:Value).cells (n*6)) 90)) w.heap.size 6 n rOn ([]:List (OnC)):=RowG.made w _ 6 n _ _
 have hb0:Below w.heap.size w (w.alloc (.cells (madeCells (.agg #[.string ⟨#[]⟩,.nilIface,.string ⟨#[]⟩,.slice none 0 0,.int .i64 0,.int .i64 0]:Value).cells (n*6)) 90)):=zn3.alloc zn2 _
 have hs0:(w.alloc (.cells (madeCells (.agg #[.string ⟨#[]⟩,.nilIface,.string ⟨#[]⟩,.slice none 0 0,.int .i64 0,.int .i64 0]:Value).cells (n*6)) 90)).heap.size=w.heap.size+1:=by simp
 generalize w.alloc (.cells (madeCells (.agg #[.string ⟨#[]⟩,.nilIface,.string ⟨#[]⟩,.slice none 0 0,.int .i64 0,.int .i64 0]:Value).cells (n*6)) 90)=w0 at *
 go_enter Tryz.func40,Tryz.ntmps40
 go_wp2
 go_loopw [13] (fun ix wr=>∃ (i:Nat),i<=n/\ix=.int .i64 (i:Int)/\RowG wr w.heap.size 6 n rOn ((l.map stO).take i)/\Below w.heap.size w wr/\w.heap.size < wr.heap.size) (fun ix _=>n - (RowKit.intOf ix).toNat)
 case atStart=>exact ⟨0,Nat.zero_le _,rfl,hG0,hb0,by omega⟩
 case round=>
  obtain ⟨i,hi,rfl,hRow,hb,hGs⟩:=hrel
  clear hG0 hb0 hs0 hmk
  by_cases hlt:i < n
  ·have hil:i < l.length:=by rw [HN.out];exact hlt
   obtain ⟨b,off,s1,s3,rfl,hbl,hSe,hc⟩:=zhQ HC.out i hil
   have hko:=HK.out _ (List.getElem_mem hil)
   obtain ⟨o,ho⟩:∃ o,l[i]=o:=⟨_,rfl⟩
   rw [ho] at hSe hc hko
   obtain ⟨ns,hns⟩:∃ m,o.2.2.2.1.length=m:=⟨_,rfl⟩
   rw [hns] at hSe hc
   have hg:=zn1 hko
   obtain ⟨ev,hev⟩:∃ ev:ByteArray,⟨o.1.toArray⟩=ev:=⟨_,rfl⟩
   obtain ⟨tg,htg⟩:∃ tg:ByteArray,⟨o.2.2.1.toArray⟩=tg:=⟨_,rfl⟩
   have hz1:ev.size<=140737488351232:=by rw [<- hev];show o.1.toArray.size<=_;simpa using hko.1
   have hz2:tg.size<=140737488351232:=by rw [<- htg];show o.2.2.1.toArray.size<=_;simpa using hko.2.1
   obtain ⟨ol,hol⟩:∃ x,o.2.2.2.2.1=x:=⟨_,rfl⟩
   obtain ⟨oc,hoc⟩:∃ x,o.2.2.2.2.2=x:=⟨_,rfl⟩
   have hform:=zc6 o.2.1
   obtain ⟨gv,hgv⟩:∃ gv,gdV o.2.1=gv:=⟨_,rfl⟩
   have hov:∀ sl,onV o sl=[.string ev,gv,.string tg,sl,.int .i64 ol,.int .i64 oc]:=fun sl=>by
    unfold onV sV
    rw [hev,htg,hol,hoc,hgv]
   have hov2:∀ sl,onV (stO o) sl=[.string ev,gv,.string tg,sl,.int .i64 0,.int .i64 0]:=fun sl=>by
    show [sV o.1,gdV o.2.1,sV o.2.2.1,sl,.int .i64 0,.int .i64 0]=_
    unfold sV
    rw [hev,htg,hgv]
   rw [hov] at hc
   rw [hgv] at hform hg
   have HQ:Hid (l[i]=o):=ho
   have HOV:Hid (∀ sl,onV (stO o) sl=[.string ev,gv,.string tg,sl,.int .i64 0,.int .i64 0]):=hov2
   have HNS:Hid (o.2.2.2.1.length=ns):=hns
   have HKO:Hid (zeO o):=hko
   have HSE:Hid (RdK ok w 2 (zaq ok w) o.2.2.2.1 (.slice s1 ns s3)):=hSe
   clear ho hns hko hSe hev htg hol hoc hgv hov hov2
   obtain ⟨acc,hac⟩:∃ acc,(l.map stO).take i=acc:=⟨_,rfl⟩
   have hla:acc.length=i:=by rw [<- hac];simp [HN.out];omega
   rw [hac] at hRow
   have HAC:Hid ((l.map stO).take i=acc):=hac
   clear hac
   have i1:(i:Int) < (n:Int):=by omega
   have i2:(0:Int)<=(i:Int):=by omega
   have C0:=(hb.cell (p:=⟨b,off+i*6+0,none⟩) hbl).trans (hc 0 _ rfl)
   have C1:=(hb.cell (p:=⟨b,off+i*6+1,none⟩) hbl).trans (hc 1 _ rfl)
   have C2:=(hb.cell (p:=⟨b,off+i*6+2,none⟩) hbl).trans (hc 2 _ rfl)
   have C3:=(hb.cell (p:=⟨b,off+i*6+3,none⟩) hbl).trans (hc 3 _ rfl)
   have C4:=(hb.cell (p:=⟨b,off+i*6+4,none⟩) hbl).trans (hc 4 _ rfl)
   have C5:=(hb.cell (p:=⟨b,off+i*6+5,none⟩) hbl).trans (hc 5 _ rfl)
   rw [Nat.add_zero] at C0
   clear hc
   rcases hform with rfl|⟨gu,gy,rfl⟩
   ·have hal:=(Below.refl wr.heap.size wr).alloc zn2 (.cells #[.string ev,.nilIface,.string tg,.slice s1 ns s3,.int .i64 ol,.int .i64 oc] 90)
    have hX:=Bn.new wr [.string ev,.nilIface,.string tg,.slice s1 ns s3,.int .i64 ol,.int .i64 oc] 90 _ rfl
    have hRx:=hRow.on zB hGs hal
    have hbx:=hb.trans (hal.mono hb.size)
    have hGx:=zn4 hGs hal.size
    have hcall:∀ w1,Below w.heap.size w w1->Calls Tryz.prog 41 #[.agg #[.string ev,.nilIface,.string tg,.slice s1 ns s3,.int .i64 ol,.int .i64 oc]] w1 fun e w'=>∃ u1 u3,e=.returned (.agg #[.string ev,.nilIface,.string tg,.slice u1 ns u3,.int .i64 0,.int .i64 0])/\RdK (fun b=>w1.heap.size<=b) w' 2 (zaq (fun b=>w1.heap.size<=b) w') o.2.2.2.1 (.slice u1 ns u3)/\Below w1.heap.size w1 w':=fun w1 b1=>zmg ev tg s1 ns s3 ol oc o.2.2.2.1 hz1 hz2 hg (HSE.out.stay zk (ok':=ok) (fun b hb hl=>⟨hb,b1.block b hl⟩)) HNS.out (by have:=HKO.out.2.2.2.2;rw [HNS.out] at this;exact this) HKO.out.2.2.2.1
    clear hg
    go_upto_region 5 with fail
    clear C0 C1 C2 C3 C4 C5 hal
    generalize wr.alloc (.cells #[.string ev,.nilIface,.string tg,.slice s1 ns s3,.int .i64 ol,.int .i64 oc] 90)=wx at *
    obtain ⟨X,hXX⟩:∃ X,wr.heap.size=X:=⟨_,rfl⟩
    rw [hXX] at hX ⊢
    have HXX:Hid (wr.heap.size=X):=hXX
    clear hXX
    have x0:=(hX 0 _ rfl).1
    have x1:=(hX 1 _ rfl).1
    have x2:=(hX 2 _ rfl).1
    have x3:=(hX 3 _ rfl).1
    have x4:=(hX 4 _ rfl).1
    have x5:=(hX 5 _ rfl).1
    go_wp2_with (first
     | (go_at_call 41;refine (hcall _ hbx).mono ?_;rintro e w1 ⟨u1,u3,rfl,hr,b1⟩;have hp:rOn (fun b=>w.heap.size < b) w1 (stO o) [.string ev,.nilIface,.string tg,.slice u1 ns u3,.int .i64 0,.int .i64 0]:=(⟨.slice u1 ns u3,(HOV.out _).symm,hr.stay zk (fun b hb hl=>⟨zn4 hGx hb,rfl⟩)⟩);clear hr;have hR1:=hRx.on zB hGx b1;obtain ⟨⟨r0,q0⟩,z0⟩:=hR1.1 (i*6+0) (zM hlt (by omega));obtain ⟨⟨r1,q1⟩,z1⟩:=hR1.1 (i*6+1) (zM hlt (by omega));obtain ⟨⟨r2,q2⟩,z2⟩:=hR1.1 (i*6+2) (zM hlt (by omega));obtain ⟨⟨r3,q3⟩,z3⟩:=hR1.1 (i*6+3) (zM hlt (by omega));obtain ⟨⟨r4,q4⟩,z4⟩:=hR1.1 (i*6+4) (zM hlt (by omega));obtain ⟨⟨r5,q5⟩,z5⟩:=hR1.1 (i*6+5) (zM hlt (by omega));rw [Nat.add_zero] at q0 z0)
     | fail)
    have hP:=hR1.put zB (x:=stO o) (cs:=[.string ev,.nilIface,.string tg,.slice u1 ns u3,.int .i64 0,.int .i64 0]) (by rw [hla];exact hlt) rfl hp
    rw [hla] at hP
    have hb2:=zx [.string ev,.nilIface,.string tg,.slice u1 ns u3,.int .i64 0,.int .i64 0] w1 w.heap.size (i*6) (hbx.trans (b1.mono (Nat.le_of_lt hGx))) zn2
    have hs2:w.heap.size < (zV w1 w.heap.size (i*6) [.string ev,.nilIface,.string tg,.slice u1 ns u3,.int .i64 0,.int .i64 0]).heap.size:=by rw [za7];exact zn4 hGx b1.size
    have hac2:(l.map stO).take (i+1)=acc++[stO o]:=by
     rw [List.take_succ_eq_append_getElem (by simp [HN.out];omega),HAC.out]
     simp [HQ.out]
    clear x0 r0 q0 z0 x1 r1 q1 z1 x2 r2 q2 z2 x3 r3 q3 z3 x4 r4 q4 z4 x5 r5 q5 z5 hR1 hRx hp
    go_wp2
    go_roundw
    case rel=>exact ⟨i+1,hlt,by go_num,by rw [hac2];exact hP,hb2,hs2⟩
    case measure=>simp [RowKit.intOf];omega
   ·have hal:=(Below.refl wr.heap.size wr).alloc zn2 (.cells #[.string ev,.iface gu gy,.string tg,.slice s1 ns s3,.int .i64 ol,.int .i64 oc] 90)
    have hX:=Bn.new wr [.string ev,.iface gu gy,.string tg,.slice s1 ns s3,.int .i64 ol,.int .i64 oc] 90 _ rfl
    have hRx:=hRow.on zB hGs hal
    have hbx:=hb.trans (hal.mono hb.size)
    have hGx:=zn4 hGs hal.size
    have hcall:∀ w1,Below w.heap.size w w1->Calls Tryz.prog 41 #[.agg #[.string ev,.iface gu gy,.string tg,.slice s1 ns s3,.int .i64 ol,.int .i64 oc]] w1 fun e w'=>∃ u1 u3,e=.returned (.agg #[.string ev,.iface gu gy,.string tg,.slice u1 ns u3,.int .i64 0,.int .i64 0])/\RdK (fun b=>w1.heap.size<=b) w' 2 (zaq (fun b=>w1.heap.size<=b) w') o.2.2.2.1 (.slice u1 ns u3)/\Below w1.heap.size w1 w':=fun w1 b1=>zlP ev tg gu gy s1 ns s3 ol oc o.2.2.2.1 hz1 hz2 hg (HSE.out.stay zk (ok':=ok) (fun b hb hl=>⟨hb,b1.block b hl⟩)) HNS.out (by have:=HKO.out.2.2.2.2;rw [HNS.out] at this;exact this) HKO.out.2.2.2.1
    clear hg
    go_upto_region 5 with fail
    clear C0 C1 C2 C3 C4 C5 hal
    generalize wr.alloc (.cells #[.string ev,.iface gu gy,.string tg,.slice s1 ns s3,.int .i64 ol,.int .i64 oc] 90)=wx at *
    obtain ⟨X,hXX⟩:∃ X,wr.heap.size=X:=⟨_,rfl⟩
    rw [hXX] at hX ⊢
    have HXX:Hid (wr.heap.size=X):=hXX
    clear hXX
    have x0:=(hX 0 _ rfl).1
    have x1:=(hX 1 _ rfl).1
    have x2:=(hX 2 _ rfl).1
    have x3:=(hX 3 _ rfl).1
    have x4:=(hX 4 _ rfl).1
    have x5:=(hX 5 _ rfl).1
    go_wp2_with (first
     | (go_at_call 41;refine (hcall _ hbx).mono ?_;rintro e w1 ⟨u1,u3,rfl,hr,b1⟩;have hp:rOn (fun b=>w.heap.size < b) w1 (stO o) [.string ev,.iface gu gy,.string tg,.slice u1 ns u3,.int .i64 0,.int .i64 0]:=(⟨.slice u1 ns u3,(HOV.out _).symm,hr.stay zk (fun b hb hl=>⟨zn4 hGx hb,rfl⟩)⟩);clear hr;have hR1:=hRx.on zB hGx b1;obtain ⟨⟨r0,q0⟩,z0⟩:=hR1.1 (i*6+0) (zM hlt (by omega));obtain ⟨⟨r1,q1⟩,z1⟩:=hR1.1 (i*6+1) (zM hlt (by omega));obtain ⟨⟨r2,q2⟩,z2⟩:=hR1.1 (i*6+2) (zM hlt (by omega));obtain ⟨⟨r3,q3⟩,z3⟩:=hR1.1 (i*6+3) (zM hlt (by omega));obtain ⟨⟨r4,q4⟩,z4⟩:=hR1.1 (i*6+4) (zM hlt (by omega));obtain ⟨⟨r5,q5⟩,z5⟩:=hR1.1 (i*6+5) (zM hlt (by omega));rw [Nat.add_zero] at q0 z0)
     | fail)
    have hP:=hR1.put zB (x:=stO o) (cs:=[.string ev,.iface gu gy,.string tg,.slice u1 ns u3,.int .i64 0,.int .i64 0]) (by rw [hla];exact hlt) rfl hp
    rw [hla] at hP
    have hb2:=zx [.string ev,.iface gu gy,.string tg,.slice u1 ns u3,.int .i64 0,.int .i64 0] w1 w.heap.size (i*6) (hbx.trans (b1.mono (Nat.le_of_lt hGx))) zn2
    have hs2:w.heap.size < (zV w1 w.heap.size (i*6) [.string ev,.iface gu gy,.string tg,.slice u1 ns u3,.int .i64 0,.int .i64 0]).heap.size:=by rw [za7];exact zn4 hGx b1.size
    have hac2:(l.map stO).take (i+1)=acc++[stO o]:=by
     rw [List.take_succ_eq_append_getElem (by simp [HN.out];omega),HAC.out]
     simp [HQ.out]
    clear x0 r0 q0 z0 x1 r1 q1 z1 x2 r2 q2 z2 x3 r3 q3 z3 x4 r4 q4 z4 x5 r5 q5 z5 hR1 hRx hp
    go_wp2
    go_roundw
    case rel=>exact ⟨i+1,hlt,by go_num,by rw [hac2];exact hP,hb2,hs2⟩
    case measure=>simp [RowKit.intOf];omega
  ·have i1:¬ (i:Int) < (n:Int):=by omega
   have hin:i=n:=by omega
   have hfull:(l.map stO).take i=l.map stO:=List.take_of_length_le (by simp [HN.out];omega)
   rw [hfull] at hRow
   have hrd:=hRow.rd zB hGs (by simp [HN.out]) (by unfold maxLen;omega)
   go_wp2
   go_ret
   exact ⟨_,rfl,hrd,hb⟩
theorem zlY {w4:World}{R:Nat}{a b c d e f g h i j k:Value}{tmps:Array Value}(hR:Bn w4 R [a,b,c,d,e,f,g,h,i,j,k]) (ht:tmps.getD 2 undef=.pointer (some ⟨R,0,none⟩)):(results Tryz.f26 tmps).run Tryz.prog w4=.ok (.agg #[a,b,c,d,e,f,g,h,i,j,k]) w4:=by
 have ht':tmps[2]?.getD undef=.pointer (some ⟨R,0,none⟩):=by simpa using ht
 have c0:=(hR 0 _ rfl).1
 have c1:=(hR 1 _ rfl).1
 have c2:=(hR 2 _ rfl).1
 have c3:=(hR 3 _ rfl).1
 have c4:=(hR 4 _ rfl).1
 have c5:=(hR 5 _ rfl).1
 have c6:=(hR 6 _ rfl).1
 have c7:=(hR 7 _ rfl).1
 have c8:=(hR 8 _ rfl).1
 have c9:=(hR 9 _ rfl).1
 have c10:=(hR 10 _ rfl).1
 simp [results,Tryz.results26,go_sem,ht',c0,c1,c2,c3,c4,c5,c6,c7,c8,c9,c10]
theorem zhK {ok:Nat->Prop}{w:World}(sn:ByteArray) (sl sc:Int) (sb se:Bool) (sd su:ByteArray) (sw sr:Int) (p1:Option Addr) (m p3:Nat) (p4:Option Addr) (i p6:Nat) (l:List OnC) (h1:sn.size<=140737488351232) (h2:sd.size<=140737488351232) (h3:su.size<=140737488351232)
  (hs:RdK ok w 6 (rOn ok w) l (.slice p1 m p3)) (hn:l.length=m) (hl:m<=100000) (hok:∀ s∈l,zeO s):Calls Tryz.prog 26 #[.agg #[.string sn,.int .i64 sl,.int .i64 sc,.bool sb,.bool se,.string sd,.string su,.int .i64 sw,.int .i64 sr,.slice p1 m p3,.slice p4 i p6]] w fun e w'=>∃ u1 u3,e=.returned (.agg #[.string sn,.int .i64 0,.int .i64 0,.bool sb,.bool se,.string sd,.string su,.int .i64 sw,.int .i64 sr,.slice u1 m u3,.slice p4 i p6])/\RdK (fun b=>w.heap.size<=b) w' 6 (rOn (fun b=>w.heap.size<=b) w') (l.map stO) (.slice u1 m u3)/\Below w.heap.size w w':=by
 have g1:=fun w1=>zQ sn w1 h1
 have g2:=fun w1=>zQ sd w1 h2
 have g3:=fun w1=>zQ su w1 h3
 have hal:Below w.heap.size w ((w.alloc (.cells #[.string sn,.int .i64 sl,.int .i64 sc,.bool sb,.bool se,.string sd,.string su,.int .i64 sw,.int .i64 sr,.slice p1 m p3,.slice p4 i p6] 45)).alloc (.cells #[.string ⟨#[]⟩,.int .i64 0,.int .i64 0,.bool false,.bool false,.string ⟨#[]⟩,.string ⟨#[]⟩,.int .i64 0,.int .i64 0,.slice none 0 0,.slice none 0 0] 45)):=((Below.refl w.heap.size w).alloc zn2 _).alloc (by simp) _
 have hX:Bn ((w.alloc (.cells #[.string sn,.int .i64 sl,.int .i64 sc,.bool sb,.bool se,.string sd,.string su,.int .i64 sw,.int .i64 sr,.slice p1 m p3,.slice p4 i p6] 45)).alloc (.cells #[.string ⟨#[]⟩,.int .i64 0,.int .i64 0,.bool false,.bool false,.string ⟨#[]⟩,.string ⟨#[]⟩,.int .i64 0,.int .i64 0,.slice none 0 0,.slice none 0 0] 45)) w.heap.size [.string sn,.int .i64 sl,.int .i64 sc,.bool sb,.bool se,.string sd,.string su,.int .i64 sw,.int .i64 sr,.slice p1 m p3,.slice p4 i p6]:=(Bn.new w [.string sn,.int .i64 sl,.int .i64 sc,.bool sb,.bool se,.string sd,.string su,.int .i64 sw,.int .i64 sr,.slice p1 m p3,.slice p4 i p6] 45 _ rfl).on (zn3.alloc zn2 _)
 have hR:Bn ((w.alloc (.cells #[.string sn,.int .i64 sl,.int .i64 sc,.bool sb,.bool se,.string sd,.string su,.int .i64 sw,.int .i64 sr,.slice p1 m p3,.slice p4 i p6] 45)).alloc (.cells #[.string ⟨#[]⟩,.int .i64 0,.int .i64 0,.bool false,.bool false,.string ⟨#[]⟩,.string ⟨#[]⟩,.int .i64 0,.int .i64 0,.slice none 0 0,.slice none 0 0] 45)) (w.heap.size+1) [.string ⟨#[]⟩,.int .i64 0,.int .i64 0,.bool false,.bool false,.string ⟨#[]⟩,.string ⟨#[]⟩,.int .i64 0,.int .i64 0,.slice none 0 0,.slice none 0 0]:=Bn.new (w.alloc (.cells #[.string sn,.int .i64 sl,.int .i64 sc,.bool sb,.bool se,.string sd,.string su,.int .i64 sw,.int .i64 sr,.slice p1 m p3,.slice p4 i p6] 45)) [.string ⟨#[]⟩,.int .i64 0,.int .i64 0,.bool false,.bool false,.string ⟨#[]⟩,.string ⟨#[]⟩,.int .i64 0,.int .i64 0,.slice none 0 0,.slice none 0 0] 45 _ (by simp)
 have hsz:w.heap.size+2<=((w.alloc (.cells #[.string sn,.int .i64 sl,.int .i64 sc,.bool sb,.bool se,.string sd,.string su,.int .i64 sw,.int .i64 sr,.slice p1 m p3,.slice p4 i p6] 45)).alloc (.cells #[.string ⟨#[]⟩,.int .i64 0,.int .i64 0,.bool false,.bool false,.string ⟨#[]⟩,.string ⟨#[]⟩,.int .i64 0,.int .i64 0,.slice none 0 0,.slice none 0 0] 45)).heap.size:=by simp
 go_enter Tryz.func26,Tryz.ntmps26
 go_upto_region 1 with fail
 generalize ((w.alloc (.cells #[.string sn,.int .i64 sl,.int .i64 sc,.bool sb,.bool se,.string sd,.string su,.int .i64 sw,.int .i64 sr,.slice p1 m p3,.slice p4 i p6] 45)).alloc (.cells #[.string ⟨#[]⟩,.int .i64 0,.int .i64 0,.bool false,.bool false,.string ⟨#[]⟩,.string ⟨#[]⟩,.int .i64 0,.int .i64 0,.slice none 0 0,.slice none 0 0] 45))=wx at *
 obtain ⟨c0,e0⟩:=hX 0 _ rfl
 go_upto_region 2 with (first
  | (go_at_call 22;refine (g1 _).mono ?_;rintro e w1 ⟨rfl,b1⟩;have hX1:=hX.on b1;obtain ⟨x0,y0⟩:=hX1 0 _ rfl))
 have hX2:=hX1.set (i:=0) (by simp) (.string sn)
 have hR2:=(hR.on b1).far (X:=w.heap.size) (i:=0) (by omega) (.string sn)
 have hB2:Below w.heap.size w (w1.setCell ⟨w.heap.size,0,none⟩ (.string sn)):=(hal.trans (b1.mono (by omega))).setCell zn2 _
 have hs2:w.heap.size+2<=(w1.setCell ⟨w.heap.size,0,none⟩ (.string sn)).heap.size:=by simpa using zn5 hsz b1.size
 clear hX hR hX1 x0 y0 c0 e0 b1 hal hsz
 generalize w1.setCell ⟨w.heap.size,0,none⟩ (.string sn)=w2 at *
 obtain ⟨a1,q1⟩:=hX2 1 _ rfl
 obtain ⟨a2,q2⟩:=hX2 2 _ rfl
 go_upto_region 3 with fail
 have hX3:=(hX2.set (i:=1) (by simp) (.int .i64 0)).set (i:=2) (by simp) (.int .i64 0)
 have hR3:=(hR2.far (X:=w.heap.size) (i:=1) (by omega) (.int .i64 0)).far (X:=w.heap.size) (i:=2) (by omega) (.int .i64 0)
 have hB3:Below w.heap.size w ((w2.setCell ⟨w.heap.size,1,none⟩ (.int .i64 0)).setCell ⟨w.heap.size,2,none⟩ (.int .i64 0)):=(hB2.setCell (p:=⟨w.heap.size,1,none⟩) zn2 _).setCell (p:=⟨w.heap.size,2,none⟩) zn2 _
 have hs3:w.heap.size+2<=((w2.setCell ⟨w.heap.size,1,none⟩ (.int .i64 0)).setCell ⟨w.heap.size,2,none⟩ (.int .i64 0)).heap.size:=by simpa using hs2
 clear hX2 hR2 hB2 hs2 a1 q1 a2 q2
 generalize (w2.setCell ⟨w.heap.size,1,none⟩ (.int .i64 0)).setCell ⟨w.heap.size,2,none⟩ (.int .i64 0)=w3 at *
 obtain ⟨c5,e5⟩:=hX3 5 _ rfl
 go_upto_region 4 with (first
  | (go_at_call 22;refine (g2 _).mono ?_;rintro e w4 ⟨rfl,b4⟩;have hX4:=hX3.on b4;obtain ⟨x5,y5⟩:=hX4 5 _ rfl))
 have hX5:=hX4.set (i:=5) (by simp) (.string sd)
 have hR5:=(hR3.on b4).far (X:=w.heap.size) (i:=5) (by omega) (.string sd)
 have hB5:Below w.heap.size w (w4.setCell ⟨w.heap.size,5,none⟩ (.string sd)):=(hB3.trans (b4.mono (by omega))).setCell zn2 _
 have hs5:w.heap.size+2<=(w4.setCell ⟨w.heap.size,5,none⟩ (.string sd)).heap.size:=by simpa using zn5 hs3 b4.size
 clear hX3 hR3 hX4 x5 y5 c5 e5 b4 hB3 hs3
 generalize w4.setCell ⟨w.heap.size,5,none⟩ (.string sd)=w5 at *
 obtain ⟨c6,e6⟩:=hX5 6 _ rfl
 go_upto_region 5 with (first
  | (go_at_call 22;refine (g3 _).mono ?_;rintro e w6 ⟨rfl,b6⟩;have hX6:=hX5.on b6;obtain ⟨x6,y6⟩:=hX6 6 _ rfl))
 have hX7:=hX6.set (i:=6) (by simp) (.string su)
 have hR7:=(hR5.on b6).far (X:=w.heap.size) (i:=6) (by omega) (.string su)
 have hB7:Below w.heap.size w (w6.setCell ⟨w.heap.size,6,none⟩ (.string su)):=(hB5.trans (b6.mono (by omega))).setCell zn2 _
 have hs7:w.heap.size+2<=(w6.setCell ⟨w.heap.size,6,none⟩ (.string su)).heap.size:=by simpa using zn5 hs5 b6.size
 clear hX5 hR5 hX6 x6 y6 c6 e6 b6 hB5 hs5
 generalize w6.setCell ⟨w.heap.size,6,none⟩ (.string su)=w7 at *
 have hE:Calls Tryz.prog 40 #[.slice p1 m p3,.func (.func 41) #[] #[]] w7 fun e w'=>∃ u1 u3,e=.returned (.slice u1 m u3)/\RdK (fun b=>w7.heap.size<=b) w' 6 (rOn (fun b=>w7.heap.size<=b) w') (l.map stO) (.slice u1 m u3)/\Below w7.heap.size w7 w':=by
  refine (zhv (hs.stay zB (ok':=ok) (w':=w7) (fun b hb hl=>⟨hb,hB7.block b hl⟩)) (by omega) hok).mono ?_
  rintro e w' ⟨u,h1,h2,h3⟩
  obtain ⟨u1,u3,rfl,_⟩:=h2.form
  rw [List.length_map,hn] at h1 h2
  exact ⟨u1,u3,h1,h2,h3⟩
 obtain ⟨c9,e9⟩:=hX7 9 _ rfl
 go_upto_region 6 with (first
  | (go_at_call 40;refine hE.mono ?_;rintro e w8 ⟨u1,u3,rfl,hr,b8⟩;have hX8:=hX7.on b8;obtain ⟨x9,y9⟩:=hX8 9 _ rfl))
 have hX9:Bn (w8.setCell ⟨w.heap.size,9,none⟩ (.slice u1 m u3)) w.heap.size [.string sn,.int .i64 0,.int .i64 0,.bool sb,.bool se,.string sd,.string su,.int .i64 sw,.int .i64 sr,.slice u1 m u3,.slice p4 i p6]:=hX8.set (i:=9) (by simp) (.slice u1 m u3)
 have hR9:=(hR7.on b8).far (X:=w.heap.size) (i:=9) (by omega) (.slice u1 m u3)
 have hB9:Below w.heap.size w (w8.setCell ⟨w.heap.size,9,none⟩ (.slice u1 m u3)):=(hB7.trans (b8.mono (by omega))).setCell zn2 _
 have hr9:=hr.stay zB (ok':=fun b=>w.heap.size+2<=b) (w':=w8.setCell ⟨w.heap.size,9,none⟩ (.slice u1 m u3)) (fun b hb hl=>⟨by omega,Below.heap_setCell _ _ _ _ (fun e=>by have e2:b=w.heap.size:=e;omega)⟩)
 clear hX7 hR7 hX8 x9 y9 c9 e9 b8 hB7 hs7 hr hE
 generalize w8.setCell ⟨w.heap.size,9,none⟩ (.slice u1 m u3)=w9 at *
 have k0:=(hX9 0 _ rfl).1
 obtain ⟨r0,f0⟩:=hR9 0 _ rfl
 have k1:=(hX9 1 _ rfl).1
 obtain ⟨r1,f1⟩:=hR9 1 _ rfl
 have k2:=(hX9 2 _ rfl).1
 obtain ⟨r2,f2⟩:=hR9 2 _ rfl
 have k3:=(hX9 3 _ rfl).1
 obtain ⟨r3,f3⟩:=hR9 3 _ rfl
 have k4:=(hX9 4 _ rfl).1
 obtain ⟨r4,f4⟩:=hR9 4 _ rfl
 have k5:=(hX9 5 _ rfl).1
 obtain ⟨r5,f5⟩:=hR9 5 _ rfl
 have k6:=(hX9 6 _ rfl).1
 obtain ⟨r6,f6⟩:=hR9 6 _ rfl
 have k7:=(hX9 7 _ rfl).1
 obtain ⟨r7,f7⟩:=hR9 7 _ rfl
 have k8:=(hX9 8 _ rfl).1
 obtain ⟨r8,f8⟩:=hR9 8 _ rfl
 have k9:=(hX9 9 _ rfl).1
 obtain ⟨r9,f9⟩:=hR9 9 _ rfl
 have k10:=(hX9 10 _ rfl).1
 obtain ⟨r10,f10⟩:=hR9 10 _ rfl
 have hRz:=((((((((((hR9.set (i:=0) (by simp) (.string sn)).set (i:=1) (by simp) (.int .i64 0)).set (i:=2) (by simp) (.int .i64 0)).set (i:=3) (by simp) (.bool sb)).set (i:=4) (by simp) (.bool se)).set (i:=5) (by simp) (.string sd)).set (i:=6) (by simp) (.string su)).set (i:=7) (by simp) (.int .i64 sw)).set (i:=8) (by simp) (.int .i64 sr)).set (i:=9) (by simp) (.slice u1 m u3)).set (i:=10) (by simp) (.slice p4 i p6)
 have hbz:=zx [.string sn,.int .i64 0,.int .i64 0,.bool sb,.bool se,.string sd,.string su,.int .i64 sw,.int .i64 sr,.slice u1 m u3,.slice p4 i p6] w9 (w.heap.size+1) 0 hB9 (by omega)
 have hrz:=hr9.stay zB (ok':=fun b=>w.heap.size<=b) (w':=zV w9 (w.heap.size+1) 0 [.string sn,.int .i64 0,.int .i64 0,.bool sb,.bool se,.string sd,.string su,.int .i64 sw,.int .i64 sr,.slice u1 m u3,.slice p4 i p6]) (fun b hb hl=>⟨by omega,zt _ _ _ _ _ (by omega)⟩)
 go_wp2
 exact bodyPost_ret (zlY hRz rfl) rfl ⟨u1,u3,rfl,hrz,hbz⟩
