import Derived.Test.YtlgnahpfggagoaaGreatDoorWzc08
import Derived.Test.YtlgnahpfggagoaaGreatDoorWzc09
import Derived.Test.YtlgnahpfggagoaaGreatDoorWzc04
/- Names that are no variable's, in expressions, sets and ons. -/
namespace Go.Proofs.YtlgnahpfggagoaaGreatDoor
open Go.RowKit Go.Lib
set_option linter.unusedSimpArgs false
set_option linter.unusedVariables false
attribute [local go_sem ↓] Go.wp_at_zero Go.wp_at_succ
def gX (g:Bool × Sx):Sx:=if g.1=true then g.2 else noX
theorem gdV_gX (g:Bool × Sx):gdV g=exX (gX g):=by
 unfold gdV gX
 split
 ·rfl
 ·exact exX_no.symm
def rfX (x:Sx):List ByteArray:=rfT x.1 x.2
def ExK (x:Sx):Prop:=ExOk x∧cntX x≤1000
theorem exK_no:ExK noX:=⟨exOk_no,by decide⟩
theorem exK_g {o:OnC}(h:OnK o):ExK (gX o.2.1):=by
 unfold gX
 split
 ·rename_i hg
  exact ⟨(h.2.2.1 hg).1,(h.2.2.1 hg).2.1⟩
 ·exact exK_no
theorem rdT_of {w:World}{v:Value}{ls:List ByteArray}(h:RdS w v ls):RdK (fun _=>True) w 1 (rTx (fun _=>True) w) ls v:=by
 have hc:=fun g=>World.ownsRow.cells h (g:=g)
 have hlt:=fun g=>World.ownsRow.lt h g
 rcases h.2 with ⟨rfl,hn⟩ | ⟨g,cap,cur,rfl,hb,hg,hnc,hcm,_⟩
 ·have:ls=[]:=List.eq_nil_of_length_eq_zero hn
  subst this
  exact rdK_none _ _ _ _
 ·refine ⟨some ⟨g,0,none⟩,cap,rfl,hnc,hcm,fun i hi=>⟨g,0,[.string ls[i]],rfl,trivial,(Array.getElem?_eq_some_iff.1 hg).1,rfl,rfl,fun j u hu=>?_⟩⟩
  have hj:j=0:=by
   have:=(List.getElem?_eq_some_iff.1 hu).1
   simp at this
   exact this
  subst hj
  simp only [List.getElem?_cons_zero,Option.some.injEq] at hu
  subst hu
  have:=hc g rfl i (.string ls[i]) (by unfold cS;rw [List.getElem?_map,List.getElem?_eq_getElem hi];rfl)
  rw [add_plain,Nat.zero_add] at this
  simpa using this
def unE (vs:List (List UInt8 × Int × Pl)) (ls:List ByteArray):Bool:=decide (0≤ixF (atB ls (fun s=>decide (fdV vs s < 0))) ls.length 0)
def stU (vs:List (List UInt8 × Int × Pl)) (s:List UInt8 × Sx):Bool:=decide (fdV vs ⟨s.1.toArray⟩ < 0) || unE vs (rfX s.2)
def unO (vs:List (List UInt8 × Int × Pl)) (o:OnC):Bool:=unE vs (rfX (gX o.2.1)) || decide (0≤ixF (atB o.2.2.2.1 (stU vs)) o.2.2.2.1.length 0)
theorem noV_any {ok:Nat→Prop}{W:World}{Lb d:Nat}{c:ChG d}{fs:List (Int × SgS)}(h:Ly ok W Lb c fs) (hl:c.2.2.1.length≤1000000) (nm:ByteArray) :
  Calls Tryz.prog 94 #[.pointer (some ⟨Lb,0,none⟩),.string nm] W fun e w'=>e=.returned (.bool (decide (fdV c.2.2.1 nm < 0)))∧Below W.heap.size W w':=by
 have hc:=varL_any h hl nm
 obtain ⟨F,hF⟩:∃ F,fdV c.2.2.1 nm=F:=⟨_,rfl⟩
 rw [hF] at hc ⊢
 clear h hF
 go_enter Tryz.func94,Tryz.ntmps94
 by_cases h1:F < 0
 ·go_wp2_with (first | (go_at_call 50;refine hc.mono ?_;rintro e w1 ⟨rfl,b1⟩) | fail)
  go_ret
  exact ⟨by simp [h1],b1⟩
 ·go_wp2_with (first | (go_at_call 50;refine hc.mono ?_;rintro e w1 ⟨rfl,b1⟩) | fail)
  go_ret
  exact ⟨by simp [h1],b1⟩
set_option maxRecDepth 100000 in
set_option maxHeartbeats 4000000 in
theorem asU_any {ok:Nat→Prop}{W:World}{Lb d:Nat}{c:ChG d}{fs:List (Int × SgS)}(h:Ly ok W Lb c fs) (hl:c.2.2.1.length≤1000000) {x:Sx}(hx:ExK x) (hrl:(rfX x).length≤1000000) :
  Calls Tryz.prog 57 #[.pointer (some ⟨Lb,0,none⟩),exX x] W fun e w'=>e=.returned (.bool (unE c.2.2.1 (rfX x)))∧Below W.heap.size W w':=by
 have hr:=refs_anyP W hx.1.1 hx.2 hx.1.2.2
 have hr2:Calls Tryz.prog 93 #[exX x] W fun e w'=>∃ ua un uc,e=.returned (.slice ua un uc)∧Hid (RdK (fun _=>True) w' 1 (rTx (fun _=>True) w') (rfX x) (.slice ua un uc))∧Below W.heap.size W w':=hr.mono (fun e w' hh=>by
  obtain ⟨u,q1,q2,q3⟩:=hh
  have q4:=rdT_of q2
  obtain ⟨ua,uc,rfl,_⟩:=q4.form
  exact ⟨ua,_,uc,q1,q4,q3⟩)
 have hc:∀ w1 ua un uc,Below W.heap.size W w1→Hid (RdK (fun _=>True) w1 1 (rTx (fun _=>True) w1) (rfX x) (.slice ua un uc))→Calls Tryz.prog 92 #[.slice ua un uc,.func (.func 94) #[.pointer (some ⟨Lb,0,none⟩)] #[]] w1 fun e w'=>e=.returned (.bool (unE c.2.2.1 (rfX x)))∧Below w1.heap.size w1 w':=fun w1 ua un uc b1 hh=>
  cfT_any hh.out hrl 94 #[.pointer (some ⟨Lb,0,none⟩)] #[] _ (enters_of Tryz.func94 (by kernel_rfl) rfl) (fun i hi cs W' hr hb=>by
   have hcs:cs=[.string (rfX x)[i]]:=hr
   subst hcs
   have:=noV_any ((h.on b1).on hb) hl (rfX x)[i]
   rw [← atB_of (p:=fun s=>decide (fdV c.2.2.1 s < 0)) hi] at this
   exact this)
 obtain ⟨R,hR⟩:∃ R,unE c.2.2.1 (rfX x)=R:=⟨_,rfl⟩
 rw [hR] at hc ⊢
 rcases exX_form x with hq | ⟨u,y,hq⟩
 all_goals (
  rw [hq] at hr2 ⊢
  clear h hR hq hr
  go_enter Tryz.func57,Tryz.ntmps57
  go_wp2_with (first
   | (go_at_call 93;refine hr2.mono ?_;rintro e w1 ⟨ua,un,uc,rfl,hrd,b1⟩)
   | (go_at_call 92;refine (hc _ _ _ _ b1 hrd).mono ?_;rintro e w2 ⟨rfl,b2⟩)
   | fail)
  go_ret
  exact ⟨rfl,b1.trans (b2.mono b1.size)⟩)
set_option maxRecDepth 100000 in
set_option maxHeartbeats 4000000 in
theorem seU_any {ok ok':Nat→Prop}{w W:World}{Lb d:Nat}{c:ChG d}{fs:List (Int × SgS)}(h:Ly ok W Lb c fs) (hl:c.2.2.1.length≤1000000) {s:List UInt8 × Sx}{cs:List Value}(hr:rSet ok' w s cs) (hx:ExK s.2) (hrl:(rfX s.2).length≤1000000) :
  Calls Tryz.prog 59 #[.pointer (some ⟨Lb,0,none⟩),.agg cs.toArray] W fun e w'=>e=.returned (.bool (stU c.2.2.1 s))∧Below W.heap.size W w':=by
 obtain ⟨s0,hs0⟩:∃ s0:ByteArray,⟨s.1.toArray⟩=s0:=⟨_,rfl⟩
 have hcs:cs=[.string s0,exX s.2]:=by rw [← hs0];exact hr
 subst hcs
 have hn:=fun W1 (b:Below W.heap.size W W1)=>noV_any (h.on b) hl s0
 have ha:=fun W1 (b:Below W.heap.size W W1)=>asU_any (h.on b) hl hx hrl
 have HE:Hid (stU c.2.2.1 s=(decide (fdV c.2.2.1 s0 < 0) || unE c.2.2.1 (rfX s.2))):=by
  show _=_
  unfold stU
  rw [hs0]
 rw [HE.out]
 obtain ⟨A,hA⟩:∃ A,decide (fdV c.2.2.1 s0 < 0)=A:=⟨_,rfl⟩
 obtain ⟨B,hB⟩:∃ B,unE c.2.2.1 (rfX s.2)=B:=⟨_,rfl⟩
 rw [hA] at hn ⊢
 rw [hB] at ha ⊢
 have hf:=exX_form s.2
 obtain ⟨tv,htv⟩:∃ tv,exX s.2=tv:=⟨_,rfl⟩
 rw [htv] at hf ha ⊢
 clear h hr hA hB htv HE hs0
 rcases hf with rfl | ⟨tu,ty,rfl⟩
 ·have hal:Below W.heap.size W (W.alloc (.cells #[.string s0,.nilIface] 82)):=(Below.refl _ _).alloc (Nat.le_refl _) _
  have hX:=Bn.new W [.string s0,.nilIface] 82 _ rfl
  go_enter Tryz.func59,Tryz.ntmps59
  cases A with
  | true=>
   go_wp2_with (first
    | (go_at_call 94;refine (hn _ hal).mono ?_;rintro e w1 ⟨rfl,b1⟩;have bw:=hal.trans (b1.mono hal.size);obtain ⟨x1,_⟩:=(hX.on b1) 1 _ rfl)
    | fail)
   go_ret
   exact ⟨rfl,bw⟩
  | false=>
   go_wp2_with (first
    | (go_at_call 94;refine (hn _ hal).mono ?_;rintro e w1 ⟨rfl,b1⟩;have bw:=hal.trans (b1.mono hal.size);obtain ⟨x1,_⟩:=(hX.on b1) 1 _ rfl)
    | (go_at_call 57;refine (ha _ bw).mono ?_;rintro e w2 ⟨rfl,b2⟩)
    | fail)
   go_ret
   exact ⟨rfl,bw.trans (b2.mono bw.size)⟩
 ·have hal:Below W.heap.size W (W.alloc (.cells #[.string s0,.iface tu ty] 82)):=(Below.refl _ _).alloc (Nat.le_refl _) _
  have hX:=Bn.new W [.string s0,.iface tu ty] 82 _ rfl
  go_enter Tryz.func59,Tryz.ntmps59
  cases A with
  | true=>
   go_wp2_with (first
    | (go_at_call 94;refine (hn _ hal).mono ?_;rintro e w1 ⟨rfl,b1⟩;have bw:=hal.trans (b1.mono hal.size);obtain ⟨x1,_⟩:=(hX.on b1) 1 _ rfl)
    | fail)
   go_ret
   exact ⟨rfl,bw⟩
  | false=>
   go_wp2_with (first
    | (go_at_call 94;refine (hn _ hal).mono ?_;rintro e w1 ⟨rfl,b1⟩;have bw:=hal.trans (b1.mono hal.size);obtain ⟨x1,_⟩:=(hX.on b1) 1 _ rfl)
    | (go_at_call 57;refine (ha _ bw).mono ?_;rintro e w2 ⟨rfl,b2⟩)
    | fail)
   go_ret
   exact ⟨rfl,bw.trans (b2.mono bw.size)⟩
/-- What an on must be for package check to ask of it. -/
structure OnQ (o:OnC):Prop where
 g:ExK (gX o.2.1)
 gl:(rfX (gX o.2.1)).length≤1000000
 s:∀ s∈o.2.2.2.1,ExK s.2∧(rfX s.2).length≤1000000
 l:o.2.2.2.1.length≤1000000
theorem un1_body {ok:Nat→Prop}{w W:World}{Lb d:Nat}{c:ChG d}{fs:List (Int × SgS)}(h:Ly ok W Lb c fs) (hl:c.2.2.1.length≤1000000) {o:OnC}(ho:OnQ o) {s1:Option Addr}{ns s3:Nat}(hs:RdK ok w 2 (rSet ok w) o.2.2.2.1 (.slice s1 ns s3)) (hw:Below w.heap.size w W) :
  ∀ W1,Below W.heap.size W W1→Calls Tryz.prog 58 #[.slice s1 ns s3,.func (.func 59) #[.pointer (some ⟨Lb,0,none⟩)] #[]] W1 fun e w'=>e=.returned (.bool (decide (0≤ixF (atB o.2.2.2.1 (stU c.2.2.1)) o.2.2.2.1.length 0)))∧Below W1.heap.size W1 w':=fun W1 b1=>
 cfE_any (hs.stay kp_set (ok':=ok) (w':=W1) (fun b hb hl=>⟨hb,(hw.trans (b1.mono hw.size)).block b hl⟩)) ho.l 59 #[.pointer (some ⟨Lb,0,none⟩)] #[] _ (enters_of Tryz.func59 (by kernel_rfl) rfl) (fun i hi cs W' hr hb=>by
  have:=seU_any ((h.on b1).on hb) hl hr (ho.s _ (List.getElem_mem hi)).1 (ho.s _ (List.getElem_mem hi)).2
  rw [← atB_of (p:=stU c.2.2.1) hi] at this
  exact this)
set_option maxRecDepth 100000 in
set_option maxHeartbeats 4000000 in
theorem un1_any {ok:Nat→Prop}{w W:World}{Lb d:Nat}{c:ChG d}{fs:List (Int × SgS)}(h:Ly ok W Lb c fs) (hl:c.2.2.1.length≤1000000) {o:OnC}(ho:OnQ o) {cs:List Value}(hr:rOn ok w o cs) (hw:Below w.heap.size w W) (X0:Nat) (h0:Bn W X0 [.pointer (some ⟨Lb,0,none⟩)]) (i:Int) :
  Calls Tryz.prog 56 #[.int .i64 i,.agg cs.toArray,.pointer (some ⟨X0,0,none⟩)] W fun e w'=>e=.returned (.bool (unO c.2.2.1 o))∧Below W.heap.size W w':=by
 obtain ⟨sl,rfl,hs⟩:=hr
 obtain ⟨s1,s3,rfl,_⟩:=hs.form
 have ha:=fun W1 (b:Below W.heap.size W W1)=>asU_any (h.on b) hl ho.g ho.gl
 have hb0:=un1_body h hl ho hs hw
 obtain ⟨A,hA⟩:∃ A,unE c.2.2.1 (rfX (gX o.2.1))=A:=⟨_,rfl⟩
 obtain ⟨B,hB⟩:∃ B,decide (0≤ixF (atB o.2.2.2.1 (stU c.2.2.1)) o.2.2.2.1.length 0)=B:=⟨_,rfl⟩
 have HE:Hid (unO c.2.2.1 o=(A || B)):=by show _=_;unfold unO;rw [hA,hB]
 rw [HE.out]
 rw [hA] at ha
 rw [hB] at hb0
 obtain ⟨ns,hns⟩:∃ ns,o.2.2.2.1.length=ns:=⟨_,rfl⟩
 obtain ⟨ev,tg,ol,oc,hov⟩:∃ ev tg ol oc,onV o (.slice s1 o.2.2.2.1.length s3)=[.string ev,gdV o.2.1,.string tg,.slice s1 o.2.2.2.1.length s3,.int .i64 ol,.int .i64 oc]:=⟨_,_,_,_,rfl⟩
 rw [hov,gdV_gX]
 rw [hns] at hb0 ⊢
 have hf:=exX_form (gX o.2.1)
 obtain ⟨tv,htv⟩:∃ tv,exX (gX o.2.1)=tv:=⟨_,rfl⟩
 rw [htv] at hf ha ⊢
 clear h hA hB htv HE hov hs ho hns
 rcases hf with rfl | ⟨tu,ty,rfl⟩
 ·have hal:Below W.heap.size W (W.alloc (.cells #[.string ev,.nilIface,.string tg,.slice s1 ns s3,.int .i64 ol,.int .i64 oc] 79)):=(Below.refl _ _).alloc (Nat.le_refl _) _
  have hX:=Bn.new W [.string ev,.nilIface,.string tg,.slice s1 ns s3,.int .i64 ol,.int .i64 oc] 79 _ rfl
  have h0':=h0.on hal
  obtain ⟨x0,_⟩:=h0' 0 _ rfl
  go_enter Tryz.func56,Tryz.ntmps56
  cases A with
  | true=>
   go_wp2_with (first
    | (go_at_call 57;refine (ha _ hal).mono ?_;rintro e w1 ⟨rfl,b1⟩;have bw:=hal.trans (b1.mono hal.size);obtain ⟨x3,_⟩:=(hX.on b1) 3 _ rfl;obtain ⟨x0',_⟩:=(h0'.on b1) 0 _ rfl)
    | fail)
   go_ret
   exact ⟨rfl,bw⟩
  | false=>
   go_wp2_with (first
    | (go_at_call 57;refine (ha _ hal).mono ?_;rintro e w1 ⟨rfl,b1⟩;have bw:=hal.trans (b1.mono hal.size);obtain ⟨x3,_⟩:=(hX.on b1) 3 _ rfl;obtain ⟨x0',_⟩:=(h0'.on b1) 0 _ rfl)
    | (go_at_call 58;refine (hb0 _ bw).mono ?_;rintro e w2 ⟨rfl,b2⟩)
    | fail)
   go_ret
   exact ⟨rfl,bw.trans (b2.mono bw.size)⟩
 ·have hal:Below W.heap.size W (W.alloc (.cells #[.string ev,.iface tu ty,.string tg,.slice s1 ns s3,.int .i64 ol,.int .i64 oc] 79)):=(Below.refl _ _).alloc (Nat.le_refl _) _
  have hX:=Bn.new W [.string ev,.iface tu ty,.string tg,.slice s1 ns s3,.int .i64 ol,.int .i64 oc] 79 _ rfl
  have h0':=h0.on hal
  obtain ⟨x0,_⟩:=h0' 0 _ rfl
  go_enter Tryz.func56,Tryz.ntmps56
  cases A with
  | true=>
   go_wp2_with (first
    | (go_at_call 57;refine (ha _ hal).mono ?_;rintro e w1 ⟨rfl,b1⟩;have bw:=hal.trans (b1.mono hal.size);obtain ⟨x3,_⟩:=(hX.on b1) 3 _ rfl;obtain ⟨x0',_⟩:=(h0'.on b1) 0 _ rfl)
    | fail)
   go_ret
   exact ⟨rfl,bw⟩
  | false=>
   go_wp2_with (first
    | (go_at_call 57;refine (ha _ hal).mono ?_;rintro e w1 ⟨rfl,b1⟩;have bw:=hal.trans (b1.mono hal.size);obtain ⟨x3,_⟩:=(hX.on b1) 3 _ rfl;obtain ⟨x0',_⟩:=(h0'.on b1) 0 _ rfl)
    | (go_at_call 58;refine (hb0 _ bw).mono ?_;rintro e w2 ⟨rfl,b2⟩)
    | fail)
   go_ret
   exact ⟨rfl,bw.trans (b2.mono bw.size)⟩
end Go.Proofs.YtlgnahpfggagoaaGreatDoor
/- Nodes, by parents: what is met on the way up. Math alone. -/
namespace Go.Proofs.YtlgnahpfggagoaaGreatDoor
set_option linter.unusedVariables false
/-- Parents lie ahead. -/
def Ahd (n:Nat) (P:Nat→Int):Prop:=∀ m < n,-1≤P m∧P m < m
theorem okR_more {n:Nat}{P:Nat→Int}(hP:Ahd n P) (p:Int):∀ (f:Nat) (c:Int),-1≤c→c < f→c < n→okR P p f c=okR P p (c+1).toNat c
 | 0,c,h1,h2,h3=>by
  have:c = -1:=by omega
  subst this;rfl
 | f+1,c,h1,h2,h3=>by
  by_cases h0:c < 0
  ·have:c = -1:=by omega
   subst this
   unfold okR;rw [if_pos (by omega)];rfl
  have e:(c+1).toNat=c.toNat+1:=by omega
  rw [e]
  unfold okR
  rw [if_neg h0,if_neg h0]
  have hl:=hP c.toNat (by omega)
  rw [okR_more hP p f (P c.toNat) (by omega) (by omega) (by omega),okR_more hP p c.toNat (P c.toNat) (by omega) (by omega) (by omega)]
theorem okR_step {n:Nat}{P:Nat→Int}(hP:Ahd n P) (p:Int) {k:Nat}(hk:k < n):okR P p ((k:Int)+1).toNat k=(decide (p=k) || okR P p (P k+1).toNat (P k)):=by
 have e:((k:Int)+1).toNat=k+1:=by omega
 have hl:=hP k hk
 rw [e,okR,if_neg (by omega),Int.toNat_natCast,okR_more hP p k (P k) (by omega) (by omega) (by omega)]
 by_cases h:p=(k:Int)
 ·rw [if_pos h,decide_eq_true h,Bool.true_or]
 ·rw [if_neg h,decide_eq_false h,Bool.false_or]
end Go.Proofs.YtlgnahpfggagoaaGreatDoor
/- What package check asks of kinds, targets, and of going forward. -/
namespace Go.Proofs.YtlgnahpfggagoaaGreatDoor
open Go.RowKit Go.Lib
set_option linter.unusedSimpArgs false
set_option linter.unusedVariables false
attribute [local go_sem ↓] Go.wp_at_zero Go.wp_at_succ
def dnB (ev:ByteArray):Bool:=ev.toList == [100,111,110,101]
def onEv (o:OnC):ByteArray:=⟨o.1.toArray⟩
def onTg (o:OnC):ByteArray:=⟨o.2.2.1.toArray⟩
/-- Which state two lie in, by parents. -/
def meO (P:Nat→Int) (j:Nat):Nat→Int→Int
 | 0,_=>-1
 | f+1,a=>if a < 0 then -1 else if okR P a (P j+1).toNat (P j)=true then a else meO P j f (P a.toNat)
theorem meO_more {n:Nat}{P:Nat→Int}(hP:Ahd n P) (j:Nat):∀ (f:Nat) (c:Int),-1≤c→c < f→c < n→meO P j f c=meO P j (c+1).toNat c
 | 0,c,h0,h,hc=>by
  have:c = -1:=by omega
  subst this
  rfl
 | f+1,c,h0,h,hc=>by
  by_cases hz:c < 0
  ·have:c = -1:=by omega
   subst this
   show meO P j (f+1) (-1)=meO P j 0 (-1)
   unfold meO
   simp
  ·obtain ⟨k,hk⟩:∃ k,(c+1).toNat=k+1:=⟨c.toNat,by omega⟩
   rw [hk]
   unfold meO
   rw [if_neg hz,if_neg hz]
   obtain ⟨q1,q2⟩:=hP c.toNat (by omega)
   rw [meO_more hP j f (P c.toNat) q1 (by omega) (by omega),meO_more hP j k (P c.toNat) q1 (by omega) (by omega)]
theorem meO_step {n:Nat}{P:Nat→Int}(hP:Ahd n P) (j:Nat) {k:Nat}(hk:k < n):meO P j ((k:Int)+1).toNat k=if okR P k (P j+1).toNat (P j)=true then (k:Int) else meO P j (P k+1).toNat (P k):=by
 have e:((k:Int)+1).toNat=k+1:=by omega
 rw [e]
 conv=>lhs;unfold meO
 rw [if_neg (by omega)]
 obtain ⟨q1,q2⟩:=hP k hk
 rw [Int.toNat_natCast,meO_more hP j k (P k) q1 (by omega) (by omega)]
theorem meO_lt {n:Nat}{P:Nat→Int}(hP:Ahd n P) (j:Nat):∀ (f:Nat) (c:Int),c < n→-1≤meO P j f c∧meO P j f c < n
 | 0,c,h=>by unfold meO;omega
 | f+1,c,h=>by
  unfold meO
  split
  ·omega
  ·split
   ·omega
   ·have:=hP c.toNat (by omega)
    exact meO_lt hP j f (P c.toNat) (by omega)
def paF (fs:List (Int × SgS)) (i:Nat):Int:=match fs[i]? with
 | some x=>x.1
 | none=>-1
def meF (fs:List (Int × SgS)) (i j:Nat):Int:=meO (paF fs) j (paF fs i+1).toNat (paF fs i)
def leB (fs:List (Int × SgS)) (i j:Nat):Bool:=decide (0≤meF fs i j) && atB fs (fun x=>(sgH x.2).2.1.1) (meF fs i j).toNat
def asB (fs:List (Int × SgS)) (i:Nat) (t:Int):Bool:=decide (t < 0) || leB fs i t.toNat
theorem mi1_any {ok:Nat→Prop}{W:World}{Lb d:Nat}{c:ChG d}{fs:List (Int × SgS)}(h:Ly ok W Lb c fs) (hst:∀ x∈fs,StOk x.2.1 x.2.2) (X0:Nat) (h0:Bn W X0 [.pointer (some ⟨Lb,0,none⟩)]) (i:Nat) (hi:i < fs.length) :
  Calls Tryz.prog 60 #[.int .i64 (i:Int),.pointer (some ⟨X0,0,none⟩)] W fun e w'=>e=.returned (.bool (miK (fs[i]).2))∧Below W.heap.size W w':=by
 obtain ⟨g0,g1,g2,g3,g4,g6,g7,g8,g9,sa,sc0,oa,oc,k1,k2,k3,k4,k5⟩:=h
 obtain ⟨x0,_⟩:=h0 0 _ rfl
 obtain ⟨c6,_⟩:=k1 6 _ rfl
 obtain ⟨b,off,cs,rfl,_,hbl,_,hr,hc⟩:=rdK_at k3 i hi
 have hm:=miK_any hr (hst _ (List.getElem_mem hi)) (Below.refl _ W)
 obtain ⟨sn,sl,sc,sb,se,sd,su,sw,sr,p1,p3,p4,p6,rfl,_,_⟩:=sg_let hr
 obtain ⟨no,hno⟩:∃ no,(sgO fs[i].2).length=no:=⟨_,rfl⟩
 obtain ⟨ni,hni⟩:∃ no,sgI fs[i].2=no:=⟨_,rfl⟩
 rw [hno,hni] at hc hm
 obtain ⟨R,hR⟩:∃ R,miK (fs[i]).2=R:=⟨_,rfl⟩
 rw [hR] at hm ⊢
 obtain ⟨n,hn⟩:∃ n,fs.length=n:=⟨_,rfl⟩
 rw [hn] at c6 hi
 have i1:(i:Int) < (n:Int):=by omega
 have i2:(0:Int)≤(i:Int):=by omega
 have C0:=hc 0 _ rfl
 have C1:=hc 1 _ rfl
 have C2:=hc 2 _ rfl
 have C3:=hc 3 _ rfl
 have C4:=hc 4 _ rfl
 have C5:=hc 5 _ rfl
 have C6:=hc 6 _ rfl
 have C7:=hc 7 _ rfl
 have C8:=hc 8 _ rfl
 have C9:=hc 9 _ rfl
 have C10:=hc 10 _ rfl
 rw [Nat.add_zero] at C0
 clear hc hr hno hni hR hn k1 k2 k3 k4 k5 h0 hst
 go_enter Tryz.func60,Tryz.ntmps60
 go_wp2_with (first | (go_at_call 61;refine hm.mono ?_;rintro e w1 ⟨rfl,b1⟩) | fail)
 go_ret
 exact ⟨rfl,b1⟩
set_option maxRecDepth 100000 in
set_option maxHeartbeats 4000000 in
theorem mi2_any {ok:Nat→Prop}{W:World}{Lb d:Nat}{c:ChG d}{fs:List (Int × SgS)}(h:Ly ok W Lb c fs) (X0:Nat) (h0:Bn W X0 [.pointer (some ⟨Lb,0,none⟩)]) (i:Nat) (hi:i < fs.length) (j:Nat) (hj:j < (sgO (fs[i]).2).length) :
  Calls Tryz.prog 62 #[.int .i64 (i:Int),.int .i64 (j:Int),.pointer (some ⟨X0,0,none⟩)] W fun e w'=>e=.returned (.bool (dnB (onEv (sgO (fs[i]).2)[j]) && !stpB (sgD (fs[i]).2)))∧Below W.heap.size W w':=by
 obtain ⟨g0,g1,g2,g3,g4,g6,g7,g8,g9,sa,sc0,oa,oc,k1,k2,k3,k4,k5⟩:=h
 obtain ⟨x0,_⟩:=h0 0 _ rfl
 obtain ⟨c6,_⟩:=k1 6 _ rfl
 obtain ⟨b,off,cs,rfl,_,hbl,_,hr,hc⟩:=rdK_at k3 i hi
 obtain ⟨sn,sl,sc,sb,se,sd,su,sw,sr,p1,p3,p4,p6,rfl,HS,hon⟩:=sg_let hr
 obtain ⟨ob,ooff,ev,gv,tg,s1,ns,s3,ol,oc',rfl,_,hobl,hgv,HON,_,hoc⟩:=onE_at hon j hj
 have hev:onEv (sgO (fs[i]).2)[j]=ev:=by
  obtain ⟨sl2,he,_⟩:=HON.out
  unfold onV at he
  simp only [List.cons.injEq,sV,Value.string.injEq] at he
  exact he.1.symm
 have hsd:sgD (fs[i]).2=sd:=HS.out.2.2.2.2.1.symm
 rw [hev,hsd]
 have D0:=hoc 0 _ rfl
 rw [Nat.add_zero] at D0
 obtain ⟨no,hno⟩:∃ no,(sgO fs[i].2).length=no:=⟨_,rfl⟩
 obtain ⟨ni,hni⟩:∃ no,sgI fs[i].2=no:=⟨_,rfl⟩
 rw [hno,hni] at hc
 rw [hno] at hj
 obtain ⟨n,hn⟩:∃ n,fs.length=n:=⟨_,rfl⟩
 rw [hn] at c6 hi
 have i1:(i:Int) < (n:Int):=by omega
 have i2:(0:Int)≤(i:Int):=by omega
 have j1:(j:Int) < (no:Int):=by omega
 have j2:(0:Int)≤(j:Int):=by omega
 have C0:=hc 0 _ rfl
 have C1:=hc 1 _ rfl
 have C2:=hc 2 _ rfl
 have C3:=hc 3 _ rfl
 have C4:=hc 4 _ rfl
 have C5:=hc 5 _ rfl
 have C6:=hc 6 _ rfl
 have C7:=hc 7 _ rfl
 have C8:=hc 8 _ rfl
 have C9:=hc 9 _ rfl
 have C10:=hc 10 _ rfl
 rw [Nat.add_zero] at C0
 have hs:=step_any W sn sl sc sb se sd su sw sr (some ⟨ob,ooff,none⟩) no p3 p4 ni p6
 obtain ⟨A,hA⟩:∃ A,stpB sd=A:=⟨_,rfl⟩
 rw [hA] at hs ⊢
 obtain ⟨D,hD⟩:∃ D,dnB ev=D:=⟨_,rfl⟩
 rw [hD]
 unfold dnB at hD
 clear hc hoc hr hno hni hA hn k1 k2 k3 k4 k5 h0 HON HS hon hev hsd hgv
 go_enter Tryz.func62,Tryz.ntmps62
 cases D with
 | false=>
  go_wp2
  go_ret
  exact ⟨rfl,Below.refl _ _⟩
 | true=>
  go_wp2_with (first | (go_at_call 63;refine hs.mono ?_;rintro e w1 ⟨rfl,b1⟩) | fail)
  go_ret
  exact ⟨rfl,b1⟩
set_option maxRecDepth 100000 in
set_option maxHeartbeats 8000000 in
theorem meetL_any {ok:Nat→Prop}{W:World}{Lb d:Nat}{c:ChG d}{fs:List (Int × SgS)}(h:Ly ok W Lb c fs) (hA:Ahd fs.length (paF fs)) (hl:fs.length≤1000000) (i:Nat) (hi:i < fs.length) (j:Nat) (hj:j < fs.length) :
  Calls Tryz.prog 97 #[.pointer (some ⟨Lb,0,none⟩),.int .i64 (i:Int),.int .i64 (j:Int)] W fun e w'=>e=.returned (.int .i64 (meF fs i j))∧Below W.heap.size W w':=by
 obtain ⟨g0,g1,g2,g3,g4,g6,g7,g8,g9,sa,sc0,oa,oc,k1,k2,k3,k4,k5⟩:=h
 obtain ⟨c7,_⟩:=k1 7 _ rfl
 have hcell:∀ k,k < fs.length→∃ b off,oa=some ⟨b,off,none⟩∧W.cell? ⟨b,off+k,none⟩=some (.int .i64 (paF fs k)):=fun k hk=>by
  obtain ⟨b,off,cs,he,_,_,_,hr,hc⟩:=rdK_at k4 k hk
  refine ⟨b,off,he,?_⟩
  have hcs:cs=[.int .i64 (fs[k]).1]:=hr
  subst hcs
  have:=hc 0 _ rfl
  rw [Nat.mul_one,Nat.add_zero] at this
  rw [this]
  unfold paF
  rw [List.getElem?_eq_getElem hk]
 obtain ⟨b,off,rfl,hxx⟩:=hcell i hi
 clear hxx
 have hcell2:∀ k,k < fs.length→W.cell? ⟨b,off+k,none⟩=some (.int .i64 (paF fs k)):=fun k hk=>by
  obtain ⟨b2,off2,he,h2⟩:=hcell k hk
  simp only [Option.some.injEq,Addr.mk.injEq,and_true] at he
  obtain ⟨rfl,rfl⟩:=he
  exact h2
 have HC:=mkHid hcell2
 have HA:=mkHid hA
 obtain ⟨P,hP⟩:∃ P,paF fs=P:=⟨_,rfl⟩
 have HM:Hid (meF fs i j=meO P j (P i+1).toNat (P i)):=by show _=_;unfold meF;rw [hP]
 obtain ⟨n,hn⟩:∃ n,fs.length=n:=⟨_,rfl⟩
 rw [hP,hn] at HC HA
 rw [hn] at c7 hi hj hl
 clear hcell hcell2 k1 k2 k3 k4 k5 hP hA hn
 have i1:(i:Int) < (n:Int):=by omega
 have i2:(0:Int)≤(i:Int):=by omega
 have j1:(j:Int) < (n:Int):=by omega
 have j2:(0:Int)≤(j:Int):=by omega
 have C1:=HC.out i hi
 have C2:=HC.out j hj
 have q1:=HA.out i hi
 have q2:=HA.out j hj
 obtain ⟨pi,hpi⟩:∃ x,P i=x:=⟨_,rfl⟩
 obtain ⟨pj,hpj⟩:∃ x,P j=x:=⟨_,rfl⟩
 rw [hpi] at C1 q1 HM
 rw [hpj] at C2 q2
 have HPJ:=mkHid hpj
 clear hpi hpj
 go_enter Tryz.func97,Tryz.ntmps97
 go_wp2
 go_loop [7] (fun s=>∃ (a:Int),-1≤a∧a < n∧s=.int .i64 a∧Hid (meF fs i j=meO P j (a+1).toNat a)) (fun s=>(RowKit.intOf s+1).toNat)
 case atStart=>exact ⟨pi,q1.1,by omega,rfl,HM⟩
 case round=>
  obtain ⟨a,ha0,ha1,rfl,HO⟩:=hrel
  by_cases hneg:a < 0
  ·have HE:Hid (meF fs i j = -1):=by
    show _=_
    rw [HO.out]
    have:a = -1:=by omega
    rw [this]
    rfl
   have i5:¬ (0:Int)≤a:=by omega
   go_wp2
   go_ret
   exact ⟨by rw [HE.out];rfl,Below.refl _ _⟩
  ·obtain ⟨an,rfl⟩:∃ an:Nat,a=an:=⟨a.toNat,by omega⟩
   have hanl:an < n:=by omega
   have i5:(0:Int)≤(an:Int):=by omega
   have C3:=HC.out an hanl
   have q3:=HA.out an hanl
   have HS:Hid (meF fs i j=if okR P an (pj+1).toNat pj=true then (an:Int) else meO P j (P an+1).toNat (P an)):=by
    show _=_
    rw [HO.out,meO_step HA.out j hanl,HPJ.out]
   obtain ⟨pa,hpa⟩:∃ x,P an=x:=⟨_,rfl⟩
   rw [hpa] at C3 q3 HS
   clear hpa
   go_wp2
   go_loop [8] (fun s=>∃ (b':Int),-1≤b'∧b' < n∧s=.int .i64 b'∧Hid (okR P an (pj+1).toNat pj=okR P an (b'+1).toNat b')) (fun s=>(RowKit.intOf s+1).toNat)
   case atStart=>exact ⟨pj,q2.1,by omega,rfl,rfl⟩
   case round=>
    obtain ⟨b',hb0,hb1,rfl,HB⟩:=hrel
    by_cases hnb:b' < 0
    ·have HE:Hid (meF fs i j=meO P j (pa+1).toNat pa):=by
      show _=_
      rw [HS.out,HB.out]
      have:b' = -1:=by omega
      rw [this]
      show (if okR P an 0 (-1)=true then _ else _)=_
      simp [okR]
     have i6:¬ (0:Int)≤b':=by omega
     go_wp2
     go_round
     case rel=>exact ⟨pa,q3.1,by omega,rfl,HE⟩
     case measure=>simp [RowKit.intOf];omega
    ·obtain ⟨bn,rfl⟩:∃ bn:Nat,b'=bn:=⟨b'.toNat,by omega⟩
     have hbnl:bn < n:=by omega
     have i6:(0:Int)≤(bn:Int):=by omega
     have C4:=HC.out bn hbnl
     have q4:=HA.out bn hbnl
     have HT:Hid (okR P an (pj+1).toNat pj=(decide ((an:Int)=bn) || okR P an (P bn+1).toNat (P bn))):=by
      show _=_
      rw [HB.out,okR_step HA.out (an:Int) hbnl]
     obtain ⟨pb,hpb⟩:∃ x,P bn=x:=⟨_,rfl⟩
     rw [hpb] at C4 q4 HT
     clear hpb
     by_cases heq:an=bn
     ·have HE:Hid (meF fs i j=(an:Int)):=by
       show _=_
       rw [HS.out,HT.out,heq]
       simp
      subst heq
      go_wp2
      go_ret
      exact ⟨by rw [HE.out];rfl,Below.refl _ _⟩
     ·have HE:Hid (okR P an (pj+1).toNat pj=okR P an (pb+1).toNat pb):=by
       show _=_
       rw [HT.out]
       have:decide ((an:Int)=bn)=false:=by simp;omega
       rw [this,Bool.false_or]
      have hne:¬ ((an:Int)=(bn:Int)):=by omega
      go_wp2
      go_round
      case rel=>exact ⟨pb,q4.1,by omega,rfl,HE⟩
      case measure=>simp [RowKit.intOf];omega
set_option maxRecDepth 100000 in
set_option maxHeartbeats 4000000 in
theorem leaps_any {ok:Nat→Prop}{W:World}{Lb d:Nat}{c:ChG d}{fs:List (Int × SgS)}(h:Ly ok W Lb c fs) (hA:Ahd fs.length (paF fs)) (hl:fs.length≤1000000) (i:Nat) (hi:i < fs.length) (j:Nat) (hj:j < fs.length) :
  Calls Tryz.prog 65 #[.pointer (some ⟨Lb,0,none⟩),.int .i64 (i:Int),.int .i64 (j:Int)] W fun e w'=>e=.returned (.bool (leB fs i j))∧Below W.heap.size W w':=by
 have hm:=meetL_any h hA hl i hi j hj
 have hml : -1≤meF fs i j∧meF fs i j < fs.length:=meO_lt hA j _ _ (by have:=hA i hi;omega)
 have hLy:=fun w1 (b:Below W.heap.size W w1)=>h.on b
 obtain ⟨M,hM⟩:∃ M,meF fs i j=M:=⟨_,rfl⟩
 have HE:Hid (leB fs i j=(decide (0≤M) && atB fs (fun x=>(sgH x.2).2.1.1) M.toNat)):=by show _=_;unfold leB;rw [hM]
 rw [HE.out]
 rw [hM] at hm hml
 clear h hM HE
 by_cases hneg:0≤M
 ·obtain ⟨m,rfl⟩:∃ m:Nat,M=m:=⟨M.toNat,by omega⟩
  have hmf:m < fs.length:=by omega
  rw [Int.toNat_natCast,atB_of hmf]
  have hcl:∀ w1,Below W.heap.size W w1→∃ b off n sc0,w1.cell? ⟨Lb,6,none⟩=some (.slice (some ⟨b,off,none⟩) n sc0)∧m < n∧w1.cell? ⟨b,off+m*11+3,none⟩=some (.bool (sgH (fs[m]).2).2.1.1):=fun w1 b1=>by
   obtain ⟨g0,g1,g2,g3,g4,g6,g7,g8,g9,sa,sc0,oa,oc,k1,k2,k3,k4,k5⟩:=hLy w1 b1
   obtain ⟨c6,_⟩:=k1 6 _ rfl
   obtain ⟨b,off,cs,rfl,_,hbl,_,hr,hc⟩:=rdK_at k3 m hmf
   obtain ⟨sn,sl,sc,sb,se,sd,su,sw,sr,p1,p3,p4,p6,rfl,HS,_⟩:=sg_let hr
   refine ⟨b,off,_,sc0,c6,hmf,?_⟩
   rw [← HS.out.2.2.1]
   exact hc 3 _ rfl
  obtain ⟨A,hAA⟩:∃ A,(sgH (fs[m]).2).2.1.1=A:=⟨_,rfl⟩
  rw [hAA] at hcl ⊢
  have i2:(0:Int)≤(m:Int):=by omega
  rw [decide_eq_true i2,Bool.true_and]
  clear hAA hA hml hLy hneg
  go_enter Tryz.func65,Tryz.ntmps65
  go_wp2_with (first | (go_at_call 97;refine hm.mono ?_;rintro e w1 ⟨rfl,b1⟩;obtain ⟨b,off,n,sc0,c6,hmn,c3⟩:=hcl w1 b1;have i1:(m:Int) < (n:Int):=(by omega)) | fail)
  go_ret
  exact ⟨rfl,b1⟩
 ·rw [decide_eq_false hneg,Bool.false_and]
  clear hA hml hLy
  go_enter Tryz.func65,Tryz.ntmps65
  go_wp2_with (first | (go_at_call 97;refine hm.mono ?_;rintro e w1 ⟨rfl,b1⟩) | fail)
  go_ret
  exact ⟨rfl,b1⟩
theorem on_let {ok:Nat→Prop}{w:World}{o:OnC}{cs:List Value}(hr:rOn ok w o cs):∃ (ev:ByteArray) (g:Value) (tg:ByteArray) (s1:Option Addr) (ns s3:Nat) (ol oc:Int),cs=[.string ev,g,.string tg,.slice s1 ns s3,.int .i64 ol,.int .i64 oc]∧(g=.nilIface∨∃ u y,g=.iface u y)∧Hid (onEv o=ev∧onTg o=tg):=by
 obtain ⟨sl,rfl,hs⟩:=hr
 obtain ⟨s1,s3,rfl,_⟩:=hs.form
 exact ⟨_,_,_,s1,_,s3,_,_,rfl,gdV_form o.2.1,⟨rfl,rfl⟩⟩
set_option maxRecDepth 100000 in
set_option maxHeartbeats 4000000 in
theorem as1_any {ok:Nat→Prop}{w W:World}{Lb d:Nat}{c:ChG d}{fs:List (Int × SgS)}(h:Ly ok W Lb c fs) (hA:Ahd fs.length (paF fs)) (hl:fs.length≤1000000) {o:OnC}{cs:List Value}(hr:rOn ok w o cs) (X0:Nat) (h0:Bn W X0 [.pointer (some ⟨Lb,0,none⟩)]) (i:Nat) (hi:i < fs.length) :
  Calls Tryz.prog 64 #[.int .i64 (i:Int),.agg cs.toArray,.pointer (some ⟨X0,0,none⟩)] W fun e w'=>e=.returned (.bool (asB fs i (fdS fs (onTg o))))∧Below W.heap.size W w':=by
 obtain ⟨ev,g,tg,s1,ns,s3,ol,oc,rfl,hg,HO⟩:=on_let hr
 rw [HO.out.2]
 have hs:=fun W1 (b:Below W.heap.size W W1)=>stateL_any (h.on b) hl tg
 have hfl:fdS fs tg < fs.length:=by have:=ixF_lt (atB fs (fun x=>(sgN x.2).toList == tg.toList)) fs.length 0;unfold fdS;omega
 have hle:=fun (j:Nat) (hj:j < fs.length) W1 (b:Below W.heap.size W W1)=>leaps_any (h.on b) hA hl i hi j hj
 obtain ⟨F,hF⟩:∃ F,fdS fs tg=F:=⟨_,rfl⟩
 rw [hF] at hs hfl ⊢
 clear h hr hF HO hA
 by_cases hneg:F < 0
 ·have e1:asB fs i F=true:=by unfold asB;simp [hneg]
  rw [e1]
  rcases hg with rfl | ⟨gu,gy,rfl⟩
  ·have hal:Below W.heap.size W (W.alloc (.cells #[.string ev,.nilIface,.string tg,.slice s1 ns s3,.int .i64 ol,.int .i64 oc] 79)):=(Below.refl _ _).alloc (Nat.le_refl _) _
   obtain ⟨x0,_⟩:=(h0.on hal) 0 _ rfl
   go_enter Tryz.func64,Tryz.ntmps64
   go_wp2_with (first | (go_at_call 53;refine (hs _ hal).mono ?_;rintro e w1 ⟨rfl,b1⟩) | fail)
   go_ret
   exact ⟨rfl,hal.trans (b1.mono hal.size)⟩
  ·have hal:Below W.heap.size W (W.alloc (.cells #[.string ev,.iface gu gy,.string tg,.slice s1 ns s3,.int .i64 ol,.int .i64 oc] 79)):=(Below.refl _ _).alloc (Nat.le_refl _) _
   obtain ⟨x0,_⟩:=(h0.on hal) 0 _ rfl
   go_enter Tryz.func64,Tryz.ntmps64
   go_wp2_with (first | (go_at_call 53;refine (hs _ hal).mono ?_;rintro e w1 ⟨rfl,b1⟩) | fail)
   go_ret
   exact ⟨rfl,hal.trans (b1.mono hal.size)⟩
 ·obtain ⟨j,rfl⟩:∃ j:Nat,F=j:=⟨F.toNat,by omega⟩
  have hle2:=hle j (by omega)
  obtain ⟨R,hR⟩:∃ R,leB fs i j=R:=⟨_,rfl⟩
  have e1:asB fs i (j:Int)=R:=by unfold asB;rw [Int.toNat_natCast,hR];simp;omega
  rw [e1]
  rw [hR] at hle2
  clear hle hR e1
  rcases hg with rfl | ⟨gu,gy,rfl⟩
  ·have hal:Below W.heap.size W (W.alloc (.cells #[.string ev,.nilIface,.string tg,.slice s1 ns s3,.int .i64 ol,.int .i64 oc] 79)):=(Below.refl _ _).alloc (Nat.le_refl _) _
   have h0':=h0.on hal
   obtain ⟨x0,_⟩:=h0' 0 _ rfl
   go_enter Tryz.func64,Tryz.ntmps64
   go_wp2_with (first
    | (go_at_call 53;refine (hs _ hal).mono ?_;rintro e w1 ⟨rfl,b1⟩;have bw:=hal.trans (b1.mono hal.size);obtain ⟨x1,_⟩:=(h0'.on b1) 0 _ rfl)
    | (go_at_call 65;refine (hle2 _ bw).mono ?_;rintro e w2 ⟨rfl,b2⟩)
    | fail)
   go_ret
   exact ⟨rfl,bw.trans (b2.mono bw.size)⟩
  ·have hal:Below W.heap.size W (W.alloc (.cells #[.string ev,.iface gu gy,.string tg,.slice s1 ns s3,.int .i64 ol,.int .i64 oc] 79)):=(Below.refl _ _).alloc (Nat.le_refl _) _
   have h0':=h0.on hal
   obtain ⟨x0,_⟩:=h0' 0 _ rfl
   go_enter Tryz.func64,Tryz.ntmps64
   go_wp2_with (first
    | (go_at_call 53;refine (hs _ hal).mono ?_;rintro e w1 ⟨rfl,b1⟩;have bw:=hal.trans (b1.mono hal.size);obtain ⟨x1,_⟩:=(h0'.on b1) 0 _ rfl)
    | (go_at_call 65;refine (hle2 _ bw).mono ?_;rintro e w2 ⟨rfl,b2⟩)
    | fail)
   go_ret
   exact ⟨rfl,bw.trans (b2.mono bw.size)⟩
set_option maxRecDepth 100000 in
set_option maxHeartbeats 4000000 in
theorem bw1_any {ok:Nat→Prop}{w W:World}{Lb d:Nat}{c:ChG d}{fs:List (Int × SgS)}(h:Ly ok W Lb c fs) (hl:fs.length≤1000000) {o:OnC}{cs:List Value}(hr:rOn ok w o cs) (X0:Nat) (h0:Bn W X0 [.pointer (some ⟨Lb,0,none⟩)]) (i:Nat) :
  Calls Tryz.prog 66 #[.int .i64 (i:Int),.agg cs.toArray,.pointer (some ⟨X0,0,none⟩)] W fun e w'=>e=.returned (.bool (dnB (onEv o) && decide (fdS fs (onTg o)≤i)))∧Below W.heap.size W w':=by
 obtain ⟨ev,g,tg,s1,ns,s3,ol,oc,rfl,hg,HO⟩:=on_let hr
 rw [HO.out.1,HO.out.2]
 have hs:=fun W1 (b:Below W.heap.size W W1)=>stateL_any (h.on b) hl tg
 obtain ⟨F,hF⟩:∃ F,fdS fs tg=F:=⟨_,rfl⟩
 rw [hF] at hs ⊢
 obtain ⟨D,hD⟩:∃ D,dnB ev=D:=⟨_,rfl⟩
 rw [hD]
 unfold dnB at hD
 clear h hr hF HO
 rcases hg with rfl | ⟨gu,gy,rfl⟩
 ·have hal:Below W.heap.size W (W.alloc (.cells #[.string ev,.nilIface,.string tg,.slice s1 ns s3,.int .i64 ol,.int .i64 oc] 79)):=(Below.refl _ _).alloc (Nat.le_refl _) _
  obtain ⟨x0,_⟩:=(h0.on hal) 0 _ rfl
  go_enter Tryz.func66,Tryz.ntmps66
  cases D with
  | false=>
   go_wp2
   go_ret
   exact ⟨rfl,hal⟩
  | true=>
   by_cases hle:F≤(i:Int)
   ·go_wp2_with (first | (go_at_call 53;refine (hs _ hal).mono ?_;rintro e w1 ⟨rfl,b1⟩) | fail)
    go_ret
    exact ⟨by simp [hle],hal.trans (b1.mono hal.size)⟩
   ·go_wp2_with (first | (go_at_call 53;refine (hs _ hal).mono ?_;rintro e w1 ⟨rfl,b1⟩) | fail)
    go_ret
    exact ⟨by simp [hle],hal.trans (b1.mono hal.size)⟩
 ·have hal:Below W.heap.size W (W.alloc (.cells #[.string ev,.iface gu gy,.string tg,.slice s1 ns s3,.int .i64 ol,.int .i64 oc] 79)):=(Below.refl _ _).alloc (Nat.le_refl _) _
  obtain ⟨x0,_⟩:=(h0.on hal) 0 _ rfl
  go_enter Tryz.func66,Tryz.ntmps66
  cases D with
  | false=>
   go_wp2
   go_ret
   exact ⟨rfl,hal⟩
  | true=>
   by_cases hle:F≤(i:Int)
   ·go_wp2_with (first | (go_at_call 53;refine (hs _ hal).mono ?_;rintro e w1 ⟨rfl,b1⟩) | fail)
    go_ret
    exact ⟨by simp [hle],hal.trans (b1.mono hal.size)⟩
   ·go_wp2_with (first | (go_at_call 53;refine (hs _ hal).mono ?_;rintro e w1 ⟨rfl,b1⟩) | fail)
    go_ret
    exact ⟨by simp [hle],hal.trans (b1.mono hal.size)⟩
structure FsOk {d:Nat}(c:ChG d) (fs:List (Int × SgS)):Prop where
 l:fs.length≤1000000
 o:∀ x∈fs,(sgO x.2).length≤1000000
 v:c.2.2.1.length≤1000000
 st:∀ x∈fs,StOk x.2.1 x.2.2
 on:∀ x∈fs,∀ o∈sgO x.2,OnQ o
 ah:Ahd fs.length (paF fs)
def qO (fs:List (Int × SgS)) (r:Nat→Nat→SgS→OnC→Bool) (i j:Nat):Bool:=atB fs (fun x=>atB (sgO x.2) (r i j x.2) j) i
theorem qO_of {fs:List (Int × SgS)}{r:Nat→Nat→SgS→OnC→Bool}{i j:Nat}(hi:i < fs.length) (hj:j < (sgO (fs[i]).2).length):qO fs r i j=r i j (fs[i]).2 (sgO (fs[i]).2)[j]:=by
 unfold qO
 rw [atB_of hi,atB_of hj]
def tmR {d:Nat}(c:ChG d) (fs:List (Int × SgS)):Option Pl:=match c.2.2.1[8]? with
 | some x=>some x.2.2
 | none=>if fs.length=0 then some c.1.2 else frS (fun i=>(i:Int) == 40) (qO fs (fun _ j _ o=>decide ((j:Int)=6) || decide (4 < o.2.2.2.1.length))) fs 0
def ntV (vs:List (List UInt8 × Int × Pl)):List (List UInt8 × Int × Pl)→Nat→Option Pl
 | [],_=>none
 | x :: r,k=>if fdV vs ⟨x.1.toArray⟩ < k then some x.2.2 else ntV vs r (k+1)
def ntP (fs:List (Int × SgS)) (i:Nat):Bool:=atB fs (fun x=>decide (fdS fs (sgN x.2) < i)) i
def ntR {d:Nat}(c:ChG d) (fs:List (Int × SgS)):Option Pl:=match ntV c.2.2.1 c.2.2.1 0 with
 | some a=>some a
 | none=>frS (ntP fs) (fun _ _=>false) fs 0
def orP (fs:List (Int × SgS)) (i:Nat):Bool:=atB fs (fun x=>decide (4≤(sgH x.2).2.2.2.1.1) || decide (5 < (sgH x.2).2.2.2.1.2)) i
def orR (fs:List (Int × SgS)):Option Pl:=frS (orP fs) (fun _ _=>false) fs 0
def unR {d:Nat}(c:ChG d) (fs:List (Int × SgS)):Option Pl:=frS (fun _=>false) (qO fs (fun _ _ _ o=>unO c.2.2.1 o)) fs 0
def miR (fs:List (Int × SgS)):Option Pl:=frS (fun i=>atB fs (fun x=>miK x.2) i) (qO fs (fun _ _ x o=>dnB (onEv o) && !stpB (sgD x))) fs 0
def asR (fs:List (Int × SgS)):Option Pl:=frS (fun _=>false) (qO fs (fun i _ _ o=>asB fs i (fdS fs (onTg o)))) fs 0
def bwR (fs:List (Int × SgS)):Option Pl:=frS (fun _=>false) (qO fs (fun i _ _ o=>dnB (onEv o) && decide (fdS fs (onTg o)≤(i:Int)))) fs 0
theorem unR_any_res {w:World}{R:Nat}{a b:Int}{q:Bool}{tmps:Array Value}(hR:Bn w R [.int .i64 a,.int .i64 b]) (ht:tmps.getD 2 undef=.pointer (some ⟨R,0,none⟩)) (ht2:tmps.getD 3 undef=.bool q):(results Tryz.f30 tmps).run Tryz.prog w=.ok (.tuple #[.agg #[.int .i64 a,.int .i64 b],.bool q]) w:=by
 have ht':tmps[2]?.getD undef=.pointer (some ⟨R,0,none⟩):=by simpa using ht
 have ht2':tmps[3]?.getD undef=.bool q:=by simpa using ht2
 have c0:=(hR 0 _ rfl).1
 have c1:=(hR 1 _ rfl).1
 simp [results,Tryz.results30,go_sem,ht',ht2',c0,c1]
set_option maxRecDepth 100000 in
set_option maxHeartbeats 8000000 in
theorem unR_any {ok:Nat→Prop}{w:World}{Lb d:Nat}{c:ChG d}{fs:List (Int × SgS)}(h:Ly ok w Lb c fs) (hf:FsOk c fs) :
  Calls Tryz.prog 30 #[.pointer (some ⟨Lb,0,none⟩)] w fun e w'=>e=.returned (anP (unR c fs))∧Below w.heap.size w w':=by
 have hal:Below w.heap.size w ((w.alloc (.cells #[.pointer (some ⟨Lb,0,none⟩)] 64)).alloc (.cells #[.int .i64 0,.int .i64 0] 23)):=((Below.refl _ _).alloc (Nat.le_refl _) _).alloc (by simp) _
 have h0:Bn ((w.alloc (.cells #[.pointer (some ⟨Lb,0,none⟩)] 64)).alloc (.cells #[.int .i64 0,.int .i64 0] 23)) w.heap.size [.pointer (some ⟨Lb,0,none⟩)]:=(Bn.new w [.pointer (some ⟨Lb,0,none⟩)] 64 _ rfl).on ((Below.refl _ _).alloc (Nat.le_refl _) _)
 have h2:Bn ((w.alloc (.cells #[.pointer (some ⟨Lb,0,none⟩)] 64)).alloc (.cells #[.int .i64 0,.int .i64 0] 23)) (w.heap.size+1) [.int .i64 0,.int .i64 0]:=Bn.new _ [.int .i64 0,.int .i64 0] 23 (w.heap.size+1) (by simp)
 have hLy:=h.on hal
 obtain ⟨ra,rb,rq,hA⟩:∃ ra rb rq,anP (unR c fs)=.tuple #[.agg #[.int .i64 ra,.int .i64 rb],.bool rq]:=⟨_,_,_,rfl⟩
 have HAA:=mkHid hA
 rw [hA]
 clear hA
 go_enter Tryz.func30,Tryz.ntmps30
 go_upto_region 1 with fail
 generalize ((w.alloc (.cells #[.pointer (some ⟨Lb,0,none⟩)] 64)).alloc (.cells #[.int .i64 0,.int .i64 0] 23))=wx at *
 have hcall:Calls Tryz.prog 55 #[.pointer (some ⟨Lb,0,none⟩),.func (.func 56) #[] #[.pointer (some ⟨w.heap.size,0,none⟩)]] wx fun e w'=>e=.returned (anP (unR c fs))∧Below wx.heap.size wx w':=firstOn_any hLy hf.l hf.o 56 #[] #[.pointer (some ⟨w.heap.size,0,none⟩)] (enters_of Tryz.func56 (by kernel_rfl) rfl) _ (fun i hi j hj cs W W' hb hr hb'=>by
  rw [qO_of hi hj]
  exact un1_any ((hLy.on hb).on hb') hf.v (hf.on _ (List.getElem_mem hi) _ (List.getElem_mem hj)) hr hb' w.heap.size ((h0.on hb).on hb') i)
 rw [HAA.out] at hcall
 clear h hLy
 obtain ⟨x0,_⟩:=h0 0 _ rfl
 go_wp2_with (first | (go_at_call 55;refine hcall.mono ?_;rintro e w1 ⟨rfl,b1⟩;have h2':=h2.on b1;obtain ⟨y0,f0⟩:=h2' 0 _ rfl;obtain ⟨y1,f1⟩:=h2' 1 _ rfl) | fail)
 have hz:=(h2'.set (i:=0) (by simp) (.int .i64 ra)).set (i:=1) (by simp) (.int .i64 rb)
 have hbz:=putL_below [.int .i64 ra,.int .i64 rb] w1 (w.heap.size+1) 0 (hal.trans (b1.mono hal.size)) (by omega)
 exact bodyPost_ret (unR_any_res hz rfl rfl) rfl ⟨rfl,hbz⟩
theorem asR_any_res {w:World}{R:Nat}{a b:Int}{q:Bool}{tmps:Array Value}(hR:Bn w R [.int .i64 a,.int .i64 b]) (ht:tmps.getD 2 undef=.pointer (some ⟨R,0,none⟩)) (ht2:tmps.getD 3 undef=.bool q):(results Tryz.f32 tmps).run Tryz.prog w=.ok (.tuple #[.agg #[.int .i64 a,.int .i64 b],.bool q]) w:=by
 have ht':tmps[2]?.getD undef=.pointer (some ⟨R,0,none⟩):=by simpa using ht
 have ht2':tmps[3]?.getD undef=.bool q:=by simpa using ht2
 have c0:=(hR 0 _ rfl).1
 have c1:=(hR 1 _ rfl).1
 simp [results,Tryz.results32,go_sem,ht',ht2',c0,c1]
set_option maxRecDepth 100000 in
set_option maxHeartbeats 8000000 in
theorem asR_any {ok:Nat→Prop}{w:World}{Lb d:Nat}{c:ChG d}{fs:List (Int × SgS)}(h:Ly ok w Lb c fs) (hf:FsOk c fs) :
  Calls Tryz.prog 32 #[.pointer (some ⟨Lb,0,none⟩)] w fun e w'=>e=.returned (anP (asR fs))∧Below w.heap.size w w':=by
 have hal:Below w.heap.size w ((w.alloc (.cells #[.pointer (some ⟨Lb,0,none⟩)] 64)).alloc (.cells #[.int .i64 0,.int .i64 0] 23)):=((Below.refl _ _).alloc (Nat.le_refl _) _).alloc (by simp) _
 have h0:Bn ((w.alloc (.cells #[.pointer (some ⟨Lb,0,none⟩)] 64)).alloc (.cells #[.int .i64 0,.int .i64 0] 23)) w.heap.size [.pointer (some ⟨Lb,0,none⟩)]:=(Bn.new w [.pointer (some ⟨Lb,0,none⟩)] 64 _ rfl).on ((Below.refl _ _).alloc (Nat.le_refl _) _)
 have h2:Bn ((w.alloc (.cells #[.pointer (some ⟨Lb,0,none⟩)] 64)).alloc (.cells #[.int .i64 0,.int .i64 0] 23)) (w.heap.size+1) [.int .i64 0,.int .i64 0]:=Bn.new _ [.int .i64 0,.int .i64 0] 23 (w.heap.size+1) (by simp)
 have hLy:=h.on hal
 obtain ⟨ra,rb,rq,hA⟩:∃ ra rb rq,anP (asR fs)=.tuple #[.agg #[.int .i64 ra,.int .i64 rb],.bool rq]:=⟨_,_,_,rfl⟩
 have HAA:=mkHid hA
 rw [hA]
 clear hA
 go_enter Tryz.func32,Tryz.ntmps32
 go_upto_region 1 with fail
 generalize ((w.alloc (.cells #[.pointer (some ⟨Lb,0,none⟩)] 64)).alloc (.cells #[.int .i64 0,.int .i64 0] 23))=wx at *
 have hcall:Calls Tryz.prog 55 #[.pointer (some ⟨Lb,0,none⟩),.func (.func 64) #[] #[.pointer (some ⟨w.heap.size,0,none⟩)]] wx fun e w'=>e=.returned (anP (asR fs))∧Below wx.heap.size wx w':=firstOn_any hLy hf.l hf.o 64 #[] #[.pointer (some ⟨w.heap.size,0,none⟩)] (enters_of Tryz.func64 (by kernel_rfl) rfl) _ (fun i hi j hj cs W W' hb hr hb'=>by
  rw [qO_of hi hj]
  exact as1_any ((hLy.on hb).on hb') hf.ah hf.l hr w.heap.size ((h0.on hb).on hb') i hi)
 rw [HAA.out] at hcall
 clear h hLy
 obtain ⟨x0,_⟩:=h0 0 _ rfl
 go_wp2_with (first | (go_at_call 55;refine hcall.mono ?_;rintro e w1 ⟨rfl,b1⟩;have h2':=h2.on b1;obtain ⟨y0,f0⟩:=h2' 0 _ rfl;obtain ⟨y1,f1⟩:=h2' 1 _ rfl) | fail)
 have hz:=(h2'.set (i:=0) (by simp) (.int .i64 ra)).set (i:=1) (by simp) (.int .i64 rb)
 have hbz:=putL_below [.int .i64 ra,.int .i64 rb] w1 (w.heap.size+1) 0 (hal.trans (b1.mono hal.size)) (by omega)
 exact bodyPost_ret (asR_any_res hz rfl rfl) rfl ⟨rfl,hbz⟩
theorem bwR_any_res {w:World}{R:Nat}{a b:Int}{q:Bool}{tmps:Array Value}(hR:Bn w R [.int .i64 a,.int .i64 b]) (ht:tmps.getD 2 undef=.pointer (some ⟨R,0,none⟩)) (ht2:tmps.getD 3 undef=.bool q):(results Tryz.f33 tmps).run Tryz.prog w=.ok (.tuple #[.agg #[.int .i64 a,.int .i64 b],.bool q]) w:=by
 have ht':tmps[2]?.getD undef=.pointer (some ⟨R,0,none⟩):=by simpa using ht
 have ht2':tmps[3]?.getD undef=.bool q:=by simpa using ht2
 have c0:=(hR 0 _ rfl).1
 have c1:=(hR 1 _ rfl).1
 simp [results,Tryz.results33,go_sem,ht',ht2',c0,c1]
set_option maxRecDepth 100000 in
set_option maxHeartbeats 8000000 in
theorem bwR_any {ok:Nat→Prop}{w:World}{Lb d:Nat}{c:ChG d}{fs:List (Int × SgS)}(h:Ly ok w Lb c fs) (hf:FsOk c fs) :
  Calls Tryz.prog 33 #[.pointer (some ⟨Lb,0,none⟩)] w fun e w'=>e=.returned (anP (bwR fs))∧Below w.heap.size w w':=by
 have hal:Below w.heap.size w ((w.alloc (.cells #[.pointer (some ⟨Lb,0,none⟩)] 64)).alloc (.cells #[.int .i64 0,.int .i64 0] 23)):=((Below.refl _ _).alloc (Nat.le_refl _) _).alloc (by simp) _
 have h0:Bn ((w.alloc (.cells #[.pointer (some ⟨Lb,0,none⟩)] 64)).alloc (.cells #[.int .i64 0,.int .i64 0] 23)) w.heap.size [.pointer (some ⟨Lb,0,none⟩)]:=(Bn.new w [.pointer (some ⟨Lb,0,none⟩)] 64 _ rfl).on ((Below.refl _ _).alloc (Nat.le_refl _) _)
 have h2:Bn ((w.alloc (.cells #[.pointer (some ⟨Lb,0,none⟩)] 64)).alloc (.cells #[.int .i64 0,.int .i64 0] 23)) (w.heap.size+1) [.int .i64 0,.int .i64 0]:=Bn.new _ [.int .i64 0,.int .i64 0] 23 (w.heap.size+1) (by simp)
 have hLy:=h.on hal
 obtain ⟨ra,rb,rq,hA⟩:∃ ra rb rq,anP (bwR fs)=.tuple #[.agg #[.int .i64 ra,.int .i64 rb],.bool rq]:=⟨_,_,_,rfl⟩
 have HAA:=mkHid hA
 rw [hA]
 clear hA
 go_enter Tryz.func33,Tryz.ntmps33
 go_upto_region 1 with fail
 generalize ((w.alloc (.cells #[.pointer (some ⟨Lb,0,none⟩)] 64)).alloc (.cells #[.int .i64 0,.int .i64 0] 23))=wx at *
 have hcall:Calls Tryz.prog 55 #[.pointer (some ⟨Lb,0,none⟩),.func (.func 66) #[] #[.pointer (some ⟨w.heap.size,0,none⟩)]] wx fun e w'=>e=.returned (anP (bwR fs))∧Below wx.heap.size wx w':=firstOn_any hLy hf.l hf.o 66 #[] #[.pointer (some ⟨w.heap.size,0,none⟩)] (enters_of Tryz.func66 (by kernel_rfl) rfl) _ (fun i hi j hj cs W W' hb hr hb'=>by
  rw [qO_of hi hj]
  exact bw1_any ((hLy.on hb).on hb') hf.l hr w.heap.size ((h0.on hb).on hb') i)
 rw [HAA.out] at hcall
 clear h hLy
 obtain ⟨x0,_⟩:=h0 0 _ rfl
 go_wp2_with (first | (go_at_call 55;refine hcall.mono ?_;rintro e w1 ⟨rfl,b1⟩;have h2':=h2.on b1;obtain ⟨y0,f0⟩:=h2' 0 _ rfl;obtain ⟨y1,f1⟩:=h2' 1 _ rfl) | fail)
 have hz:=(h2'.set (i:=0) (by simp) (.int .i64 ra)).set (i:=1) (by simp) (.int .i64 rb)
 have hbz:=putL_below [.int .i64 ra,.int .i64 rb] w1 (w.heap.size+1) 0 (hal.trans (b1.mono hal.size)) (by omega)
 exact bodyPost_ret (bwR_any_res hz rfl rfl) rfl ⟨rfl,hbz⟩
theorem miR_any_res {w:World}{R:Nat}{a b:Int}{q:Bool}{tmps:Array Value}(hR:Bn w R [.int .i64 a,.int .i64 b]) (ht:tmps.getD 2 undef=.pointer (some ⟨R,0,none⟩)) (ht2:tmps.getD 3 undef=.bool q):(results Tryz.f31 tmps).run Tryz.prog w=.ok (.tuple #[.agg #[.int .i64 a,.int .i64 b],.bool q]) w:=by
 have ht':tmps[2]?.getD undef=.pointer (some ⟨R,0,none⟩):=by simpa using ht
 have ht2':tmps[3]?.getD undef=.bool q:=by simpa using ht2
 have c0:=(hR 0 _ rfl).1
 have c1:=(hR 1 _ rfl).1
 simp [results,Tryz.results31,go_sem,ht',ht2',c0,c1]
set_option maxRecDepth 100000 in
set_option maxHeartbeats 8000000 in
theorem miR_any {ok:Nat→Prop}{w:World}{Lb d:Nat}{c:ChG d}{fs:List (Int × SgS)}(h:Ly ok w Lb c fs) (hf:FsOk c fs) :
  Calls Tryz.prog 31 #[.pointer (some ⟨Lb,0,none⟩)] w fun e w'=>e=.returned (anP (miR fs))∧Below w.heap.size w w':=by
 have hal:Below w.heap.size w ((w.alloc (.cells #[.pointer (some ⟨Lb,0,none⟩)] 64)).alloc (.cells #[.int .i64 0,.int .i64 0] 23)):=((Below.refl _ _).alloc (Nat.le_refl _) _).alloc (by simp) _
 have h0:Bn ((w.alloc (.cells #[.pointer (some ⟨Lb,0,none⟩)] 64)).alloc (.cells #[.int .i64 0,.int .i64 0] 23)) w.heap.size [.pointer (some ⟨Lb,0,none⟩)]:=(Bn.new w [.pointer (some ⟨Lb,0,none⟩)] 64 _ rfl).on ((Below.refl _ _).alloc (Nat.le_refl _) _)
 have h2:Bn ((w.alloc (.cells #[.pointer (some ⟨Lb,0,none⟩)] 64)).alloc (.cells #[.int .i64 0,.int .i64 0] 23)) (w.heap.size+1) [.int .i64 0,.int .i64 0]:=Bn.new _ [.int .i64 0,.int .i64 0] 23 (w.heap.size+1) (by simp)
 have hLy:=h.on hal
 obtain ⟨ra,rb,rq,hA⟩:∃ ra rb rq,anP (miR fs)=.tuple #[.agg #[.int .i64 ra,.int .i64 rb],.bool rq]:=⟨_,_,_,rfl⟩
 have HAA:=mkHid hA
 rw [hA]
 clear hA
 go_enter Tryz.func31,Tryz.ntmps31
 go_upto_region 1 with fail
 generalize ((w.alloc (.cells #[.pointer (some ⟨Lb,0,none⟩)] 64)).alloc (.cells #[.int .i64 0,.int .i64 0] 23))=wx at *
 have hcall:Calls Tryz.prog 47 #[.pointer (some ⟨Lb,0,none⟩),.func (.func 60) #[] #[.pointer (some ⟨w.heap.size,0,none⟩)],.func (.func 62) #[] #[.pointer (some ⟨w.heap.size,0,none⟩)]] wx fun e w'=>e=.returned (anP (miR fs))∧Below wx.heap.size wx w':=first_any hLy hf.l hf.o 60 #[] #[.pointer (some ⟨w.heap.size,0,none⟩)] 62 #[] #[.pointer (some ⟨w.heap.size,0,none⟩)] _ _ (enters_of Tryz.func60 (by kernel_rfl) rfl) (enters_of Tryz.func62 (by kernel_rfl) rfl) (fun i hi W hb=>by
  rw [atB_of hi]
  exact mi1_any (hLy.on hb) hf.st w.heap.size (h0.on hb) i hi) (fun i hi j hj W hb=>by
  rw [qO_of hi hj]
  exact mi2_any (hLy.on hb) w.heap.size (h0.on hb) i hi j hj)
 rw [HAA.out] at hcall
 clear h hLy
 obtain ⟨x0,_⟩:=h0 0 _ rfl
 go_wp2_with (first | (go_at_call 47;refine hcall.mono ?_;rintro e w1 ⟨rfl,b1⟩;have h2':=h2.on b1;obtain ⟨y0,f0⟩:=h2' 0 _ rfl;obtain ⟨y1,f1⟩:=h2' 1 _ rfl) | fail)
 have hz:=(h2'.set (i:=0) (by simp) (.int .i64 ra)).set (i:=1) (by simp) (.int .i64 rb)
 have hbz:=putL_below [.int .i64 ra,.int .i64 rb] w1 (w.heap.size+1) 0 (hal.trans (b1.mono hal.size)) (by omega)
 exact bodyPost_ret (miR_any_res hz rfl rfl) rfl ⟨rfl,hbz⟩
theorem orR_any_res {w:World}{R:Nat}{a b:Int}{q:Bool}{tmps:Array Value}(hR:Bn w R [.int .i64 a,.int .i64 b]) (ht:tmps.getD 2 undef=.pointer (some ⟨R,0,none⟩)) (ht2:tmps.getD 3 undef=.bool q):(results Tryz.f29 tmps).run Tryz.prog w=.ok (.tuple #[.agg #[.int .i64 a,.int .i64 b],.bool q]) w:=by
 have ht':tmps[2]?.getD undef=.pointer (some ⟨R,0,none⟩):=by simpa using ht
 have ht2':tmps[3]?.getD undef=.bool q:=by simpa using ht2
 have c0:=(hR 0 _ rfl).1
 have c1:=(hR 1 _ rfl).1
 simp [results,Tryz.results29,go_sem,ht',ht2',c0,c1]
set_option maxRecDepth 100000 in
set_option maxHeartbeats 8000000 in
theorem orR_any {ok:Nat→Prop}{w:World}{Lb d:Nat}{c:ChG d}{fs:List (Int × SgS)}(h:Ly ok w Lb c fs) (hf:FsOk c fs) :
  Calls Tryz.prog 29 #[.pointer (some ⟨Lb,0,none⟩)] w fun e w'=>e=.returned (anP (orR fs))∧Below w.heap.size w w':=by
 have hal:Below w.heap.size w (w.alloc (.cells #[.int .i64 0,.int .i64 0] 23)):=(Below.refl _ _).alloc (Nat.le_refl _) _
 have h2:Bn (w.alloc (.cells #[.int .i64 0,.int .i64 0] 23)) w.heap.size [.int .i64 0,.int .i64 0]:=Bn.new _ [.int .i64 0,.int .i64 0] 23 _ rfl
 have hLy:=h.on hal
 obtain ⟨ra,rb,rq,hA⟩:∃ ra rb rq,anP (orR fs)=.tuple #[.agg #[.int .i64 ra,.int .i64 rb],.bool rq]:=⟨_,_,_,rfl⟩
 have HAA:=mkHid hA
 rw [hA]
 clear hA
 go_enter Tryz.func29,Tryz.ntmps29
 go_upto_region 1 with fail
 generalize (w.alloc (.cells #[.int .i64 0,.int .i64 0] 23))=wx at *
 have hcall:Calls Tryz.prog 51 #[.pointer (some ⟨Lb,0,none⟩),.func (.func 54) #[] #[]] wx fun e w'=>e=.returned (anP (orR fs))∧Below wx.heap.size wx w':=firstState_any hLy hf.l hf.o 54 #[] #[] (enters_of Tryz.func54 (by kernel_rfl) rfl) (orP fs) (fun i hi cs W W' hb hr hb'=>by
  unfold orP
  rw [atB_of hi]
  exact or1_any hr W' i)
 rw [HAA.out] at hcall
 clear h hLy
 go_wp2_with (first | (go_at_call 51;refine hcall.mono ?_;rintro e w1 ⟨rfl,b1⟩;have h2':=h2.on b1;obtain ⟨y0,f0⟩:=h2' 0 _ rfl;obtain ⟨y1,f1⟩:=h2' 1 _ rfl) | fail)
 have hz:=(h2'.set (i:=0) (by simp) (.int .i64 ra)).set (i:=1) (by simp) (.int .i64 rb)
 have hbz:=putL_below [.int .i64 ra,.int .i64 rb] w1 w.heap.size 0 (hal.trans (b1.mono hal.size)) (Nat.le_refl _)
 exact bodyPost_ret (orR_any_res hz rfl rfl) rfl ⟨rfl,hbz⟩
theorem tmR_any_res {w:World}{R:Nat}{a b:Int}{q:Bool}{tmps:Array Value}(hR:Bn w R [.int .i64 a,.int .i64 b]) (ht:tmps.getD 2 undef=.pointer (some ⟨R,0,none⟩)) (ht2:tmps.getD 3 undef=.bool q):(results Tryz.f27 tmps).run Tryz.prog w=.ok (.tuple #[.agg #[.int .i64 a,.int .i64 b],.bool q]) w:=by
 have ht':tmps[2]?.getD undef=.pointer (some ⟨R,0,none⟩):=by simpa using ht
 have ht2':tmps[3]?.getD undef=.bool q:=by simpa using ht2
 have c0:=(hR 0 _ rfl).1
 have c1:=(hR 1 _ rfl).1
 simp [results,Tryz.results27,go_sem,ht',ht2',c0,c1]
theorem varP_at {ok:Nat→Prop}{w:World}{l:List (List UInt8 × Int × Pl)}{a:Option Addr}{n cap:Nat}(h:RdK ok w 4 (rVar ok w) l (.slice a n cap)) (j:Nat) (hj:j < l.length):∃ (b off:Nat) (x0:ByteArray) (x1 x2 x3:Int),a=some ⟨b,off,none⟩∧b < w.heap.size∧Hid (x0=⟨(l[j]).1.toArray⟩∧(l[j]).2.2=(x2,x3))∧∀ i u,[.string x0,.int .i64 x1,.int .i64 x2,.int .i64 x3][i]?=some u→w.cell? ⟨b,off+j*4+i,none⟩=some u:=by
 obtain ⟨b,off,cs,ha,_,hb,_,hr,hc⟩:=rdK_at h j hj
 have hr':cs=varV l[j]:=hr
 subst hr'
 exact ⟨b,off,_,_,_,_,ha,hb,⟨rfl,rfl⟩,hc⟩
set_option maxRecDepth 100000 in
set_option maxHeartbeats 8000000 in
theorem tmR_any {ok:Nat→Prop}{w:World}{Lb d:Nat}{c:ChG d}{fs:List (Int × SgS)}(h:Ly ok w Lb c fs) (hf:FsOk c fs) :
  Calls Tryz.prog 27 #[.pointer (some ⟨Lb,0,none⟩)] w fun e w'=>e=.returned (anP (tmR c fs))∧Below w.heap.size w w':=by
 have hal:Below w.heap.size w ((w.alloc (.cells #[.pointer (some ⟨Lb,0,none⟩)] 64)).alloc (.cells #[.int .i64 0,.int .i64 0] 23)):=((Below.refl _ _).alloc (Nat.le_refl _) _).alloc (by simp) _
 have h0:Bn ((w.alloc (.cells #[.pointer (some ⟨Lb,0,none⟩)] 64)).alloc (.cells #[.int .i64 0,.int .i64 0] 23)) w.heap.size [.pointer (some ⟨Lb,0,none⟩)]:=(Bn.new w [.pointer (some ⟨Lb,0,none⟩)] 64 _ rfl).on ((Below.refl _ _).alloc (Nat.le_refl _) _)
 have h2:Bn ((w.alloc (.cells #[.pointer (some ⟨Lb,0,none⟩)] 64)).alloc (.cells #[.int .i64 0,.int .i64 0] 23)) (w.heap.size+1) [.int .i64 0,.int .i64 0]:=Bn.new _ [.int .i64 0,.int .i64 0] 23 (w.heap.size+1) (by simp)
 have hLy:=h.on hal
 go_enter Tryz.func27,Tryz.ntmps27
 go_upto_region 1 with fail
 generalize ((w.alloc (.cells #[.pointer (some ⟨Lb,0,none⟩)] 64)).alloc (.cells #[.int .i64 0,.int .i64 0] 23))=wx at *
 have hcall:Calls Tryz.prog 47 #[.pointer (some ⟨Lb,0,none⟩),.func (.func 48) #[] #[],.func (.func 49) #[] #[.pointer (some ⟨w.heap.size,0,none⟩)]] wx fun e w'=>e=.returned (anP (frS (fun i=>(i:Int) == 40) (qO fs (fun _ j _ o=>decide ((j:Int)=6) || decide (4 < o.2.2.2.1.length))) fs 0))∧Below wx.heap.size wx w':=first_any hLy hf.l hf.o 48 #[] #[] 49 #[] #[.pointer (some ⟨w.heap.size,0,none⟩)] _ _ (enters_of Tryz.func48 (by kernel_rfl) rfl) (enters_of Tryz.func49 (by kernel_rfl) rfl) (fun i hi W hb=>tm1_any W i) (fun i hi j hj W hb=>by
  rw [qO_of hi hj]
  exact tm2_any (hLy.on hb) w.heap.size (h0.on hb) i hi j hj)
 obtain ⟨g0,g1,g2,g3,g4,g6,g7,g8,g9,sa,sc0,oa,oc,k1,k2,k3,k4,k5⟩:=hLy
 obtain ⟨x0,_⟩:=h0 0 _ rfl
 obtain ⟨c2,_⟩:=k1 2 _ rfl
 obtain ⟨c3,_⟩:=k1 3 _ rfl
 obtain ⟨c4,_⟩:=k1 4 _ rfl
 obtain ⟨c6,_⟩:=k1 6 _ rfl
 obtain ⟨y0,f0⟩:=h2 0 _ rfl
 obtain ⟨y1,f1⟩:=h2 1 _ rfl
 obtain ⟨nv,hnv⟩:∃ nv,c.2.2.1.length=nv:=⟨_,rfl⟩
 obtain ⟨n,hn⟩:∃ n,fs.length=n:=⟨_,rfl⟩
 rw [hnv] at c4
 rw [hn] at c6
 by_cases hv:8 < nv
 ·have hv8:8 < c.2.2.1.length:=by rw [hnv];exact hv
  obtain ⟨b,off,v0,v1,v2,v3,rfl,_,HV,hc⟩:=varP_at k2 8 hv8
  have HE:Hid (tmR c fs=some (v2,v3)):=by
   show _=_
   unfold tmR
   rw [List.getElem?_eq_getElem hv8]
   exact congrArg some HV.out.2
  have V2:=hc 2 _ rfl
  have V3:=hc 3 _ rfl
  have i1:(nv:Int) > 8:=by omega
  have i2:(8:Int) < (nv:Int):=by omega
  have hz:=(h2.set (i:=0) (by simp) (.int .i64 v2)).set (i:=1) (by simp) (.int .i64 v3)
  have hbz:=putL_below [.int .i64 v2,.int .i64 v3] wx (w.heap.size+1) 0 hal (by omega)
  clear hc hnv hn k1 k2 k3 k4 k5 hcall
  go_wp2
  exact bodyPost_ret (tmR_any_res hz rfl rfl) rfl ⟨by rw [HE.out];rfl,hbz⟩
 ·have i1:¬ (nv:Int) > 8:=by omega
  by_cases hz0:n=0
  ·have HE:Hid (tmR c fs=some (g2,g3)):=by
    show _=_
    unfold tmR
    rw [List.getElem?_eq_none (by omega)]
    simp only []
    rw [if_pos (by omega),k5]
   have i3:(n:Int)=0:=by omega
   have hz:=(h2.set (i:=0) (by simp) (.int .i64 g2)).set (i:=1) (by simp) (.int .i64 g3)
   have hbz:=putL_below [.int .i64 g2,.int .i64 g3] wx (w.heap.size+1) 0 hal (by omega)
   clear hnv k1 k2 k3 k4 k5 hcall hv
   subst hz0
   clear hn i3
   go_wp2
   exact bodyPost_ret (tmR_any_res hz rfl rfl) rfl ⟨by rw [HE.out];rfl,hbz⟩
  ·have i3:¬ (n:Int)=0:=by omega
   have e1:tmR c fs=frS (fun i=>(i:Int) == 40) (qO fs (fun _ j _ o=>decide ((j:Int)=6) || decide (4 < o.2.2.2.1.length))) fs 0:=by
    unfold tmR
    rw [List.getElem?_eq_none (by omega)]
    simp only []
    rw [if_neg (by omega)]
   rw [← e1] at hcall
   obtain ⟨ra,rb,rq,hA⟩:∃ ra rb rq,anP (tmR c fs)=.tuple #[.agg #[.int .i64 ra,.int .i64 rb],.bool rq]:=⟨_,_,_,rfl⟩
   rw [hA] at hcall
   have HAA:=mkHid hA
   clear hA e1 hnv hn k1 k2 k3 k4 k5 hv hz0 y0 y1 f0 f1
   go_wp2_with (first | (go_at_call 47;refine hcall.mono ?_;rintro e w1 ⟨rfl,b1⟩;have h2':=h2.on b1;obtain ⟨y0,f0⟩:=h2' 0 _ rfl;obtain ⟨y1,f1⟩:=h2' 1 _ rfl) | fail)
   have hz:=(h2'.set (i:=0) (by simp) (.int .i64 ra)).set (i:=1) (by simp) (.int .i64 rb)
   have hbz:=putL_below [.int .i64 ra,.int .i64 rb] w1 (w.heap.size+1) 0 (hal.trans (b1.mono hal.size)) (by omega)
   exact bodyPost_ret (tmR_any_res hz rfl rfl) rfl ⟨by rw [HAA.out],hbz⟩
theorem ntR_any_res {w:World}{R:Nat}{a b:Int}{q:Bool}{tmps:Array Value}(hR:Bn w R [.int .i64 a,.int .i64 b]) (ht:tmps.getD 2 undef=.pointer (some ⟨R,0,none⟩)) (ht2:tmps.getD 3 undef=.bool q):(results Tryz.f28 tmps).run Tryz.prog w=.ok (.tuple #[.agg #[.int .i64 a,.int .i64 b],.bool q]) w:=by
 have ht':tmps[2]?.getD undef=.pointer (some ⟨R,0,none⟩):=by simpa using ht
 have ht2':tmps[3]?.getD undef=.bool q:=by simpa using ht2
 have c0:=(hR 0 _ rfl).1
 have c1:=(hR 1 _ rfl).1
 simp [results,Tryz.results28,go_sem,ht',ht2',c0,c1]
set_option maxRecDepth 100000 in
set_option maxHeartbeats 8000000 in
theorem ntR_any {ok:Nat→Prop}{w:World}{Lb d:Nat}{c:ChG d}{fs:List (Int × SgS)}(h:Ly ok w Lb c fs) (hf:FsOk c fs) :
  Calls Tryz.prog 28 #[.pointer (some ⟨Lb,0,none⟩)] w fun e w'=>e=.returned (anP (ntR c fs))∧Below w.heap.size w w':=by
 have hal:Below w.heap.size w ((w.alloc (.cells #[.pointer (some ⟨Lb,0,none⟩)] 64)).alloc (.cells #[.int .i64 0,.int .i64 0] 23)):=((Below.refl _ _).alloc (Nat.le_refl _) _).alloc (by simp) _
 have h0:Bn ((w.alloc (.cells #[.pointer (some ⟨Lb,0,none⟩)] 64)).alloc (.cells #[.int .i64 0,.int .i64 0] 23)) w.heap.size [.pointer (some ⟨Lb,0,none⟩)]:=(Bn.new w [.pointer (some ⟨Lb,0,none⟩)] 64 _ rfl).on ((Below.refl _ _).alloc (Nat.le_refl _) _)
 have h2:Bn ((w.alloc (.cells #[.pointer (some ⟨Lb,0,none⟩)] 64)).alloc (.cells #[.int .i64 0,.int .i64 0] 23)) (w.heap.size+1) [.int .i64 0,.int .i64 0]:=Bn.new _ [.int .i64 0,.int .i64 0] 23 (w.heap.size+1) (by simp)
 have hLy:=h.on hal
 go_enter Tryz.func28,Tryz.ntmps28
 go_upto_region 1 with fail
 generalize ((w.alloc (.cells #[.pointer (some ⟨Lb,0,none⟩)] 64)).alloc (.cells #[.int .i64 0,.int .i64 0] 23))=wx at *
 have hcall:∀ w1,Below wx.heap.size wx w1→Calls Tryz.prog 51 #[.pointer (some ⟨Lb,0,none⟩),.func (.func 52) #[] #[.pointer (some ⟨w.heap.size,0,none⟩)]] w1 fun e w'=>e=.returned (anP (frS (ntP fs) (fun _ _=>false) fs 0))∧Below w1.heap.size w1 w':=fun w1 b1=>firstState_any (hLy.on b1) hf.l hf.o 52 #[] #[.pointer (some ⟨w.heap.size,0,none⟩)] (enters_of Tryz.func52 (by kernel_rfl) rfl) (ntP fs) (fun i hi cs W W' hb hr hb'=>by
  unfold ntP
  rw [atB_of hi]
  exact nt1_any hr (((hLy.on b1).on hb).on hb') hf.l w.heap.size (((h0.on b1).on hb).on hb') i)
 have hvar:=fun w1 nm (b1:Below wx.heap.size wx w1)=>varL_any (hLy.on b1) hf.v nm
 have hvl:=hf.v
 obtain ⟨g0,g1,g2,g3,g4,g6,g7,g8,g9,sa,sc0,oa,oc,k1,k2,k3,k4,k5⟩:=hLy
 obtain ⟨hvc,hvm⟩:c.2.2.1.length≤g6∧g6≤maxLen:=by
  obtain ⟨_,_,he,q1,q2⟩:=k2.form
  simp only [Value.slice.injEq] at he
  omega
 unfold maxLen at hvm
 obtain ⟨x0,_⟩:=h0 0 _ rfl
 obtain ⟨c4,_⟩:=k1 4 _ rfl
 obtain ⟨nv,hnv⟩:∃ nv,c.2.2.1.length=nv:=⟨_,rfl⟩
 rw [hnv] at c4 hvc hvl
 have HV:=mkHid k2
 rw [hnv] at HV
 have HN:=mkHid hnv
 clear k1 k2 k3 k4 k5 hnv hf h
 go_wp2
 go_loopw [12] (fun ix wr=>∃ (k:Nat),k≤nv∧ix=.int .i64 (k:Int)∧Hid (ntV c.2.2.1 c.2.2.1 0=ntV c.2.2.1 (c.2.2.1.drop k) k)∧Below wx.heap.size wx wr) (fun ix _=>nv - (RowKit.intOf ix).toNat)
 case atStart=>exact ⟨0,Nat.zero_le _,rfl,by show _=_;rw [List.drop_zero],Below.refl _ _⟩
 case round=>
  obtain ⟨k,hk,rfl,HX,hb⟩:=hrel
  have h2r:=h2.on hb
  have h0r:=h0.on hb
  obtain ⟨x0r,_⟩:=h0r 0 _ rfl
  by_cases hlt:k < nv
  ·have hkl:k < c.2.2.1.length:=by rw [HN.out];exact hlt
   obtain ⟨b,off,v0,v1,v2,v3,rfl,hbl,HVV,hc⟩:=varP_at HV.out k hkl
   have C0:=(hb.cell (p:=⟨b,off+k*4+0,none⟩) hbl).trans (hc 0 _ rfl)
   have C1:=(hb.cell (p:=⟨b,off+k*4+1,none⟩) hbl).trans (hc 1 _ rfl)
   have C2:=(hb.cell (p:=⟨b,off+k*4+2,none⟩) hbl).trans (hc 2 _ rfl)
   have C3:=(hb.cell (p:=⟨b,off+k*4+3,none⟩) hbl).trans (hc 3 _ rfl)
   rw [Nat.add_zero] at C0
   clear hc
   have i1:(k:Int) < (nv:Int):=by omega
   have i2:(0:Int)≤(k:Int):=by omega
   have hal3:Below wr.heap.size wr (wr.alloc (.cells #[.string v0,.int .i64 v1,.int .i64 v2,.int .i64 v3] 61)):=(Below.refl _ _).alloc (Nat.le_refl _) _
   have hY:=Bn.new wr [.string v0,.int .i64 v1,.int .i64 v2,.int .i64 v3] 61 _ rfl
   go_upto_region 4 with fail
   generalize (wr.alloc (.cells #[.string v0,.int .i64 v1,.int .i64 v2,.int .i64 v3] 61))=wy at *
   have hby:Below wx.heap.size wx wy:=hb.trans (hal3.mono hb.size)
   have hv1:=hvar wy v0 hby
   obtain ⟨F,hF⟩:∃ F,fdV c.2.2.1 v0=F:=⟨_,rfl⟩
   rw [hF] at hv1
   have HS:Hid (ntV c.2.2.1 c.2.2.1 0=if F < (k:Int) then some (v2,v3) else ntV c.2.2.1 (c.2.2.1.drop (k+1)) (k+1)):=by
    show _=_
    rw [HX.out,List.drop_eq_getElem_cons hkl]
    conv=>lhs;unfold ntV
    rw [← HVV.out.1,HVV.out.2,hF]
   obtain ⟨y0,_⟩:=hY 0 _ rfl
   obtain ⟨x0y,_⟩:=(h0r.on hal3) 0 _ rfl
   have h2y:=h2r.on hal3
   obtain ⟨Y,hYY⟩:∃ Y,wr.heap.size=Y:=⟨_,rfl⟩
   rw [hYY] at hY y0 ⊢
   clear C0 C1 C2 C3 hF HVV HX hYY
   by_cases hlF:F < (k:Int)
   ·have HE:Hid (ntR c fs=some (v2,v3)):=by
     show _=_
     unfold ntR
     rw [HS.out,if_pos hlF]
    go_upto_region 5 with (first | (go_at_call 50;refine hv1.mono ?_;rintro e w1 ⟨rfl,b1⟩) | fail)
    obtain ⟨z2,_⟩:=(hY.on b1) 2 _ rfl
    obtain ⟨z3,_⟩:=(hY.on b1) 3 _ rfl
    have h2':=h2y.on b1
    obtain ⟨u0,f0⟩:=h2' 0 _ rfl
    obtain ⟨u1,f1⟩:=h2' 1 _ rfl
    have hz:=(h2'.set (i:=0) (by simp) (.int .i64 v2)).set (i:=1) (by simp) (.int .i64 v3)
    have hbw:=hal.trans ((hby.trans (b1.mono hby.size)).mono hal.size)
    have hbz:=putL_below [.int .i64 v2,.int .i64 v3] w1 (w.heap.size+1) 0 hbw (by omega)
    go_wp2
    exact bodyPost_ret (ntR_any_res hz rfl rfl) rfl ⟨by rw [HE.out];rfl,hbz⟩
   ·have HE:Hid (ntV c.2.2.1 c.2.2.1 0=ntV c.2.2.1 (c.2.2.1.drop (k+1)) (k+1)):=by
     show _=_
     rw [HS.out,if_neg hlF]
    go_upto_region 6 with (first | (go_at_call 50;refine hv1.mono ?_;rintro e w1 ⟨rfl,b1⟩) | fail)
    have hbb:=hby.trans (b1.mono hby.size)
    go_wp2
    go_roundw
    case rel=>exact ⟨k+1,hlt,by go_num,HE,hbb⟩
    case measure=>simp [RowKit.intOf];omega
  ·have i1:¬ (k:Int) < (nv:Int):=by omega
   have e1:ntR c fs=frS (ntP fs) (fun _ _=>false) fs 0:=by
    unfold ntR
    rw [HX.out,List.drop_of_length_le (by rw [HN.out];omega)]
    rfl
   have hc2:=hcall wr hb
   rw [← e1] at hc2
   obtain ⟨ra,rb,rq,hA⟩:∃ ra rb rq,anP (ntR c fs)=.tuple #[.agg #[.int .i64 ra,.int .i64 rb],.bool rq]:=⟨_,_,_,rfl⟩
   rw [hA] at hc2
   have HAA:=mkHid hA
   clear hA e1 hcall hvar
   go_wp2_with (first | (go_at_call 51;refine hc2.mono ?_;rintro e w1 ⟨rfl,b1⟩;have h2':=h2r.on b1;obtain ⟨y0,f0⟩:=h2' 0 _ rfl;obtain ⟨y1,f1⟩:=h2' 1 _ rfl) | fail)
   have hz:=(h2'.set (i:=0) (by simp) (.int .i64 ra)).set (i:=1) (by simp) (.int .i64 rb)
   have hbw:=hal.trans ((hb.trans (b1.mono hb.size)).mono hal.size)
   have hbz:=putL_below [.int .i64 ra,.int .i64 rb] w1 (w.heap.size+1) 0 hbw (by omega)
   exact bodyPost_ret (ntR_any_res hz rfl rfl) rfl ⟨by rw [HAA.out],hbz⟩
end Go.Proofs.YtlgnahpfggagoaaGreatDoor
