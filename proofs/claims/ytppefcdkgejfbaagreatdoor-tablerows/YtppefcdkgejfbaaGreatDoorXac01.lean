import Derived.WalkKit
import Derived.WalkLawsBesides
import Derived.WalkSpells
import Derived.OwnWalk
import Derived.Deep.AppendSrc
import Derived.Deep.DeepAppendWide
import Derived.Laws.BytesArg
import Derived.Laws.OwnMore
import Derived.Test.YtppefcdkgejfbaaGreatDoorRows
import Derived.Deep.AppendLies
import Derived.Deep.RegionHeldLaw
import Derived.Deep.DrawnRows
import Derived.Lib.TrimUEq
import Derived.Lib.MapLaws
import Derived.Lib.ItoaNum
import Derived.BigQuiet
import Derived.Deep.QuietTactic
import Derived.BigRegion
namespace Go.Proofs.YtppefcdkgejfbaaGreatDoor
set_option linter.unusedVariables false
def ppar (D:Nat->Int) (d:Int):Nat->Int
 | 0=>-1
 | k+1=>if D k < d then (k:Int) else ppar D d k
theorem ppar_lt (D:Nat->Int) (d:Int):∀ k:Nat,-1<=ppar D d k/\ppar D d k < k
 | 0=>by unfold ppar;omega
 | k+1=>by
  have:=ppar_lt D d k
  unfold ppar
  split<;>omega
theorem ppar_mid (D:Nat->Int) (d:Int):∀ (k m:Nat),ppar D d k < m->m < k->d<=D m
 | 0,m,h,hm=>by omega
 | k+1,m,h,hm=>by
  unfold ppar at h
  split at h
  ·omega
  ·rcases Nat.lt_or_ge m k with h2|h2
   ·exact ppar_mid D d k m h h2
   ·have:m=k:=by omega
    subst this;omega
theorem ppar_in (D:Nat->Int) (d:Int):∀ (k p:Nat),ppar D d k=p->D p < d
 | 0,p,h=>by unfold ppar at h;omega
 | k+1,p,h=>by
  unfold ppar at h
  split at h
  ·have:k=p:=by omega
   subst this;assumption
  ·exact ppar_in D d k p h
def pbeh (D:Nat->Int) (d:Int):Nat->Nat->Nat
 | 0,j=>j
 | f+1,j=>if d < D j then pbeh D d f (j+1) else j
theorem pbeh_le (D:Nat->Int) (d:Int):∀ f j:Nat,j<=pbeh D d f j/\pbeh D d f j<=j+f
 | 0,j=>by unfold pbeh;omega
 | f+1,j=>by
  have:=pbeh_le D d f (j+1)
  unfold pbeh
  split<;>omega
theorem pbeh_mid (D:Nat->Int) (d:Int):∀ f j m:Nat,j<=m->m < pbeh D d f j->d < D m
 | 0,j,m,h1,h2=>by unfold pbeh at h2;omega
 | f+1,j,m,h1,h2=>by
  unfold pbeh at h2
  split at h2
  ·rcases Nat.lt_or_ge j m with h|h
   ·exact pbeh_mid D d f (j+1) m h h2
   ·have:m=j:=by omega
    subst this;assumption
  ·omega
theorem pbeh_end (D:Nat->Int) (d:Int):∀ f j:Nat,pbeh D d f j < j+f->D (pbeh D d f j)<=d
 | 0,j,h=>by unfold pbeh at h;omega
 | f+1,j,h=>by
  unfold pbeh at h ⊢
  split at h
  ·rename_i hd
   rw [if_pos hd]
   exact pbeh_end D d f (j+1) (by omega)
  ·rename_i hd
   rw [if_neg hd];omega
def nst (D:Nat->Int) (n:Nat):Prop:=∀ i < n,0<=D i/\(i=0->D i<=0)/\(0 < i->D i<=D (i - 1)+1)
def FmP (n:Nat) (D P B:Nat->Int) (L:Nat->Bool):Prop:=
 n<=40/\nst D n/\∀ i < n,P i=ppar D (D i) i/\B i=(pbeh D (D i) (n - (i+1)) (i+1):Nat)/\L i=decide (B i=(i:Int)+1)
def okR (P:Nat->Int) (p:Int):Nat->Int->Bool
 | 0,_=>false
 | f+1,k=>if k < 0 then false else if p=k then true else okR P p f (P k.toNat)
def Prn (n:Nat) (D P:Nat->Int):Prop:=∀ i < n,P i=ppar D (D i) i
def Anc (D:Nat->Int) (p c:Int):Prop:=0<=p/\p<=c/\∀ m:Nat,p < m->m<=c->D p.toNat < D m
theorem anc_up {n:Nat}{D P:Nat->Int}(hP:Prn n D P) {c:Nat}(hc:c < n) {p:Int}(hp:p < c):Anc D p c↔Anc D p (P c):=by
 have e:=hP c hc
 have hl:=ppar_lt D (D c) c
 rw [<- e] at hl
 constructor
 ·rintro ⟨h1,h2,h3⟩
  have hle:p<=P c:=by
   rcases Int.lt_or_le (P c) p with h|h
   ·have:=ppar_mid D (D c) c p.toNat (by rw [<- e];omega) (by omega)
    have:=h3 c (by omega) (by omega)
    omega
   ·exact h
  exact ⟨h1,hle,fun m a b=>h3 m a (by omega)⟩
 ·rintro ⟨h1,h2,h3⟩
  refine ⟨h1,by omega,fun m a b=>?_⟩
  have hin:=ppar_in D (D c) c (P c).toNat (by rw [<- e];omega)
  have hpc:D p.toNat<=D (P c).toNat:=by
   rcases Int.lt_or_le p (P c) with h|h
   ·have:=h3 (P c).toNat (by omega) (by omega)
    omega
   ·have:p=P c:=by omega
    rw [this];exact Int.le_refl _
  rcases Int.lt_or_le (P c) m with h|h
  ·rcases Nat.lt_or_ge m c with h5|h5
   ·have:=ppar_mid D (D c) c m (by rw [<- e];exact h) h5
    omega
   ·have:m=c:=by omega
    subst this;omega
  ·have:=h3 m a h
   exact this
def lsP (B:Nat->Int) (i j:Int):Bool:=decide (j < i) && decide (i < B j.toNat)
theorem FmP.par {n:Nat}{D P B:Nat->Int}{L:Nat->Bool}(h:FmP n D P B L):Prn n D P:=fun i hi=>(h.2.2 i hi).1
theorem FmP.plt {n:Nat}{D P B:Nat->Int}{L:Nat->Bool}(h:FmP n D P B L) {i:Nat}(hi:i < n) : -1<=P i/\P i < i:=by
 rw [(h.2.2 i hi).1];exact ppar_lt _ _ _
theorem lsP_anc {n:Nat}{D P B:Nat->Int}{L:Nat->Bool}(h:FmP n D P B L) {i j:Nat}(hi:i < n) (hj:j < n):lsP B i j=true↔((j:Int) < i/\Anc D j i):=by
 have e:=(h.2.2 j hj).2.1
 have hle:=pbeh_le D (D j) (n - (j+1)) (j+1)
 unfold lsP
 rw [Bool.and_eq_true,decide_eq_true_eq,decide_eq_true_eq,Int.toNat_natCast,e]
 constructor
 ·rintro ⟨h1,h2⟩
  refine ⟨h1,by omega,by omega,fun m a b=>?_⟩
  rw [Int.toNat_natCast]
  exact pbeh_mid D (D j) (n - (j+1)) (j+1) m (by omega) (by omega)
 ·rintro ⟨h1,_,_,h3⟩
  refine ⟨h1,?_⟩
  rcases Nat.lt_or_ge i (pbeh D (D j) (n - (j+1)) (j+1)) with h5|h5
  ·omega
  ·have:=pbeh_end D (D j) (n - (j+1)) (j+1) (by omega)
   have:=h3 (pbeh D (D j) (n - (j+1)) (j+1)) (by omega) (by omega)
   rw [Int.toNat_natCast] at this
   omega
def mtC (P B:Nat->Int) (j:Int):Nat->Int->Int
 | 0,_=>-1
 | f+1,k=>if k < 0 then -1 else if lsP B j k then k else mtC P B j f (P k.toNat)
theorem mtC_more {n:Nat}{D P B:Nat->Int}{L:Nat->Bool}(h:FmP n D P B L) (j:Int):∀ (f:Nat) (k:Int),k < f->k < n->-1<=k->mtC P B j f k=mtC P B j (k+1).toNat k
 | 0,k,h1,h2,h3=>by
  have:k = -1:=by omega
  subst this;rfl
 | f+1,k,h1,h2,h3=>by
  by_cases h0:k < 0
  ·have:k = -1:=by omega
   subst this
   unfold mtC;rw [if_pos (by omega)];rfl
  have e:(k+1).toNat=k.toNat+1:=by omega
  rw [e]
  unfold mtC
  rw [if_neg h0,if_neg h0]
  have hl:=h.plt (i:=k.toNat) (by omega)
  rw [mtC_more h j f (P k.toNat) (by omega) (by omega) (by omega),mtC_more h j k.toNat (P k.toNat) (by omega) (by omega) (by omega)]
end Go.Proofs.YtppefcdkgejfbaaGreatDoor
namespace Go.Proofs.YtppefcdkgejfbaaGreatDoor
set_option linter.unusedSimpArgs false
set_option linter.unusedVariables false
def T:Nat->Type
 | 0=>Empty
 | d+1=>Int × Int × ByteArray × List (T d)
abbrev mkT {d:Nat}(k n:Int) (s:ByteArray) (ps:List (T d)):T (d+1):=((k,n,s,ps):Int × Int × ByteArray × List (T d))
theorem T.open {d:Nat}(t:T (d+1)):∃ k n s ps,t=mkT k n s ps:=by
 have t':Int × Int × ByteArray × List (T d):=t
 exact ⟨(show Int × Int × ByteArray × List (T d) from t).1,(show Int × Int × ByteArray × List (T d) from t).2.1,(show Int × Int × ByteArray × List (T d) from t).2.2.1,(show Int × Int × ByteArray × List (T d) from t).2.2.2,rfl⟩
def fold {α:Type}(f:Int->Int->ByteArray->List α->α):(d:Nat)->T d->α
 | 0,t=>Empty.elim t
 | d+1,t=>f (show Int × Int × ByteArray × List (T d) from t).1 (show Int × Int × ByteArray × List (T d) from t).2.1 (show Int × Int × ByteArray × List (T d) from t).2.2.1 (((show Int × Int × ByteArray × List (T d) from t).2.2.2).map (fold f d))
def cnt:(d:Nat)->T d->Nat:=fold (fun _ _ _ l=>l.sum+1)
theorem cnt_mk {d:Nat}(k n:Int) (s:ByteArray) (ps:List (T d)):cnt (d+1) (mkT k n s ps)=(ps.map (cnt d)).sum+1:=rfl
def shrt (m:Nat):(d:Nat)->T d->Bool:=fold (fun _ _ s l=>decide (s.size<=m) && l.all id)
theorem shrt_mk (m:Nat) {d:Nat}(k n:Int) (s:ByteArray) (ps:List (T d)):shrt m (d+1) (mkT k n s ps)=(decide (s.size<=m) && ps.all (shrt m d)):=by
 show (decide (s.size<=m) && (ps.map (shrt m d)).all id)=_
 rw [List.all_map];rfl
def thru {α:Type}(g:α->Int->Int):List α->Int->Int
 | [],x=>x
 | p :: r,x=>if g p x < 0 then -1 else thru g r (g p x)
def sml:(d:Nat)->T d->Nat->Int->Int:=fold (fun _ _ s l dep left=>if 60 < dep∨left - 1 < 0∨1000 < s.size then -1 else thru (fun g x=>g (dep+1) x) l (left - 1))
theorem sml_mk {d:Nat}(k n:Int) (s:ByteArray) (ps:List (T d)) (dep:Nat) (left:Int) :
  sml (d+1) (mkT k n s ps) dep left=if 60 < dep∨left - 1 < 0∨1000 < s.size then -1 else thru (fun p x=>sml d p (dep+1) x) ps (left - 1):=by
 show (if 60 < dep∨left - 1 < 0∨1000 < s.size then -1 else thru (fun g x=>g (dep+1) x) (ps.map (sml d)) (left - 1))=_
 split
 ·rfl
 ·generalize left - 1=x
  induction ps generalizing x with
  | nil=>rfl
  | cons p r ih=>
   simp only [List.map_cons,thru]
   split
   ·rfl
   ·exact ih _
theorem thru_ok {d:Nat}{dep:Nat}(H:∀ (p:T d) (x:Int),0<=sml d p dep x->sml d p dep x=x - cnt d p/\shrt 1000 d p=true) :
  ∀ (ps:List (T d)) (x:Int),0<=thru (fun p x=>sml d p dep x) ps x->thru (fun p x=>sml d p dep x) ps x=x - ((ps.map (cnt d)).sum:Nat)/\ps.all (shrt 1000 d)=true
 | [],x,_=>by simp [thru]
 | p :: r,x,h=>by
  unfold thru at h ⊢
  by_cases hn:sml d p dep x < 0
  ·rw [if_pos hn] at h;omega
  ·rw [if_neg hn] at h ⊢
   obtain ⟨e1,e2⟩:=H p x (by omega)
   obtain ⟨f1,f2⟩:=thru_ok H r _ h
   rw [f1,e1]
   refine ⟨by simp only [List.map_cons,List.sum_cons];omega,by simp [e2,f2]⟩
theorem sml_ok:∀ (d:Nat) (t:T d) (dep:Nat) (left:Int),0<=sml d t dep left->sml d t dep left=left - cnt d t/\shrt 1000 d t=true
 | 0,t,_,_,_=>Empty.elim t
 | d+1,t,dep,left,h=>by
  obtain ⟨k,n,s,ps,rfl⟩:=T.open t
  rw [sml_mk] at h ⊢
  split at h
  ·omega
  ·rename_i hc
   rw [if_neg hc]
   obtain ⟨e1,e2⟩:=thru_ok (fun p x hx=>sml_ok d p (dep+1) x hx) ps (left - 1) h
   rw [e1,shrt_mk,e2,cnt_mk]
   refine ⟨by omega,by simp;omega⟩
theorem cnt_pos (d:Nat) (t:T d):1<=cnt d t:=by
 match d,t with
 | 0,t=>exact Empty.elim t
 | d+1,t=>
  obtain ⟨k,n,s,ps,rfl⟩:=T.open t
  rw [cnt_mk];omega
def none0 {d:Nat}:T (d+1):=mkT 0 0 ⟨#[]⟩ []
def cln:(d:Nat)->T d->T (d+1)
 | 0,t=>Empty.elim t
 | d+1,t=>
  let x:=(show Int × Int × ByteArray × List (T d) from t)
  let part:=fun i=>(match x.2.2.2[i]? with|some p=>cln d p|none=>none0)
  if x.1=1 then mkT 1 x.2.1 ⟨#[]⟩ [] else if x.1=2 then mkT 2 0 x.2.2.1 [] else if x.1=3 then mkT 3 0 ⟨#[]⟩ [part 0] else if x.1=4 then mkT 4 0 ⟨#[]⟩ [part 0]
  else if x.1=5 then mkT 5 0 x.2.2.1 [part 0,part 1] else none0
def prt {d:Nat}(ps:List (T d)) (i:Nat):T (d+1):=match ps[i]? with|some p=>cln d p|none=>none0
theorem cln_mk {d:Nat}(k n:Int) (s:ByteArray) (ps:List (T d)):cln (d+1) (mkT k n s ps) =
  if k=1 then mkT 1 n ⟨#[]⟩ [] else if k=2 then mkT 2 0 s [] else if k=3 then mkT 3 0 ⟨#[]⟩ [prt ps 0] else if k=4 then mkT 4 0 ⟨#[]⟩ [prt ps 0]
  else if k=5 then mkT 5 0 s [prt ps 0,prt ps 1] else none0:=rfl
def Cl:(d:Nat)->T d->Prop
 | 0,t=>Empty.elim t
 | d+1,t=>
  let x:=(show Int × Int × ByteArray × List (T d) from t)
  (x.1=1/\x.2.2.1=⟨#[]⟩/\x.2.2.2=[])∨(x.1=2/\x.2.1=0/\x.2.2.2=[])∨((x.1=3∨x.1=4)/\x.2.1=0/\x.2.2.1=⟨#[]⟩/\∃ p,x.2.2.2=[p]/\Cl d p)∨
  (x.1=5/\x.2.1=0/\∃ p q,x.2.2.2=[p,q]/\Cl d p/\Cl d q)∨(x.1=0/\x.2.1=0/\x.2.2.1=⟨#[]⟩/\x.2.2.2=[])
theorem Cl.cases {d:Nat}{t:T (d+1)}(h:Cl (d+1) t):(∃ n,t=mkT 1 n ⟨#[]⟩ [])∨(∃ s,t=mkT 2 0 s [])∨(∃ k p,(k=3∨k=4)/\t=mkT k 0 ⟨#[]⟩ [p]/\Cl d p)∨
  (∃ s p q,t=mkT 5 0 s [p,q]/\Cl d p/\Cl d q)∨t=none0:=by
 obtain ⟨k,n,s,ps,rfl⟩:=T.open t
 rcases h with ⟨h1,h2,h3⟩|⟨h1,h2,h3⟩|⟨h1,h2,h3,p,h4,h5⟩|⟨h1,h2,p,q,h3,h4,h5⟩|⟨h1,h2,h3,h4⟩
 ·left;exact ⟨n,by simp only at h1 h2 h3;subst h1 h2 h3;rfl⟩
 ·right;left;exact ⟨s,by simp only at h1 h2 h3;subst h1 h2 h3;rfl⟩
 ·right;right;left;exact ⟨k,p,h1,by simp only at h2 h3 h4;subst h2 h3 h4;rfl,h5⟩
 ·right;right;right;left;exact ⟨s,p,q,by simp only at h1 h2 h3;subst h1 h2 h3;rfl,h4,h5⟩
 ·right;right;right;right;simp only at h1 h2 h3 h4;subst h1 h2 h3 h4;rfl
theorem cl_none {d:Nat}:Cl (d+1) (none0:T (d+1)):=.inr (.inr (.inr (.inr ⟨rfl,rfl,rfl,rfl⟩)))
theorem cl_cln:∀ (d:Nat) (t:T d),Cl (d+1) (cln d t)
 | 0,t=>Empty.elim t
 | d+1,t=>by
  obtain ⟨k,n,s,ps,rfl⟩:=T.open t
  have hp:∀ i,Cl (d+1) (prt ps i):=fun i=>by
   unfold prt
   split
   ·exact cl_cln d _
   ·exact cl_none
  rw [cln_mk]
  split
  ·exact .inl ⟨rfl,rfl,rfl⟩
  split
  ·exact .inr (.inl ⟨rfl,rfl,rfl⟩)
  split
  ·exact .inr (.inr (.inl ⟨.inl rfl,rfl,rfl,_,rfl,hp 0⟩))
  split
  ·exact .inr (.inr (.inl ⟨.inr rfl,rfl,rfl,_,rfl,hp 0⟩))
  split
  ·exact .inr (.inr (.inr (.inl ⟨rfl,rfl,_,_,rfl,hp 0,hp 1⟩)))
  ·exact cl_none
theorem size0:(⟨#[]⟩:ByteArray).size=0:=rfl
theorem cnt_none {d:Nat}:cnt (d+1) (none0:T (d+1))=1:=rfl
theorem cnt_cln:∀ (d:Nat) (t:T d),cnt (d+1) (cln d t)<=3*cnt d t
 | 0,t=>Empty.elim t
 | d+1,t=>by
  obtain ⟨k,n,s,ps,rfl⟩:=T.open t
  have hp:∀ i,cnt (d+1) (prt ps i)<=3*((ps[i]?).map (cnt d)).getD 0+1:=fun i=>by
   unfold prt
   split
   ·rename_i p h;rw [h];have:=cnt_cln d p;simp;omega
   ·rename_i h;rw [h,cnt_none];simp
  have hs:((ps[0]?).map (cnt d)).getD 0+((ps[1]?).map (cnt d)).getD 0<=(ps.map (cnt d)).sum:=by
   match ps with
   | []=>simp
   | [a]=>simp
   | a :: b :: r=>simp only [List.getElem?_cons_zero,List.getElem?_cons_succ,Option.map_some,Option.getD_some,List.map_cons,List.sum_cons];omega
  have h0:=hp 0
  have h1:=hp 1
  rw [cln_mk,cnt_mk]
  split
  ·rw [cnt_mk];simp only [List.map_nil,List.sum_nil];omega
  split
  ·rw [cnt_mk];simp only [List.map_nil,List.sum_nil];omega
  split
  ·rw [cnt_mk];simp only [List.map_cons,List.map_nil,List.sum_cons,List.sum_nil];omega
  split
  ·rw [cnt_mk];simp only [List.map_cons,List.map_nil,List.sum_cons,List.sum_nil];omega
  split
  ·rw [cnt_mk];simp only [List.map_cons,List.map_nil,List.sum_cons,List.sum_nil];omega
  ·rw [cnt_none];omega
theorem shrt_cln:∀ (m d:Nat) (t:T d),shrt m d t=true->shrt m (d+1) (cln d t)=true
 | m,0,t,_=>Empty.elim t
 | m,d+1,t,h=>by
  obtain ⟨k,n,s,ps,rfl⟩:=T.open t
  rw [shrt_mk] at h
  simp only [Bool.and_eq_true,decide_eq_true_eq,List.all_eq_true] at h
  have hn:shrt m (d+1) (none0:T (d+1))=true:=by unfold none0;rw [shrt_mk];simp [size0]
  have hp:∀ i,shrt m (d+1) (prt ps i)=true:=fun i=>by
   unfold prt
   split
   ·rename_i p hp;exact shrt_cln m d p (h.2 p (List.mem_of_getElem? hp))
   ·exact hn
  rw [cln_mk]
  split
  ·rw [shrt_mk];simp [size0]
  split
  ·rw [shrt_mk];simp [h.1]
  split
  ·rw [shrt_mk];simp [size0,hp 0]
  split
  ·rw [shrt_mk];simp [size0,hp 0]
  split
  ·rw [shrt_mk];simp [hp 0,hp 1,h.1]
  ·exact hn
end Go.Proofs.YtppefcdkgejfbaaGreatDoor
namespace Go.Proofs.YtppefcdkgejfbaaGreatDoor
open Go.RowKit
set_option linter.unusedSimpArgs false
set_option linter.unusedVariables false
def Room (bytes:Nat) (v:Value) (n r:Nat):Prop:=(∃ a cap,v=.slice (some a) n cap/\n+r<=cap)∨(n+r+(n+r) / 4+192)*bytes<=281474976710656
section
variable {P:Program}(w:World)
theorem run_append_room_src_own (t tx ty e:TypeId) (i:TypeInfo) (ht:P.underlying t=some (.slice e)) (hi:P.info? e=some i)
  (g sLen sCap:Nat) (cur:Array Value) (hg:w.heap[g]?=some (.cells cur e (0,0))) (x:Value) (m:Nat) (news:List Value) (hs:Src P i.size tx x m news w)
  (hroom:sLen+m<=sCap) (hfit:sLen*i.size+news.length<=cur.size) :
  (Builtin.append_ #[t,tx] ty #[.slice (some ⟨g,0,none⟩) sLen sCap,x]).run P w =
   .ok (.slice (some ⟨g,0,none⟩) (sLen+m) sCap) (w.setRow g (cur.toList.take (sLen*i.size)++news++cur.toList.drop (sLen*i.size+news.length)).toArray):=by
 have hst:=run_storeCells_at P g (sLen*i.size) e news 0 cur w hg (by simpa using hfit) hs.one
 simp only [Nat.add_zero] at hst
 rcases hs.kind with ⟨e',hk⟩|hk<;>simp [Builtin.append_,run_underlying ht,run_underlying hk,sizeOf,typeInfo,hi,hs.len,hroom,hs.cells,Addr.add_lit,hst]
theorem run_append_nothing (t tx ty e:TypeId) (i:TypeInfo) (ht:P.underlying t=some (.slice e)) (hi:P.info? e=some i) (x:Value) (hs:Src P i.size tx x 0 [] w) :
  (Builtin.append_ #[t,tx] ty #[.slice none 0 0,x]).run P w=.ok (.slice none 0 0) w:=by
 have hc:=hs.cells
 rcases hs.kind with ⟨e',hk⟩|hk<;>simp [Builtin.append_,run_underlying ht,run_underlying hk,sizeOf,typeInfo,hi,hs.len,hc]
theorem run_append_both (base:Nat) (t tx ty e:TypeId) (i:TypeInfo) (z:Value) (size bytes:Nat) (ht:P.underlying t=some (.slice e)) (hi:P.info? e=some i) (hz:i.zero=some z)
  (hsize:i.size=size) (hby:i.bytes=bytes) (hzs:z.cells.size=size)
  (v:Value) (n:Nat) (xs:List Value) (hown:w.ownsRow base e size v n xs)
  (x:Value) (m:Nat) (news:List Value) (hs:Src P size tx x m news w) (r:Nat) (hroom:Room bytes v n r) (hm:m<=r)
  (h63:n+r<=maxLen) (hbase:base<=w.heap.size) :
  ∃ v' w',(Builtin.append_ #[t,tx] ty #[v,x]).run P w=.ok v' w'/\w'.ownsRow base e size v' (n+m) (xs++news)/\w.grownBy w' v.ownBlock/\Room bytes v' (n+m) (r - m):=by
 subst hsize
 subst hby
 have hl:=hs.newsLen
 have h63':n+m<=9223372036854775807:=by simp only [maxLen] at h63;omega
 have h63m:n+m<=maxLen:=by simp only [maxLen] at h63 ⊢;omega
 have hlen:(xs++news).length=(n+m)*i.size:=by rw [List.length_append,hown.1,hl,Nat.add_mul]
 have grown:∀ (old:Nat),old < n+m->∀ (row:Option Nat),
   (w.drew.alloc (.cells ((xs++news).toArray++Builtin.zeroCells z.cells (grownCap w (n+m) old e - (n+m))) e)).ownsRow base e i.size
    (.slice (some ⟨w.heap.size,0,none⟩) (n+m) (grownCap w (n+m) old e)) (n+m) (xs++news)/\
   w.grownBy (w.drew.alloc (.cells ((xs++news).toArray++Builtin.zeroCells z.cells (grownCap w (n+m) old e - (n+m))) e)) row:=by
  intro old ho row
  have hge:=grownCap_ge w (n+m) old e
  have hcm:grownCap w (n+m) old e<=maxLen:=grownCap_le_maxLen w (n+m) old e h63m
  refine ⟨⟨hlen,.inr ⟨w.heap.size,_,_,rfl,hbase,heap_alloc_new w.drew _,hge,hcm,?_,?_⟩⟩,⟨rfl,rfl,rfl,by simp,fun k hk _=>Below.heap_alloc w.drew _ k hk⟩⟩
  ·simp only [Array.size_append,List.size_toArray,size_zeroCells,hzs,hlen,<- Nat.add_mul]
   congr 1
   omega
  ·simp only [Array.toList_append]
   rw [<- hlen]
   exact List.take_left
 have bound:∀ {a cap},v=.slice a n cap->cap < n+m->(n+r+(n+r) / 4+192)*i.bytes<=281474976710656:=by
  intro a cap hv hc
  rcases hroom with ⟨a',cap',hv',hc'⟩|h
  ·rw [hv] at hv'
   simp only [Value.slice.injEq] at hv'
   omega
  ·exact h
 rcases hown.2 with ⟨rfl,rfl⟩|⟨g,cap,cur,rfl,hbg,hg,hnc,hcm,hcs,htake⟩
 ·have hx:xs=[]:=List.eq_nil_of_length_eq_zero (by simpa using hown.1)
  subst hx
  by_cases hm0:m=0
  ·subst hm0
   have hn:news=[]:=List.eq_nil_of_length_eq_zero (by simpa using hl)
   subst hn
   exact ⟨.slice none 0 0,w,run_append_nothing w t tx ty e i ht hi x hs,World.ownsRow_nil w base e i.size,World.grownBy.refl w _,by simpa using hroom⟩
  ·have hb:=bound rfl (by omega)
   have hr:=run_append_grow_src (P:=P) w t tx ty e i z ht hi hz none 0 0 [] (by simp [Builtin.firstCells]) x m news hs (by omega) (by omega) (growslice_fits_wide (by omega) (Nat.le_trans (Nat.mul_le_mul_right _ (by omega)) hb))
   have hgr:=grown 0 (by omega) (Value.ownBlock (.slice none 0 0))
   simp only [Nat.zero_add,List.nil_append] at hgr hr ⊢
   exact ⟨_,_,hr,hgr.1,hgr.2,.inr (Nat.le_trans (Nat.mul_le_mul_right _ (by omega)) hb)⟩
 ·by_cases hrm:n+m<=cap
  ·have hfit:n*i.size+news.length<=cur.size:=by rw [hl,hcs,<- Nat.add_mul];exact Nat.mul_le_mul_right _ hrm
   have hr:=run_append_room_src_own (P:=P) w t tx ty e i ht hi g n cap cur hg x m news hs hrm hfit
   refine ⟨_,_,hr,⟨hlen,.inr ⟨g,cap,_,rfl,hbg,setRow_heap w g cur _ e _ hg,hrm,hcm,?_,?_⟩⟩,⟨rfl,rfl,rfl,by simp,fun k _ hk=>setRow_other w g k _ (fun e=>hk (by simp [Value.ownBlock,e]))⟩,?_⟩
   ·simp only [List.size_toArray,List.length_append,List.length_take,List.length_drop,Array.length_toList]
    omega
   ·rw [htake,<- hlen]
    exact List.take_left
   ·rcases hroom with ⟨a,c,hv,hc⟩|h
    ·simp only [Value.slice.injEq] at hv
     exact .inl ⟨_,_,rfl,by omega⟩
    ·exact .inr (Nat.le_trans (Nat.mul_le_mul_right _ (by omega)) h)
  ·have hb:=bound rfl (by omega)
   have holds:∀ j u,xs[j]?=some u->w.cell? ((⟨g,0,none⟩:Addr).add j)=some u:=hown.cells (g:=g) rfl
   have hr:=run_append_grow_src (P:=P) w t tx ty e i z ht hi hz (some ⟨g,0,none⟩) n cap xs (run_firstCells_some w.drew i.size n ⟨g,0,none⟩ n cap xs hown.1 (by simpa using holds)) x m news hs (by omega) (by omega)
    (growslice_fits_wide (by omega) (Nat.le_trans (Nat.mul_le_mul_right _ (by omega)) hb))
   have hgr:=grown cap (by omega) (Value.ownBlock (.slice (some ⟨g,0,none⟩) n cap))
   exact ⟨_,_,hr,hgr.1,hgr.2,.inr (Nat.le_trans (Nat.mul_le_mul_right _ (by omega)) hb)⟩
end
theorem add_plain (b off i:Nat):(⟨b,off,none⟩:Addr).add i=⟨b,off+i,none⟩:=by unfold Addr.add;split<;>simp_all
def RdP {α:Type}(ok:Nat->Prop) (w:World) (R:α->Value->Prop) (l:List α) (v:Value):Prop:=
 ∃ a cap,v=.slice a l.length cap/\l.length<=cap/\cap<=maxLen/\(a=none->l=[])/\
  ∀ x,a=some x->∀ (i:Nat) (h:i < l.length),ok x.block/\∃ c0 c1 c2 c3,R l[i] (.agg #[c0,c1,c2,c3])/\w.cell? (x.add (i*4))=some c0/\w.cell? (x.add (i*4+1))=some c1/\w.cell? (x.add (i*4+2))=some c2/\w.cell? (x.add (i*4+3))=some c3
def RdT (ok:Nat->Prop) (w:World):(d:Nat)->T d->Value->Prop
 | 0,t,_=>Empty.elim t
 | d+1,t,v=>∃ sl,v=.agg #[.int .i64 (show Int × Int × ByteArray × List (T d) from t).1,.int .i64 (show Int × Int × ByteArray × List (T d) from t).2.1,.string (show Int × Int × ByteArray × List (T d) from t).2.2.1,sl]/\RdP ok w (RdT ok w d) (show Int × Int × ByteArray × List (T d) from t).2.2.2 sl
theorem rdT_mk {ok:Nat->Prop}{w:World}{d:Nat}{k n:Int}{s:ByteArray}{ps:List (T d)}{v:Value}:RdT ok w (d+1) (mkT k n s ps) v↔∃ sl,v=.agg #[.int .i64 k,.int .i64 n,.string s,sl]/\RdP ok w (RdT ok w d) ps sl:=Iff.rfl
theorem keep_cell {w w':World}{p:Addr}{u:Value}(h:w'.heap[p.block]?=w.heap[p.block]?) (hc:w.cell? p=some u):w'.cell? p=some u:=by
 unfold World.cell? at hc ⊢
 rw [h]
 exact hc
theorem add_block (x:Addr) (i:Nat):(x.add i).block=x.block:=by unfold Addr.add;split<;>rfl
theorem RdP.keep {α:Type}{ok ok':Nat->Prop}{w w':World}{R R':α->Value->Prop}{l:List α}{v:Value}(h:RdP ok w R l v) (hR:∀ x∈l,∀ u,R x u->R' x u) (hk:∀ b,ok b->b < w.heap.size->ok' b/\w'.heap[b]?=w.heap[b]?):RdP ok' w' R' l v:=by
 obtain ⟨a,cap,rfl,hc,hm,hn,hcell⟩:=h
 refine ⟨a,cap,rfl,hc,hm,hn,fun x hx i hi=>?_⟩
 obtain ⟨ho,c0,c1,c2,c3,h0,h1,h2,h3,h4⟩:=hcell x hx i hi
 have hb:x.block < w.heap.size:=by
  have:=World.block_lt_of_cell? w _ h1
  rw [add_block] at this
  exact this
 obtain ⟨ho',hs⟩:=hk _ ho hb
 have kk:∀ j u,w.cell? (x.add j)=some u->w'.cell? (x.add j)=some u:=fun j u hu=>keep_cell (by rw [add_block];exact hs) hu
 exact ⟨ho',c0,c1,c2,c3,hR _ (List.getElem_mem hi) _ h0,kk _ _ h1,kk _ _ h2,kk _ _ h3,kk _ _ h4⟩
theorem RdT.keep {ok ok':Nat->Prop}{w w':World}(hk:∀ b,ok b->b < w.heap.size->ok' b/\w'.heap[b]?=w.heap[b]?):∀ {d:Nat}{t:T d}{v:Value},RdT ok w d t v->RdT ok' w' d t v
 | 0,t,v,h=>Empty.elim t
 | d+1,t,v,h=>by
  obtain ⟨sl,hv,hp⟩:=h
  exact ⟨sl,hv,hp.keep (fun x _ u hu=>RdT.keep hk hu) hk⟩
theorem RdT.below {ok:Nat->Prop}{w w':World}{B:Nat}(hb:Below B w w') (hB:w.heap.size<=B) {d:Nat}{t:T d}{v:Value}(h:RdT ok w d t v):RdT ok w' d t v:=
 RdT.keep (fun b ho hl=>⟨ho,hb.block b (by omega)⟩) h
theorem RdP.below {ok:Nat->Prop}{w w':World}{d:Nat}{l:List (T d)}{v:Value}{B:Nat}(h:RdP ok w (RdT ok w d) l v) (hb:Below B w w') (hB:w.heap.size<=B):RdP ok w' (RdT ok w' d) l v:=
 h.keep (fun x _ u hu=>RdT.below hb hB hu) (fun b ho hl=>⟨ho,hb.block b (by omega)⟩)
theorem RdP.form {α:Type}{ok:Nat->Prop}{w:World}{R:α->Value->Prop}{l:List α}{v:Value}(h:RdP ok w R l v):∃ a cap,v=.slice a l.length cap/\l.length<=cap/\cap<=9223372036854775807/\
  ∀ (i:Nat) (hi:i < l.length),∃ b off c0 c1 c2 c3,a=some ⟨b,off,none⟩/\b < w.heap.size/\R l[i] (.agg #[c0,c1,c2,c3])/\w.cell? ⟨b,off+i*4,none⟩=some c0/\w.cell? ⟨b,off+i*4+1,none⟩=some c1/\w.cell? ⟨b,off+i*4+2,none⟩=some c2/\w.cell? ⟨b,off+i*4+3,none⟩=some c3:=by
 obtain ⟨a,cap,rfl,hc,hm,hn,hcell⟩:=h
 refine ⟨a,cap,rfl,hc,by unfold maxLen at hm;omega,fun i hi=>?_⟩
 cases a with
 | none=>have:=hn rfl;subst this;simp at hi
 | some x=>
  obtain ⟨b,off,spot⟩:=x
  obtain ⟨_,c0,c1,c2,c3,h0,h1,h2,h3,h4⟩:=hcell _ rfl i hi
  obtain ⟨_,_,_,_,_,_,z1,_⟩:=hcell _ rfl 0 (by omega)
  have hspot:spot=none:=by simpa [Addr.add] using World.cell?_spot z1
  subst hspot
  rw [add_plain] at h1 h2 h3 h4
  exact ⟨b,off,c0,c1,c2,c3,rfl,World.block_lt_of_cell? w _ h1,h0,h1,h2,h3,h4⟩
def At4 (w:World) (X:Nat) (a b c e:Value):Prop:=w.cell? ⟨X,0,none⟩=some a/\w.cell? ⟨X,1,none⟩=some b/\w.cell? ⟨X,2,none⟩=some c/\w.cell? ⟨X,3,none⟩=some e
theorem At4.keepB {w w':World}{X B:Nat}{a b c e:Value}(h:At4 w X a b c e) (hb:Below B w w') (hX:X < B):At4 w' X a b c e:=by
 refine ⟨?_,?_,?_,?_⟩
 ·rw [hb.cell (p:=⟨X,0,none⟩) hX];exact h.1
 ·rw [hb.cell (p:=⟨X,1,none⟩) hX];exact h.2.1
 ·rw [hb.cell (p:=⟨X,2,none⟩) hX];exact h.2.2.1
 ·rw [hb.cell (p:=⟨X,3,none⟩) hX];exact h.2.2.2
theorem At4.new (w:World) (a b c e:Value) (T:TypeId):At4 (w.alloc (.cells #[a,b,c,e] T)) w.heap.size a b c e:=⟨by simp,by simp,by simp,by simp⟩
structure B4 (w:World) (X:Nat) (a b c e:Value):Prop where
 c0:w.cell? ⟨X,0,none⟩=some a
 c1:w.cell? ⟨X,1,none⟩=some b
 c2:w.cell? ⟨X,2,none⟩=some c
 c3:w.cell? ⟨X,3,none⟩=some e
 f0:w.frozen? ⟨X,0,none⟩=false
 f1:w.frozen? ⟨X,1,none⟩=false
 f2:w.frozen? ⟨X,2,none⟩=false
 f3:w.frozen? ⟨X,3,none⟩=false
theorem cell_same4 {w:World}{p:Addr}{u v:Value}(h:w.cell? p=some u):(w.setCell p v).cell? p=some v:=World.cell?_setCell_same' w _ v (by rw [h];rfl)
theorem cell_far4 {w:World}{X i Y j:Nat}{u v:Value}(hne:¬ (X=Y/\i=j)) (h:w.cell? ⟨Y,j,none⟩=some u):(w.setCell ⟨X,i,none⟩ v).cell? ⟨Y,j,none⟩=some u:=
 (World.cell?_setCell_other w ⟨X,i,none⟩ ⟨Y,j,none⟩ v (by simp;intro h1 h2;exact hne ⟨h1,h2⟩)).trans h
theorem ownsRow_keep {w w':World}{base e size:Nat}{v:Value}{n:Nat}{xs:List Value}(h:w.ownsRow base e size v n xs) (hk:∀ g,v.ownBlock=some g->w'.heap[g]?=w.heap[g]?):w'.ownsRow base e size v n xs:=by
 refine ⟨h.1,?_⟩
 rcases h.2 with hn|⟨g,cap,cur,rfl,hbg,hg,rest⟩
 ·exact .inl hn
 ·exact .inr ⟨g,cap,cur,rfl,hbg,by rw [hk g rfl];exact hg,rest⟩
theorem ownsRow_lt {w:World}{base e size:Nat}{v:Value}{n:Nat}{xs:List Value}(h:w.ownsRow base e size v n xs):∀ g,v.ownBlock=some g->base<=g/\g < w.heap.size:=by
 intro g hg
 rcases h.2 with ⟨rfl,_⟩|⟨g',cap,cur,rfl,hbg,hgg,rest⟩
 ·simp [Value.ownBlock] at hg
 ·simp [Value.ownBlock] at hg
  subst hg
  exact ⟨hbg,(Array.getElem?_eq_some_iff.1 hgg).1⟩
theorem step_append_both {P:Program}(w:World) {ops:Array Oper}{o:Oper}{a:Act}{K:Act->World->Prop}{Q:Exit->Act->World->Prop}{E:Prop}(hgd:o.guard=none) (s x:Operand) (t tx:TypeId)
  (ho:o.op=.call { callee:=.builtin .append,args:=#[s,x],argTypes:=#[t,tx] })
  (base:Nat) (e:TypeId) (i:TypeInfo) (z:Value) (size bytes:Nat) (ht:P.underlying t=some (.slice e)) (hi:P.info? e=some i) (hz:i.zero=some z)
  (hsize:i.size=size) (hby:i.bytes=bytes) (hzs:z.cells.size=size)
  (v:Value) (n:Nat) (xs:List Value) (hs:a.eval s=v) (hown:w.ownsRow base e size v n xs)
  (xv:Value) (m:Nat) (news:List Value) (hx:a.eval x=xv) (hsrc:Src P size tx xv m news w) (r:Nat) (hroom:Room bytes v n r) (hm:m<=r)
  (h63:n+r<=maxLen) (hbase:base<=w.heap.size)
  (h:∀ v' w',w'.ownsRow base e size v' (n+m) (xs++news)->w.grownBy w' v.ownBlock->Room bytes v' (n+m) (r - m)->K (a.put o.dst v') w') :
  if Region.wanted o (yielded ops a.tmps)=true then Oper.wp P o a w K Q else E:=by
 have hw:Region.wanted o (yielded ops a.tmps)=true:=by simp [Region.wanted,hgd]
 rw [if_pos hw]
 obtain ⟨v',w',hr,h2,h3,h4⟩:=run_append_both (P:=P) w base t tx o.type e i z size bytes ht hi hz hsize hby hzs v n xs hown xv m news hsrc r hroom hm h63 hbase
 unfold Oper.wp execOp
 simp only [ho,resolve,invoke,builtin,Sem.run_bind,Sem.run_pure,Result.andThen_ok,List.map_toArray,List.map_cons,List.map_nil,hs,hx,hr]
 exact h v' w' h2 h3 h4
section
variable {P:Program}(w:World)
theorem run_append_at (base:Nat) (t tx ty e:TypeId) (i:TypeInfo) (z:Value) (size bytes:Nat) (ht:P.underlying t=some (.slice e)) (hi:P.info? e=some i) (hz:i.zero=some z)
  (hsize:i.size=size) (hby:i.bytes=bytes) (hzs:z.cells.size=size)
  (v:Value) (n:Nat) (xs:List Value) (hown:w.ownsRow base e size v n xs)
  (x:Value) (m:Nat) (news:List Value) (hs:Src P size tx x m news w) (r:Nat) (hroom:Room bytes v n r) (hm:m<=r)
  (h63:n+r<=maxLen) (hbase:base<=w.heap.size) :
  ∃ v' w',(Builtin.append_ #[t,tx] ty #[v,x]).run P w=.ok v' w'/\w'.ownsRow base e size v' (n+m) (xs++news)/\w.grownBy w' v.ownBlock/\Room bytes v' (n+m) (r - m)/\(v'.ownBlock=v.ownBlock∨v'.ownBlock=some w.heap.size):=by
 subst hsize
 subst hby
 have hl:=hs.newsLen
 have h63':n+m<=9223372036854775807:=by simp only [maxLen] at h63;omega
 have h63m:n+m<=maxLen:=by simp only [maxLen] at h63 ⊢;omega
 have hlen:(xs++news).length=(n+m)*i.size:=by rw [List.length_append,hown.1,hl,Nat.add_mul]
 have grown:∀ (old:Nat),old < n+m->∀ (row:Option Nat),
   (w.drew.alloc (.cells ((xs++news).toArray++Builtin.zeroCells z.cells (grownCap w (n+m) old e - (n+m))) e)).ownsRow base e i.size
    (.slice (some ⟨w.heap.size,0,none⟩) (n+m) (grownCap w (n+m) old e)) (n+m) (xs++news)/\
   w.grownBy (w.drew.alloc (.cells ((xs++news).toArray++Builtin.zeroCells z.cells (grownCap w (n+m) old e - (n+m))) e)) row:=by
  intro old ho row
  have hge:=grownCap_ge w (n+m) old e
  have hcm:grownCap w (n+m) old e<=maxLen:=grownCap_le_maxLen w (n+m) old e h63m
  refine ⟨⟨hlen,.inr ⟨w.heap.size,_,_,rfl,hbase,heap_alloc_new w.drew _,hge,hcm,?_,?_⟩⟩,⟨rfl,rfl,rfl,by simp,fun k hk _=>Below.heap_alloc w.drew _ k hk⟩⟩
  ·simp only [Array.size_append,List.size_toArray,size_zeroCells,hzs,hlen,<- Nat.add_mul]
   congr 1
   omega
  ·simp only [Array.toList_append]
   rw [<- hlen]
   exact List.take_left
 have bound:∀ {a cap},v=.slice a n cap->cap < n+m->(n+r+(n+r) / 4+192)*i.bytes<=281474976710656:=by
  intro a cap hv hc
  rcases hroom with ⟨a',cap',hv',hc'⟩|h
  ·rw [hv] at hv'
   simp only [Value.slice.injEq] at hv'
   omega
  ·exact h
 rcases hown.2 with ⟨rfl,rfl⟩|⟨g,cap,cur,rfl,hbg,hg,hnc,hcm,hcs,htake⟩
 ·have hx:xs=[]:=List.eq_nil_of_length_eq_zero (by simpa using hown.1)
  subst hx
  by_cases hm0:m=0
  ·subst hm0
   have hn:news=[]:=List.eq_nil_of_length_eq_zero (by simpa using hl)
   subst hn
   exact ⟨.slice none 0 0,w,run_append_nothing w t tx ty e i ht hi x hs,World.ownsRow_nil w base e i.size,World.grownBy.refl w _,by simpa using hroom,.inl rfl⟩
  ·have hb:=bound rfl (by omega)
   have hr:=run_append_grow_src (P:=P) w t tx ty e i z ht hi hz none 0 0 [] (by simp [Builtin.firstCells]) x m news hs (by omega) (by omega) (growslice_fits_wide (by omega) (Nat.le_trans (Nat.mul_le_mul_right _ (by omega)) hb))
   have hgr:=grown 0 (by omega) (Value.ownBlock (.slice none 0 0))
   simp only [Nat.zero_add,List.nil_append] at hgr hr ⊢
   exact ⟨_,_,hr,hgr.1,hgr.2,.inr (Nat.le_trans (Nat.mul_le_mul_right _ (by omega)) hb),.inr rfl⟩
 ·by_cases hrm:n+m<=cap
  ·have hfit:n*i.size+news.length<=cur.size:=by rw [hl,hcs,<- Nat.add_mul];exact Nat.mul_le_mul_right _ hrm
   have hr:=run_append_room_src_own (P:=P) w t tx ty e i ht hi g n cap cur hg x m news hs hrm hfit
   refine ⟨_,_,hr,⟨hlen,.inr ⟨g,cap,_,rfl,hbg,setRow_heap w g cur _ e _ hg,hrm,hcm,?_,?_⟩⟩,⟨rfl,rfl,rfl,by simp,fun k _ hk=>setRow_other w g k _ (fun e=>hk (by simp [Value.ownBlock,e]))⟩,?_,.inl rfl⟩
   ·simp only [List.size_toArray,List.length_append,List.length_take,List.length_drop,Array.length_toList]
    omega
   ·rw [htake,<- hlen]
    exact List.take_left
   ·rcases hroom with ⟨a,c,hv,hc⟩|h
    ·simp only [Value.slice.injEq] at hv
     exact .inl ⟨_,_,rfl,by omega⟩
    ·exact .inr (Nat.le_trans (Nat.mul_le_mul_right _ (by omega)) h)
  ·have hb:=bound rfl (by omega)
   have holds:∀ j u,xs[j]?=some u->w.cell? ((⟨g,0,none⟩:Addr).add j)=some u:=hown.cells (g:=g) rfl
   have hr:=run_append_grow_src (P:=P) w t tx ty e i z ht hi hz (some ⟨g,0,none⟩) n cap xs (run_firstCells_some w.drew i.size n ⟨g,0,none⟩ n cap xs hown.1 (by simpa using holds)) x m news hs (by omega) (by omega)
    (growslice_fits_wide (by omega) (Nat.le_trans (Nat.mul_le_mul_right _ (by omega)) hb))
   have hgr:=grown cap (by omega) (Value.ownBlock (.slice (some ⟨g,0,none⟩) n cap))
   exact ⟨_,_,hr,hgr.1,hgr.2,.inr (Nat.le_trans (Nat.mul_le_mul_right _ (by omega)) hb),.inr rfl⟩
theorem wpList_append_at {ops:Array Oper}{rest:List Oper}{o:Oper}{a:Act}{Q:Exit->Act->World->Prop}(hgd:o.guard=none) (s x:Operand) (t tx:TypeId)
  (ho:o.op=.call { callee:=.builtin .append,args:=#[s,x],argTypes:=#[t,tx] })
  (base:Nat) (e:TypeId) (i:TypeInfo) (z:Value) (size bytes:Nat) (ht:P.underlying t=some (.slice e)) (hi:P.info? e=some i) (hz:i.zero=some z)
  (hsize:i.size=size) (hby:i.bytes=bytes) (hzs:z.cells.size=size)
  (v:Value) (n:Nat) (xs:List Value) (hs:a.eval s=v) (hown:w.ownsRow base e size v n xs)
  (xv:Value) (m:Nat) (news:List Value) (hx:a.eval x=xv) (hsrc:Src P size tx xv m news w) (r:Nat) (hroom:Room bytes v n r) (hm:m<=r)
  (h63:n+r<=maxLen) (hbase:base<=w.heap.size)
  (h:∀ v' w',w'.ownsRow base e size v' (n+m) (xs++news)->w.grownBy w' v.ownBlock->(v'.ownBlock=v.ownBlock∨v'.ownBlock=some w.heap.size)->wpList P ops Q rest (a.put o.dst v') w'):wpList P ops Q (o :: rest) a w:=by
 refine wpList_plain hgd fun K hK=>?_
 obtain ⟨v',w',hr,h2,h3,_,h4⟩:=run_append_at (P:=P) w base t tx o.type e i z size bytes ht hi hz hsize hby hzs v n xs hown xv m news hsrc r hroom hm h63 hbase
 unfold Oper.wp execOp
 simp only [ho,resolve,invoke,builtin,Sem.run_bind,Sem.run_pure,Result.andThen_ok,List.map_toArray,List.map_cons,List.map_nil,hs,hx,hr]
 exact hK _ _ (h v' w' h2 h3 h4)
end
theorem step_append_at {P:Program}(w:World) {ops:Array Oper}{o:Oper}{a:Act}{K:Act->World->Prop}{Q:Exit->Act->World->Prop}{E:Prop}(hgd:o.guard=none) (s x:Operand) (t tx:TypeId)
  (ho:o.op=.call { callee:=.builtin .append,args:=#[s,x],argTypes:=#[t,tx] })
  (base:Nat) (e:TypeId) (i:TypeInfo) (z:Value) (size bytes:Nat) (ht:P.underlying t=some (.slice e)) (hi:P.info? e=some i) (hz:i.zero=some z)
  (hsize:i.size=size) (hby:i.bytes=bytes) (hzs:z.cells.size=size)
  (v:Value) (n:Nat) (xs:List Value) (hs:a.eval s=v) (hown:w.ownsRow base e size v n xs)
  (xv:Value) (m:Nat) (news:List Value) (hx:a.eval x=xv) (hsrc:Src P size tx xv m news w) (r:Nat) (hroom:Room bytes v n r) (hm:m<=r)
  (h63:n+r<=maxLen) (hbase:base<=w.heap.size)
  (h:∀ v' w',w'.ownsRow base e size v' (n+m) (xs++news)->w.grownBy w' v.ownBlock->(v'.ownBlock=v.ownBlock∨v'.ownBlock=some w.heap.size)->K (a.put o.dst v') w') :
  if Region.wanted o (yielded ops a.tmps)=true then Oper.wp P o a w K Q else E:=by
 have hw:Region.wanted o (yielded ops a.tmps)=true:=by simp [Region.wanted,hgd]
 rw [if_pos hw]
 obtain ⟨v',w',hr,h2,h3,_,h4⟩:=run_append_at (P:=P) w base t tx o.type e i z size bytes ht hi hz hsize hby hzs v n xs hown xv m news hsrc r hroom hm h63 hbase
 unfold Oper.wp execOp
 simp only [ho,resolve,invoke,builtin,Sem.run_bind,Sem.run_pure,Result.andThen_ok,List.map_toArray,List.map_cons,List.map_nil,hs,hx,hr]
 exact h v' w' h2 h3 h4
end Go.Proofs.YtppefcdkgejfbaaGreatDoor
namespace Go.Proofs.YtppefcdkgejfbaaGreatDoor
set_option linter.unusedSimpArgs false
set_option linter.unusedVariables false
end Go.Proofs.YtppefcdkgejfbaaGreatDoor
namespace Go.Proofs.YtppefcdkgejfbaaGreatDoor
open Go.Lib
set_option linter.unusedSimpArgs false
set_option linter.unusedVariables false
def nx (l:List UInt8):Int × Nat:=
 if l=[] then (-1,0) else if (decodeL l).1=65533/\(decodeL l).2<=1 then (-1,(decodeL l).2) else (((decodeL l).1:Int),(decodeL l).2)
abbrev Ru:=Int × List UInt8
def runesF:Nat->List UInt8->List Ru
 | 0,_=>[]
 | f+1,l=>if l=[] then [] else ((nx l).1,l.take (nx l).2) :: runesF f (l.drop (nx l).2)
def runes (l:List UInt8):List Ru:=runesF l.length l
theorem decodeL_le (l:List UInt8) (h:l≠[]):1<=(decodeL l).2/\(decodeL l).2<=l.length:=by
 have hl:1<=l.length:=List.length_pos_iff.2 h
 rw [decodeL_N]
 rcases decodeN_shape l.length (l.getD 0 0).toNat (l.getD 1 0).toNat (l.getD 2 0).toNat (l.getD 3 0).toNat with ⟨_,e⟩|⟨_,h1,_,_,e⟩|⟨_,h1,_,_,_,_,e⟩|⟨_,h1,_,_,_,_,_,e⟩|e<;>rw [e]<;>simp only<;>omega
theorem nx_size {l:List UInt8}(h:l≠[]):(nx l).2=(decodeL l).2:=by
 unfold nx
 rw [if_neg h]
 split<;>rfl
theorem nx_pos {l:List UInt8}(h:l≠[]):1<=(nx l).2:=by rw [nx_size h];exact (decodeL_le l h).1
theorem nx_le {l:List UInt8}(h:l≠[]):(nx l).2<=l.length:=by rw [nx_size h];exact (decodeL_le l h).2
theorem runesF_nil (f:Nat):runesF f []=[]:=by cases f<;>simp [runesF]
theorem runesF_more:∀ (f:Nat) (l:List UInt8),l.length<=f->runesF f l=runesF l.length l
 | 0,l,h=>by
  have:l=[]:=List.eq_nil_of_length_eq_zero (by omega)
  subst this;rfl
 | f+1,l,h=>by
  by_cases hl:l=[]
  ·subst hl;rw [runesF_nil,runesF_nil]
  ·obtain ⟨n,hn⟩:∃ n,l.length=n+1:=⟨l.length - 1,by have:=List.length_pos_iff.2 hl;omega⟩
   have h1:=nx_pos hl
   have hd:(l.drop (nx l).2).length<=n:=by rw [List.length_drop];omega
   rw [hn]
   simp only [runesF,if_neg hl]
   rw [runesF_more f _ (by omega),runesF_more n _ hd]
theorem runes_nil:runes []=[]:=rfl
theorem runes_cons {l:List UInt8}(h:l≠[]):runes l=((nx l).1,l.take (nx l).2) :: runes (l.drop (nx l).2):=by
 obtain ⟨n,hn⟩:∃ n,l.length=n+1:=⟨l.length - 1,by have:=List.length_pos_iff.2 h;omega⟩
 have h1:=nx_pos h
 unfold runes
 rw [hn]
 simp only [runesF,if_neg h]
 rw [runesF_more n _ (by rw [List.length_drop];omega)]
theorem nx_ascii {c:UInt8}(h:c.toNat < 128) (r:List UInt8):nx (c :: r)=((c.toNat:Int),1):=by
 have e:decodeL (c :: r)=(c.toNat,1):=by rw [decodeL_N];exact decodeN_ascii _ _ _ _ _ h
 unfold nx
 rw [if_neg (by simp),e,if_neg (by simp only;omega)]
def byt (vs:List Ru):List UInt8:=vs.flatMap (·.2)
theorem byt_cons (v:Ru) (vs:List Ru):byt (v :: vs)=v.2++byt vs:=rfl
theorem byt_append (a b:List Ru):byt (a++b)=byt a++byt b:=by simp [byt]
theorem byt_runes:∀ (n:Nat) (l:List UInt8),l.length<=n->byt (runes l)=l
 | 0,l,h=>by
  have:l=[]:=List.eq_nil_of_length_eq_zero (by omega)
  subst this;rfl
 | n+1,l,h=>by
  by_cases hl:l=[]
  ·subst hl;rfl
  ·have h1:=nx_pos hl
   rw [runes_cons hl,byt_cons,byt_runes n _ (by rw [List.length_drop];omega),List.take_append_drop]
def letter (r:Int):Bool:=decide (97<=r/\r<=122∨65<=r/\r<=90∨1072<=r/\r<=1103)
def dgt (r:Int):Bool:=decide (48<=r/\r<=57)
def insd (r:Int):Bool:=letter r || dgt r || r == 95
def spn:List Ru->Nat
 | []=>0
 | v :: t=>if insd v.1=true then spn t+1 else 0
end Go.Proofs.YtppefcdkgejfbaaGreatDoor
namespace Go.Proofs.YtppefcdkgejfbaaGreatDoor
open Go.RowKit Go.Lib
set_option linter.unusedSimpArgs false
set_option linter.unusedVariables false
attribute [local go_sem ↓] Go.wp_at_zero Go.wp_at_succ
abbrev bl (s:ByteArray):List UInt8:=s.data.toList
theorem bl_length (s:ByteArray):(bl s).length=s.size:=rfl
theorem letter_eq (r:Int):letter r=(decide (97<=r) && decide (r<=122) || decide (65<=r) && decide (r<=90) || decide (1072<=r) && decide (r<=1103)):=by
 unfold letter
 rw [Bool.eq_iff_iff]
 simp
 omega
theorem dgt_eq (r:Int):dgt r=(decide (48<=r) && decide (r<=57)):=by
 unfold dgt
 rw [Bool.eq_iff_iff]
 simp
theorem ret_bool {a b:Bool}(h:a=b):Ending.returned (.bool a)=.returned (.bool b):=by rw [h]
structure Adv (l:List UInt8) (m k:Nat):Prop where
 le:k<=l.length
 left:runes (l.drop k)=(runes l).drop m
 cnt:spn (runes l)=m+spn (runes (l.drop k))
 size:(byt ((runes l).take m)).length=k
 few:m<=k
theorem Adv.zero (l:List UInt8):Adv l 0 0:=⟨by omega,rfl,by simp,rfl,by omega⟩
theorem drop_ne {l:List UInt8}{k:Nat}(h:k < l.length):l.drop k≠[]:=by
 intro e
 have:=congrArg List.length e
 rw [List.length_drop] at this
 simp at this
 omega
theorem byt_split (rs:List Ru) (m:Nat):(byt rs).length=(byt (rs.take m)).length+(byt (rs.drop m)).length:=by
 rw [<- List.length_append,<- byt_append,List.take_append_drop]
theorem Adv.step {l:List UInt8}{m k:Nat}(h:Adv l m k) (hk:k < l.length) (hi:insd (nx (l.drop k)).1=true):Adv l (m+1) (k+(nx (l.drop k)).2):=by
 have hne:=drop_ne hk
 have hc:=runes_cons hne
 have hle:=nx_le hne
 have hps:=nx_pos hne
 rw [List.length_drop] at hle
 have hd:(runes l).drop m=((nx (l.drop k)).1,(l.drop k).take (nx (l.drop k)).2) :: runes ((l.drop k).drop (nx (l.drop k)).2):=by rw [<- h.left,hc]
 have hd1:(runes l).drop (m+1)=runes (l.drop (k+(nx (l.drop k)).2)):=by
  have:=congrArg List.tail hd
  rw [List.tail_drop,List.tail_cons,List.drop_drop] at this
  exact this
 refine ⟨by omega,hd1.symm,?_,?_,by have:=h.few;omega⟩
 ·rw [h.cnt,hc,List.drop_drop]
  show m+(if insd (nx (l.drop k)).1=true then spn _+1 else 0)=_
  rw [if_pos hi]
  omega
 ·have e1:=byt_split (runes l) (m+1)
  rw [hd1,byt_runes _ _ Nat.le.refl,byt_runes _ _ Nat.le.refl,List.length_drop] at e1
  omega
theorem Adv.stop {l:List UInt8}{m k:Nat}(h:Adv l m k) (hs:l.length<=k∨insd (nx (l.drop k)).1=false):spn (runes l)=m:=by
 rw [h.cnt]
 rcases hs with hs|hs
 ·rw [List.drop_eq_nil_of_le hs];rfl
 ·by_cases hk:l.length<=k
  ·rw [List.drop_eq_nil_of_le hk];rfl
  ·rw [runes_cons (drop_ne (by omega))]
   show m+(if insd (nx (l.drop k)).1=true then _ else 0)=m
   rw [if_neg (by rw [hs];decide)]
   omega
def spb (l:List UInt8):Nat:=(byt ((runes l).take (spn (runes l)))).length
def nameS (l:List UInt8):Bool:=letter (nx l).1 && ((spb l:Int) == (l.length:Int)) && decide (spn (runes l)<=24)
def dB (c:UInt8):Bool:=decide (48<=c.toNat/\c.toNat<=57)
def valB (n:Int):List UInt8->Int
 | []=>n
 | c :: r=>valB (10*n+((c.toNat:Int) - 48)) r
def numB (l:List UInt8):Bool:=decide (1<=l.length/\l.length<=10) && !(decide ((l.headD 0).toNat=48) && decide (1 < l.length)) && l.all dB && decide (valB 0 l<=1000000000)
def ndC:(d:Nat)->T d->Nat:=fold (fun _ _ _ l=>min (l.sum+1) 41)
theorem ndC_mk {d:Nat}(k n:Int) (s:ByteArray) (ps:List (T d)):ndC (d+1) (mkT k n s ps)=min ((ps.map (ndC d)).sum+1) 41:=rfl
def dpC:(d:Nat)->T d->Nat:=fold (fun _ _ _ l=>l.foldl max 0+1)
theorem dpC_mk {d:Nat}(k n:Int) (s:ByteArray) (ps:List (T d)):dpC (d+1) (mkT k n s ps)=(ps.map (dpC d)).foldl max 0+1:=rfl
def ops9:List (List UInt8):=[[43],[45],[42],[60],[60,61],[61,61],[33,61],[38,38],[124,124]]
def opr (s:ByteArray):Bool:=ops9.any (fun x=>bl s == x)
def sdC:(d:Nat)->T d->Bool:=fold (fun k n s l=>if k=1 then decide (0<=n) && decide (n<=1000000000) else if k=2 then nameS (bl s) else if k=3∨k=4 then l.all id else if k=5 then opr s && l.all id else false)
theorem sdC_mk {d:Nat}(k n:Int) (s:ByteArray) (ps:List (T d)):sdC (d+1) (mkT k n s ps) =
  if k=1 then decide (0<=n) && decide (n<=1000000000) else if k=2 then nameS (bl s) else if k=3∨k=4 then ps.all (sdC d) else if k=5 then opr s && ps.all (sdC d) else false:=by
 have e:(ps.map (sdC d)).all id=ps.all (sdC d):=by rw [List.all_map];rfl
 rw [<- e]
 rfl
def fmC (d:Nat) (t:T d):Bool:=decide (ndC d t<=40) && decide (dpC d t<=12) && sdC d t
theorem all_take_succ {α:Type}(f:α->Bool) (l:List α) (j:Nat) (h:j < l.length) (h1:(l.take j).all f=true) (h2:f l[j]=true):(l.take (j+1)).all f=true:=by
 rw [List.take_succ_eq_append_getElem h,List.all_append,h1];simp [h2]
theorem all_not {α:Type}(f:α->Bool) (l:List α) (j:Nat) (h:j < l.length) (h2:f l[j]=false):l.all f=false:=by
 rw [List.all_eq_false];exact ⟨l[j],List.getElem_mem h,by rw [h2];decide⟩
abbrev Sx:=(d:Nat) × T d
def ClX (x:Sx):Prop:=Cl x.1 x.2
def mk0 (k n:Int) (s:ByteArray):Sx:=⟨1,mkT k n s []⟩
abbrev Tk:=Nat × List UInt8
def lv (s:List UInt8):Nat:=if s=[124,124] then 1 else if s=[38,38] then 2 else if s=[60]∨s=[60,61]∨s=[61,61]∨s=[33,61] then 3 else if s=[43]∨s=[45] then 4 else if s=[42] then 5 else 0
theorem lv_le (s:List UInt8):lv s<=5:=by
 unfold lv
 repeat' split
 all_goals omega
def noX:Sx:=mk0 0 0 ⟨#[]⟩
section
variable (nb:List UInt8->Int) (rsv:List UInt8->Bool) (l:List Tk)
end
def okF (nb:List UInt8->Int) (rsv:List UInt8->Bool) (dc:Int->List UInt8) (k n:Int) (s:ByteArray) (p:List Prop):Prop:=
 (k=1->nb (dc n)=n/\lv (dc n)=0/\dc n≠[33]/\dc n≠[45]/\dc n≠[40])/\(k=2->rsv s.data.toList=false/\lv s.data.toList=0/\s.data.toList≠[33]/\s.data.toList≠[45]/\s.data.toList≠[40])/\(k=5->1<=lv s.data.toList)/\(1<=k/\k<=5)/\∀ q∈p,q
def okT (nb:List UInt8->Int) (rsv:List UInt8->Bool) (dc:Int->List UInt8):(d:Nat)->T d->Prop:=fold (okF nb rsv dc)
section
variable {nb:List UInt8->Int}{rsv:List UInt8->Bool}{l:List Tk}
variable {dc:Int->List UInt8}
end
section
variable (leaf:Tk->Option Sx)
end
section
variable {leaf:Tk->Option Sx}{l:List Tk}
end
section
variable {nb:List UInt8->Int}{rsv:List UInt8->Bool}{l:List Tk}
end
abbrev Pc:=Option Tk
def pieB (p:Pc):List UInt8:=match p with|some w=>w.2|none=>[32]
def txP (ps:List Pc):List UInt8:=(ps.map pieB).flatten
theorem txP_cons (p:Pc) (r:List Pc):txP (p :: r)=pieB p++txP r:=rfl
theorem txP_app (a b:List Pc):txP (a++b)=txP a++txP b:=by simp [txP]
def aroP (c:Nat × List Pc) (least:Nat):List Pc:=if c.1 < least then some (3,[40]) :: (c.2++[some (3,[41])]) else c.2
def pcF (dc:Int->List UInt8) (k n:Int) (s:ByteArray) (p:List (Nat × List Pc)):Nat × List Pc:=
 (if k=5 then lv s.data.toList else 6,
   if k=1 then [some (2,dc n)] else if k=2 then [some (1,s.data.toList)] else if k=3 then some (3,[33]) :: aroP (p.getD 0 (0,[])) 6 else if k=4 then some (3,[45]) :: aroP (p.getD 0 (0,[])) 6
   else aroP (p.getD 0 (0,[])) (if lv s.data.toList=3 then 4 else lv s.data.toList)++none :: some (3,s.data.toList) :: none :: aroP (p.getD 1 (0,[])) (lv s.data.toList+1))
def pcs (dc:Int->List UInt8):(d:Nat)->T d->Nat × List Pc:=fold (pcF dc)
def opB (s:List UInt8):Prop:=s=[43]∨s=[45]∨s=[42]∨s=[60]∨s=[60,61]∨s=[61,61]∨s=[33,61]∨s=[38,38]∨s=[124,124]
def rtF (dc:Int->List UInt8) (k n:Int) (s:ByteArray) (p:List Prop):Prop:=(k=1->numB (dc n)=true)/\(k=2->nameS s.data.toList=true)/\(k=5->opB s.data.toList)/\(1<=k/\k<=5)/\∀ q∈p,q
def rtT (dc:Int->List UInt8):(d:Nat)->T d->Prop:=fold (rtF dc)
theorem valB_app:∀ (a b:List UInt8) (n:Int),valB n (a++b)=valB (valB n a) b
 | [],b,n=>rfl
 | c :: a,b,n=>valB_app a b _
theorem dd_small {u:Nat}(h:u < 10):decDigits u=[UInt8.ofNat (48+u)]:=by
 rw [decDigits]
 simp [h]
theorem dd_more {u:Nat}(h:¬ u < 10):decDigits u=decDigits (u / 10)++[UInt8.ofNat (48+u % 10)]:=by
 rw [decDigits]
 simp [h]
theorem dg_nat {u:Nat}(h:u < 10):(UInt8.ofNat (48+u)).toNat=48+u:=by
 rw [UInt8.toNat_ofNat']
 omega
theorem dd_val:∀ (n u:Nat),u<=n->valB 0 (decDigits u)=(u:Int)
 | n,u,h=>by
  by_cases hu:u < 10
  ·rw [dd_small hu]
   show 10*0+(((UInt8.ofNat (48+u)).toNat:Int) - 48)=(u:Int)
   rw [dg_nat hu];omega
  ·match n with
   | 0=>omega
   | n+1=>
    have ih:=dd_val n (u / 10) (by omega)
    rw [dd_more hu,valB_app,ih]
    show 10*((u / 10:Nat):Int)+(((UInt8.ofNat (48+u % 10)).toNat:Int) - 48)=(u:Int)
    rw [dg_nat (Nat.mod_lt u (by decide))]
    omega
theorem dd_all:∀ (n u:Nat),u<=n->(decDigits u).all dB=true
 | n,u,h=>by
  have h1:∀ v,v < 10->dB (UInt8.ofNat (48+v))=true:=fun v hv=>by
   unfold dB;rw [dg_nat hv,decide_eq_true_eq];omega
  by_cases hu:u < 10
  ·rw [dd_small hu]
   show (dB (UInt8.ofNat (48+u)) && true)=true
   rw [h1 u hu];rfl
  ·match n with
   | 0=>omega
   | n+1=>
    rw [dd_more hu,List.all_append,dd_all n (u / 10) (by omega)]
    show (true && (dB (UInt8.ofNat (48+u % 10)) && true))=true
    rw [h1 (u % 10) (Nat.mod_lt u (by decide))];rfl
theorem dd_head:∀ (n u:Nat),u<=n->1<=u->((decDigits u).headD 0).toNat≠48
 | n,u,h,h1=>by
  by_cases hu:u < 10
  ·rw [dd_small hu]
   show (UInt8.ofNat (48+u)).toNat≠48
   rw [dg_nat hu];omega
  ·match n with
   | 0=>omega
   | n+1=>
    have ih:=dd_head n (u / 10) (by omega) (by omega)
    rw [dd_more hu]
    cases hq:decDigits (u / 10) with
    | nil=>
     have:=decDigits_length (u / 10)
     have h2:=nDigits_pos (u / 10)
     rw [hq] at this
     simp at this
     omega
    | cons c r=>rw [hq] at ih;exact ih
theorem nd_le:∀ (k u:Nat),1<=k->u < 10 ^ k->nDigits u<=k
 | 0,_,h,_=>by omega
 | 1,u,_,h=>by rw [nDigits_small (by simpa using h)];exact Nat.le_refl _
 | k+2,u,_,h=>by
  by_cases hu:u < 10
  ·rw [nDigits_small hu];omega
  ·rw [nDigits_big hu]
   have:u / 10 < 10 ^ (k+1):=by rw [Nat.pow_succ] at h;omega
   have:=nd_le (k+1) (u / 10) (by omega) this
   omega
theorem dd_num {u:Nat}(h:u<=1000000000):numB (decDigits u)=true:=by
 have hl:=decDigits_length u
 have h1:=nDigits_pos u
 have h2:=nd_le 10 u (by decide) (by omega)
 unfold numB
 rw [dd_all u u Nat.le.refl,dd_val u u Nat.le.refl,decide_eq_true (by omega:1<=(decDigits u).length/\(decDigits u).length<=10),decide_eq_true (by omega:(u:Int)<=1000000000)]
 by_cases hu:u < 10
 ·rw [dd_small hu];simp
 ·rw [decide_eq_false (dd_head u u Nat.le.refl (by omega))];rfl
def rsv13:List (List UInt8):=[[99,104,97,114,116],[118,97,114],[115,116,97,116,101],[97,108,108],[101,110,100],[100,111],[117,110,100,111],[97,116],[114,101,116,114,105,101,115],[111,110],[105,102],[103,111],[115,101,116]]
def rsvB (s:List UInt8):Bool:=rsv13.any (fun x=>s == x)
def plC:(d:Nat)->T d->Bool:=fold (fun k _ s l=>!(decide (k=2) && rsvB s.data.toList) && l.all id)
theorem plC_mk {d:Nat}(k n:Int) (s:ByteArray) (ps:List (T d)):plC (d+1) (mkT k n s ps)=(!(decide (k=2) && rsvB s.data.toList) && ps.all (plC d)):=by
 show (!(decide (k=2) && rsvB s.data.toList) && (ps.map (plC d)).all id)=_
 rw [List.all_map];rfl
def dcN (n:Int):List UInt8:=decDigits n.toNat
theorem opr_opB {s:ByteArray}(h:opr s=true):opB s.data.toList:=by
 unfold opr ops9 at h
 simp only [List.any_cons,List.any_nil,Bool.or_false,Bool.or_eq_true,beq_iff_eq] at h
 exact h
theorem opB_lv {s:List UInt8}(h:opB s):1<=lv s:=by
 rcases h with rfl|rfl|rfl|rfl|rfl|rfl|rfl|rfl|rfl<;>decide
theorem lv_opB {s:List UInt8}(h:lv s≠0):opB s:=by
 unfold lv at h
 unfold opB
 by_cases a:s=[124,124]
 ·simp [a]
 rw [if_neg a] at h
 by_cases b:s=[38,38]
 ·simp [b]
 rw [if_neg b] at h
 by_cases c:s=[60]∨s=[60,61]∨s=[61,61]∨s=[33,61]
 ·rcases c with c|c|c|c<;>simp [c]
 rw [if_neg c] at h
 by_cases e:s=[43]∨s=[45]
 ·rcases e with e|e<;>simp [e]
 rw [if_neg e] at h
 by_cases g:s=[42]
 ·simp [g]
 rw [if_neg g] at h
 exact absurd rfl h
theorem name_far {s:List UInt8}(h:nameS s=true):lv s=0/\s≠[33]/\s≠[45]/\s≠[40]:=by
 have key:∀ c:UInt8,∀ r:List UInt8,c.toNat < 128->letter c.toNat=false->s≠c :: r:=fun c r h8 hl e=>by
  subst e
  unfold nameS at h
  simp only [Bool.and_eq_true] at h
  have h1:=h.1.1
  rw [nx_ascii h8,hl] at h1
  cases h1
 refine ⟨?_,key 33 [] (by decide) (by decide),key 45 [] (by decide) (by decide),key 40 [] (by decide) (by decide)⟩
 refine Classical.byContradiction (fun hl=>?_)
 rcases lv_opB hl with e|e|e|e|e|e|e|e|e
 ·exact key 43 [] (by decide) (by decide) e
 ·exact key 45 [] (by decide) (by decide) e
 ·exact key 42 [] (by decide) (by decide) e
 ·exact key 60 [] (by decide) (by decide) e
 ·exact key 60 [61] (by decide) (by decide) e
 ·exact key 61 [61] (by decide) (by decide) e
 ·exact key 33 [61] (by decide) (by decide) e
 ·exact key 38 [38] (by decide) (by decide) e
 ·exact key 124 [124] (by decide) (by decide) e
theorem num_far {s:List UInt8}(h:numB s=true):lv s=0/\s≠[33]/\s≠[45]/\s≠[40]:=by
 have key:∀ c:UInt8,∀ r:List UInt8,dB c=false->s≠c :: r:=fun c r hl e=>by
  subst e
  unfold numB at h
  simp only [Bool.and_eq_true,List.all_cons] at h
  have h1:=h.1.2.1
  rw [hl] at h1
  cases h1
 refine ⟨?_,key 33 [] (by decide),key 45 [] (by decide),key 40 [] (by decide)⟩
 refine Classical.byContradiction (fun hl=>?_)
 rcases lv_opB hl with e|e|e|e|e|e|e|e|e
 ·exact key 43 [] (by decide) e
 ·exact key 45 [] (by decide) e
 ·exact key 42 [] (by decide) e
 ·exact key 60 [] (by decide) e
 ·exact key 60 [61] (by decide) e
 ·exact key 61 [61] (by decide) e
 ·exact key 33 [61] (by decide) e
 ·exact key 38 [38] (by decide) e
 ·exact key 124 [124] (by decide) e
theorem okT_mk {nb:List UInt8->Int}{rsv:List UInt8->Bool}{dc:Int->List UInt8}{d:Nat}{k n:Int}{s:ByteArray}{ps:List (T d)}:okT nb rsv dc (d+1) (mkT k n s ps)↔okF nb rsv dc k n s (ps.map (okT nb rsv dc d)):=Iff.rfl
theorem rtT_mk {dc:Int->List UInt8}{d:Nat}{k n:Int}{s:ByteArray}{ps:List (T d)}:rtT dc (d+1) (mkT k n s ps)↔rtF dc k n s (ps.map (rtT dc d)):=Iff.rfl
theorem ok_sound:∀ (d:Nat) (t:T d),Cl d t->sdC d t=true->plC d t=true->okT (valB 0) rsvB dcN d t/\rtT dcN d t
 | 0,t,_,_,_=>Empty.elim t
 | d+1,t,hc,hs,hp=>by
  rcases hc.cases with ⟨n,rfl⟩|⟨s,rfl⟩|⟨k,p,hk,rfl,hcp⟩|⟨s,p,q,rfl,hcp,hcq⟩|rfl
  ·rw [sdC_mk,if_pos rfl] at hs
   simp only [Bool.and_eq_true,decide_eq_true_eq] at hs
   have hn:numB (dcN n)=true:=dd_num (by omega)
   obtain ⟨f1,f2,f3,f4⟩:=num_far hn
   have hv:valB 0 (dcN n)=n:=by unfold dcN;rw [dd_val _ _ Nat.le.refl];omega
   exact ⟨okT_mk.2 ⟨fun _=>⟨hv,f1,f2,f3,f4⟩,fun h=>by simp at h,fun h=>by simp at h,by decide,fun z hz=>by cases hz⟩,rtT_mk.2 ⟨fun _=>hn,fun h=>by simp at h,fun h=>by simp at h,by decide,fun z hz=>by cases hz⟩⟩
  ·rw [sdC_mk,if_neg (by decide),if_pos rfl] at hs
   rw [plC_mk] at hp
   have hr:rsvB s.data.toList=false:=by simpa using hp
   obtain ⟨f1,f2,f3,f4⟩:=name_far hs
   exact ⟨okT_mk.2 ⟨fun h=>by simp at h,fun _=>⟨hr,f1,f2,f3,f4⟩,fun h=>by simp at h,by decide,fun z hz=>by cases hz⟩,rtT_mk.2 ⟨fun h=>by simp at h,fun _=>hs,fun h=>by simp at h,by decide,fun z hz=>by cases hz⟩⟩
  ·have hsp:sdC d p=true:=by
    rw [sdC_mk,if_neg (by omega),if_neg (by omega),if_pos hk] at hs
    simpa using hs
   have hpp:plC d p=true:=by
    rw [plC_mk] at hp
    simp only [Bool.and_eq_true,List.all_cons,List.all_nil,Bool.and_true] at hp
    exact hp.2
   obtain ⟨a,b⟩:=ok_sound d p hcp hsp hpp
   refine ⟨okT_mk.2 ⟨fun h=>by omega,fun h=>by omega,fun h=>by omega,by omega,fun z hz=>?_⟩,rtT_mk.2 ⟨fun h=>by omega,fun h=>by omega,fun h=>by omega,by omega,fun z hz=>?_⟩⟩
   ·obtain ⟨x,hx,rfl⟩:=List.mem_map.1 hz
    obtain rfl:=List.mem_singleton.1 hx
    exact a
   ·obtain ⟨x,hx,rfl⟩:=List.mem_map.1 hz
    obtain rfl:=List.mem_singleton.1 hx
    exact b
  ·have hs2:opr s=true/\sdC d p=true/\sdC d q=true:=by
    rw [sdC_mk,if_neg (by omega),if_neg (by omega),if_neg (by omega),if_pos rfl] at hs
    simpa using hs
   have hp2:plC d p=true/\plC d q=true:=by
    rw [plC_mk] at hp
    simpa using hp
   obtain ⟨a,b⟩:=ok_sound d p hcp hs2.2.1 hp2.1
   obtain ⟨a',b'⟩:=ok_sound d q hcq hs2.2.2 hp2.2
   have ho:=opr_opB hs2.1
   refine ⟨okT_mk.2 ⟨fun h=>by omega,fun h=>by omega,fun _=>opB_lv ho,by omega,fun z hz=>?_⟩,rtT_mk.2 ⟨fun h=>by omega,fun h=>by omega,fun _=>ho,by omega,fun z hz=>?_⟩⟩
   ·obtain ⟨x,hx,rfl⟩:=List.mem_map.1 hz
    rcases List.mem_cons.1 hx with rfl|hx
    ·exact a
    ·obtain rfl:=List.mem_singleton.1 hx
     exact a'
   ·obtain ⟨x,hx,rfl⟩:=List.mem_map.1 hz
    rcases List.mem_cons.1 hx with rfl|hx
    ·exact b
    ·obtain rfl:=List.mem_singleton.1 hx
     exact b'
  ·unfold none0 at hs
   rw [sdC_mk] at hs
   simp at hs
section
variable {nb:List UInt8->Int}{rsv:List UInt8->Bool}{l:List Tk}{Q:Nat->Nat->Sx->Prop}
end
def cntX (x:Sx):Nat:=cnt x.1 x.2
theorem nx4 {l:List UInt8}(h:l≠[]):(nx l).2<=4:=by
 rw [nx_size h,decodeL_N]
 generalize (l.getD 0 0).toNat=b0
 generalize (l.getD 1 0).toNat=b1
 generalize (l.getD 2 0).toNat=b2
 generalize (l.getD 3 0).toNat=b3
 generalize l.length=n
 unfold decodeN
 repeat' split
 all_goals simp
theorem rune4:∀ (n:Nat) (l:List UInt8),l.length<=n->∀ v∈runes l,v.2.length<=4
 | 0,l,h,v,hv=>by
  have:l=[]:=List.eq_nil_of_length_eq_zero (by omega)
  subst this;cases hv
 | n+1,l,h,v,hv=>by
  by_cases hl:l=[]
  ·subst hl;rw [runes_nil] at hv;cases hv
  ·have h1:=nx_pos hl
   have h4:=nx4 hl
   rw [runes_cons hl] at hv
   rcases List.mem_cons.1 hv with rfl|hv
   ·rw [List.length_take];omega
   ·exact rune4 n _ (by rw [List.length_drop];omega) v hv
theorem byt4:∀ (vs:List Ru),(∀ v∈vs,v.2.length<=4)->(byt vs).length<=4*vs.length
 | [],_=>by simp [byt]
 | v :: r,h=>by
  have h1:=h v (by simp)
  have h2:=byt4 r (fun x hx=>h x (by simp [hx]))
  rw [byt_cons,List.length_append,List.length_cons];omega
theorem name_len {b:List UInt8}(h:nameS b=true):b.length<=96:=by
 unfold nameS at h
 simp only [Bool.and_eq_true,decide_eq_true_eq,beq_iff_eq] at h
 have h1:spb b<=4*((runes b).take (spn (runes b))).length:=byt4 _ (fun v hv=>rune4 _ b Nat.le.refl v (List.mem_of_mem_take hv))
 rw [List.length_take] at h1
 omega
theorem num_len {b:List UInt8}(h:numB b=true):b.length<=10/\0<=valB 0 b/\valB 0 b<=1000000000:=by
 unfold numB at h
 simp only [Bool.and_eq_true,decide_eq_true_eq] at h
 have hv:∀ (b:List UInt8) (n:Int),0<=n->b.all dB=true->0<=valB n b:=fun b=>by
  induction b with
  | nil=>intro n hn _;exact hn
  | cons c r ih=>
   intro n hn hb
   simp only [List.all_cons,Bool.and_eq_true] at hb
   have hd:48<=c.toNat/\c.toNat<=57:=of_decide_eq_true hb.1
   exact ih _ (by omega) hb.2
 refine ⟨?_,?_,?_⟩
 all_goals first|omega|exact hv b 0 (by omega) (by simp_all)|simp_all
abbrev Fx (X:Nat) (w w':World):Prop:=w.grownBy w' (some X)
theorem Fx.refl (X:Nat) (w:World):Fx X w w:=⟨rfl,rfl,rfl,Nat.le_refl _,fun _ _ _=>rfl⟩
theorem Fx.setX {X i:Nat}{a b:World}(h:Fx X a b) (u:Value):Fx X a (b.setCell ⟨X,i,none⟩ u):=
 ⟨h.os,h.tape,h.output,by simpa using h.size,fun k hk hne=>(Below.heap_setCell _ _ _ _ (fun e=>hne (congrArg some e))).trans (h.block k hk hne)⟩
theorem Fx.drew {X:Nat}{a b:World}(h:Fx X a b):Fx X a b.drew:=⟨h.os,h.tape,h.output,h.size,h.block⟩
