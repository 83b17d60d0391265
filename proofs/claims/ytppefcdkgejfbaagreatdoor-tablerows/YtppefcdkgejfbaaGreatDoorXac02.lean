import Derived.Test.YtppefcdkgejfbaaGreatDoorXac01
import Derived.Deep.RegionHeldLaw
import Derived.Deep.DeepCutAuto
set_option maxRecDepth 100000
set_option maxHeartbeats 32000000
namespace Go.Proofs.YtppefcdkgejfbaaGreatDoor
open Go.RowKit Go.Lib
set_option linter.unusedSimpArgs false
set_option linter.unusedVariables false
attribute [local go_sem ↓] Go.wp_at_zero Go.wp_at_succ
def Bn (w:World) (Y:Nat) (cs:List Value):Prop:=∀ j u,cs[j]?=some u->w.cell? ⟨Y,j,none⟩=some u/\w.frozen? ⟨Y,j,none⟩=false
theorem Bn.lt {w:World}{Y:Nat}{c:Value}{cs:List Value}(h:Bn w Y (c :: cs)):Y < w.heap.size:=World.block_lt_of_cell? w _ (h 0 c rfl).1
theorem frozen_of_block {w w':World}{Y j:Nat}(h:w'.heap[Y]?=w.heap[Y]?):w'.frozen? ⟨Y,j,none⟩=w.frozen? ⟨Y,j,none⟩:=by
 unfold World.frozen?
 rw [h]
theorem Bn.blk {w w':World}{Y:Nat}{cs:List Value}(h:Bn w Y cs) (hb:w'.heap[Y]?=w.heap[Y]?):Bn w' Y cs:=fun j u hu=>
 ⟨keep_cell (p:=⟨Y,j,none⟩) hb (h j u hu).1,(frozen_of_block hb).trans (h j u hu).2⟩
theorem Bn.on {w w':World}{Y:Nat}{c:Value}{cs:List Value}(h:Bn w Y (c :: cs)) (hb:Below w.heap.size w w'):Bn w' Y (c :: cs):=h.blk (hb.block Y h.lt)
theorem Bn.fx {w w':World}{X Y:Nat}{c:Value}{cs:List Value}(h:Bn w Y (c :: cs)) (hf:Fx X w w') (hne:Y≠X):Bn w' Y (c :: cs):=h.blk (hf.block Y h.lt (fun e=>hne (Option.some.inj e)))
theorem Bn.far {w:World}{Y X i:Nat}{cs:List Value}(h:Bn w Y cs) (hne:X≠Y) (v:Value):Bn (w.setCell ⟨X,i,none⟩ v) Y cs:=h.blk (Below.heap_setCell _ _ _ _ (fun e=>hne e.symm))
theorem Bn.set {w:World}{Y i:Nat}{cs:List Value}(h:Bn w Y cs) (hi:i < cs.length) (v:Value):Bn (w.setCell ⟨Y,i,none⟩ v) Y (cs.set i v):=fun j u hu=>by
 refine ⟨?_,(World.frozen?_setCell _ _ _ _).trans ?_⟩
 ·by_cases hj:i=j
  ·subst hj
   rw [List.getElem?_set_self hi] at hu
   obtain rfl:=Option.some.inj hu
   exact cell_same4 (h i _ (List.getElem?_eq_getElem hi)).1
  ·rw [List.getElem?_set_ne hj] at hu
   exact cell_far4 (by omega) (h j u hu).1
 ·have hl:j < cs.length:=by
   have:=(List.getElem?_eq_some_iff.1 hu).1
   rwa [List.length_set] at this
  exact (h j _ (List.getElem?_eq_getElem hl)).2
theorem Bn.new (w:World) (cs:List Value) (t:TypeId) (n:Nat) (hn:n=w.heap.size):Bn (w.alloc (.cells cs.toArray t)) n cs:=by
 subst hn
 intro j u hu
 refine ⟨?_,by simp⟩
 rw [World.cell?_alloc_new]
 simpa using hu
def RdK {α:Type}(ok:Nat->Prop) (w:World) (k:Nat) (R:α->List Value->Prop) (l:List α) (v:Value):Prop:=
 ∃ a cap,v=.slice a l.length cap/\l.length<=cap/\cap<=maxLen/\
  ∀ (i:Nat) (hi:i < l.length),∃ b off cs,a=some ⟨b,off,none⟩/\ok b/\b < w.heap.size/\cs.length=k/\R l[i] cs/\∀ j u,cs[j]?=some u->w.cell? ⟨b,off+i*k+j,none⟩=some u
theorem rdK_none {α:Type}(ok:Nat->Prop) (w:World) (k:Nat) (R:α->List Value->Prop):RdK ok w k R [] (.slice none 0 0):=⟨none,0,rfl,by simp,by simp [maxLen],fun i hi=>absurd hi (by simp)⟩
theorem RdK.keep {α:Type}{ok ok':Nat->Prop}{w w':World}{k:Nat}{R R':α->List Value->Prop}{l:List α}{v:Value}(h:RdK ok w k R l v) (hR:∀ x∈l,∀ u,R x u->R' x u) (hk:∀ b,ok b->b < w.heap.size->ok' b/\w'.heap[b]?=w.heap[b]?):RdK ok' w' k R' l v:=by
 obtain ⟨a,cap,rfl,hc,hm,hcell⟩:=h
 refine ⟨a,cap,rfl,hc,hm,fun i hi=>?_⟩
 obtain ⟨b,off,cs,ha,ho,hb,hl,hr,hcs⟩:=hcell i hi
 obtain ⟨ho',hs⟩:=hk _ ho hb
 refine ⟨b,off,cs,ha,ho',?_,hl,hR _ (List.getElem_mem hi) _ hr,fun j u hu=>keep_cell (p:=⟨b,off+i*k+j,none⟩) hs (hcs j u hu)⟩
 rcases Nat.lt_or_ge b w'.heap.size with h|h
 ·exact h
 ·rw [Array.getElem?_eq_none h,Array.getElem?_eq_getElem hb] at hs
  cases hs
theorem RdK.form {α:Type}{ok:Nat->Prop}{w:World}{k:Nat}{R:α->List Value->Prop}{l:List α}{v:Value}(h:RdK ok w k R l v):∃ a cap,v=.slice a l.length cap/\l.length<=cap/\cap<=maxLen:=by
 obtain ⟨a,cap,h1,h2,h3,_⟩:=h
 exact ⟨a,cap,h1,h2,h3⟩
def Kp {α:Type}(R:(Nat->Prop)->World->α->List Value->Prop):Prop:=∀ ⦃ok ok':Nat->Prop⦄ ⦃w w':World⦄ ⦃x:α⦄ ⦃cs:List Value⦄,R ok w x cs->(∀ b,ok b->b < w.heap.size->ok' b/\w'.heap[b]?=w.heap[b]?)->R ok' w' x cs
def OwnK {α:Type}(w:World) (base e k:Nat) (R:(Nat->Prop)->World->α->List Value->Prop) (v:Value) (l:List α):Prop:=
 ∃ qs:List (List Value),w.ownsRow base e k v l.length qs.flatten/\qs.length=l.length/\∀ (i:Nat) (h:i < l.length) (h':i < qs.length),(qs[i]).length=k/\R (fun b=>base<=b/\v.ownBlock≠some b) w l[i] qs[i]
theorem ownK_nil {α:Type}(w:World) (base e k:Nat) (R:(Nat->Prop)->World->α->List Value->Prop):OwnK w base e k R (.slice none 0 0) []:=⟨[],World.ownsRow_nil w base e k,rfl,fun i h=>absurd h (by simp)⟩
theorem OwnK.keep {α:Type}{w w':World}{base e k:Nat}{R:(Nat->Prop)->World->α->List Value->Prop}{v:Value}{l:List α}(hR:Kp R) (h:OwnK w base e k R v l) (hk:∀ b,base<=b->b < w.heap.size->w'.heap[b]?=w.heap[b]?):OwnK w' base e k R v l:=by
 obtain ⟨qs,ho,hl,hr⟩:=h
 refine ⟨qs,ownsRow_keep ho (fun g hg=>?_),hl,fun i h h'=>⟨(hr i h h').1,hR (hr i h h').2 (fun b hb hlt=>⟨hb,hk b hb.1 hlt⟩)⟩⟩
 obtain ⟨a,b⟩:=ownsRow_lt ho g hg
 exact hk g a b
theorem OwnK.on {α:Type}{w w':World}{base e k:Nat}{R:(Nat->Prop)->World->α->List Value->Prop}{v:Value}{l:List α}(hR:Kp R) (h:OwnK w base e k R v l) (hb:Below w.heap.size w w'):OwnK w' base e k R v l:=h.keep hR (fun b _ hlt=>hb.block b hlt)
theorem OwnK.form {α:Type}{w:World}{base e k:Nat}{R:(Nat->Prop)->World->α->List Value->Prop}{v:Value}{l:List α}(h:OwnK w base e k R v l):∃ a cap,v=.slice a l.length cap/\l.length<=cap/\cap<=maxLen:=by
 obtain ⟨qs,ho,_⟩:=h
 rcases ho.2 with ⟨h1,h2⟩|⟨g,cap,cur,h1,_,_,h3,h4,_⟩
 ·exact ⟨none,0,by rw [h1,h2],by omega,by simp [maxLen]⟩
 ·exact ⟨_,_,h1,h3,h4⟩
theorem OwnK.snoc {α:Type}{w w':World}{base e k lo n:Nat}{R:(Nat->Prop)->World->α->List Value->Prop}{v v':Value}{l:List α}{p:α}{cs:List Value}{qs:List (List Value)}(hR:Kp R) (hk:cs.length=k)
  (hn:l.length=n) (ho:w.ownsRow base e k v n qs.flatten) (hl:qs.length=l.length) (hr:∀ (i:Nat) (h:i < l.length) (h':i < qs.length),(qs[i]).length=k/\R (fun b=>base<=b/\v.ownBlock≠some b) w l[i] qs[i])
  (ho':w'.ownsRow base e k v' (n+1) (qs.flatten++cs)) (hg:w.grownBy w' v.ownBlock) (hat:v'.ownBlock=v.ownBlock∨v'.ownBlock=some w.heap.size)
  (hp:R (fun b=>lo<=b) w p cs) (hlo:base<=lo) (hv:∀ x,v.ownBlock=some x->x < lo):OwnK w' base e k R v' (l++[p]):=by
 subst hn
 have key:∀ b,base<=b/\v.ownBlock≠some b->b < w.heap.size->(base<=b/\v'.ownBlock≠some b)/\w'.heap[b]?=w.heap[b]?:=fun b hb hlt=>by
  refine ⟨⟨hb.1,fun e=>?_⟩,hg.block b hlt (fun e=>hb.2 e.symm)⟩
  rcases hat with h|h
  ·exact hb.2 (h ▸ e)
  ·rw [h] at e;have:w.heap.size=b:=Option.some.inj e;omega
 refine ⟨qs++[cs],?_,by simp [hl],fun i h h'=>?_⟩
 ·rw [List.flatten_append,List.length_append]
  simpa using ho'
 ·rcases Nat.lt_or_ge i l.length with hi|hi
  ·rw [List.getElem_append_left hi,List.getElem_append_left (by omega)]
   exact ⟨(hr i hi (by omega)).1,hR (hr i hi (by omega)).2 key⟩
  ·have:i=l.length:=by simp at h;omega
   subst this
   have e1:(l++[p])[l.length]=p:=by simp
   have e2:(qs++[cs])[l.length]'h'=cs:=by simp [<- hl]
   rw [e1,e2]
   exact ⟨hk,hR hp (fun b hb hlt=>key b ⟨by omega,fun e=>by have:=hv b e;omega⟩ hlt)⟩
theorem flat_at {k:Nat}:∀ (qs:List (List Value)) (i j:Nat) (h:i < qs.length) (u:Value),(∀ (i:Nat) (h:i < qs.length),(qs[i]).length=k)->(qs[i])[j]?=some u->qs.flatten[i*k+j]?=some u
 | [],i,j,h,u,_,_=>by simp at h
 | x :: t,0,j,h,u,hk,hu=>by
  have hu':x[j]?=some u:=hu
  have hj:=(List.getElem?_eq_some_iff.1 hu').1
  rw [List.flatten_cons,Nat.zero_mul,Nat.zero_add,List.getElem?_append_left hj]
  exact hu'
 | x :: t,i+1,j,h,u,hk,hu=>by
  have hx:x.length=k:=hk 0 (by simp)
  have e:(i+1)*k+j=x.length+(i*k+j):=by rw [hx,Nat.succ_mul];omega
  rw [List.flatten_cons,e,List.getElem?_append_right (by omega),Nat.add_sub_cancel_left]
  exact flat_at t i j (by simpa using h) u (fun i h=>hk (i+1) (by simpa using h)) hu
theorem OwnK.rd {α:Type}{w:World}{base e k:Nat}{R:(Nat->Prop)->World->α->List Value->Prop}{v:Value}{l:List α}(hR:Kp R) (h:OwnK w base e k R v l):RdK (fun b=>base<=b) w k (R (fun b=>base<=b) w) l v:=by
 obtain ⟨qs,ho,hl,hr⟩:=h
 have hc:=fun g=>World.ownsRow.cells ho (g:=g)
 rcases ho.2 with ⟨rfl,hn⟩|⟨g,cap,cur,rfl,hb,hg,hnc,hcm,hcs,htake⟩
 ·have hx:l=[]:=List.eq_nil_of_length_eq_zero hn
  subst hx
  exact rdK_none _ w k _
 ·refine ⟨some ⟨g,0,none⟩,cap,rfl,hnc,hcm,fun i hi=>⟨g,0,qs[i],rfl,hb,(Array.getElem?_eq_some_iff.1 hg).1,(hr i hi (by omega)).1,hR (hr i hi (by omega)).2 (fun b hb _=>⟨hb.1,rfl⟩),fun j u hu=>?_⟩⟩
  have:=hc g rfl (i*k+j) u (flat_at qs i j (by omega) u (fun i h=>(hr i (by omega) h).1) hu)
  rw [add_plain] at this
  rw [Nat.zero_add]
  rwa [Nat.zero_add] at this
theorem RdK.low {α:Type}{w:World}{base lo k:Nat}{R:(Nat->Prop)->World->α->List Value->Prop}{v:Value}{l:List α}(hR:Kp R) (h:RdK (fun b=>base<=b) w k (R (fun b=>base<=b) w) l v) (hlo:lo<=base):RdK (fun b=>lo<=b) w k (R (fun b=>lo<=b) w) l v:=
 h.keep (fun x _ u hu=>hR hu (fun b hb _=>⟨by omega,rfl⟩)) (fun b hb _=>⟨by omega,rfl⟩)
theorem RdK.stay {α:Type}{ok ok':Nat->Prop}{w w':World}{k:Nat}{R:(Nat->Prop)->World->α->List Value->Prop}{v:Value}{l:List α}(hR:Kp R) (h:RdK ok w k (R ok w) l v) (hk:∀ b,ok b->b < w.heap.size->ok' b/\w'.heap[b]?=w.heap[b]?):RdK ok' w' k (R ok' w') l v:=
 h.keep (fun x _ u hu=>hR hu hk) hk
theorem cells_new {w:World}{cs:List Value}{e:TypeId}:∀ j u,cs[j]?=some u->(w.alloc (.cells cs.toArray e)).cell? ((⟨w.heap.size,0,none⟩:Addr).add j)=some u:=fun j u hu=>by
 rw [add_plain,Nat.zero_add]
 exact (Bn.new w cs e _ rfl j u hu).1
theorem src_row {P:Program}{t e:TypeId}(ht:P.underlying t=some (.slice e)) (w:World) {k:Nat}(cs:List Value) (hk:cs.length=k) (h1:∀ u∈cs,u.oneCell'=true):Src P k t (.slice (some ⟨w.heap.size,0,none⟩) 1 1) 1 cs (w.alloc (.cells cs.toArray e)):=
 Src.ofSlice _ ht _ 1 1 _ (by rw [Nat.one_mul];exact hk) cells_new h1
structure Fy (X Y:Nat) (w w':World):Prop where
 os:w'.os=w.os
 tape:w'.tape=w.tape
 output:w'.output=w.output
 size:w.heap.size<=w'.heap.size
 block:∀ k,k < w.heap.size->k≠X->k≠Y->w'.heap[k]?=w.heap[k]?
theorem Fy.of {X Y:Nat}{a b:World}(h:Fx X a b):Fy X Y a b:=⟨h.os,h.tape,h.output,h.size,fun k hk h1 _=>h.block k hk (fun e=>h1 (Option.some.inj e))⟩
theorem Fy.setY {X Y i:Nat}{a b:World}(h:Fy X Y a b) (u:Value):Fy X Y a (b.setCell ⟨Y,i,none⟩ u):=
 ⟨h.os,h.tape,h.output,by simpa using h.size,fun k hk h1 h2=>(Below.heap_setCell _ _ _ _ (fun e=>h2 e)).trans (h.block k hk h1 h2)⟩
abbrev Nd:=ByteArray × (Int × Int × Int) × (Bool × Bool × Bool)
def ndV (n:Nd):List Value:=[.string n.1,.int .i64 n.2.1.1,.int .i64 n.2.1.2.1,.int .i64 n.2.1.2.2,.bool n.2.2.1,.bool n.2.2.2.1,.bool n.2.2.2.2]
def ndZ:Nd:=(⟨#[]⟩,(0,0,0),(false,false,false))
def nAt (l:List Nd) (i:Nat):Nd:=l.getD i ndZ
def nP (l:List Nd) (i:Nat):Int:=(nAt l i).2.1.1
def nD (l:List Nd) (i:Nat):Int:=(nAt l i).2.1.2.1
def nB (l:List Nd) (i:Nat):Int:=(nAt l i).2.1.2.2
def nL (l:List Nd) (i:Nat):Bool:=(nAt l i).2.2.2.2
def rNd (ok:Nat->Prop) (w:World) (n:Nd) (cs:List Value):Prop:=cs=ndV n
theorem kp_nd:Kp rNd:=fun _ _ _ _ _ _ h _=>h
abbrev RdNd (ok:Nat->Prop) (w:World) (l:List Nd) (v:Value):Prop:=RdK ok w 7 (rNd ok w) l v
theorem nAt_get {l:List Nd}{j:Nat}(hj:j < l.length):nAt l j=l[j]:=by unfold nAt;simp [hj]
theorem nd_at {ok:Nat->Prop}{w:World}{l:List Nd}{a:Option Addr}{n cap:Nat}(h:RdNd ok w l (.slice a n cap)) (j:Nat) (hj:j < l.length):∃ b off,a=some ⟨b,off,none⟩/\b < w.heap.size/\
  w.cell? ⟨b,off+j*7,none⟩=some (.string (nAt l j).1)/\w.cell? ⟨b,off+j*7+1,none⟩=some (.int .i64 (nP l j))/\w.cell? ⟨b,off+j*7+2,none⟩=some (.int .i64 (nD l j))/\w.cell? ⟨b,off+j*7+3,none⟩=some (.int .i64 (nB l j))/\
  w.cell? ⟨b,off+j*7+4,none⟩=some (.bool (nAt l j).2.2.1)/\w.cell? ⟨b,off+j*7+5,none⟩=some (.bool (nAt l j).2.2.2.1)/\w.cell? ⟨b,off+j*7+6,none⟩=some (.bool (nL l j)):=by
 obtain ⟨a1,cap1,he,h1,h2,h3⟩:=h
 simp only [Value.slice.injEq] at he
 obtain ⟨rfl,rfl,rfl⟩:=he
 obtain ⟨b,off,cs,ha,_,hb,hl,hr,hc⟩:=h3 j hj
 have hr:cs=ndV l[j]:=hr
 subst hr
 rw [<- nAt_get hj] at hc
 exact ⟨b,off,ha,hb,hc 0 _ rfl,hc 1 _ rfl,hc 2 _ rfl,hc 3 _ rfl,hc 4 _ rfl,hc 5 _ rfl,hc 6 _ rfl⟩
instance decNst (D:Nat->Int) (n:Nat):Decidable (nst D n):=by unfold nst;infer_instance
instance decFmP (n:Nat) (D P B:Nat->Int) (L:Nat->Bool):Decidable (FmP n D P B L):=by unfold FmP;infer_instance
def fmB (l:List Nd):Bool:=decide (FmP l.length (nD l) (nP l) (nB l) (nL l))
def nsB (l:List Nd):Bool:=decide (nst (nD l) l.length)
def plN (l:List Nd) (i:Nat):Nd:=((nAt l i).1,(ppar (nD l) (nD l i) i,nD l i,(pbeh (nD l) (nD l i) (l.length - (i+1)) (i+1):Nat)),((nAt l i).2.2.1,(nAt l i).2.2.2.1,decide (pbeh (nD l) (nD l i) (l.length - (i+1)) (i+1)=i+1)))
theorem cell_drw {w:World}{p:Addr}{v:Value}(h:w.cell? p=some v):w.drew.cell? p=some v:=h
theorem Below.nxt {w wc w1:World}(h:Below w.heap.size w wc) (b:Below wc.heap.size wc w1):Below w.heap.size w w1:=h.trans (b.mono h.size)
theorem Below.nxtd {w wc w1:World}(h:Below w.heap.size w wc) (b:Below wc.drew.heap.size wc.drew w1):Below w.heap.size w w1:=(h.drew).trans (b.mono h.size)
theorem hidOf {p:Prop}(h:p):Hid p:=h
theorem RdK.on {α:Type}{ok:Nat->Prop}{w w':World}{k:Nat}{R:(Nat->Prop)->World->α->List Value->Prop}{v:Value}{l:List α}(hR:Kp R) (h:RdK ok w k (R ok w) l v) (hb:Below w.heap.size w w'):RdK ok w' k (R ok w') l v:=
 h.stay hR (fun b hk hlt=>⟨hk,hb.block b hlt⟩)
theorem nst_succ {D:Nat->Int}{j:Nat}{m:Int}(h:nst D j) (hm:(j=0/\m=0)∨(0 < j/\m=D (j - 1)+1)):nst D (j+1)↔(0<=D j/\D j<=m):=by
 constructor
 ·intro h2
  have:=h2 j (by omega)
  rcases hm with ⟨rfl,rfl⟩|⟨h0,rfl⟩
  ·exact ⟨this.1,this.2.1 rfl⟩
  ·exact ⟨this.1,this.2.2 h0⟩
 ·rintro ⟨h1,h2⟩ i hi
  rcases Nat.lt_or_ge i j with h3|h3
  ·exact h i h3
  ·have:i=j:=by omega
   subst this
   rcases hm with ⟨rfl,rfl⟩|⟨h0,rfl⟩
   ·exact ⟨h1,fun _=>h2,fun h=>by omega⟩
   ·exact ⟨h1,fun h=>by omega,fun _=>h2⟩
theorem nst_le {D:Nat->Int}{j n:Nat}(h:nst D n) (hj:j<=n):nst D j:=fun i hi=>h i (by omega)
theorem nested_any {ok:Nat->Prop}{w:World}{l:List Nd}{v:Value}(h:RdNd ok w l v) (h40:l.length<=40) :
  Calls Tryz.prog 41 #[v] w fun e w'=>e=.returned (.bool (nsB l))/\Below w.heap.size w w':=by
 obtain ⟨a,cap,rfl,hlc,hcm⟩:=h.form
 unfold maxLen at hcm
 obtain ⟨V,hV⟩:∃ V,nsB l=V:=⟨_,rfl⟩
 rw [hV]
 have HV:Hid (nsB l=V):=hV
 have HC:=hidOf h
 obtain ⟨n,hn⟩:∃ n,l.length=n:=⟨_,rfl⟩
 rw [hn] at hlc h40 ⊢
 have HN:Hid (l.length=n):=hn
 clear h hV hn
 go_enter Tryz.func41,Tryz.ntmps41
 go_wp2
 go_loopw [3,8] (fun mo ix wr=>∃ (j:Nat) (m:Int),j<=n/\ix=.int .i64 (j:Int)/\mo=.int .i64 m/\0<=m/\m<=j/\Hid (nst (nD l) j/\((j=0/\m=0)∨(0 < j/\m=nD l (j - 1)+1)))/\Below w.heap.size w wr) (fun _ ix _=>n - (RowKit.intOf ix).toNat)
 case atStart=>exact ⟨0,0,Nat.zero_le _,rfl,rfl,by omega,by omega,⟨fun i hi=>by omega,.inl ⟨rfl,rfl⟩⟩,Below.refl _ _⟩
 case round=>
  obtain ⟨j,m,hj,rfl,rfl,hm0,hmj,HI,hb⟩:=hrel
  by_cases hlt:j < n
  ·obtain ⟨b,off,rfl,hbl,c0,c1,c2,c3,c4,c5,c6⟩:=nd_at HC.out j (by rw [HN.out];exact hlt)
   replace c0:=(hb.cell (p:=⟨b,off+j*7,none⟩) hbl).trans c0
   replace c1:=(hb.cell (p:=⟨b,off+j*7+1,none⟩) hbl).trans c1
   replace c2:=(hb.cell (p:=⟨b,off+j*7+2,none⟩) hbl).trans c2
   replace c3:=(hb.cell (p:=⟨b,off+j*7+3,none⟩) hbl).trans c3
   replace c4:=(hb.cell (p:=⟨b,off+j*7+4,none⟩) hbl).trans c4
   replace c5:=(hb.cell (p:=⟨b,off+j*7+5,none⟩) hbl).trans c5
   replace c6:=(hb.cell (p:=⟨b,off+j*7+6,none⟩) hbl).trans c6
   obtain ⟨d,hd⟩:∃ d,nD l j=d:=⟨_,rfl⟩
   rw [hd] at c2
   have HS:Hid (nst (nD l) (j+1)↔(0<=d/\d<=m)):=by rw [<- hd];exact nst_succ HI.out.1 HI.out.2
   have HD:Hid (nD l j=d):=hd
   generalize (nAt l j).1=x0 at c0
   generalize nP l j=x1 at c1
   generalize nB l j=x3 at c3
   generalize (nAt l j).2.2.1=x4 at c4
   generalize (nAt l j).2.2.2.1=x5 at c5
   generalize nL l j=x6 at c6
   clear hd
   have i1:(j:Int) < (n:Int):=by omega
   have i2:(0:Int)<=(j:Int):=by omega
   have hb1:=hb.alloc hb.size (.cells #[.string x0,.int .i64 x1,.int .i64 d,.int .i64 x3,.bool x4,.bool x5,.bool x6] 63)
   have hF:(d < 0∨m < d)->V=false:=fun h=>by
    rw [<- HV.out]
    unfold nsB
    rw [decide_eq_false]
    intro h2
    have:=HS.out.1 (nst_le h2 (by rw [HN.out];omega))
    omega
   by_cases hd0:d < 0
   ·have hF:=hF (.inl hd0)
    subst hF
    go_wp2
    go_ret
    exact ⟨rfl,hb1⟩
   by_cases hdm:m < d
   ·have hF:=hF (.inr hdm)
    subst hF
    go_wp2
    go_ret
    exact ⟨rfl,hb1⟩
   clear hF
   have hd1:0<=d:=by omega
   have hd2:d<=m:=by omega
   go_wp2
   go_roundw
   case rel=>exact ⟨j+1,d+1,hlt,by go_num,rfl,by omega,by omega,⟨HS.out.2 ⟨hd1,hd2⟩,.inr ⟨by omega,by rw [Nat.add_sub_cancel,HD.out]⟩⟩,hb1⟩
   case measure=>simp [RowKit.intOf];omega
  ·have i1:¬ (j:Int) < (n:Int):=by omega
   have hT:V=true:=by
    rw [<- HV.out]
    unfold nsB
    rw [decide_eq_true]
    rw [HN.out]
    have:j=n:=by omega
    rw [<- this]
    exact HI.out.1
   subst hT
   go_wp2
   go_ret
   exact ⟨rfl,hb⟩
def OwnB {α:Type}(w:World) (base:Nat) (bad:Nat->Prop) (e k:Nat) (R:(Nat->Prop)->World->α->List Value->Prop) (v:Value) (l:List α):Prop:=
 ∃ qs:List (List Value),w.ownsRow base e k v l.length qs.flatten/\qs.length=l.length/\(∀ (i:Nat) (h:i < l.length) (h':i < qs.length),(qs[i]).length=k/\R (fun b=>base<=b/\v.ownBlock≠some b/\¬ bad b) w l[i] qs[i])/\∀ g,v.ownBlock=some g->¬ bad g
theorem ownB_nil {α:Type}(w:World) (base:Nat) (bad:Nat->Prop) (e k:Nat) (R:(Nat->Prop)->World->α->List Value->Prop):OwnB w base bad e k R (.slice none 0 0) []:=⟨[],World.ownsRow_nil w base e k,rfl,fun i h=>absurd h (by simp),fun g hg=>by simp [Value.ownBlock] at hg⟩
theorem OwnB.keep {α:Type}{w w':World}{base e k:Nat}{bad bad':Nat->Prop}{R:(Nat->Prop)->World->α->List Value->Prop}{v:Value}{l:List α}(hR:Kp R) (h:OwnB w base bad e k R v l) (hk:∀ b,base<=b->¬ bad b->b < w.heap.size->w'.heap[b]?=w.heap[b]?/\¬ bad' b):OwnB w' base bad' e k R v l:=by
 obtain ⟨qs,ho,hl,hr,hg0⟩:=h
 refine ⟨qs,ownsRow_keep ho (fun g hg=>?_),hl,fun i h h'=>⟨(hr i h h').1,hR (hr i h h').2 (fun b hb hlt=>⟨⟨hb.1,hb.2.1,(hk b hb.1 hb.2.2 hlt).2⟩,(hk b hb.1 hb.2.2 hlt).1⟩)⟩,fun g hg=>?_⟩
 ·obtain ⟨a,b⟩:=ownsRow_lt ho g hg
  exact (hk g a (hg0 g hg) b).1
 ·obtain ⟨a,b⟩:=ownsRow_lt ho g hg
  exact (hk g a (hg0 g hg) b).2
theorem OwnB.on {α:Type}{w w':World}{base e k:Nat}{bad:Nat->Prop}{R:(Nat->Prop)->World->α->List Value->Prop}{v:Value}{l:List α}(hR:Kp R) (h:OwnB w base bad e k R v l) (hb:Below w.heap.size w w'):OwnB w' base bad e k R v l:=h.keep hR (fun b _ hbad hlt=>⟨hb.block b hlt,hbad⟩)
theorem OwnB.set {α:Type}{w:World}{base e k:Nat}{bad:Nat->Prop}{R:(Nat->Prop)->World->α->List Value->Prop}{v:Value}{l:List α}(hR:Kp R) (h:OwnB w base bad e k R v l) {X i:Nat}(hX:X < base) (u:Value):OwnB (w.setCell ⟨X,i,none⟩ u) base bad e k R v l:=
 h.keep hR (fun b hb hbad _=>⟨Below.heap_setCell _ _ _ _ (fun e=>by have:b=X:=e;omega),hbad⟩)
theorem OwnB.form {α:Type}{w:World}{base e k:Nat}{bad:Nat->Prop}{R:(Nat->Prop)->World->α->List Value->Prop}{v:Value}{l:List α}(h:OwnB w base bad e k R v l):∃ a cap,v=.slice a l.length cap/\l.length<=cap/\cap<=maxLen:=by
 obtain ⟨qs,ho,_⟩:=h
 rcases ho.2 with ⟨h1,h2⟩|⟨g,cap,cur,h1,_,_,h3,h4,_⟩
 ·exact ⟨none,0,by rw [h1,h2],by omega,by simp [maxLen]⟩
 ·exact ⟨_,_,h1,h3,h4⟩
theorem OwnB.lt {α:Type}{w:World}{base e k:Nat}{bad:Nat->Prop}{R:(Nat->Prop)->World->α->List Value->Prop}{v:Value}{l:List α}(h:OwnB w base bad e k R v l):∀ g,v.ownBlock=some g->base<=g/\g < w.heap.size:=by
 obtain ⟨qs,ho,_⟩:=h
 exact ownsRow_lt ho
theorem OwnB.other {α:Type}{w w':World}{base e k:Nat}{u u':Value}{R:(Nat->Prop)->World->α->List Value->Prop}{v:Value}{l:List α}(hR:Kp R) (h:OwnB w base (fun b=>u.ownBlock=some b) e k R v l) (hg:w.grownBy w' u.ownBlock) (hat:u'.ownBlock=u.ownBlock∨u'.ownBlock=some w.heap.size):OwnB w' base (fun b=>u'.ownBlock=some b) e k R v l:=
 h.keep hR (fun b hb hbad hlt=>⟨hg.block b hlt (fun e=>hbad e.symm),fun q=>by
  rcases hat with h|h
  ·exact hbad (h ▸ q)
  ·rw [h] at q;have:w.heap.size=b:=Option.some.inj q;omega⟩)
theorem OwnB.snoc {α:Type}{w w':World}{base e k lo n:Nat}{bad:Nat->Prop}{R:(Nat->Prop)->World->α->List Value->Prop}{v v':Value}{l:List α}{p:α}{cs:List Value}{qs:List (List Value)}(hR:Kp R) (hk:cs.length=k)
  (hn:l.length=n) (ho:w.ownsRow base e k v n qs.flatten) (hl:qs.length=l.length) (hr:∀ (i:Nat) (h:i < l.length) (h':i < qs.length),(qs[i]).length=k/\R (fun b=>base<=b/\v.ownBlock≠some b/\¬ bad b) w l[i] qs[i])
  (ho':w'.ownsRow base e k v' (n+1) (qs.flatten++cs)) (hg:w.grownBy w' v.ownBlock) (hat:v'.ownBlock=v.ownBlock∨v'.ownBlock=some w.heap.size)
  (hp:R (fun b=>lo<=b) w p cs) (hlo:base<=lo) (hv:∀ x,v.ownBlock=some x->x < lo) (hbad:∀ b,bad b->b < lo/\b < w.heap.size) (hvb:∀ g,v.ownBlock=some g->¬ bad g):OwnB w' base bad e k R v' (l++[p]):=by
 subst hn
 have key:∀ b,base<=b/\v.ownBlock≠some b/\¬ bad b->b < w.heap.size->(base<=b/\v'.ownBlock≠some b/\¬ bad b)/\w'.heap[b]?=w.heap[b]?:=fun b hb hlt=>by
  refine ⟨⟨hb.1,fun e=>?_,hb.2.2⟩,hg.block b hlt (fun e=>hb.2.1 e.symm)⟩
  rcases hat with h|h
  ·exact hb.2.1 (h ▸ e)
  ·rw [h] at e;have:w.heap.size=b:=Option.some.inj e;omega
 refine ⟨qs++[cs],?_,by simp [hl],fun i h h'=>?_,fun g hg'=>?_⟩
 ·rw [List.flatten_append,List.length_append]
  simpa using ho'
 ·rcases Nat.lt_or_ge i l.length with hi|hi
  ·rw [List.getElem_append_left hi,List.getElem_append_left (by omega)]
   exact ⟨(hr i hi (by omega)).1,hR (hr i hi (by omega)).2 key⟩
  ·have:i=l.length:=by simp at h;omega
   subst this
   have e1:(l++[p])[l.length]=p:=by simp
   have e2:(qs++[cs])[l.length]'h'=cs:=by simp [<- hl]
   rw [e1,e2]
   exact ⟨hk,hR hp (fun b hb hlt=>key b ⟨by omega,fun e=>by have:=hv b e;omega,fun q=>by have:=(hbad b q).1;omega⟩ hlt)⟩
 ·rcases hat with h|h
  ·exact hvb g (h ▸ hg')
  ·rw [h] at hg'
   have:w.heap.size=g:=Option.some.inj hg'
   intro q
   have:=(hbad g q).2
   omega
theorem OwnB.rd {α:Type}{w:World}{base e k:Nat}{bad:Nat->Prop}{R:(Nat->Prop)->World->α->List Value->Prop}{v:Value}{l:List α}(hR:Kp R) (h:OwnB w base bad e k R v l):RdK (fun b=>base<=b) w k (R (fun b=>base<=b) w) l v:=by
 obtain ⟨qs,ho,hl,hr,_⟩:=h
 exact OwnK.rd hR ⟨qs,ho,hl,fun i h h'=>⟨(hr i h h').1,hR (hr i h h').2 (fun b hb _=>⟨⟨hb.1,hb.2.1⟩,rfl⟩)⟩⟩
theorem step_pushB {α:Type}{P:Program}(w:World) {ops:Array Oper}{o:Oper}{a:Act}{K:Act->World->Prop}{Q:Exit->Act->World->Prop}{E:Prop}(hgd:o.guard=none) (s x:Operand) (t:TypeId)
  (ho:o.op=.call { callee:=.builtin .append,args:=#[s,x],argTypes:=#[t,t] })
  (base:Nat) (bad:Nat->Prop) (e:TypeId) (i:TypeInfo) (z:Value) (k bytes:Nat) (ht:P.underlying t=some (.slice e)) (hi:P.info? e=some i) (hz:i.zero=some z)
  (hsize:i.size=k) (hby:i.bytes=bytes) (hzs:z.cells.size=k) {R:(Nat->Prop)->World->α->List Value->Prop}(hR:Kp R)
  (v:Value) (l:List α) (p:α) (cs:List Value) (lo:Nat) (hs:a.eval s=v) (hx:a.eval x=.slice (some ⟨w.heap.size,0,none⟩) 1 1) (hk:cs.length=k) (h1:∀ u∈cs,u.oneCell'=true)
  (hown:OwnB w base bad e k R v l) (hp:R (fun b=>lo<=b) w p cs) (hlo:base<=lo) (hv:∀ x,v.ownBlock=some x->x < lo) (hbad:∀ b,bad b->b < lo/\b < w.heap.size) (hroom:(l.length+1+(l.length+1) / 4+192)*bytes<=281474976710656)
  (h63:l.length+1<=maxLen) (hbase:base<=w.heap.size)
  (h:∀ v' w',OwnB w' base bad e k R v' (l++[p])->(w.alloc (.cells cs.toArray e)).grownBy w' v.ownBlock->Below base w w'->(v'.ownBlock=v.ownBlock∨v'.ownBlock=some (w.alloc (.cells cs.toArray e)).heap.size)->K (a.put o.dst v') w') :
  if Region.wanted o (yielded ops a.tmps)=true then Oper.wp P o a (w.alloc (.cells cs.toArray e)) K Q else E:=by
 have hal:Below w.heap.size w (w.alloc (.cells cs.toArray e)):=(Below.refl _ _).alloc Nat.le.refl _
 obtain ⟨qs,ho1,hl1,hr1,hg1⟩:=hown.on hR hal
 refine step_append_at _ hgd s x t t ho base e i z k bytes ht hi hz hsize hby hzs v l.length qs.flatten hs ho1 _ 1 cs hx (src_row ht w cs hk h1) 1 (.inr hroom) Nat.le.refl h63 (Nat.le_trans hbase hal.size) ?_
 intro v' w' hown' hg hat
 refine h v' w' (OwnB.snoc hR hk rfl ho1 hl1 hr1 hown' hg hat (hR hp (fun b hb hlt=>⟨hb,hal.block b hlt⟩)) hlo hv (fun b q=>⟨(hbad b q).1,Nat.lt_of_lt_of_le (hbad b q).2 hal.size⟩) hg1) hg ?_ hat
 exact ((Below.refl base w).alloc hbase _).grown hg (Nat.le_trans hbase hal.size) (fun k hk=>(World.ownsRow.lt ho1 k hk).1)
def putL (w:World) (g:Nat):Nat->List Value->World
 | _,[]=>w
 | o,c :: cs=>putL (w.setCell ⟨g,o,none⟩ c) g (o+1) cs
theorem putL_own:∀ (cs zs xs ys:List Value) (w:World) (base e k:Nat) (g n cap o:Nat),zs.length=cs.length->xs.length=o->w.ownsRow base e k (.slice (some ⟨g,0,none⟩) n cap) n (xs++zs++ys)->(putL w g o cs).ownsRow base e k (.slice (some ⟨g,0,none⟩) n cap) n (xs++cs++ys)
 | [],zs,xs,ys,w,base,e,k,g,n,cap,o,hz,hx,h=>by
  have:zs=[]:=List.eq_nil_of_length_eq_zero (by simpa using hz)
  subst this
  exact h
 | c :: cs,[],xs,ys,w,base,e,k,g,n,cap,o,hz,hx,h=>by simp at hz
 | c :: cs,z :: zs,xs,ys,w,base,e,k,g,n,cap,o,hz,hx,h=>by
  have h1:=(World.ownsRow.stored h o c).1
  have e1:(xs++z :: zs++ys).set o c=(xs++[c])++zs++ys:=by
   subst hx
   simp
  rw [e1] at h1
  have h2:=putL_own cs zs (xs++[c]) ys _ base e k g n cap (o+1) (by simpa using hz) (by simp [hx]) h1
  have e2:xs++[c]++cs++ys=xs++(c :: cs)++ys:=by simp
  rw [e2] at h2
  exact h2
theorem putL_heap:∀ (cs:List Value) (w:World) (g o k:Nat),k≠g->(putL w g o cs).heap[k]?=w.heap[k]?
 | [],w,g,o,k,h=>rfl
 | c :: cs,w,g,o,k,h=>by
  unfold putL
  rw [putL_heap cs _ g (o+1) k h]
  exact Below.heap_setCell _ _ _ _ (fun e=>h e)
theorem putL_size:∀ (cs:List Value) (w:World) (g o:Nat),(putL w g o cs).heap.size=w.heap.size
 | [],w,g,o=>rfl
 | c :: cs,w,g,o=>by unfold putL;rw [putL_size cs _ g (o+1)];simp
theorem putL_below {B:Nat}{u:World}:∀ (cs:List Value) (w:World) (g o:Nat),Below B u w->B<=g->Below B u (putL w g o cs)
 | [],w,g,o,h,hg=>h
 | c :: cs,w,g,o,h,hg=>putL_below cs _ g (o+1) (h.setCell hg c) hg
theorem setCell_far (w:World) {p q:Addr}(h:p.block≠q.block) (u v:Value):(w.setCell p u).setCell q v=(w.setCell q v).setCell p u:=by
 unfold World.setCell
 simp only [World.mk.injEq,and_true,true_and]
 apply Array.ext_getElem?
 intro k
 simp only [Array.getElem?_modify]
 by_cases h1:q.block=k
 ·by_cases h2:p.block=k
  ·exact absurd (h2.trans h1.symm) h
  ·simp [h1,h2]
 ·by_cases h2:p.block=k
  ·simp [h1,h2]
  ·simp [h1,h2]
theorem putL_far (g S i:Nat) (v:Value) (h:S≠g):∀ (cs:List Value) (w:World) (o:Nat),putL (w.setCell ⟨S,i,none⟩ v) g o cs=(putL w g o cs).setCell ⟨S,i,none⟩ v
 | [],w,o=>rfl
 | c :: cs,w,o=>by
  unfold putL
  rw [setCell_far w (p:=⟨S,i,none⟩) (q:=⟨g,o,none⟩) h]
  exact putL_far g S i v h cs _ _
def ZR {α:Type}(w:World) (base:Nat) (bad:Nat->Prop) (e k:Nat) (R:(Nat->Prop)->World->α->List Value->Prop) (zs:List Value) (g cap:Nat) (l:List α):Prop:=
 base<=g/\g < w.heap.size/\¬ bad g/\∃ qs:List (List Value),w.ownsRow base e k (.slice (some ⟨g,0,none⟩) (l.length+1) cap) (l.length+1) (qs.flatten++zs)/\qs.length=l.length/\∀ (i:Nat) (h:i < l.length) (h':i < qs.length),(qs[i]).length=k/\R (fun b=>base<=b/\g≠b/\¬ bad b) w l[i] qs[i]
theorem flat_len {k:Nat}:∀ (qs:List (List Value)),(∀ (i:Nat) (h:i < qs.length),(qs[i]).length=k)->qs.flatten.length=qs.length*k
 | [],_=>by simp
 | x :: t,h=>by
  have hx:x.length=k:=h 0 (by simp)
  rw [List.flatten_cons,List.length_append,flat_len t (fun i hi=>h (i+1) (by simpa using hi)),List.length_cons,Nat.succ_mul]
  omega
theorem ZR.cells {α:Type}{w:World}{base e k g cap:Nat}{bad:Nat->Prop}{R:(Nat->Prop)->World->α->List Value->Prop}{zs:List Value}{l:List α}(h:ZR w base bad e k R zs g cap l):∀ j z,zs[j]?=some z->w.cell? ⟨g,l.length*k+j,none⟩=some z/\w.frozen? ⟨g,l.length*k+j,none⟩=false:=by
 obtain ⟨h1,h2,h3,qs,ho,hl,hr⟩:=h
 intro j z hz
 have hfl:qs.flatten.length=l.length*k:=by rw [flat_len qs (fun i hi=>(hr i (by omega) hi).1),hl]
 have hc:=World.ownsRow.cells ho (g:=g) rfl (l.length*k+j) z (by rw [List.getElem?_append_right (by omega),hfl,Nat.add_sub_cancel_left];exact hz)
 rw [add_plain,Nat.zero_add] at hc
 exact ⟨hc,World.ownsRow.frozenAt ho _⟩
theorem ZR.of {α:Type}{w w':World}{base e k:Nat}{bad:Nat->Prop}{R:(Nat->Prop)->World->α->List Value->Prop}{v v':Value}{zs:List Value}{l:List α}{qs:List (List Value)}(hR:Kp R)
  (ho:w.ownsRow base e k v l.length qs.flatten) (hl:qs.length=l.length) (hr:∀ (i:Nat) (h:i < l.length) (h':i < qs.length),(qs[i]).length=k/\R (fun b=>base<=b/\v.ownBlock≠some b/\¬ bad b) w l[i] qs[i]) (hgb:∀ g,v.ownBlock=some g->¬ bad g)
  (ho':w'.ownsRow base e k v' (l.length+1) (qs.flatten++zs)) (hg:w.grownBy w' v.ownBlock) (hat:v'.ownBlock=v.ownBlock∨v'.ownBlock=some w.heap.size) (hbad:∀ b,bad b->b < w.heap.size):∃ g cap,v'=.slice (some ⟨g,0,none⟩) (l.length+1) cap/\l.length+1<=cap/\cap<=maxLen/\(v.ownBlock=some g∨g=w.heap.size)/\ZR w' base bad e k R zs g cap l:=by
 rcases ho'.2 with ⟨_,h2⟩|⟨g,cap,cur,rfl,hb,hgg,hnc,hcm,_⟩
 ·omega
 ·have hgl:g < w'.heap.size:=(Array.getElem?_eq_some_iff.1 hgg).1
  have hat':v.ownBlock=some g∨g=w.heap.size:=by
   simp only [Value.ownBlock] at hat
   rcases hat with h|h
   ·exact .inl h.symm
   ·exact .inr (Option.some.inj h)
  have hng:¬ bad g:=by
   rcases hat' with h|h
   ·exact hgb g h
   ·intro q;have:=hbad g q;omega
  refine ⟨g,cap,rfl,hnc,hcm,hat',hb,hgl,hng,qs,ho',hl,fun i h h'=>⟨(hr i h h').1,hR (hr i h h').2 (fun b hb hlt=>⟨⟨hb.1,fun e=>?_,hb.2.2⟩,hg.block b hlt (fun e=>hb.2.1 e.symm)⟩)⟩⟩
  subst e
  rcases hat' with h|h
  ·exact hb.2.1 h
  ·omega
theorem ZR.put {α:Type}{w:World}{base e k g cap:Nat}{bad:Nat->Prop}{R:(Nat->Prop)->World->α->List Value->Prop}{zs:List Value}{l:List α}{p:α}{cs:List Value}(hR:Kp R) (h:ZR w base bad e k R zs g cap l) (hk:cs.length=k) (hz:zs.length=k) (hp:R (fun b=>base<=b/\g≠b/\¬ bad b) w p cs):OwnB (putL w g (l.length*k) cs) base bad e k R (.slice (some ⟨g,0,none⟩) (l.length+1) cap) (l++[p]):=by
 obtain ⟨h1,h2,h3,qs,ho,hl,hr⟩:=h
 have hfl:qs.flatten.length=l.length*k:=by rw [flat_len qs (fun i hi=>(hr i (by omega) hi).1),hl]
 have ho2:=putL_own cs zs qs.flatten [] w base e k g (l.length+1) cap (l.length*k) (by omega) hfl (by simpa using ho)
 rw [List.append_nil] at ho2
 have key:∀ b,base<=b/\g≠b/\¬ bad b->b < w.heap.size->(base<=b/\(Value.slice (some ⟨g,0,none⟩) (l.length+1) cap).ownBlock≠some b/\¬ bad b)/\(putL w g (l.length*k) cs).heap[b]?=w.heap[b]?:=fun b hb hlt=>
  ⟨⟨hb.1,fun e=>hb.2.1 (Option.some.inj e),hb.2.2⟩,putL_heap cs w g _ b (fun e=>hb.2.1 e.symm)⟩
 refine ⟨qs++[cs],?_,by simp [hl],fun i h h'=>?_,fun g' hg'=>?_⟩
 ·rw [List.flatten_append,List.length_append]
  simpa using ho2
 ·rcases Nat.lt_or_ge i l.length with hi|hi
  ·rw [List.getElem_append_left hi,List.getElem_append_left (by omega)]
   exact ⟨(hr i hi (by omega)).1,hR (hr i hi (by omega)).2 key⟩
  ·have:i=l.length:=by simp at h;omega
   subst this
   have e1:(l++[p])[l.length]=p:=by simp
   have e2:(qs++[cs])[l.length]'h'=cs:=by simp [<- hl]
   rw [e1,e2]
   exact ⟨hk,hR hp key⟩
 ·simp only [Value.ownBlock,Option.some.injEq] at hg'
  subst hg'
  exact h3
theorem step_zero {α:Type}{P:Program}(wa W:World) (hW:Below wa.heap.size wa W) {ops:Array Oper}{o:Oper}{a:Act}{K:Act->World->Prop}{Q:Exit->Act->World->Prop}{E:Prop}(hgd:o.guard=none) (s x:Operand) (t:TypeId)
  (ho:o.op=.call { callee:=.builtin .append,args:=#[s,x],argTypes:=#[t,t] })
  (base:Nat) (bad:Nat->Prop) (e:TypeId) (i:TypeInfo) (z:Value) (k bytes:Nat) (ht:P.underlying t=some (.slice e)) (hi:P.info? e=some i) (hz:i.zero=some z)
  (hsize:i.size=k) (hby:i.bytes=bytes) (hzs:z.cells.size=k) {R:(Nat->Prop)->World->α->List Value->Prop}(hR:Kp R)
  (v:Value) (l:List α) (p:α) (cs zs:List Value) (xv:Value) (lo:Nat) (hs:a.eval s=v) (hx:a.eval x=xv) (hsrc:Src P k t xv 1 zs W)
  (hown:OwnB wa base bad e k R v l) (hp:R (fun b=>lo<=b) wa p cs) (hlo:base<=lo) (hv:∀ x,v.ownBlock=some x->x < lo) (hbad:∀ b,bad b->b < lo/\b < wa.heap.size) (hroom:(l.length+1+(l.length+1) / 4+192)*bytes<=281474976710656)
  (h63:l.length+1<=maxLen) (hbase:base<=wa.heap.size)
  (h:∀ g cap w',l.length+1<=cap->cap<=maxLen->ZR w' base bad e k R zs g cap l->R (fun b=>base<=b/\g≠b/\¬ bad b) w' p cs->W.grownBy w' v.ownBlock->Below base wa w'->((Value.slice (some ⟨g,0,none⟩) (l.length+1) cap).ownBlock=v.ownBlock∨(Value.slice (some ⟨g,0,none⟩) (l.length+1) cap).ownBlock=some W.heap.size)->K (a.put o.dst (.slice (some ⟨g,0,none⟩) (l.length+1) cap)) w') :
  if Region.wanted o (yielded ops a.tmps)=true then Oper.wp P o a W K Q else E:=by
 obtain ⟨qs,ho1,hl1,hr1,hg1⟩:=hown.on hR hW
 refine step_append_at _ hgd s x t t ho base e i z k bytes ht hi hz hsize hby hzs v l.length qs.flatten hs ho1 _ 1 zs hx hsrc 1 (.inr hroom) Nat.le.refl h63 (Nat.le_trans hbase hW.size) ?_
 intro v' w' hown' hg hat
 obtain ⟨g,cap,rfl,h1,h2,h3,h4⟩:=ZR.of hR ho1 hl1 hr1 hg1 hown' hg hat (fun b q=>Nat.lt_of_lt_of_le (hbad b q).2 hW.size)
 refine h g cap w' h1 h2 h4 (hR hp (fun b hb hlt=>⟨⟨by omega,fun e=>?_,fun q=>?_⟩,?_⟩)) hg ?_ hat
 ·subst e
  rcases h3 with q|q
  ·have:=hv g q;omega
  ·have:=hW.size;omega
 ·have:=(hbad b q).1;omega
 ·rw [hg.block b (Nat.lt_of_lt_of_le hlt hW.size) (fun e=>by have:=hv b e.symm;omega)]
  exact hW.block b hlt
 ·exact (hW.mono hbase).grown hg (Nat.le_trans hbase hW.size) (fun k hk=>(World.ownsRow.lt ho1 k hk).1)
def pc0 (w:World) (X k:Nat):Int:=match w.cell? ⟨X,k,none⟩ with|some (.int _ n)=>n|_=>0
theorem pc0_of {w:World}{X k:Nat}{n:Int}(h:w.cell? ⟨X,k,none⟩=some (.int .i64 n)):pc0 w X k=n:=by unfold pc0;rw [h]
theorem lf_same (j i:Nat):decide (j=i+1)=((j:Int) == (i:Int)+1):=by
 rw [Bool.eq_iff_iff,decide_eq_true_eq,beq_iff_eq]
 constructor
 ·intro h;rw [h];rfl
 ·intro h;omega
theorem placed_res {w4:World}{R:Nat}{a b c d e f g:Value}{tmps:Array Value}(hR:Bn w4 R [a,b,c,d,e,f,g]) (ht:tmps.getD 4 undef=.pointer (some ⟨R,0,none⟩)):(results Tryz.f42 tmps).run Tryz.prog w4=.ok (.agg #[a,b,c,d,e,f,g]) w4:=by
 have ht':tmps[4]?.getD undef=.pointer (some ⟨R,0,none⟩):=by simpa using ht
 have c0:=(hR 0 _ rfl).1
 have c1:=(hR 1 _ rfl).1
 have c2:=(hR 2 _ rfl).1
 have c3:=(hR 3 _ rfl).1
 have c4:=(hR 4 _ rfl).1
 have c5:=(hR 5 _ rfl).1
 have c6:=(hR 6 _ rfl).1
 simp [results,Tryz.results42,go_sem,ht',c0,c1,c2,c3,c4,c5,c6]
theorem placed_any {ok:Nat->Prop}{w:World}{l:List Nd}{v:Value}{i:Nat}(h:RdNd ok w l v) (h40:l.length<=40) (hi:i < l.length) :
  Calls Tryz.prog 42 #[v,.int .i64 (i:Int)] w fun e w'=>e=.returned (.agg (ndV (plN l i)).toArray)/\Below w.heap.size w w':=by
 obtain ⟨a,cap,rfl,hlc,hcm⟩:=h.form
 unfold maxLen at hcm
 obtain ⟨b,off,rfl,hbl,c0,c1,c2,c3,c4,c5,c6⟩:=nd_at h i hi
 have HC:=hidOf h
 obtain ⟨D,hD⟩:∃ D,nD l=D:=⟨_,rfl⟩
 obtain ⟨n,hn⟩:∃ n,l.length=n:=⟨_,rfl⟩
 obtain ⟨d,hd⟩:∃ d,D i=d:=⟨_,rfl⟩
 obtain ⟨pp,hpp⟩:∃ p,ppar D d i=p:=⟨_,rfl⟩
 obtain ⟨bb,hbb⟩:∃ p,pbeh D d (n - (i+1)) (i+1)=p:=⟨_,rfl⟩
 have hpl:ndV (plN l i)=[.string (nAt l i).1,.int .i64 pp,.int .i64 d,.int .i64 (bb:Int),.bool (nAt l i).2.2.1,.bool (nAt l i).2.2.2.1,.bool (decide (bb=i+1))]:=by
  unfold plN ndV
  simp only [hD,hn,hd,hpp,hbb]
 have hbl2:=pbeh_le D d (n - (i+1)) (i+1)
 have hplt:=ppar_lt D d i
 rw [hbb] at hbl2
 rw [hpp] at hplt
 rw [hpl]
 rw [hn] at hlc h40 hi ⊢
 rw [hD] at c2
 rw [hd] at c2
 have HN:Hid (l.length=n):=hn
 have HD:Hid (nD l=D):=hD
 have HPP:Hid (ppar D d i=pp):=hpp
 have HBB:Hid (pbeh D d (n - (i+1)) (i+1)=bb):=hbb
 have HDI:Hid (D i=d):=hd
 generalize (nAt l i).1=x0 at *
 generalize nP l i=x1 at c1
 generalize nB l i=x3 at c3
 generalize (nAt l i).2.2.1=x4 at *
 generalize (nAt l i).2.2.2.1=x5 at *
 generalize nL l i=x6 at c6
 clear hpl h hD hn hd hpp hbb
 have HCE:Hid (∀ (w1:World) (j:Nat),Below w.heap.size w w1->j < n->w1.cell? ⟨b,off+j*7+2,none⟩=some (.int .i64 (D j))):=fun w1 j b1 hj=>by
  obtain ⟨b',off',he,hbl',_,_,k2,_⟩:=nd_at HC.out j (by rw [HN.out];exact hj)
  simp only [Option.some.injEq,Addr.mk.injEq,and_true] at he
  obtain ⟨rfl,rfl⟩:=he
  rw [HD.out] at k2
  exact (b1.cell (p:=⟨b,off+j*7+2,none⟩) hbl').trans k2
 have i1:(i:Int) < (n:Int):=by omega
 have i2:(0:Int)<=(i:Int):=by omega
 go_enter Tryz.func42,Tryz.ntmps42
 go_upto_region 2 with fail
 have hb0:=((Below.refl w.heap.size w).alloc Nat.le.refl (.cells #[.string ⟨#[]⟩,.int .i64 0,.int .i64 0,.int .i64 0,.bool false,.bool false,.bool false] 63)).alloc (by simp) (.cells #[.string x0,.int .i64 x1,.int .i64 d,.int .i64 x3,.bool x4,.bool x5,.bool x6] 63)
 have hR0:Bn ((w.alloc (.cells #[.string ⟨#[]⟩,.int .i64 0,.int .i64 0,.int .i64 0,.bool false,.bool false,.bool false] 63)).alloc (.cells #[.string x0,.int .i64 x1,.int .i64 d,.int .i64 x3,.bool x4,.bool x5,.bool x6] 63)) w.heap.size [.string ⟨#[]⟩,.int .i64 0,.int .i64 0,.int .i64 0,.bool false,.bool false,.bool false]:=(Bn.new w [.string ⟨#[]⟩,.int .i64 0,.int .i64 0,.int .i64 0,.bool false,.bool false,.bool false] 63 _ rfl).on ((Below.refl _ _).alloc Nat.le.refl _)
 have hY0:Bn ((w.alloc (.cells #[.string ⟨#[]⟩,.int .i64 0,.int .i64 0,.int .i64 0,.bool false,.bool false,.bool false] 63)).alloc (.cells #[.string x0,.int .i64 x1,.int .i64 d,.int .i64 x3,.bool x4,.bool x5,.bool x6] 63)) (w.heap.size+1) [.string x0,.int .i64 x1,.int .i64 d,.int .i64 x3,.bool x4,.bool x5,.bool x6]:=Bn.new (w.alloc (.cells #[.string ⟨#[]⟩,.int .i64 0,.int .i64 0,.int .i64 0,.bool false,.bool false,.bool false] 63)) [.string x0,.int .i64 x1,.int .i64 d,.int .i64 x3,.bool x4,.bool x5,.bool x6] 63 _ (by simp)
 generalize ((w.alloc (.cells #[.string ⟨#[]⟩,.int .i64 0,.int .i64 0,.int .i64 0,.bool false,.bool false,.bool false] 63)).alloc (.cells #[.string x0,.int .i64 x1,.int .i64 d,.int .i64 x3,.bool x4,.bool x5,.bool x6] 63))=w0 at *
 have hY1:=hY0.set (i:=1) (by simp) (.int .i64 ((i:Int) - 1))
 have hR1:=hR0.far (X:=w.heap.size+1) (i:=1) (by omega) (.int .i64 ((i:Int) - 1))
 have hb1:=hb0.setCell (p:=⟨w.heap.size+1,1,none⟩) (by simp) (.int .i64 ((i:Int) - 1))
 simp only [List.set_cons_succ,List.set_cons_zero] at hY1
 obtain ⟨g1,f1⟩:=hY0 1 _ rfl
 have hi1:(0:Int)<=(i:Int) - 1+1:=by omega
 clear c0 c1 c2 c3 c4 c5 c6
 go_wp2
 clear g1 f1 hb0 hR0 hY0
 go_loopw [] (fun wr=>∃ k:Nat,k<=i/\Hid (ppar D d k=pp)/\Bn wr (w.heap.size+1) [.string x0,.int .i64 ((k:Int) - 1),.int .i64 d,.int .i64 x3,.bool x4,.bool x5,.bool x6]/\Bn wr w.heap.size [.string ⟨#[]⟩,.int .i64 0,.int .i64 0,.int .i64 0,.bool false,.bool false,.bool false]/\Below w.heap.size w wr) (fun wr=>(pc0 wr (w.heap.size+1) 1+1).toNat)
 case atStart=>exact ⟨i,Nat.le_refl _,HPP,hY1,hR1,hb1⟩
 case round=>
  clear hY1 hR1 hb1
  obtain ⟨k,hk,HK,hY,hR,hb⟩:=hrel
  have hx:(k=0)∨(∃ k',k=k'+1/\D k' < d)∨(∃ k',k=k'+1/\d<=D k'):=by
   cases k with
   | zero=>exact .inl rfl
   | succ k'=>
    rcases Int.lt_or_le (D k') d with h|h
    ·exact .inr (.inl ⟨k',rfl,h⟩)
    ·exact .inr (.inr ⟨k',rfl,h⟩)
  rcases hx with rfl|⟨k',rfl,hlt⟩|⟨k',rfl,hge⟩
  ·have HP:Hid ((-1:Int)=pp):=HK
   have hw:((0:Nat):Int) - 1=(-1:Int):=by omega
   rw [hw] at hY
   clear HK
   obtain ⟨p,hp⟩:∃ p:Int,-1=p:=⟨_,rfl⟩
   rw [hp] at hY HP
   have i5:¬ (0:Int)<=p:=by omega
   clear hw hp hk
   obtain ⟨g1,f1⟩:=hY 1 _ rfl
   go_upto_region 3 with fail
   go_quiet (fail)
   have hY:Bn (wr.drewN nq) (w.heap.size+1) _:=hY
   have hR:Bn (wr.drewN nq) w.heap.size _:=hR
   have hb:Below w.heap.size w (wr.drewN nq):=hb.trans ⟨rfl,rfl,rfl,Nat.le_refl _,fun _ _=>rfl⟩
   clear g1 f1 i5
   generalize wr.drewN nq=wq at *
   obtain ⟨g3,f3⟩:=hY 3 _ rfl
   have hY2:=hY.set (i:=3) (by simp) (.int .i64 ((i:Int)+1))
   have hR2:=hR.far (X:=w.heap.size+1) (i:=3) (by omega) (.int .i64 ((i:Int)+1))
   have hb2:=hb.setCell (p:=⟨w.heap.size+1,3,none⟩) (by simp) (.int .i64 ((i:Int)+1))
   simp only [List.set_cons_succ,List.set_cons_zero] at hY2
   go_wp2
   clear g3 f3 hY hR hb
   have ei:((i+1:Nat):Int)=(i:Int)+1:=by omega
   go_loopw [] (fun wr=>∃ j:Nat,i+1<=j/\j<=n/\Hid (pbeh D d (n - j) j=bb)/\Bn wr (w.heap.size+1) [.string x0,.int .i64 p,.int .i64 d,.int .i64 (j:Int),.bool x4,.bool x5,.bool x6]/\Bn wr w.heap.size [.string ⟨#[]⟩,.int .i64 0,.int .i64 0,.int .i64 0,.bool false,.bool false,.bool false]/\Below w.heap.size w wr) (fun wr=>((n:Int) - pc0 wr (w.heap.size+1) 3).toNat)
   case atStart=>exact ⟨i+1,Nat.le_refl _,by omega,HBB,by rw [ei];exact hY2,hR2,hb2⟩
   case round=>
    clear hY2 hR2 hb2 ei
    obtain ⟨j,hj1,hj2,HJ,hY,hR,hb⟩:=hrel
    have hx:(j=n)∨(j < n/\D j<=d)∨(j < n/\d < D j):=by omega
    rcases hx with hjn|⟨hjn,hd⟩|⟨hjn,hd⟩
    ·replace HJ:Hid (j=bb):=by
      have:=HJ.out
      rw [hjn,Nat.sub_self] at this
      rw [hjn];exact this
     have i3:¬ (j:Int) < (n:Int):=by omega
     clear hjn
     obtain ⟨g3,f3⟩:=hY 3 _ rfl
     go_upto_region 6 with fail
     go_quiet (fail)
     have hY:Bn (wr.drewN nq) (w.heap.size+1) _:=hY
     have hR:Bn (wr.drewN nq) w.heap.size _:=hR
     have hb:Below w.heap.size w (wr.drewN nq):=hb.trans ⟨rfl,rfl,rfl,Nat.le_refl _,fun _ _=>rfl⟩
     clear g3 f3
     generalize wr.drewN nq=wq at *
     obtain ⟨g0,f0⟩:=hY 0 _ rfl
     obtain ⟨g1,f1⟩:=hY 1 _ rfl
     obtain ⟨g2,f2⟩:=hY 2 _ rfl
     obtain ⟨g3,f3⟩:=hY 3 _ rfl
     obtain ⟨g4,f4⟩:=hY 4 _ rfl
     obtain ⟨g5,f5⟩:=hY 5 _ rfl
     obtain ⟨g6,f6⟩:=hY 6 _ rfl
     obtain ⟨L,hL⟩:∃ L,((j:Int) == (i:Int)+1)=L:=⟨_,rfl⟩
     have HL:Hid (decide (bb=i+1)=L):=by
      rw [<- hL,<- HJ.out]
      exact lf_same j i
     go_upto_region 9 with fail
     have hY3:=hY.set (i:=6) (by simp) (.bool L)
     have hR3:=hR.far (X:=w.heap.size+1) (i:=6) (by omega) (.bool L)
     have hb3:=hb.setCell (p:=⟨w.heap.size+1,6,none⟩) (by simp) (.bool L)
     simp only [List.set_cons_succ,List.set_cons_zero] at hY3
     clear g0 f0 g1 f1 g2 f2 g3 f3 g4 f4 g5 f5 g6 f6 hY hR hb hL
     generalize wq.setCell ⟨w.heap.size+1,6,none⟩ (.bool L)=wz at *
     obtain ⟨g0,f0⟩:=hY3 0 _ rfl
     obtain ⟨g1,f1⟩:=hY3 1 _ rfl
     obtain ⟨g2,f2⟩:=hY3 2 _ rfl
     obtain ⟨g3,f3⟩:=hY3 3 _ rfl
     obtain ⟨g4,f4⟩:=hY3 4 _ rfl
     obtain ⟨g5,f5⟩:=hY3 5 _ rfl
     obtain ⟨g6,f6⟩:=hY3 6 _ rfl
     obtain ⟨r0,q0⟩:=hR3 0 _ rfl
     obtain ⟨r1,q1⟩:=hR3 1 _ rfl
     obtain ⟨r2,q2⟩:=hR3 2 _ rfl
     obtain ⟨r3,q3⟩:=hR3 3 _ rfl
     obtain ⟨r4,q4⟩:=hR3 4 _ rfl
     obtain ⟨r5,q5⟩:=hR3 5 _ rfl
     obtain ⟨r6,q6⟩:=hR3 6 _ rfl
     have hR2:=((((((hR3.set (i:=0) (by simp) (.string x0)).set (i:=1) (by simp) (.int .i64 p)).set (i:=2) (by simp) (.int .i64 d)).set (i:=3) (by simp) (.int .i64 (j:Int))).set (i:=4) (by simp) (.bool x4)).set (i:=5) (by simp) (.bool x5)).set (i:=6) (by simp) (.bool L)
     have hb2:=putL_below [.string x0,.int .i64 p,.int .i64 d,.int .i64 (j:Int),.bool x4,.bool x5,.bool L] wz w.heap.size 0 hb3 Nat.le.refl
     go_wp2
     exact bodyPost_ret (placed_res hR2 rfl) rfl ⟨by rw [HL.out,<- HJ.out,<- HP.out],hb2⟩
    ·have e:=HCE.out wr j hb hjn
     replace HJ:Hid (j=bb):=by
      have:=HJ.out
      have h1:n - j=(n - j - 1)+1:=by omega
      rw [h1,pbeh,if_neg (by omega)] at this
      exact this
     have i3:(j:Int) < (n:Int):=by omega
     have i4:(0:Int)<=(j:Int):=by omega
     obtain ⟨g3,f3⟩:=hY 3 _ rfl
     have g2:=(hY 2 _ rfl).1
     obtain ⟨q,hq⟩:∃ q,D j=q:=⟨_,rfl⟩
     rw [hq] at e hd
     have i5:¬ d < q:=by omega
     clear hq
     go_upto_region 6 with fail
     go_quiet (fail)
     have hY:Bn (wr.drewN nq) (w.heap.size+1) _:=hY
     have hR:Bn (wr.drewN nq) w.heap.size _:=hR
     have hb:Below w.heap.size w (wr.drewN nq):=hb.trans ⟨rfl,rfl,rfl,Nat.le_refl _,fun _ _=>rfl⟩
     clear g3 f3 e g2
     generalize wr.drewN nq=wq at *
     obtain ⟨g0,f0⟩:=hY 0 _ rfl
     obtain ⟨g1,f1⟩:=hY 1 _ rfl
     obtain ⟨g2,f2⟩:=hY 2 _ rfl
     obtain ⟨g3,f3⟩:=hY 3 _ rfl
     obtain ⟨g4,f4⟩:=hY 4 _ rfl
     obtain ⟨g5,f5⟩:=hY 5 _ rfl
     obtain ⟨g6,f6⟩:=hY 6 _ rfl
     obtain ⟨L,hL⟩:∃ L,((j:Int) == (i:Int)+1)=L:=⟨_,rfl⟩
     have HL:Hid (decide (bb=i+1)=L):=by
      rw [<- hL,<- HJ.out]
      exact lf_same j i
     go_upto_region 9 with fail
     have hY3:=hY.set (i:=6) (by simp) (.bool L)
     have hR3:=hR.far (X:=w.heap.size+1) (i:=6) (by omega) (.bool L)
     have hb3:=hb.setCell (p:=⟨w.heap.size+1,6,none⟩) (by simp) (.bool L)
     simp only [List.set_cons_succ,List.set_cons_zero] at hY3
     clear g0 f0 g1 f1 g2 f2 g3 f3 g4 f4 g5 f5 g6 f6 hY hR hb hL
     generalize wq.setCell ⟨w.heap.size+1,6,none⟩ (.bool L)=wz at *
     obtain ⟨g0,f0⟩:=hY3 0 _ rfl
     obtain ⟨g1,f1⟩:=hY3 1 _ rfl
     obtain ⟨g2,f2⟩:=hY3 2 _ rfl
     obtain ⟨g3,f3⟩:=hY3 3 _ rfl
     obtain ⟨g4,f4⟩:=hY3 4 _ rfl
     obtain ⟨g5,f5⟩:=hY3 5 _ rfl
     obtain ⟨g6,f6⟩:=hY3 6 _ rfl
     obtain ⟨r0,q0⟩:=hR3 0 _ rfl
     obtain ⟨r1,q1⟩:=hR3 1 _ rfl
     obtain ⟨r2,q2⟩:=hR3 2 _ rfl
     obtain ⟨r3,q3⟩:=hR3 3 _ rfl
     obtain ⟨r4,q4⟩:=hR3 4 _ rfl
     obtain ⟨r5,q5⟩:=hR3 5 _ rfl
     obtain ⟨r6,q6⟩:=hR3 6 _ rfl
     have hR2:=((((((hR3.set (i:=0) (by simp) (.string x0)).set (i:=1) (by simp) (.int .i64 p)).set (i:=2) (by simp) (.int .i64 d)).set (i:=3) (by simp) (.int .i64 (j:Int))).set (i:=4) (by simp) (.bool x4)).set (i:=5) (by simp) (.bool x5)).set (i:=6) (by simp) (.bool L)
     have hb2:=putL_below [.string x0,.int .i64 p,.int .i64 d,.int .i64 (j:Int),.bool x4,.bool x5,.bool L] wz w.heap.size 0 hb3 Nat.le.refl
     go_wp2
     exact bodyPost_ret (placed_res hR2 rfl) rfl ⟨by rw [HL.out,<- HJ.out,<- HP.out],hb2⟩
    ·have e:=HCE.out wr j hb hjn
     replace HJ:Hid (pbeh D d (n - (j+1)) (j+1)=bb):=by
      have:=HJ.out
      have h1:n - j=(n - (j+1))+1:=by omega
      rw [h1,pbeh,if_pos hd] at this
      exact this
     have i3:(j:Int) < (n:Int):=by omega
     have i4:(0:Int)<=(j:Int):=by omega
     obtain ⟨g3,f3⟩:=hY 3 _ rfl
     have g2:=(hY 2 _ rfl).1
     obtain ⟨q,hq⟩:∃ q,D j=q:=⟨_,rfl⟩
     rw [hq] at e hd
     have hm:=pc0_of g3
     clear hq
     go_upto_region 6 with fail
     go_quiet (fail)
     have hY:Bn (wr.drewN nq) (w.heap.size+1) _:=hY
     have hR:Bn (wr.drewN nq) w.heap.size _:=hR
     have hb:Below w.heap.size w (wr.drewN nq):=hb.trans ⟨rfl,rfl,rfl,Nat.le_refl _,fun _ _=>rfl⟩
     have g3:(wr.drewN nq).cell? ⟨w.heap.size+1,3,none⟩=some (.int .i64 (j:Int)):=g3
     have f3:(wr.drewN nq).frozen? ⟨w.heap.size+1,3,none⟩=false:=f3
     clear e g2
     generalize wr.drewN nq=wq at *
     have hY2:=hY.set (i:=3) (by simp) (.int .i64 ((j:Int)+1))
     have hR2:=hR.far (X:=w.heap.size+1) (i:=3) (by omega) (.int .i64 ((j:Int)+1))
     have hb2:=hb.setCell (p:=⟨w.heap.size+1,3,none⟩) (by simp) (.int .i64 ((j:Int)+1))
     simp only [List.set_cons_succ,List.set_cons_zero] at hY2
     have hm2:=pc0_of (hY2 3 _ rfl).1
     have ej:((j+1:Nat):Int)=(j:Int)+1:=by omega
     have HEJ:Hid (((j+1:Nat):Int)=(j:Int)+1):=ej
     clear ej
     go_wp2
     go_roundw
     case rel=>exact ⟨j+1,by omega,hjn,HJ,by rw [HEJ.out];exact hY2,hR2,hb2⟩
     case measure=>rw [hm,hm2];omega
  ·have hw:((k'+1:Nat):Int) - 1=(k':Int):=by omega
   rw [hw] at hY
   have e:=HCE.out wr k' hb (by omega)
   have HP:Hid ((k':Int)=pp):=by rw [<- HK.out];show _=ppar D d (k'+1);unfold ppar;rw [if_pos hlt]
   clear HK
   obtain ⟨g1,f1⟩:=hY 1 _ rfl
   have g2:=(hY 2 _ rfl).1
   have i3:(k':Int) < (n:Int):=by omega
   have i4:(0:Int)<=(k':Int):=by omega
   obtain ⟨q,hq⟩:∃ q,D k'=q:=⟨_,rfl⟩
   have i5:¬ d<=q:=by omega
   rw [hq] at e
   clear hq hlt hw
   go_upto_region 3 with fail
   go_quiet (fail)
   have hY:Bn (wr.drewN nq) (w.heap.size+1) _:=hY
   have hR:Bn (wr.drewN nq) w.heap.size _:=hR
   have hb:Below w.heap.size w (wr.drewN nq):=hb.trans ⟨rfl,rfl,rfl,Nat.le_refl _,fun _ _=>rfl⟩
   clear e g1 f1 g2 i3 i4 i5 hk
   generalize wr.drewN nq=wq at *
   generalize (k':Int)=p at *
   obtain ⟨g3,f3⟩:=hY 3 _ rfl
   have hY2:=hY.set (i:=3) (by simp) (.int .i64 ((i:Int)+1))
   have hR2:=hR.far (X:=w.heap.size+1) (i:=3) (by omega) (.int .i64 ((i:Int)+1))
   have hb2:=hb.setCell (p:=⟨w.heap.size+1,3,none⟩) (by simp) (.int .i64 ((i:Int)+1))
   simp only [List.set_cons_succ,List.set_cons_zero] at hY2
   go_wp2
   clear g3 f3 hY hR hb
   have ei:((i+1:Nat):Int)=(i:Int)+1:=by omega
   go_loopw [] (fun wr=>∃ j:Nat,i+1<=j/\j<=n/\Hid (pbeh D d (n - j) j=bb)/\Bn wr (w.heap.size+1) [.string x0,.int .i64 p,.int .i64 d,.int .i64 (j:Int),.bool x4,.bool x5,.bool x6]/\Bn wr w.heap.size [.string ⟨#[]⟩,.int .i64 0,.int .i64 0,.int .i64 0,.bool false,.bool false,.bool false]/\Below w.heap.size w wr) (fun wr=>((n:Int) - pc0 wr (w.heap.size+1) 3).toNat)
   case atStart=>exact ⟨i+1,Nat.le_refl _,by omega,HBB,by rw [ei];exact hY2,hR2,hb2⟩
   case round=>
    clear hY2 hR2 hb2 ei
    obtain ⟨j,hj1,hj2,HJ,hY,hR,hb⟩:=hrel
    have hx:(j=n)∨(j < n/\D j<=d)∨(j < n/\d < D j):=by omega
    rcases hx with hjn|⟨hjn,hd⟩|⟨hjn,hd⟩
    ·replace HJ:Hid (j=bb):=by
      have:=HJ.out
      rw [hjn,Nat.sub_self] at this
      rw [hjn];exact this
     have i3:¬ (j:Int) < (n:Int):=by omega
     clear hjn
     obtain ⟨g3,f3⟩:=hY 3 _ rfl
     go_upto_region 6 with fail
     go_quiet (fail)
     have hY:Bn (wr.drewN nq) (w.heap.size+1) _:=hY
     have hR:Bn (wr.drewN nq) w.heap.size _:=hR
     have hb:Below w.heap.size w (wr.drewN nq):=hb.trans ⟨rfl,rfl,rfl,Nat.le_refl _,fun _ _=>rfl⟩
     clear g3 f3
     generalize wr.drewN nq=wq at *
     obtain ⟨g0,f0⟩:=hY 0 _ rfl
     obtain ⟨g1,f1⟩:=hY 1 _ rfl
     obtain ⟨g2,f2⟩:=hY 2 _ rfl
     obtain ⟨g3,f3⟩:=hY 3 _ rfl
     obtain ⟨g4,f4⟩:=hY 4 _ rfl
     obtain ⟨g5,f5⟩:=hY 5 _ rfl
     obtain ⟨g6,f6⟩:=hY 6 _ rfl
     obtain ⟨L,hL⟩:∃ L,((j:Int) == (i:Int)+1)=L:=⟨_,rfl⟩
     have HL:Hid (decide (bb=i+1)=L):=by
      rw [<- hL,<- HJ.out]
      exact lf_same j i
     go_upto_region 9 with fail
     have hY3:=hY.set (i:=6) (by simp) (.bool L)
     have hR3:=hR.far (X:=w.heap.size+1) (i:=6) (by omega) (.bool L)
     have hb3:=hb.setCell (p:=⟨w.heap.size+1,6,none⟩) (by simp) (.bool L)
     simp only [List.set_cons_succ,List.set_cons_zero] at hY3
     clear g0 f0 g1 f1 g2 f2 g3 f3 g4 f4 g5 f5 g6 f6 hY hR hb hL
     generalize wq.setCell ⟨w.heap.size+1,6,none⟩ (.bool L)=wz at *
     obtain ⟨g0,f0⟩:=hY3 0 _ rfl
     obtain ⟨g1,f1⟩:=hY3 1 _ rfl
     obtain ⟨g2,f2⟩:=hY3 2 _ rfl
     obtain ⟨g3,f3⟩:=hY3 3 _ rfl
     obtain ⟨g4,f4⟩:=hY3 4 _ rfl
     obtain ⟨g5,f5⟩:=hY3 5 _ rfl
     obtain ⟨g6,f6⟩:=hY3 6 _ rfl
     obtain ⟨r0,q0⟩:=hR3 0 _ rfl
     obtain ⟨r1,q1⟩:=hR3 1 _ rfl
     obtain ⟨r2,q2⟩:=hR3 2 _ rfl
     obtain ⟨r3,q3⟩:=hR3 3 _ rfl
     obtain ⟨r4,q4⟩:=hR3 4 _ rfl
     obtain ⟨r5,q5⟩:=hR3 5 _ rfl
     obtain ⟨r6,q6⟩:=hR3 6 _ rfl
     have hR2:=((((((hR3.set (i:=0) (by simp) (.string x0)).set (i:=1) (by simp) (.int .i64 p)).set (i:=2) (by simp) (.int .i64 d)).set (i:=3) (by simp) (.int .i64 (j:Int))).set (i:=4) (by simp) (.bool x4)).set (i:=5) (by simp) (.bool x5)).set (i:=6) (by simp) (.bool L)
     have hb2:=putL_below [.string x0,.int .i64 p,.int .i64 d,.int .i64 (j:Int),.bool x4,.bool x5,.bool L] wz w.heap.size 0 hb3 Nat.le.refl
     go_wp2
     exact bodyPost_ret (placed_res hR2 rfl) rfl ⟨by rw [HL.out,<- HJ.out,<- HP.out],hb2⟩
    ·have e:=HCE.out wr j hb hjn
     replace HJ:Hid (j=bb):=by
      have:=HJ.out
      have h1:n - j=(n - j - 1)+1:=by omega
      rw [h1,pbeh,if_neg (by omega)] at this
      exact this
     have i3:(j:Int) < (n:Int):=by omega
     have i4:(0:Int)<=(j:Int):=by omega
     obtain ⟨g3,f3⟩:=hY 3 _ rfl
     have g2:=(hY 2 _ rfl).1
     obtain ⟨q,hq⟩:∃ q,D j=q:=⟨_,rfl⟩
     rw [hq] at e hd
     have i5:¬ d < q:=by omega
     clear hq
     go_upto_region 6 with fail
     go_quiet (fail)
     have hY:Bn (wr.drewN nq) (w.heap.size+1) _:=hY
     have hR:Bn (wr.drewN nq) w.heap.size _:=hR
     have hb:Below w.heap.size w (wr.drewN nq):=hb.trans ⟨rfl,rfl,rfl,Nat.le_refl _,fun _ _=>rfl⟩
     clear g3 f3 e g2
     generalize wr.drewN nq=wq at *
     obtain ⟨g0,f0⟩:=hY 0 _ rfl
     obtain ⟨g1,f1⟩:=hY 1 _ rfl
     obtain ⟨g2,f2⟩:=hY 2 _ rfl
     obtain ⟨g3,f3⟩:=hY 3 _ rfl
     obtain ⟨g4,f4⟩:=hY 4 _ rfl
     obtain ⟨g5,f5⟩:=hY 5 _ rfl
     obtain ⟨g6,f6⟩:=hY 6 _ rfl
     obtain ⟨L,hL⟩:∃ L,((j:Int) == (i:Int)+1)=L:=⟨_,rfl⟩
     have HL:Hid (decide (bb=i+1)=L):=by
      rw [<- hL,<- HJ.out]
      exact lf_same j i
     go_upto_region 9 with fail
     have hY3:=hY.set (i:=6) (by simp) (.bool L)
     have hR3:=hR.far (X:=w.heap.size+1) (i:=6) (by omega) (.bool L)
     have hb3:=hb.setCell (p:=⟨w.heap.size+1,6,none⟩) (by simp) (.bool L)
     simp only [List.set_cons_succ,List.set_cons_zero] at hY3
     clear g0 f0 g1 f1 g2 f2 g3 f3 g4 f4 g5 f5 g6 f6 hY hR hb hL
     generalize wq.setCell ⟨w.heap.size+1,6,none⟩ (.bool L)=wz at *
     obtain ⟨g0,f0⟩:=hY3 0 _ rfl
     obtain ⟨g1,f1⟩:=hY3 1 _ rfl
     obtain ⟨g2,f2⟩:=hY3 2 _ rfl
     obtain ⟨g3,f3⟩:=hY3 3 _ rfl
     obtain ⟨g4,f4⟩:=hY3 4 _ rfl
     obtain ⟨g5,f5⟩:=hY3 5 _ rfl
     obtain ⟨g6,f6⟩:=hY3 6 _ rfl
     obtain ⟨r0,q0⟩:=hR3 0 _ rfl
     obtain ⟨r1,q1⟩:=hR3 1 _ rfl
     obtain ⟨r2,q2⟩:=hR3 2 _ rfl
     obtain ⟨r3,q3⟩:=hR3 3 _ rfl
     obtain ⟨r4,q4⟩:=hR3 4 _ rfl
     obtain ⟨r5,q5⟩:=hR3 5 _ rfl
     obtain ⟨r6,q6⟩:=hR3 6 _ rfl
     have hR2:=((((((hR3.set (i:=0) (by simp) (.string x0)).set (i:=1) (by simp) (.int .i64 p)).set (i:=2) (by simp) (.int .i64 d)).set (i:=3) (by simp) (.int .i64 (j:Int))).set (i:=4) (by simp) (.bool x4)).set (i:=5) (by simp) (.bool x5)).set (i:=6) (by simp) (.bool L)
     have hb2:=putL_below [.string x0,.int .i64 p,.int .i64 d,.int .i64 (j:Int),.bool x4,.bool x5,.bool L] wz w.heap.size 0 hb3 Nat.le.refl
     go_wp2
     exact bodyPost_ret (placed_res hR2 rfl) rfl ⟨by rw [HL.out,<- HJ.out,<- HP.out],hb2⟩
    ·have e:=HCE.out wr j hb hjn
     replace HJ:Hid (pbeh D d (n - (j+1)) (j+1)=bb):=by
      have:=HJ.out
      have h1:n - j=(n - (j+1))+1:=by omega
      rw [h1,pbeh,if_pos hd] at this
      exact this
     have i3:(j:Int) < (n:Int):=by omega
     have i4:(0:Int)<=(j:Int):=by omega
     obtain ⟨g3,f3⟩:=hY 3 _ rfl
     have g2:=(hY 2 _ rfl).1
     obtain ⟨q,hq⟩:∃ q,D j=q:=⟨_,rfl⟩
     rw [hq] at e hd
     have hm:=pc0_of g3
     clear hq
     go_upto_region 6 with fail
     go_quiet (fail)
     have hY:Bn (wr.drewN nq) (w.heap.size+1) _:=hY
     have hR:Bn (wr.drewN nq) w.heap.size _:=hR
     have hb:Below w.heap.size w (wr.drewN nq):=hb.trans ⟨rfl,rfl,rfl,Nat.le_refl _,fun _ _=>rfl⟩
     have g3:(wr.drewN nq).cell? ⟨w.heap.size+1,3,none⟩=some (.int .i64 (j:Int)):=g3
     have f3:(wr.drewN nq).frozen? ⟨w.heap.size+1,3,none⟩=false:=f3
     clear e g2
     generalize wr.drewN nq=wq at *
     have hY2:=hY.set (i:=3) (by simp) (.int .i64 ((j:Int)+1))
     have hR2:=hR.far (X:=w.heap.size+1) (i:=3) (by omega) (.int .i64 ((j:Int)+1))
     have hb2:=hb.setCell (p:=⟨w.heap.size+1,3,none⟩) (by simp) (.int .i64 ((j:Int)+1))
     simp only [List.set_cons_succ,List.set_cons_zero] at hY2
     have hm2:=pc0_of (hY2 3 _ rfl).1
     have ej:((j+1:Nat):Int)=(j:Int)+1:=by omega
     have HEJ:Hid (((j+1:Nat):Int)=(j:Int)+1):=ej
     clear ej
     go_wp2
     go_roundw
     case rel=>exact ⟨j+1,by omega,hjn,HJ,by rw [HEJ.out];exact hY2,hR2,hb2⟩
     case measure=>rw [hm,hm2];omega
  ·have hw:((k'+1:Nat):Int) - 1=(k':Int):=by omega
   rw [hw] at hY
   have e:=HCE.out wr k' hb (by omega)
   have HP:Hid (ppar D d k'=pp):=by rw [<- HK.out];show _=ppar D d (k'+1);rw [ppar,if_neg (by omega)]
   clear HK
   obtain ⟨g1,f1⟩:=hY 1 _ rfl
   have g2:=(hY 2 _ rfl).1
   have i3:(k':Int) < (n:Int):=by omega
   have i4:(0:Int)<=(k':Int):=by omega
   obtain ⟨q,hq⟩:∃ q,D k'=q:=⟨_,rfl⟩
   rw [hq] at e hge
   have hm:=pc0_of g1
   clear hq hw
   go_upto_region 3 with fail
   go_quiet (fail)
   have hY:Bn (wr.drewN nq) (w.heap.size+1) _:=hY
   have hR:Bn (wr.drewN nq) w.heap.size _:=hR
   have hb:Below w.heap.size w (wr.drewN nq):=hb.trans ⟨rfl,rfl,rfl,Nat.le_refl _,fun _ _=>rfl⟩
   have g1:(wr.drewN nq).cell? ⟨w.heap.size+1,1,none⟩=some (.int .i64 (k':Int)):=g1
   have f1:(wr.drewN nq).frozen? ⟨w.heap.size+1,1,none⟩=false:=f1
   clear e g2 i3 hge
   generalize wr.drewN nq=wq at *
   have hY2:=hY.set (i:=1) (by simp) (.int .i64 ((k':Int) - 1))
   have hR2:=hR.far (X:=w.heap.size+1) (i:=1) (by omega) (.int .i64 ((k':Int) - 1))
   have hb2:=hb.setCell (p:=⟨w.heap.size+1,1,none⟩) (by simp) (.int .i64 ((k':Int) - 1))
   simp only [List.set_cons_succ,List.set_cons_zero] at hY2
   have hm2:=pc0_of (hY2 1 _ rfl).1
   go_wp2
   go_roundw
   case rel=>exact ⟨k',by omega,HP,hY2,hR2,hb2⟩
   case measure=>rw [hm,hm2];omega
