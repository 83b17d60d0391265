import Derived.Test.YtfjdceknbdmhpaaGreatDoorWxc06
import Derived.Laws.MakeOwn
import Derived.Test.YtfjdceknbdmhpaaGreatDoorWxc04
import Derived.Test.YtfjdceknbdmhpaaGreatDoorWxc03
import Derived.Test.YtfjdceknbdmhpaaGreatDoorWxc01
import Derived.Test.YtfjdceknbdmhpaaGreatDoorWxc05
import Derived.Deep.RegionLaw
import Derived.Deep.LoopGhost
import Derived.Deep.DeepCutAuto
set_option maxRecDepth 100000
set_option maxHeartbeats 32000000
namespace Go.Proofs.YtfjdceknbdmhpaaGreatDoor
open Go.RowKit Go.Lib
set_option linter.unusedSimpArgs false
set_option linter.unusedVariables false
attribute [local go_sem ↓] Go.wp_at_zero Go.wp_at_succ
def OwnB {α:Type}(w:World) (base:Nat) (bad:Nat->Prop) (e k:Nat) (R:(Nat->Prop)->World->α->List Value->Prop) (v:Value) (l:List α):Prop:=
 ∃ qs:List (List Value),w.ownsRow base e k v l.length qs.flatten/\qs.length=l.length/\(∀ (i:Nat) (h:i < l.length) (h':i < qs.length),(qs[i]).length=k/\R (fun b=>base<=b/\v.ownBlock≠some b/\¬ bad b) w l[i] qs[i])/\∀ g,v.ownBlock=some g->¬ bad g
theorem ownB_nil {α:Type}(w:World) (base:Nat) (bad:Nat->Prop) (e k:Nat) (R:(Nat->Prop)->World->α->List Value->Prop):OwnB w base bad e k R (.slice none 0 0) []:=⟨[],World.ownsRow_nil w base e k,rfl,fun i h=>absurd h (by simp),fun g hg=>by simp [Value.ownBlock] at hg⟩
theorem OwnB.keep {α:Type}{w w':World}{base e k:Nat}{bad bad':Nat->Prop}{R:(Nat->Prop)->World->α->List Value->Prop}{v:Value}{l:List α}(hR:Kp R) (h:OwnB w base bad e k R v l) (hk:∀ b,base<=b->¬ bad b->b < w.heap.size->w'.heap[b]?=w.heap[b]?/\¬ bad' b):OwnB w' base bad' e k R v l:=by
 obtain ⟨qs,ho,hl,hr,hg0⟩:=h
 refine ⟨qs,ownsRow_keep ho (fun g hg=>?_),hl,fun i h h'=>⟨(hr i h h').1,hR (hr i h h').2 (fun b hb hlt=>⟨⟨hb.1,hb.2.1,(hk b hb.1 hb.2.2 hlt).2⟩,(hk b hb.1 hb.2.2 hlt).1⟩)⟩,fun g hg=>?_⟩
 ·obtain ⟨a,b⟩:=ownsRow_lt ho g hg
  exact (hk g a (hg0 g hg) b).1
 ·obtain ⟨a,b⟩:=ownsRow_lt ho g hg
  exact (hk g a (hg0 g hg) b).2
theorem OwnB.on {α:Type}{w w':World}{base e k:Nat}{bad:Nat->Prop}{R:(Nat->Prop)->World->α->List Value->Prop}{v:Value}{l:List α}(hR:Kp R) (h:OwnB w base bad e k R v l) (hb:Below w.heap.size w w'):OwnB w' base bad e k R v l:=h.keep hR (fun b _ hbad hlt=>⟨hb.block b hlt,hbad⟩)
theorem OwnB.fx {α:Type}{w w':World}{base e k X:Nat}{bad:Nat->Prop}{R:(Nat->Prop)->World->α->List Value->Prop}{v:Value}{l:List α}(hR:Kp R) (h:OwnB w base bad e k R v l) (hf:Fx X w w') (hX:X < base):OwnB w' base bad e k R v l:=
 h.keep hR (fun b hb hbad hlt=>⟨hf.block b hlt (fun e=>by have:b=X:=Option.some.inj e;omega),hbad⟩)
theorem OwnB.set {α:Type}{w:World}{base e k:Nat}{bad:Nat->Prop}{R:(Nat->Prop)->World->α->List Value->Prop}{v:Value}{l:List α}(hR:Kp R) (h:OwnB w base bad e k R v l) {X i:Nat}(hX:X < base) (u:Value):OwnB (w.setCell ⟨X,i,none⟩ u) base bad e k R v l:=
 h.keep hR (fun b hb hbad _=>⟨Below.heap_setCell _ _ _ _ (fun e=>by have:b=X:=e;omega),hbad⟩)
theorem OwnB.form {α:Type}{w:World}{base e k:Nat}{bad:Nat->Prop}{R:(Nat->Prop)->World->α->List Value->Prop}{v:Value}{l:List α}(h:OwnB w base bad e k R v l):∃ a cap,v=.slice a l.length cap/\l.length<=cap/\cap<=maxLen:=by
 obtain ⟨qs,ho,_⟩:=h
 rcases ho.2 with ⟨h1,h2⟩|⟨g,cap,cur,h1,_,_,h3,h4,_⟩
 ·exact ⟨none,0,by rw [h1,h2],by omega,by simp [maxLen]⟩
 ·exact ⟨_,_,h1,h3,h4⟩
theorem OwnB.lt {α:Type}{w:World}{base e k:Nat}{bad:Nat->Prop}{R:(Nat->Prop)->World->α->List Value->Prop}{v:Value}{l:List α}(h:OwnB w base bad e k R v l):∀ g,v.ownBlock=some g->base<=g/\g < w.heap.size:=by
 obtain ⟨qs,ho,_⟩:=h
 exact ownsRow_lt ho
theorem OwnB.other {α:Type}{w w':World}{base e k:Nat}{u u':Value}{R:(Nat->Prop)->World->α->List Value->Prop}{v:Value}{l:List α}(hR:Kp R) (h:OwnB w base (fun b=>u.ownBlock=some b) e k R v l) (hg:w.grownBy w' u.ownBlock) (hat:u'.ownBlock=u.ownBlock∨u'.ownBlock=some w.heap.size):OwnB w' base (fun b=>u'.ownBlock=some b) e k R v l:=
 h.keep hR (fun b hb hbad hlt=>⟨hg.block b hlt (fun e=>hbad e.symm),fun q=>by
  rcases hat with h|h
  ·exact hbad (h ▸ q)
  ·rw [h] at q;have:w.heap.size=b:=Option.some.inj q;omega⟩)
theorem OwnB.snoc {α:Type}{w w':World}{base e k lo n:Nat}{bad:Nat->Prop}{R:(Nat->Prop)->World->α->List Value->Prop}{v v':Value}{l:List α}{p:α}{cs:List Value}{qs:List (List Value)}(hR:Kp R) (hk:cs.length=k)
  (hn:l.length=n) (ho:w.ownsRow base e k v n qs.flatten) (hl:qs.length=l.length) (hr:∀ (i:Nat) (h:i < l.length) (h':i < qs.length),(qs[i]).length=k/\R (fun b=>base<=b/\v.ownBlock≠some b/\¬ bad b) w l[i] qs[i])
  (ho':w'.ownsRow base e k v' (n+1) (qs.flatten++cs)) (hg:w.grownBy w' v.ownBlock) (hat:v'.ownBlock=v.ownBlock∨v'.ownBlock=some w.heap.size)
  (hp:R (fun b=>lo<=b) w p cs) (hlo:base<=lo) (hv:∀ x,v.ownBlock=some x->x < lo) (hbad:∀ b,bad b->b < lo/\b < w.heap.size) (hvb:∀ g,v.ownBlock=some g->¬ bad g):OwnB w' base bad e k R v' (l++[p]):=by
 subst hn
 have key:∀ b,base<=b/\v.ownBlock≠some b/\¬ bad b->b < w.heap.size->(base<=b/\v'.ownBlock≠some b/\¬ bad b)/\w'.heap[b]?=w.heap[b]?:=fun b hb hlt=>by
  refine ⟨⟨hb.1,fun e=>?_,hb.2.2⟩,hg.block b hlt (fun e=>hb.2.1 e.symm)⟩
  rcases hat with h|h
  ·exact hb.2.1 (h ▸ e)
  ·rw [h] at e;have:w.heap.size=b:=Option.some.inj e;omega
 refine ⟨qs++[cs],?_,by simp [hl],fun i h h'=>?_,fun g hg'=>?_⟩
 ·rw [List.flatten_append,List.length_append]
  simpa using ho'
 ·rcases Nat.lt_or_ge i l.length with hi|hi
  ·rw [List.getElem_append_left hi,List.getElem_append_left (by omega)]
   exact ⟨(hr i hi (by omega)).1,hR (hr i hi (by omega)).2 key⟩
  ·have:i=l.length:=by simp at h;omega
   subst this
   have e1:(l++[p])[l.length]=p:=by simp
   have e2:(qs++[cs])[l.length]'h'=cs:=by simp [<- hl]
   rw [e1,e2]
   exact ⟨hk,hR hp (fun b hb hlt=>key b ⟨by omega,fun e=>by have:=hv b e;omega,fun q=>by have:=(hbad b q).1;omega⟩ hlt)⟩
 ·rcases hat with h|h
  ·exact hvb g (h ▸ hg')
  ·rw [h] at hg'
   have:w.heap.size=g:=Option.some.inj hg'
   intro q
   have:=(hbad g q).2
   omega
theorem OwnB.rd {α:Type}{w:World}{base e k:Nat}{bad:Nat->Prop}{R:(Nat->Prop)->World->α->List Value->Prop}{v:Value}{l:List α}(hR:Kp R) (h:OwnB w base bad e k R v l):RdK (fun b=>base<=b) w k (R (fun b=>base<=b) w) l v:=by
 obtain ⟨qs,ho,hl,hr,_⟩:=h
 exact OwnK.rd hR ⟨qs,ho,hl,fun i h h'=>⟨(hr i h h').1,hR (hr i h h').2 (fun b hb _=>⟨⟨hb.1,hb.2.1⟩,rfl⟩)⟩⟩
theorem step_pushB {α:Type}{P:Program}(w:World) {ops:Array Oper}{o:Oper}{a:Act}{K:Act->World->Prop}{Q:Exit->Act->World->Prop}{E:Prop}(hgd:o.guard=none) (s x:Operand) (t:TypeId)
  (ho:o.op=.call { callee:=.builtin .append,args:=#[s,x],argTypes:=#[t,t] })
  (base:Nat) (bad:Nat->Prop) (e:TypeId) (i:TypeInfo) (z:Value) (k bytes:Nat) (ht:P.underlying t=some (.slice e)) (hi:P.info? e=some i) (hz:i.zero=some z)
  (hsize:i.size=k) (hby:i.bytes=bytes) (hzs:z.cells.size=k) {R:(Nat->Prop)->World->α->List Value->Prop}(hR:Kp R)
  (v:Value) (l:List α) (p:α) (cs:List Value) (lo:Nat) (hs:a.eval s=v) (hx:a.eval x=.slice (some ⟨w.heap.size,0,none⟩) 1 1) (hk:cs.length=k) (h1:∀ u∈cs,u.oneCell'=true)
  (hown:OwnB w base bad e k R v l) (hp:R (fun b=>lo<=b) w p cs) (hlo:base<=lo) (hv:∀ x,v.ownBlock=some x->x < lo) (hbad:∀ b,bad b->b < lo/\b < w.heap.size) (hroom:(l.length+1+(l.length+1) / 4+192)*bytes<=281474976710656)
  (h63:l.length+1<=maxLen) (hbase:base<=w.heap.size)
  (h:∀ v' w',OwnB w' base bad e k R v' (l++[p])->(w.alloc (.cells cs.toArray e)).grownBy w' v.ownBlock->Below base w w'->(v'.ownBlock=v.ownBlock∨v'.ownBlock=some (w.alloc (.cells cs.toArray e)).heap.size)->K (a.put o.dst v') w') :
  if Region.wanted o (yielded ops a.tmps)=true then Oper.wp P o a (w.alloc (.cells cs.toArray e)) K Q else E:=by
 have hal:Below w.heap.size w (w.alloc (.cells cs.toArray e)):=(Below.refl _ _).alloc Nat.le.refl _
 obtain ⟨qs,ho1,hl1,hr1,hg1⟩:=hown.on hR hal
 refine step_append_at _ hgd s x t t ho base e i z k bytes ht hi hz hsize hby hzs v l.length qs.flatten hs ho1 _ 1 cs hx (src_row ht w cs hk h1) 1 (.inr hroom) Nat.le.refl h63 (Nat.le_trans hbase hal.size) ?_
 intro v' w' hown' hg hat
 refine h v' w' (OwnB.snoc hR hk rfl ho1 hl1 hr1 hown' hg hat (hR hp (fun b hb hlt=>⟨hb,hal.block b hlt⟩)) hlo hv (fun b q=>⟨(hbad b q).1,Nat.lt_of_lt_of_le (hbad b q).2 hal.size⟩) hg1) hg ?_ hat
 exact ((Below.refl base w).alloc hbase _).grown hg (Nat.le_trans hbase hal.size) (fun k hk=>(World.ownsRow.lt ho1 k hk).1)
def putL (w:World) (g:Nat):Nat->List Value->World
 | _,[]=>w
 | o,c :: cs=>putL (w.setCell ⟨g,o,none⟩ c) g (o+1) cs
theorem putL_own:∀ (cs zs xs ys:List Value) (w:World) (base e k:Nat) (g n cap o:Nat),zs.length=cs.length->xs.length=o->w.ownsRow base e k (.slice (some ⟨g,0,none⟩) n cap) n (xs++zs++ys)->(putL w g o cs).ownsRow base e k (.slice (some ⟨g,0,none⟩) n cap) n (xs++cs++ys)
 | [],zs,xs,ys,w,base,e,k,g,n,cap,o,hz,hx,h=>by
  have:zs=[]:=List.eq_nil_of_length_eq_zero (by simpa using hz)
  subst this
  exact h
 | c :: cs,[],xs,ys,w,base,e,k,g,n,cap,o,hz,hx,h=>by simp at hz
 | c :: cs,z :: zs,xs,ys,w,base,e,k,g,n,cap,o,hz,hx,h=>by
  have h1:=(World.ownsRow.stored h o c).1
  have e1:(xs++z :: zs++ys).set o c=(xs++[c])++zs++ys:=by
   subst hx
   simp
  rw [e1] at h1
  have h2:=putL_own cs zs (xs++[c]) ys _ base e k g n cap (o+1) (by simpa using hz) (by simp [hx]) h1
  have e2:xs++[c]++cs++ys=xs++(c :: cs)++ys:=by simp
  rw [e2] at h2
  exact h2
theorem putL_heap:∀ (cs:List Value) (w:World) (g o k:Nat),k≠g->(putL w g o cs).heap[k]?=w.heap[k]?
 | [],w,g,o,k,h=>rfl
 | c :: cs,w,g,o,k,h=>by
  unfold putL
  rw [putL_heap cs _ g (o+1) k h]
  exact Below.heap_setCell _ _ _ _ (fun e=>h e)
theorem putL_size:∀ (cs:List Value) (w:World) (g o:Nat),(putL w g o cs).heap.size=w.heap.size
 | [],w,g,o=>rfl
 | c :: cs,w,g,o=>by unfold putL;rw [putL_size cs _ g (o+1)];simp
theorem putL_below {B:Nat}{u:World}:∀ (cs:List Value) (w:World) (g o:Nat),Below B u w->B<=g->Below B u (putL w g o cs)
 | [],w,g,o,h,hg=>h
 | c :: cs,w,g,o,h,hg=>putL_below cs _ g (o+1) (h.setCell hg c) hg
def RowG {α:Type}(w:World) (G k n:Nat) (R:(Nat->Prop)->World->α->List Value->Prop) (l:List α):Prop:=
 (∀ j,j < n*k->(∃ u,w.cell? ⟨G,j,none⟩=some u)/\w.frozen? ⟨G,j,none⟩=false)/\
 ∀ (i:Nat) (h:i < l.length),∃ cs,cs.length=k/\R (fun b=>G < b) w l[i] cs/\∀ j u,cs[j]?=some u->w.cell? ⟨G,i*k+j,none⟩=some u
theorem RowG.made {α:Type}(w:World) (z:Array Value) (k n:Nat) (e:TypeId) (R:(Nat->Prop)->World->α->List Value->Prop):RowG (w.alloc (.cells (madeCells z (n*k)) e)) w.heap.size k n R ([]:List α):=by
 refine ⟨fun j hj=>⟨?_,by simp⟩,fun i h=>absurd h (by simp)⟩
 rw [World.cell?_alloc_new]
 have hs:j < (madeCells z (n*k)).size:=by rw [size_madeCells];exact hj
 exact ⟨_,Array.getElem?_eq_getElem hs⟩
theorem RowG.on {α:Type}{w w':World}{G k n:Nat}{R:(Nat->Prop)->World->α->List Value->Prop}{l:List α}(hR:Kp R) (hG:G < w.heap.size) (h:RowG w G k n R l) (hb:Below w.heap.size w w'):RowG w' G k n R l:=by
 refine ⟨fun j hj=>?_,fun i hi=>?_⟩
 ·obtain ⟨⟨u,hu⟩,hf⟩:=h.1 j hj
  exact ⟨⟨u,(hb.cell (p:=⟨G,j,none⟩) hG).trans hu⟩,(hb.frozen (p:=⟨G,j,none⟩) hG).trans hf⟩
 ·obtain ⟨cs,h1,h2,h3⟩:=h.2 i hi
  exact ⟨cs,h1,hR h2 (fun b hb' hl=>⟨hb',hb.block b hl⟩),fun j u hu=>(hb.cell (p:=⟨G,i*k+j,none⟩) hG).trans (h3 j u hu)⟩
theorem putL_cell:∀ (cs:List Value) (w:World) (G o j:Nat),(∀ i,i < cs.length->∃ u,w.cell? ⟨G,o+i,none⟩=some u)->(putL w G o cs).cell? ⟨G,j,none⟩=if o<=j/\j < o+cs.length then cs[j - o]? else w.cell? ⟨G,j,none⟩
 | [],w,G,o,j,_=>by rw [if_neg (by simp only [List.length_nil];omega)];rfl
 | c :: cs,w,G,o,j,h=>by
  have h':∀ i,i < cs.length->∃ u,(w.setCell ⟨G,o,none⟩ c).cell? ⟨G,o+1+i,none⟩=some u:=fun i hi=>by
   obtain ⟨u,hu⟩:=h (i+1) (by simp;omega)
   exact ⟨u,cell_far4 (by omega) (by rw [show o+1+i=o+(i+1) by omega];exact hu)⟩
  show (putL (w.setCell ⟨G,o,none⟩ c) G (o+1) cs).cell? ⟨G,j,none⟩=_
  rw [putL_cell cs _ G (o+1) j h']
  obtain ⟨u,hu⟩:=h 0 (by simp)
  rw [Nat.add_zero] at hu
  by_cases hj:o+1<=j/\j < o+1+cs.length
  ·rw [if_pos hj,if_pos (by simp only [List.length_cons];omega),show j - o=(j - (o+1))+1 by omega,List.getElem?_cons_succ]
  ·rw [if_neg hj]
   by_cases he:o=j
   ·subst he
    rw [if_pos (by simp only [List.length_cons];omega),Nat.sub_self,List.getElem?_cons_zero]
    exact cell_same4 hu
   ·rw [if_neg (by simp only [List.length_cons];omega)]
    cases hw:w.cell? ⟨G,j,none⟩ with
    | some v=>exact cell_far4 (by omega) hw
    | none=>
     unfold World.setCell World.cell? at *
     simp only [Array.getElem?_modify] at hw ⊢
     by_cases hb:w.heap[G]?=none
     ·simp [hb]
     ·obtain ⟨x,hx⟩:=Option.ne_none_iff_exists'.1 hb
      simp only [hx] at hw ⊢
      cases x<;>simp_all [Array.getElem?_set]
theorem putL_frozen:∀ (cs:List Value) (w:World) (G o:Nat) (p:Addr),(putL w G o cs).frozen? p=w.frozen? p
 | [],w,G,o,p=>rfl
 | c :: cs,w,G,o,p=>by
  show (putL (w.setCell ⟨G,o,none⟩ c) G (o+1) cs).frozen? p=_
  rw [putL_frozen cs _ G (o+1) p]
  exact World.frozen?_setCell _ _ _ _
theorem mul_in {i j k m:Nat}(hi:i < m) (hj:j < k):i*k+j < m*k:=by
 have:(i+1)*k<=m*k:=Nat.mul_le_mul_right k hi
 rw [Nat.succ_mul] at this
 omega
theorem RowG.put {α:Type}{w:World}{G k n:Nat}{R:(Nat->Prop)->World->α->List Value->Prop}{l:List α}{x:α}{cs:List Value}(hR:Kp R) (h:RowG w G k n R l) (hl:l.length < n) (hk:cs.length=k) (hp:R (fun b=>G < b) w x cs):RowG (putL w G (l.length*k) cs) G k n R (l++[x]):=by
 have hin:∀ i,i < cs.length->∃ u,w.cell? ⟨G,l.length*k+i,none⟩=some u:=fun i hi=>(h.1 _ (mul_in hl (by omega))).1
 have hc:=fun j=>putL_cell cs w G (l.length*k) j hin
 have hkp:∀ b,G < b->b < w.heap.size->G < b/\(putL w G (l.length*k) cs).heap[b]?=w.heap[b]?:=fun b hb _=>⟨hb,putL_heap cs w G _ b (by omega)⟩
 refine ⟨fun j hj=>⟨?_,(putL_frozen cs w G _ _).trans (h.1 j hj).2⟩,fun i hi=>?_⟩
 ·rw [hc]
  split
  ·next hr=>exact ⟨_,List.getElem?_eq_getElem (by omega)⟩
  ·exact (h.1 j hj).1
 ·rcases Nat.lt_or_ge i l.length with hlt|hge
  ·obtain ⟨cs',h1,h2,h3⟩:=h.2 i hlt
   rw [List.getElem_append_left hlt]
   refine ⟨cs',h1,hR h2 hkp,fun j u hu=>?_⟩
   have hjk:j < k:=by
    have:=(List.getElem?_eq_some_iff.1 hu).1
    omega
   have:=mul_in hlt hjk
   rw [hc,if_neg (by omega)]
   exact h3 j u hu
  ·have:i=l.length:=by simp at hi;omega
   subst this
   have e1:(l++[x])[l.length]=x:=by simp
   rw [e1]
   refine ⟨cs,hk,hR hp hkp,fun j u hu=>?_⟩
   have hjk:j < k:=by
    have:=(List.getElem?_eq_some_iff.1 hu).1
    omega
   rw [hc,if_pos (by omega),Nat.add_sub_cancel_left]
   exact hu
theorem RowG.rd {α:Type}{w:World}{G k n:Nat}{R:(Nat->Prop)->World->α->List Value->Prop}{l:List α}(hR:Kp R) (h:RowG w G k n R l) (hG:G < w.heap.size) (hn:l.length=n) (hm:n<=maxLen):RdK (fun b=>G<=b) w k (R (fun b=>G<=b) w) l (.slice (some ⟨G,0,none⟩) n n):=by
 subst hn
 refine ⟨some ⟨G,0,none⟩,l.length,rfl,Nat.le_refl _,hm,fun i hi=>?_⟩
 obtain ⟨cs,h1,h2,h3⟩:=h.2 i hi
 refine ⟨G,0,cs,rfl,Nat.le_refl _,hG,h1,hR h2 (fun b hb _=>⟨by omega,rfl⟩),fun j u hu=>?_⟩
 rw [Nat.zero_add]
 exact h3 j u hu
def ExOk (x:Sx):Prop:=ClX x/\cntX x<=2000/\shrt 1000 x.1 x.2=true
def SetOk (s:List UInt8 × Sx):Prop:=s.1.length<=140737488351232/\ExOk s.2
theorem copX {x:Sx}(h:ExOk x) (w:World):Calls Tryz.prog 134 #[exX x] w fun e w'=>e=.returned (exX x)/\Below w.heap.size w w':=copied_any h.1 (by have:=h.2.1;unfold cntX at this;omega) h.2.2 w
theorem setQ_at {ok:Nat->Prop}{w:World}{l:List (List UInt8 × Sx)}{a:Option Addr}{n cap:Nat}(h:RdK ok w 2 (rSet ok w) l (.slice a n cap)) (j:Nat) (hj:j < l.length):∃ b off,a=some ⟨b,off,none⟩/\b < w.heap.size/\∀ i u,[sV l[j].1,exX l[j].2][i]?=some u->w.cell? ⟨b,off+j*2+i,none⟩=some u:=by
 obtain ⟨a1,cap1,he,h1,h2,h3⟩:=h
 simp only [Value.slice.injEq] at he
 obtain ⟨rfl,rfl,rfl⟩:=he
 obtain ⟨b,off,cs,ha,_,hb,hl,hr,hc⟩:=h3 j hj
 have hr:cs=[sV l[j].1,exX l[j].2]:=hr
 subst hr
 exact ⟨b,off,ha,hb,hc⟩
theorem cset_res {w4:World}{R:Nat}{a b:Value}{tmps:Array Value}(hR:Bn w4 R [a,b]) (ht:tmps.getD 2 undef=.pointer (some ⟨R,0,none⟩)):(results Tryz.f136 tmps).run Tryz.prog w4=.ok (.agg #[a,b]) w4:=by
 have ht':tmps[2]?.getD undef=.pointer (some ⟨R,0,none⟩):=by simpa using ht
 have c0:=(hR 0 _ rfl).1
 have c1:=(hR 1 _ rfl).1
 simp [results,Tryz.results136,go_sem,ht',c0,c1]
def CsC (s0:ByteArray) (v:Value):Prop:=∀ w,Calls Tryz.prog 136 #[.agg #[.string s0,v]] w fun e w'=>e=.returned (.agg #[.string s0,v])/\Below w.heap.size w w'
theorem cs_nil (s0:ByteArray) (hs:s0.size<=140737488351232) (h2:∀ w1,Calls Tryz.prog 134 #[.nilIface] w1 fun e w'=>e=.returned (.nilIface)/\Below w1.heap.size w1 w'):CsC s0 (.nilIface):=by
 intro w
 have h1:=fun w1=>pClone_any s0 w1 hs
 have hal:Below w.heap.size w ((w.alloc (.cells #[.string s0,.nilIface] 136)).alloc (.cells #[.string ⟨#[]⟩,.nilIface] 136)):=((Below.refl w.heap.size w).alloc Nat.le.refl _).alloc (by simp) _
 have hX:Bn ((w.alloc (.cells #[.string s0,.nilIface] 136)).alloc (.cells #[.string ⟨#[]⟩,.nilIface] 136)) w.heap.size [.string s0,.nilIface]:=(Bn.new w [.string s0,.nilIface] 136 _ rfl).on ((Below.refl _ _).alloc Nat.le.refl _)
 have hR:Bn ((w.alloc (.cells #[.string s0,.nilIface] 136)).alloc (.cells #[.string ⟨#[]⟩,.nilIface] 136)) (w.heap.size+1) [.string ⟨#[]⟩,.nilIface]:=Bn.new (w.alloc (.cells #[.string s0,.nilIface] 136)) [.string ⟨#[]⟩,.nilIface] 136 _ (by simp)
 go_enter Tryz.func136,Tryz.ntmps136
 go_upto_region 1 with fail
 generalize (w.alloc (.cells #[.string s0,.nilIface] 136)).alloc (.cells #[.string ⟨#[]⟩,.nilIface] 136)=wx at *
 have hB:Below wx.heap.size wx wx:=Below.refl _ _
 have c0:=(hX 0 _ rfl).1
 have c1:=(hX 1 _ rfl).1
 have hlt:=hX.lt
 obtain ⟨S,hS⟩:∃ S,w.heap.size=S:=⟨_,rfl⟩
 rw [hS] at c0 c1 hlt hR ⊢
 go_region_held_law (fun w'=>w'.cell? ⟨S,0,none⟩=some (.string s0)/\w'.cell? ⟨S,1,none⟩=some (.nilIface))
  (first|exact ⟨(hB.cell (p:=⟨S,0,none⟩) hlt).trans c0,(hB.cell (p:=⟨S,1,none⟩) hlt).trans c1⟩|exact ⟨cell_far4 (by omega) (cell_far4 (by omega) ((hB.cell (p:=⟨S,0,none⟩) hlt).trans c0)),cell_far4 (by omega) (cell_far4 (by omega) ((hB.cell (p:=⟨S,1,none⟩) hlt).trans c1))⟩)
  (first
   | (go_at_call 38;(with_reducible refine (h1 _).mono ?_);rintro e w1 ⟨rfl,b1⟩;(first|have hB:=Below.nxd hB b1|have hB:=Below.nx hB b1);have hR1:=hR.on hB;obtain ⟨r0,f0⟩:=hR1 0 _ rfl;obtain ⟨r1,f1⟩:=hR1 1 _ rfl)
   | (go_at_call 134;(with_reducible refine (h2 _).mono ?_);rintro e w1 ⟨rfl,b1⟩;(first|have hB:=Below.nxd hB b1|have hB:=Below.nx hB b1);have hR1:=hR.on hB;obtain ⟨r0,f0⟩:=hR1 0 _ rfl;obtain ⟨r1,f1⟩:=hR1 1 _ rfl)
   | fail)
 all_goals (
  have hR2:=(hR1.set (i:=0) (by simp) (.string s0)).set (i:=1) (by simp) (.nilIface)
  have hb2:=((hal.trans (hB.mono (by have:=hal.size;rw [hS] at this;omega))).setCell (p:=⟨S+1,0,none⟩) (by show w.heap.size<=S+1;omega) (.string s0)).setCell (p:=⟨S+1,1,none⟩) (by show w.heap.size<=S+1;omega) (.nilIface)
  go_wp2
  exact bodyPost_ret (cset_res hR2 rfl) rfl ⟨rfl,hb2⟩)
theorem cs_ifc (s0:ByteArray) (u:TypeId) (y:Value) (hs:s0.size<=140737488351232) (h2:∀ w1,Calls Tryz.prog 134 #[.iface u y] w1 fun e w'=>e=.returned (.iface u y)/\Below w1.heap.size w1 w'):CsC s0 (.iface u y):=by
 intro w
 have h1:=fun w1=>pClone_any s0 w1 hs
 have hal:Below w.heap.size w ((w.alloc (.cells #[.string s0,.iface u y] 136)).alloc (.cells #[.string ⟨#[]⟩,.nilIface] 136)):=((Below.refl w.heap.size w).alloc Nat.le.refl _).alloc (by simp) _
 have hX:Bn ((w.alloc (.cells #[.string s0,.iface u y] 136)).alloc (.cells #[.string ⟨#[]⟩,.nilIface] 136)) w.heap.size [.string s0,.iface u y]:=(Bn.new w [.string s0,.iface u y] 136 _ rfl).on ((Below.refl _ _).alloc Nat.le.refl _)
 have hR:Bn ((w.alloc (.cells #[.string s0,.iface u y] 136)).alloc (.cells #[.string ⟨#[]⟩,.nilIface] 136)) (w.heap.size+1) [.string ⟨#[]⟩,.nilIface]:=Bn.new (w.alloc (.cells #[.string s0,.iface u y] 136)) [.string ⟨#[]⟩,.nilIface] 136 _ (by simp)
 go_enter Tryz.func136,Tryz.ntmps136
 go_upto_region 1 with fail
 generalize (w.alloc (.cells #[.string s0,.iface u y] 136)).alloc (.cells #[.string ⟨#[]⟩,.nilIface] 136)=wx at *
 have hB:Below wx.heap.size wx wx:=Below.refl _ _
 have c0:=(hX 0 _ rfl).1
 have c1:=(hX 1 _ rfl).1
 have hlt:=hX.lt
 obtain ⟨S,hS⟩:∃ S,w.heap.size=S:=⟨_,rfl⟩
 rw [hS] at c0 c1 hlt hR ⊢
 go_region_held_law (fun w'=>w'.cell? ⟨S,0,none⟩=some (.string s0)/\w'.cell? ⟨S,1,none⟩=some (.iface u y))
  (first|exact ⟨(hB.cell (p:=⟨S,0,none⟩) hlt).trans c0,(hB.cell (p:=⟨S,1,none⟩) hlt).trans c1⟩|exact ⟨cell_far4 (by omega) (cell_far4 (by omega) ((hB.cell (p:=⟨S,0,none⟩) hlt).trans c0)),cell_far4 (by omega) (cell_far4 (by omega) ((hB.cell (p:=⟨S,1,none⟩) hlt).trans c1))⟩)
  (first
   | (go_at_call 38;(with_reducible refine (h1 _).mono ?_);rintro e w1 ⟨rfl,b1⟩;(first|have hB:=Below.nxd hB b1|have hB:=Below.nx hB b1);have hR1:=hR.on hB;obtain ⟨r0,f0⟩:=hR1 0 _ rfl;obtain ⟨r1,f1⟩:=hR1 1 _ rfl)
   | (go_at_call 134;(with_reducible refine (h2 _).mono ?_);rintro e w1 ⟨rfl,b1⟩;(first|have hB:=Below.nxd hB b1|have hB:=Below.nx hB b1);have hR1:=hR.on hB;obtain ⟨r0,f0⟩:=hR1 0 _ rfl;obtain ⟨r1,f1⟩:=hR1 1 _ rfl)
   | fail)
 all_goals (
  have hR2:=(hR1.set (i:=0) (by simp) (.string s0)).set (i:=1) (by simp) (.iface u y)
  have hb2:=((hal.trans (hB.mono (by have:=hal.size;rw [hS] at this;omega))).setCell (p:=⟨S+1,0,none⟩) (by show w.heap.size<=S+1;omega) (.string s0)).setCell (p:=⟨S+1,1,none⟩) (by show w.heap.size<=S+1;omega) (.iface u y)
  go_wp2
  exact bodyPost_ret (cset_res hR2 rfl) rfl ⟨rfl,hb2⟩)
theorem copiedSet_any {s:List UInt8 × Sx}(h:SetOk s) (w:World):Calls Tryz.prog 136 #[.agg #[sV s.1,exX s.2]] w fun e w'=>e=.returned (.agg #[sV s.1,exX s.2])/\Below w.heap.size w w':=by
 have hx:=copX h.2
 rcases exX_form s.2 with hq|⟨u,y,hq⟩
 ·rw [hq] at hx ⊢
  exact cs_nil _ (by show s.1.toArray.size<=_;simpa using h.1) hx w
 ·rw [hq] at hx ⊢
  exact cs_ifc _ _ _ (by show s.1.toArray.size<=_;simpa using h.1) hx w
def Lk (r r':RsC):Prop:=r.1.map tkW=r'.1.map tkW/\r.2.2=r'.2.2
theorem Lk.len {r r':RsC}(h:Lk r r'):r.1.length=r'.1.length:=by
 have:=congrArg List.length h.1
 rwa [List.length_map,List.length_map] at this
theorem Lk.drop {r r':RsC}(h:Lk r r') (n:Nat):Lk (r.1.drop n,r.2) (r'.1.drop n,r'.2):=by
 refine ⟨?_,h.2⟩
 show (r.1.drop n).map tkW=(r'.1.drop n).map tkW
 rw [List.map_drop,List.map_drop,h.1]
theorem Lk.fail {r r':RsC}(h:Lk r r') (e:Int) (p p':Pl):Lk (failC e p r) (failC e p' r'):=by
 unfold failC
 rw [<- h.2]
 split
 ·exact ⟨h.1,rfl⟩
 ·exact h
theorem Lk.isq {r r':RsC}(h:Lk r r') (s:List UInt8):isC s r=isC s r':=by
 unfold isC
 rw [h.2]
 have h1:=h.1
 cases hr:r.1 with
 | nil=>
  rw [hr] at h1
  cases hr':r'.1 with
  | nil=>rfl
  | cons w l=>rw [hr'] at h1;simp at h1
 | cons w l=>
  rw [hr] at h1
  cases hr':r'.1 with
  | nil=>rw [hr'] at h1;simp at h1
  | cons w' l'=>
   rw [hr',List.map_cons,List.map_cons] at h1
   injection h1 with h2 h3
   simp only [h2]
theorem Lk.tail {r r':RsC}(h:Lk r r'):Lk (r.1.tail,r.2) (r'.1.tail,r'.2):=by
 have:=h.drop 1
 rwa [List.drop_one,List.drop_one] at this
theorem Lk.take {r r':RsC}(h:Lk r r') (fin fin':Pl) (s:List UInt8):Lk (takeR fin s r) (takeR fin' s r'):=by
 unfold takeR
 rw [<- h.isq s]
 split
 ·exact h.tail
 ·exact h.fail _ _ _
theorem Lk.cons {r r':RsC}(h:Lk r r'):(r.1=[]/\r'.1=[])∨∃ w l w' l',r.1=w :: l/\r'.1=w' :: l'/\tkW w=tkW w'/\l.map tkW=l'.map tkW:=by
 have h1:=h.1
 cases hr:r.1 with
 | nil=>
  rw [hr] at h1
  cases hr':r'.1 with
  | nil=>exact .inl ⟨rfl,rfl⟩
  | cons w l=>rw [hr'] at h1;simp at h1
 | cons w l=>
  rw [hr] at h1
  cases hr':r'.1 with
  | nil=>rw [hr'] at h1;simp at h1
  | cons w' l'=>
   rw [hr',List.map_cons,List.map_cons] at h1
   injection h1 with h2 h3
   exact .inr ⟨w,l,w',l',rfl,rfl,h2,h3⟩
theorem Lk.name {r r':RsC}(h:Lk r r') (fin fin':Pl):(nameR fin r).1.1=(nameR fin' r').1.1/\Lk (nameR fin r).2 (nameR fin' r').2:=by
 unfold nameR
 rcases h.cons with ⟨h1,h2⟩|⟨w,l,w',l',h1,h2,h3,h4⟩
 ·rw [h1,h2];exact ⟨rfl,h.fail _ _ _⟩
 ·rw [h1,h2]
  simp only
  rw [<- h.2,<- h3]
  split
  ·exact ⟨rfl,h4,h.2⟩
  ·exact ⟨rfl,h.fail _ _ _⟩
theorem Lk.num {r r':RsC}(h:Lk r r') (fin fin':Pl):(numR fin r).1=(numR fin' r').1/\Lk (numR fin r).2 (numR fin' r').2:=by
 unfold numR
 rcases h.cons with ⟨h1,h2⟩|⟨w,l,w',l',h1,h2,h3,h4⟩
 ·rw [h1,h2];exact ⟨rfl,h.fail _ _ _⟩
 ·rw [h1,h2]
  have hk:w.1=w'.1:=congrArg (fun x:Tk=>x.1) h3
  simp only
  rw [<- h.2,<- h3,<- hk]
  split
  ·exact ⟨rfl,h4,h.2⟩
  ·exact ⟨rfl,h.fail _ _ _⟩
theorem Lk.expr {r r':RsC}(h:Lk r r') (fin fin':Pl):(exprR fin r).1=(exprR fin' r').1/\Lk (exprR fin r).2 (exprR fin' r').2:=by
 unfold exprR
 rw [<- h.1,<- h.2]
 split
 ·exact ⟨rfl,h⟩
 ·split
  ·exact ⟨rfl,h.drop _⟩
  ·split
   ·exact ⟨rfl,h.fail _ _ _⟩
   ·exact ⟨rfl,(h.drop _).fail _ _ _⟩
theorem Lk.sets (fin fin':Pl):∀ (g:Nat) (acc:List (List UInt8 × Sx)) {r r':RsC},Lk r r'->(setsR fin g acc r).1=(setsR fin' g acc r').1/\Lk (setsR fin g acc r).2 (setsR fin' g acc r').2
 | 0,acc,r,r',h=>⟨rfl,h⟩
 | g+1,acc,r,r',h=>by
  unfold setsR
  rw [<- h.isq wSet]
  split
  ·obtain ⟨a1,a2⟩:=(h.take fin fin' wSet).name fin fin'
   obtain ⟨b1,b2⟩:=(a2.take fin fin' [61]).expr fin fin'
   simp only
   rw [a1,b1]
   exact Lk.sets fin fin' g _ b2
  ·exact ⟨rfl,h⟩
def stO (o:OnC):OnC:=(o.1,o.2.1,o.2.2.1,o.2.2.2.1,(0,0))
theorem Lk.on {r r':RsC}(h:Lk r r') (fin fin':Pl):stO (onR fin r).1=stO (onR fin' r').1/\Lk (onR fin r).2 (onR fin' r').2:=by
 unfold onR
 obtain ⟨a1,a2⟩:=(h.take fin fin' wOn).name fin fin'
 simp only
 generalize nameR fin (takeR fin wOn r)=A at *
 generalize nameR fin' (takeR fin' wOn r')=A' at *
 have hg:(if isC wIf A.2=true then ((fun x=>((true,x.1),x.2)) (exprR fin (takeR fin wIf A.2)):(Bool × Sx) × RsC) else ((false,noX),A.2)).1=(if isC wIf A'.2=true then ((fun x=>((true,x.1),x.2)) (exprR fin' (takeR fin' wIf A'.2)):(Bool × Sx) × RsC) else ((false,noX),A'.2)).1/\
   Lk (if isC wIf A.2=true then ((fun x=>((true,x.1),x.2)) (exprR fin (takeR fin wIf A.2)):(Bool × Sx) × RsC) else ((false,noX),A.2)).2 (if isC wIf A'.2=true then ((fun x=>((true,x.1),x.2)) (exprR fin' (takeR fin' wIf A'.2)):(Bool × Sx) × RsC) else ((false,noX),A'.2)).2:=by
  rw [<- a2.isq wIf]
  split
  ·obtain ⟨e1,e2⟩:=(a2.take fin fin' wIf).expr fin fin'
   exact ⟨congrArg (Prod.mk true) e1,e2⟩
  ·exact ⟨rfl,a2⟩
 generalize (if isC wIf A.2=true then ((fun x=>((true,x.1),x.2)) (exprR fin (takeR fin wIf A.2)):(Bool × Sx) × RsC) else ((false,noX),A.2))=G at *
 generalize (if isC wIf A'.2=true then ((fun x=>((true,x.1),x.2)) (exprR fin' (takeR fin' wIf A'.2)):(Bool × Sx) × RsC) else ((false,noX),A'.2))=G' at *
 obtain ⟨g1,g2⟩:=hg
 obtain ⟨t1,t2⟩:=(g2.take fin fin' wGo).name fin fin'
 generalize nameR fin (takeR fin wGo G.2)=U at *
 generalize nameR fin' (takeR fin' wGo G'.2)=U' at *
 rw [<- t2.len]
 obtain ⟨s1,s2⟩:=Lk.sets fin fin' (U.2.1.length+1) [] t2
 refine ⟨?_,s2⟩
 unfold stO
 simp only [a1,g1,t1,s1]
theorem Lk.kind {r r':RsC}(h:Lk r r') (fin fin':Pl):(kindR fin r).1=(kindR fin' r').1/\Lk (kindR fin r).2 (kindR fin' r').2:=by
 unfold kindR
 rw [<- h.isq wAll,<- h.isq wEnd,<- h.isq wDo]
 split
 ·exact ⟨rfl,h.take _ _ _⟩
 ·split
  ·exact ⟨rfl,h.take _ _ _⟩
  ·split
   ·obtain ⟨a1,a2⟩:=(h.take fin fin' wDo).name fin fin'
    obtain ⟨b1,b2⟩:=(a2.take fin fin' wUndo).name fin fin'
    obtain ⟨c1,c2⟩:=(b2.take fin fin' wAt).num fin fin'
    obtain ⟨e1,e2⟩:=(c2.take fin fin' wRetries).num fin fin'
    simp only
    exact ⟨by rw [a1,b1,c1,e1],e2⟩
   ·exact ⟨rfl,h⟩
def stS:(d:Nat)->St d->St d
 | 0,t=>Empty.elim t
 | d+1,t=>show HdC × List (St d) from (((t.1.1.1,(0,0)),t.1.2.1,t.1.2.2.1,t.1.2.2.2.1,t.1.2.2.2.2.map stO),t.2.map (stS d))
theorem Lk.inn {α:Type}(f:α->α) (fin fin':Pl) (i1 i2:RsC->α × RsC) (hi:∀ {r r':RsC},Lk r r'->f (i1 r).1=f (i2 r').1/\Lk (i1 r).2 (i2 r').2) :
  ∀ (g:Nat) (os os':List OnC) (ss ss':List α) {r r':RsC},Lk r r'->os.map stO=os'.map stO->ss.map f=ss'.map f->
   (inR fin i1 g os ss r).1.1.map stO=(inR fin' i2 g os' ss' r').1.1.map stO/\(inR fin i1 g os ss r).1.2.map f=(inR fin' i2 g os' ss' r').1.2.map f/\Lk (inR fin i1 g os ss r).2 (inR fin' i2 g os' ss' r').2
 | 0,os,os',ss,ss',r,r',h,ho,hs=>⟨ho,hs,h⟩
 | g+1,os,os',ss,ss',r,r',h,ho,hs=>by
  unfold inR
  rw [<- h.2,<- h.isq [125],<- h.isq wOn]
  split
  ·split
   ·obtain ⟨a1,a2⟩:=h.on fin fin'
    exact Lk.inn f fin fin' i1 i2 hi g _ _ _ _ a2 (by rw [List.map_append,List.map_append,ho,List.map_singleton,List.map_singleton,a1]) hs
   ·obtain ⟨a1,a2⟩:=hi h
    exact Lk.inn f fin fin' i1 i2 hi g _ _ _ _ a2 ho (by rw [List.map_append,List.map_append,hs,List.map_singleton,List.map_singleton,a1])
  ·exact ⟨ho,hs,h⟩
theorem Lk.st (fin fin':Pl):∀ (k:Nat) {r r':RsC},Lk r r'->stS (k+1) (stR fin k r).1=stS (k+1) (stR fin' k r').1/\Lk (stR fin k r).2 (stR fin' k r').2
 | 0,r,r',h=>by
  refine ⟨rfl,?_⟩
  show Lk (failC (if isC wState r=true then 13 else 12) (hereR fin r) r) (failC (if isC wState r'=true then 13 else 12) (hereR fin' r') r')
  rw [<- h.isq wState]
  exact h.fail _ _ _
 | k+1,r,r',h=>by
  obtain ⟨a1,a2⟩:=(h.take fin fin' wState).name fin fin'
  obtain ⟨b1,b2⟩:=(a2.take fin fin' [123]).kind fin fin'
  obtain ⟨c1,c2,c3⟩:=Lk.inn (stS (k+1)) fin fin' (stR fin k) (stR fin' k) (fun h=>Lk.st fin fin' k h) ((kindR fin (takeR fin [123] (nameR fin (takeR fin wState r)).2)).2.1.length+1) [] [] [] [] b2 rfl rfl
  refine ⟨?_,?_⟩
  ·show (show HdC × List (St (k+1)) from (((_,(0,0)),_,_,_,List.map stO _),List.map (stS (k+1)) _))=(show HdC × List (St (k+1)) from (((_,(0,0)),_,_,_,List.map stO _),List.map (stS (k+1)) _))
   simp only [stR]
   rw [<- b2.len,a1,b1,c1,c2]
  ·simp only [stR]
   rw [<- b2.len]
   exact c3.take _ _ _
theorem Lk.vars (fin fin':Pl):∀ (g:Nat) (acc acc':List (List UInt8 × Int × Pl)) {r r':RsC},Lk r r'->acc.map (fun v=>(v.1,v.2.1))=acc'.map (fun v=>(v.1,v.2.1))->
   (varsR fin g acc r).1.map (fun v=>(v.1,v.2.1))=(varsR fin' g acc' r').1.map (fun v=>(v.1,v.2.1))/\Lk (varsR fin g acc r).2 (varsR fin' g acc' r').2
 | 0,acc,acc',r,r',h,ha=>⟨ha,h⟩
 | g+1,acc,acc',r,r',h,ha=>by
  unfold varsR
  rw [<- h.isq wVar]
  split
  ·obtain ⟨a1,a2⟩:=(h.take fin fin' wVar).name fin fin'
   have b2:=a2.take fin fin' [61]
   simp only
   rw [<- b2.isq [45]]
   split
   ·obtain ⟨n1,n2⟩:=(b2.take fin fin' [45]).num fin fin'
    exact Lk.vars fin fin' g _ _ n2 (by rw [List.map_append,List.map_append,ha];simp only [List.map_cons,List.map_nil,a1,n1])
   ·obtain ⟨n1,n2⟩:=b2.num fin fin'
    exact Lk.vars fin fin' g _ _ n2 (by rw [List.map_append,List.map_append,ha];simp only [List.map_cons,List.map_nil,a1,n1])
  ·exact ⟨ha,h⟩
abbrev Pq:=Tk ⊕ UInt8
def pieQ (p:Pq):List UInt8:=match p with | .inl w=>w.2 | .inr c=>[c]
def txQ (ps:List Pq):List UInt8:=(ps.map pieQ).flatten
def tkQ:List Pq->List Tk
 | []=>[]
 | .inl w :: r=>w :: tkQ r
 | .inr _ :: r=>tkQ r
theorem txQ_cons (p:Pq) (r:List Pq):txQ (p :: r)=pieQ p++txQ r:=rfl
theorem txQ_app (a b:List Pq):txQ (a++b)=txQ a++txQ b:=by simp [txQ]
theorem tkQ_app:∀ (a b:List Pq),tkQ (a++b)=tkQ a++tkQ b
 | [],b=>rfl
 | .inl w :: a,b=>congrArg (w :: ·) (tkQ_app a b)
 | .inr c :: a,b=>tkQ_app a b
def blk (c:UInt8):Prop:=c=32∨c=9∨c=10
def FitQ:List Pq->List UInt8->Prop
 | [],_=>True
 | .inr c :: r,post=>blk c/\FitQ r post
 | .inl w :: r,post=>Fits w (txQ r++post)/\FitQ r post
theorem fitQ_app:∀ (a b:List Pq) (post:List UInt8),FitQ a (txQ b++post)->FitQ b post->FitQ (a++b) post
 | [],b,post,_,h=>h
 | .inr c :: a,b,post,h1,h2=>⟨h1.1,fitQ_app a b post h1.2 h2⟩
 | .inl w :: a,b,post,h1,h2=>by
  refine ⟨?_,fitQ_app a b post h1.2 h2⟩
  show Fits w (txQ (a++b)++post)
  rw [txQ_app,List.append_assoc]
  exact h1.1
theorem words_pcQ:∀ (ps:List Pq) (ln co:Int) (n:Nat),FitQ ps []->n<=3000->er (wrds (runes (txQ ps)) ln co n)=if n+(tkQ ps).length<=3000 then ((tkQ ps).map (fun w=>(w.1,runes w.2)),0) else ([],4)
 | [],ln,co,n,_,hn=>by
  have hk:n+(tkQ []).length<=3000:=hn
  rw [if_pos hk];rfl
 | .inr c :: r,ln,co,n,h,hn=>by
  obtain ⟨hc,hr⟩:=h
  have e:tkQ (.inr c :: r)=tkQ r:=rfl
  rw [e,txQ_cons,show pieQ (.inr c)++txQ r=c :: txQ r from rfl]
  rcases hc with rfl|rfl|rfl
  ·rw [runes_ascii (by decide),wrds_cons,if_neg (by decide),if_pos (.inl (by decide))]
   exact words_pcQ r ln (co+1) n hr hn
  ·rw [runes_ascii (by decide),wrds_cons,if_neg (by decide),if_pos (.inr (by decide))]
   exact words_pcQ r ln (co+1) n hr hn
  ·rw [runes_ascii (by decide),wrds_cons,if_pos (by decide)]
   exact words_pcQ r (ln+1) 1 n hr hn
 | .inl w :: r,ln,co,n,h,hn=>by
  obtain ⟨⟨h0,h1,h2,v,t,h3,h4,h5,h6,h7⟩,hr⟩:=h
  rw [List.append_nil] at h1 h2
  have ht:tkQ (.inl w :: r)=w :: tkQ r:=rfl
  rw [ht,List.length_cons,List.map_cons,txQ_cons,show pieQ (.inl w)=w.2 from rfl,h1]
  have e:runes w.2++runes (txQ r)=v :: (t++runes (txQ r)):=by rw [h3];rfl
  rw [e] at h2 ⊢
  rw [wrds_cons,if_neg h4,if_neg (fun q=>q.elim h5 h6),if_neg h7,h2,if_neg h0]
  by_cases hf:n=3000
  ·rw [if_pos hf,if_neg (by omega)];rfl
  ·rw [if_neg hf,<- e,List.take_left,List.drop_left,er_pre]
   have ih:=words_pcQ r ln (co+((runes w.2).length:Nat)) (n+1) hr (by omega)
   by_cases hk:n+((tkQ r).length+1)<=3000
   ·rw [if_pos (by omega)] at ih
    have e0:(wrds (runes (txQ r)) ln (co+((runes w.2).length:Nat)) (n+1)).2.2=0:=by
     have:=congrArg Prod.snd ih
     exact this
    rw [if_pos e0,ih,if_pos hk]
   ·rw [if_neg (by omega)] at ih
    have e0:(wrds (runes (txQ r)) ln (co+((runes w.2).length:Nat)) (n+1)).2.2=4:=by
     have:=congrArg Prod.snd ih
     exact this
    rw [if_neg (by rw [e0];decide),ih,if_neg hk]
theorem words_Q {ps:List Pq}(h:FitQ ps []):er (wordsS (txQ ps))=if (txQ ps).length<=12000/\(tkQ ps).length<=3000 then ((tkQ ps).map (fun w=>(w.1,runes w.2)),0) else ([],4):=by
 unfold wordsS
 by_cases hl:12000 < (txQ ps).length
 ·rw [if_pos hl,if_neg (by omega)];rfl
 ·rw [if_neg hl,words_pcQ ps 1 1 0 h (by omega)]
  by_cases hk:(tkQ ps).length<=3000
  ·rw [if_pos (by omega),if_pos ⟨by omega,hk⟩]
  ·rw [if_neg (by omega),if_neg (by omega)]
def qE (ps:List Pc):List Pq:=ps.map (fun p=>match p with|some w=>.inl w|none=>.inr 32)
theorem txQ_qE:∀ ps:List Pc,txQ (qE ps)=txP ps
 | []=>rfl
 | some w :: r=>congrArg (w.2++·) (txQ_qE r)
 | none :: r=>congrArg ([32]++·) (txQ_qE r)
theorem tkQ_qE:∀ ps:List Pc,tkQ (qE ps)=tkP ps
 | []=>rfl
 | some w :: r=>congrArg (w :: ·) (tkQ_qE r)
 | none :: r=>tkQ_qE r
theorem fitQ_qE:∀ (ps:List Pc) (post:List UInt8),FitsAll ps post->FitQ (qE ps) post
 | [],_,_=>trivial
 | some w :: r,post,h=>⟨by
   show Fits w (txQ (qE r)++post)
   rw [txQ_qE];exact h.1,fitQ_qE r post h.2⟩
 | none :: r,post,h=>⟨.inl rfl,fitQ_qE r post h⟩
def kwQ (s:List UInt8):Pq:=.inl (1,s)
def sgQ (c:UInt8):Pq:=.inl (3,[c])
def nuQ (n:Int):Pq:=.inl (2,dcN n)
def spQ:Pq:=.inr 32
def nlQ:Pq:=.inr 10
def tbQ (n:Nat):List Pq:=List.replicate n (.inr 9)
def exQ (x:Sx):List Pq:=qE (pcs dcN x.1 x.2).2
def setQ (s:List UInt8 × Sx):List Pq:=[spQ,kwQ wSet,spQ,kwQ s.1,spQ,sgQ 61,spQ]++exQ s.2
def grdQ (g:Bool × Sx):List Pq:=if g.1=true then [spQ,kwQ wIf,spQ]++exQ g.2 else []
def onQ (n:Nat) (o:OnC):List Pq:=tbQ n++([kwQ wOn,spQ,kwQ o.1]++(grdQ o.2.1++([spQ,kwQ wGo,spQ,kwQ o.2.2.1]++((o.2.2.2.1.map setQ).flatten++[nlQ]))))
def kndQ (n:Nat) (h:HdC):List Pq:=
 if h.2.1.1=true then tbQ n++[kwQ wAll,nlQ] else
 if h.2.1.2=true then tbQ n++[kwQ wEnd,nlQ] else
 if h.2.2.1.1≠[] then tbQ n++[kwQ wDo,spQ,kwQ h.2.2.1.1,spQ,kwQ wUndo,spQ,kwQ h.2.2.1.2,spQ,kwQ wAt,spQ,nuQ h.2.2.2.1.1,spQ,kwQ wRetries,spQ,nuQ h.2.2.2.1.2,nlQ] else []
def stQ:(d:Nat)->Nat->St d->List Pq
 | 0,_,t=>Empty.elim t
 | d+1,n,t=>tbQ n++([kwQ wState,spQ,kwQ t.1.1.1,spQ,sgQ 123,nlQ]++(kndQ (n+1) t.1++((t.1.2.2.2.2.map (onQ (n+1))).flatten++((t.2.map (stQ d (n+1))).flatten++(tbQ n++[sgQ 125,nlQ])))))
def nmQ (n:Int):List Pq:=if n < 0 then [sgQ 45,nuQ (-n)] else [nuQ n]
def varQ (v:List UInt8 × Int × Pl):List Pq:=tbQ 1++([kwQ wVar,spQ,kwQ v.1,spQ,sgQ 61,spQ]++(nmQ v.2.1++[nlQ]))
abbrev ChX (d:Nat):=(List UInt8 × Pl) × Int × List (List UInt8 × Int × Pl) × List (St d)
def chQ (d:Nat) (c:ChX d):List Pq:=[kwQ wChart,spQ,kwQ c.1.1,spQ,nuQ c.2.1,spQ,sgQ 123,nlQ]++((c.2.2.1.map varQ).flatten++((c.2.2.2.map (stQ d 1)).flatten++[sgQ 125,nlQ]))
def plX (x:Sx):Bool:=plC x.1 x.2
def nbB (n:Int):Bool:=decide (0<=n/\n<=1000000000)
def exF (x:Sx):Bool:=fmX x && plX x
def setF (s:List UInt8 × Sx):Bool:=plainB s.1 && exF s.2
def onF (o:OnC):Bool:=plainB o.1 && ((!o.2.1.1 || exF o.2.1.2) && (plainB o.2.2.1 && o.2.2.2.1.all setF))
def stepB (h:HdC):Bool:=!(decide (h.2.2.1.1=[]) && decide (h.2.2.1.2=[]) && decide (h.2.2.2.1.1=0) && decide (h.2.2.2.1.2=0))
def kndF (h:HdC):Bool:=if stepB h=true then !h.2.1.1 && !h.2.1.2 && plainB h.2.2.1.1 && plainB h.2.2.1.2 && nbB h.2.2.2.1.1 && nbB h.2.2.2.1.2 else !h.2.1.1 || !h.2.1.2
def stF:(d:Nat)->Nat->St d->Bool
 | 0,_,t=>Empty.elim t
 | d+1,n,t=>decide (n<=6) && plainB t.1.1.1 && kndF t.1 && t.1.2.2.2.2.all onF && t.2.all (stF d (n+1))
def varF (v:List UInt8 × Int × Pl):Bool:=plainB v.1 && decide (-1000000000<=v.2.1/\v.2.1<=1000000000)
def chF (d:Nat) (c:ChX d):Bool:=plainB c.1.1 && nbB c.2.1 && c.2.2.1.all varF && c.2.2.2.all (stF d 1)
def OnCl (o:OnC):Prop:=(o.2.1.1=true->ClX o.2.1.2)/\∀ s∈o.2.2.2.1,ClX s.2
def StCl:(d:Nat)->St d->Prop
 | 0,t=>Empty.elim t
 | d+1,t=>(∀ o∈t.1.2.2.2.2,OnCl o)/\∀ x∈t.2,StCl d x
theorem plain_name {s:List UInt8}(h:plainB s=true):nameS s=true:=by
 unfold plainB at h
 exact ((Bool.and_eq_true _ _).mp h).1
theorem fits_brace {c:UInt8}(h:c=123∨c=125) (post:List UInt8):Fits (3,[c]) post:=by
 rcases h with rfl|rfl
 ·exact fits_shape (by decide) (by decide) (by decide) (by decide) (by decide) (fun v r _=>by unfold pair;rw [decide_eq_false_iff_not];simp)
 ·exact fits_shape (by decide) (by decide) (by decide) (by decide) (by decide) (fun v r _=>by unfold pair;rw [decide_eq_false_iff_not];simp)
theorem fits_eq (post:List UInt8):Fits (3,[61]) (32 :: post):=fits_shape (by decide) (by decide) (by decide) (by decide) (by decide) (fun v r hv=>by
 rw [runes_ascii (by decide)] at hv
 injection hv with h1 _
 rw [<- h1];decide)
theorem num_dc {n:Int}(h0:0<=n) (h1:n<=1000000000):numB (dcN n)=true:=dd_num (by omega)
theorem fitQ_tb:∀ (n:Nat) (post:List UInt8),FitQ (tbQ n) post
 | 0,_=>trivial
 | n+1,post=>⟨.inr (.inl rfl),fitQ_tb n post⟩
theorem exF_parts {x:Sx}(hc:ClX x) (h:exF x=true):okT (valB 0) rsvB dcN x.1 x.2/\rtT dcN x.1 x.2:=by
 unfold exF at h
 rw [Bool.and_eq_true] at h
 exact ok_sound x.1 x.2 hc (fm_parts h.1).2 h.2
theorem fitQ_ex {x:Sx}(hc:ClX x) (h:exF x=true) {post:List UInt8}(hp:Post post):FitQ (exQ x) post:=
 fitQ_qE _ _ ((fits_tree dcN x.1 x.2 hc (exF_parts hc h).2).1 post hp)
theorem rname_any (s:List UInt8) (w:World) (hs:s.length<=140737488351232):Calls Tryz.prog 51 #[sV s] w fun e w'=>e=.returned (.bool (plainB s))/\Below w.heap.size w w':=by
 have hz:(⟨s.toArray⟩:ByteArray).size<=140737488351232:=by show s.toArray.size<=_;simpa using hs
 have h1:=fun w1=>pName_any ⟨s.toArray⟩ w1 hz
 have h2:=fun w1=>pReserved_any ⟨s.toArray⟩ w1
 have e1:bl (⟨s.toArray⟩:ByteArray)=s:=by unfold bl;simp
 rw [e1] at h1 h2
 unfold plainB sV
 generalize (⟨s.toArray⟩:ByteArray)=t at *
 cases h3:nameS s<;>cases h4:rsvB s
 all_goals (
  simp only [h3] at h1
  simp only [h4] at h2
  go_enter Tryz.func51,Tryz.ntmps51
  go_wp2_with (first
   | (go_at_call 89;refine (h1 _).mono ?_;rintro e w1 ⟨rfl,b1⟩)
   | (go_at_call 90;refine (h2 _).mono ?_;rintro e w2 ⟨rfl,hw2⟩;subst hw2)
   | fail)
  go_ret
  exact ⟨rfl,b1⟩)
theorem rnum_any (n:Int) (w:World):Calls Tryz.prog 52 #[.int .i64 n] w fun e w'=>e=.returned (.bool (nbB n))/\Below w.heap.size w w':=by
 unfold nbB
 by_cases h1:0<=n
 ·by_cases h2:n<=1000000000
  ·rw [decide_eq_true ⟨h1,h2⟩]
   go_enter Tryz.func52,Tryz.ntmps52
   go_wp2
   go_ret
   exact ⟨rfl,Below.refl _ _⟩
  ·rw [decide_eq_false (fun q=>h2 q.2)]
   go_enter Tryz.func52,Tryz.ntmps52
   go_wp2
   go_ret
   exact ⟨rfl,Below.refl _ _⟩
 ·rw [decide_eq_false (fun q=>h1 q.1)]
  go_enter Tryz.func52,Tryz.ntmps52
  go_wp2
  go_ret
  exact ⟨rfl,Below.refl _ _⟩
theorem rexp_any {x:Sx}(h:ExOk x) (hn:cntX x<=1000) (w:World) (hw:Pow w):Calls Tryz.prog 159 #[exX x] w fun e w'=>e=.returned (.bool (exF x))/\Below w.heap.size w w':=by
 have h1:=printP w h.1 (by unfold cntX at hn;exact hn) h.2.2 hw
 have h2:Calls Tryz.prog 208 #[exX x] w fun e w'=>e=.returned (.tuple #[.string ⟨(prC x.1 x.2).1.toArray⟩,.int .i64 (if exF x=true then 0 else 1)])/\Below w.heap.size w w':=by
  refine h1.mono ?_
  rintro e w' ⟨he,hb⟩
  refine ⟨?_,hb⟩
  rw [he]
  have:(prC x.1 x.2).2=if exF x=true then 0 else 1:=by
   unfold prC exF fmX plX
   simp only [Bool.and_eq_true]
   split<;>rfl
  rw [this]
 generalize exX x=v at *
 cases h3:exF x
 all_goals (
  simp only [h3] at h2
  go_enter Tryz.func159,Tryz.ntmps159
  go_wp2_with (first
   | (go_at_call 208;refine h2.mono ?_;rintro e w1 ⟨rfl,b1⟩)
   | fail)
  go_ret
  exact ⟨rfl,b1⟩)
theorem Tryz.infoESet:(Tryz.prog.info? 136).map (fun i=>(i.zero,i.size,i.bytes))=some (some (.agg #[.string ⟨#[]⟩,.nilIface]),2,32):=by kernel_rfl
theorem mkHid {p:Prop}(h:p):Hid p:=h
theorem eachSet_any {ok:Nat->Prop}{w:World}{l:List (List UInt8 × Sx)}{v:Value}(h:RdK ok w 2 (rSet ok w) l v) (hl:l.length<=100000) (hok:∀ s∈l,SetOk s) :
  Calls Tryz.prog 135 #[v,.func (.func 136) #[] #[]] w fun e w'=>∃ u,e=.returned u/\RdK (fun b=>w.heap.size<=b) w' 2 (rSet (fun b=>w.heap.size<=b) w') (l) u/\Below w.heap.size w w':=by
 obtain ⟨ie,hie,hie0,hie1,hie2⟩:=info_parts Tryz.infoESet
 obtain ⟨a,cap,rfl,hlc,hcm⟩:=h.form
 unfold maxLen at hcm
 have HC:=mkHid h
 have HK:=mkHid hok
 obtain ⟨n,hn⟩:∃ n,l.length=n:=⟨_,rfl⟩
 rw [hn] at hlc hl ⊢
 have HN:Hid (l.length=n):=hn
 clear h hok hn
 have hmk:=run_make (P:=Tryz.prog) w 131 136 ie _ Tryz.underlying131 hie hie0 .i64 .i64 (n:Int) (n:Int) (by omega) (by omega) (by rw [hie2];omega) (by omega)
 rw [Int.toNat_natCast,hie1] at hmk
 have hG0:RowG (w.alloc (.cells (madeCells (.agg #[.string ⟨#[]⟩,.nilIface]:Value).cells (n*2)) 136)) w.heap.size 2 n rSet ([]:List (List UInt8 × Sx)):=RowG.made w _ 2 n _ _
 have hb0:Below w.heap.size w (w.alloc (.cells (madeCells (.agg #[.string ⟨#[]⟩,.nilIface]:Value).cells (n*2)) 136)):=(Below.refl _ _).alloc Nat.le.refl _
 have hs0:(w.alloc (.cells (madeCells (.agg #[.string ⟨#[]⟩,.nilIface]:Value).cells (n*2)) 136)).heap.size=w.heap.size+1:=by simp
 generalize w.alloc (.cells (madeCells (.agg #[.string ⟨#[]⟩,.nilIface]:Value).cells (n*2)) 136)=w0 at *
 go_enter Tryz.func135,Tryz.ntmps135
 go_wp2
 go_loopw [13] (fun ix wr=>∃ (i:Nat),i<=n/\ix=.int .i64 (i:Int)/\RowG wr w.heap.size 2 n rSet ((l).take i)/\Below w.heap.size w wr/\w.heap.size < wr.heap.size) (fun ix _=>n - (RowKit.intOf ix).toNat)
 case atStart=>exact ⟨0,Nat.zero_le _,rfl,hG0,hb0,by omega⟩
 case round=>
  obtain ⟨i,hi,rfl,hRow,hb,hGs⟩:=hrel
  clear hG0 hb0 hs0 hmk
  by_cases hlt:i < n
  ·have hil:i < l.length:=by rw [HN.out];exact hlt
   obtain ⟨b,off,rfl,hbl,hc⟩:=setQ_at HC.out i hil
   have hks:=HK.out _ (List.getElem_mem hil)
   have hcall0:=copiedSet_any hks
   obtain ⟨q,hq⟩:∃ q,l[i]=q:=⟨_,rfl⟩
   rw [hq] at hc hcall0
   have HQ:Hid (l[i]=q):=hq
   clear hq hks
   obtain ⟨s0,hs0⟩:∃ s0,sV q.1=.string s0:=⟨_,rfl⟩
   have hform:=exX_form q.2
   obtain ⟨tv,htv⟩:∃ tv,exX q.2=tv:=⟨_,rfl⟩
   rw [hs0,htv] at hc hcall0
   rw [htv] at hform
   have HS:Hid (sV q.1=.string s0):=hs0
   have HTV:Hid (exX q.2=tv):=htv
   clear hs0 htv
   obtain ⟨acc,hac⟩:∃ acc,(l).take i=acc:=⟨_,rfl⟩
   have hla:acc.length=i:=by rw [<- hac];simp [HN.out];omega
   rw [hac] at hRow
   have HAC:Hid ((l).take i=acc):=hac
   clear hac
   have i1:(i:Int) < (n:Int):=by omega
   have i2:(0:Int)<=(i:Int):=by omega
   have C0:=(hb.cell (p:=⟨b,off+i*2+0,none⟩) hbl).trans (hc 0 _ rfl)
   have C1:=(hb.cell (p:=⟨b,off+i*2+1,none⟩) hbl).trans (hc 1 _ rfl)
   rw [Nat.add_zero] at C0
   clear hc
   rcases hform with rfl|⟨tu,ty,rfl⟩
   ·have hal:=(Below.refl wr.heap.size wr).alloc Nat.le.refl (.cells #[.string s0,.nilIface] 136)
    have hX:=Bn.new wr [.string s0,.nilIface] 136 _ rfl
    have hRx:=hRow.on kp_set hGs hal
    have hbx:=hb.trans (hal.mono hb.size)
    have hGx:=Nat.lt_of_lt_of_le hGs hal.size
    have hcall:∀ w1,Below w.heap.size w w1->Calls Tryz.prog 136 #[.agg #[.string s0,.nilIface]] w1 fun e w'=>e=.returned (.agg #[.string s0,.nilIface])/\Below w1.heap.size w1 w':=fun w1 _=>hcall0 w1
    go_upto_region 5 with fail
    clear C0 C1 hal
    generalize wr.alloc (.cells #[.string s0,.nilIface] 136)=wx at *
    obtain ⟨X,hXX⟩:∃ X,wr.heap.size=X:=⟨_,rfl⟩
    rw [hXX] at hX ⊢
    have HXX:Hid (wr.heap.size=X):=hXX
    clear hXX
    have x0:=(hX 0 _ rfl).1
    have x1:=(hX 1 _ rfl).1
    go_wp2_with (first
     | (go_at_call 136;refine (hcall _ hbx).mono ?_;rintro e w1 ⟨rfl,b1⟩;have hp:rSet (fun b=>w.heap.size < b) w1 q [.string s0,.nilIface]:=(by show _=_;rw [HS.out,HTV.out]);have hR1:=hRx.on kp_set hGx b1;obtain ⟨⟨r0,q0⟩,z0⟩:=hR1.1 (i*2+0) (mul_in hlt (by omega));obtain ⟨⟨r1,q1⟩,z1⟩:=hR1.1 (i*2+1) (mul_in hlt (by omega));rw [Nat.add_zero] at q0 z0)
     | fail)
    have hP:=hR1.put kp_set (x:=q) (cs:=[.string s0,.nilIface]) (by rw [hla];exact hlt) rfl hp
    rw [hla] at hP
    have hb2:=putL_below [.string s0,.nilIface] w1 w.heap.size (i*2) (hbx.trans (b1.mono (Nat.le_of_lt hGx))) Nat.le.refl
    have hs2:w.heap.size < (putL w1 w.heap.size (i*2) [.string s0,.nilIface]).heap.size:=by rw [putL_size];exact Nat.lt_of_lt_of_le hGx b1.size
    have hac2:(l).take (i+1)=acc++[q]:=by
     rw [List.take_succ_eq_append_getElem (by simp [HN.out];omega),HAC.out]
     simp [HQ.out]
    clear x0 r0 q0 z0 x1 r1 q1 z1 hR1 hRx hp
    go_wp2
    go_roundw
    case rel=>exact ⟨i+1,hlt,by go_num,by rw [hac2];exact hP,hb2,hs2⟩
    case measure=>simp [RowKit.intOf];omega
   ·have hal:=(Below.refl wr.heap.size wr).alloc Nat.le.refl (.cells #[.string s0,.iface tu ty] 136)
    have hX:=Bn.new wr [.string s0,.iface tu ty] 136 _ rfl
    have hRx:=hRow.on kp_set hGs hal
    have hbx:=hb.trans (hal.mono hb.size)
    have hGx:=Nat.lt_of_lt_of_le hGs hal.size
    have hcall:∀ w1,Below w.heap.size w w1->Calls Tryz.prog 136 #[.agg #[.string s0,.iface tu ty]] w1 fun e w'=>e=.returned (.agg #[.string s0,.iface tu ty])/\Below w1.heap.size w1 w':=fun w1 _=>hcall0 w1
    go_upto_region 5 with fail
    clear C0 C1 hal
    generalize wr.alloc (.cells #[.string s0,.iface tu ty] 136)=wx at *
    obtain ⟨X,hXX⟩:∃ X,wr.heap.size=X:=⟨_,rfl⟩
    rw [hXX] at hX ⊢
    have HXX:Hid (wr.heap.size=X):=hXX
    clear hXX
    have x0:=(hX 0 _ rfl).1
    have x1:=(hX 1 _ rfl).1
    go_wp2_with (first
     | (go_at_call 136;refine (hcall _ hbx).mono ?_;rintro e w1 ⟨rfl,b1⟩;have hp:rSet (fun b=>w.heap.size < b) w1 q [.string s0,.iface tu ty]:=(by show _=_;rw [HS.out,HTV.out]);have hR1:=hRx.on kp_set hGx b1;obtain ⟨⟨r0,q0⟩,z0⟩:=hR1.1 (i*2+0) (mul_in hlt (by omega));obtain ⟨⟨r1,q1⟩,z1⟩:=hR1.1 (i*2+1) (mul_in hlt (by omega));rw [Nat.add_zero] at q0 z0)
     | fail)
    have hP:=hR1.put kp_set (x:=q) (cs:=[.string s0,.iface tu ty]) (by rw [hla];exact hlt) rfl hp
    rw [hla] at hP
    have hb2:=putL_below [.string s0,.iface tu ty] w1 w.heap.size (i*2) (hbx.trans (b1.mono (Nat.le_of_lt hGx))) Nat.le.refl
    have hs2:w.heap.size < (putL w1 w.heap.size (i*2) [.string s0,.iface tu ty]).heap.size:=by rw [putL_size];exact Nat.lt_of_lt_of_le hGx b1.size
    have hac2:(l).take (i+1)=acc++[q]:=by
     rw [List.take_succ_eq_append_getElem (by simp [HN.out];omega),HAC.out]
     simp [HQ.out]
    clear x0 r0 q0 z0 x1 r1 q1 z1 hR1 hRx hp
    go_wp2
    go_roundw
    case rel=>exact ⟨i+1,hlt,by go_num,by rw [hac2];exact hP,hb2,hs2⟩
    case measure=>simp [RowKit.intOf];omega
  ·have i1:¬ (i:Int) < (n:Int):=by omega
   have hin:i=n:=by omega
   have hfull:(l).take i=l:=List.take_of_length_le (by simp [HN.out];omega)
   rw [hfull] at hRow
   have hrd:=hRow.rd kp_set hGs (by simp [HN.out]) (by unfold maxLen;omega)
   go_wp2
   go_ret
   exact ⟨_,rfl,hrd,hb⟩
def SetK (s:List UInt8 × Sx):Prop:=SetOk s/\cntX s.2<=1000
theorem rset_nil (s0:ByteArray) (bn be:Bool) (w:World) (hn:∀ w1,Below w.heap.size w w1->Calls Tryz.prog 51 #[.string s0] w1 fun e w'=>e=.returned (.bool bn)/\Below w1.heap.size w1 w') (he:∀ w1,Below w.heap.size w w1->Calls Tryz.prog 159 #[.nilIface] w1 fun e w'=>e=.returned (.bool be)/\Below w1.heap.size w1 w'):Calls Tryz.prog 161 #[.agg #[.string s0,.nilIface]] w fun e w'=>e=.returned (.bool (bn && be))/\Below w.heap.size w w':=by
 have hal:Below w.heap.size w (w.alloc (.cells #[.string s0,.nilIface] 136)):=(Below.refl w.heap.size w).alloc Nat.le.refl _
 have hX:Bn (w.alloc (.cells #[.string s0,.nilIface] 136)) w.heap.size [.string s0,.nilIface]:=Bn.new w [.string s0,.nilIface] 136 _ rfl
 cases bn<;>cases be
 all_goals (
  go_enter Tryz.func161,Tryz.ntmps161
  go_upto_region 1 with fail
  generalize (w.alloc (.cells #[.string s0,.nilIface] 136))=wx at *
  have hB:Below wx.heap.size wx wx:=Below.refl _ _
  have x0:=(hX 0 _ rfl).1
  have x1:=(hX 1 _ rfl).1
  go_wp2_with (first
   | (go_at_call 51;refine (hn _ (hal.trans (hB.mono hal.size))).mono ?_;rintro e w1 ⟨rfl,b1⟩;have hB:=Below.nx hB b1;obtain ⟨x1,_⟩:=(hX.on hB) 1 _ rfl)
   | (go_at_call 159;refine (he _ (hal.trans (hB.mono hal.size))).mono ?_;rintro e w1 ⟨rfl,b1⟩;have hB:=Below.nx hB b1;skip)
   | fail)
  go_ret
  exact ⟨rfl,hal.trans (hB.mono hal.size)⟩)
theorem rset_ifc (s0:ByteArray) (tu:TypeId) (ty:Value) (bn be:Bool) (w:World) (hn:∀ w1,Below w.heap.size w w1->Calls Tryz.prog 51 #[.string s0] w1 fun e w'=>e=.returned (.bool bn)/\Below w1.heap.size w1 w') (he:∀ w1,Below w.heap.size w w1->Calls Tryz.prog 159 #[.iface tu ty] w1 fun e w'=>e=.returned (.bool be)/\Below w1.heap.size w1 w'):Calls Tryz.prog 161 #[.agg #[.string s0,.iface tu ty]] w fun e w'=>e=.returned (.bool (bn && be))/\Below w.heap.size w w':=by
 have hal:Below w.heap.size w (w.alloc (.cells #[.string s0,.iface tu ty] 136)):=(Below.refl w.heap.size w).alloc Nat.le.refl _
 have hX:Bn (w.alloc (.cells #[.string s0,.iface tu ty] 136)) w.heap.size [.string s0,.iface tu ty]:=Bn.new w [.string s0,.iface tu ty] 136 _ rfl
 cases bn<;>cases be
 all_goals (
  go_enter Tryz.func161,Tryz.ntmps161
  go_upto_region 1 with fail
  generalize (w.alloc (.cells #[.string s0,.iface tu ty] 136))=wx at *
  have hB:Below wx.heap.size wx wx:=Below.refl _ _
  have x0:=(hX 0 _ rfl).1
  have x1:=(hX 1 _ rfl).1
  go_wp2_with (first
   | (go_at_call 51;refine (hn _ (hal.trans (hB.mono hal.size))).mono ?_;rintro e w1 ⟨rfl,b1⟩;have hB:=Below.nx hB b1;obtain ⟨x1,_⟩:=(hX.on hB) 1 _ rfl)
   | (go_at_call 159;refine (he _ (hal.trans (hB.mono hal.size))).mono ?_;rintro e w1 ⟨rfl,b1⟩;have hB:=Below.nx hB b1;skip)
   | fail)
  go_ret
  exact ⟨rfl,hal.trans (hB.mono hal.size)⟩)
theorem everySet_any  {ok:Nat->Prop}{w:World}{l:List (List UInt8 × Sx)}{v:Value}(h:RdK ok w 2 (rSet ok w) l v) (hok:∀ s∈l,SetK s) (hp:Pow w) :
  Calls Tryz.prog 160 #[v,.func (.func 161) #[] #[]] w fun e w'=>e=.returned (.bool (l.all (setF)))/\Below w.heap.size w w':=by
 obtain ⟨a,cap,rfl,hlc,hcm⟩:=h.form
 unfold maxLen at hcm
 have HC:=mkHid h
 have HK:=mkHid hok
 obtain ⟨n,hn⟩:∃ n,l.length=n:=⟨_,rfl⟩
 rw [hn] at hlc ⊢
 have HN:Hid (l.length=n):=hn
 obtain ⟨f,hf⟩:∃ f:(List UInt8 × Sx)->Bool,(setF)=f:=⟨_,rfl⟩
 rw [hf]
 have HF:=mkHid hf
 obtain ⟨V,HA⟩:∃ V,l.all f=V:=⟨_,rfl⟩
 rw [HA]
 have HAA:=mkHid HA
 clear h hok hn hf HA
 go_enter Tryz.func160,Tryz.ntmps160
 go_wp2
 go_loopw [9] (fun ix wr=>∃ (i:Nat),i<=n/\ix=.int .i64 (i:Int)/\Hid (∀ x∈l.take i,f x=true)/\Below w.heap.size w wr) (fun ix _=>n - (RowKit.intOf ix).toNat)
 case atStart=>exact ⟨0,Nat.zero_le _,rfl,(show Hid _ from fun x hx=>by simp at hx),Below.refl _ _⟩
 case round=>
  obtain ⟨i,hi,rfl,hT,hb⟩:=hrel
  by_cases hlt:i < n
  ·have hil:i < l.length:=by rw [HN.out];exact hlt
   have HA:=HAA.out
   obtain ⟨b,off,rfl,hbl,hc⟩:=setQ_at HC.out i hil
   have hks:=HK.out _ (List.getElem_mem hil)
   obtain ⟨q,hq⟩:∃ q,l[i]=q:=⟨_,rfl⟩
   have HQ:=mkHid hq
   rw [hq] at hc hks
   have hfx:f q=(plainB q.1 && exF q.2):=by rw [<- HF.out];rfl
   have hnm:=fun w1=>rname_any q.1 w1 hks.1.1
   have hex:=fun w1 hp=>rexp_any hks.1.2 hks.2 w1 hp
   obtain ⟨s0,hs0⟩:∃ s0,sV q.1=.string s0:=⟨_,rfl⟩
   have hform:=exX_form q.2
   obtain ⟨tv,htv⟩:∃ tv,exX q.2=tv:=⟨_,rfl⟩
   rw [hs0,htv] at hc
   rw [hs0] at hnm
   rw [htv] at hform hex
   clear hs0 htv hq hks
   have i1:(i:Int) < (n:Int):=by omega
   have i2:(0:Int)<=(i:Int):=by omega
   have C0:=(hb.cell (p:=⟨b,off+i*2+0,none⟩) hbl).trans (hc 0 _ rfl)
   have C1:=(hb.cell (p:=⟨b,off+i*2+1,none⟩) hbl).trans (hc 1 _ rfl)
   rw [Nat.add_zero] at C0
   clear hc
   rcases hform with rfl|⟨tu,ty,rfl⟩
   ·have hal:Below wr.heap.size wr (wr.alloc (.cells #[.string s0,.nilIface] 136)):=(Below.refl _ _).alloc Nat.le.refl _
    have hX:Bn (wr.alloc (.cells #[.string s0,.nilIface] 136)) wr.heap.size [.string s0,.nilIface]:=Bn.new wr [.string s0,.nilIface] 136 _ rfl
    have hbx:=hb.trans (hal.mono hb.size)
    have hcall:∀ w1,Below w.heap.size w w1->Calls Tryz.prog 161 #[.agg #[.string s0,.nilIface]] w1 fun e w'=>e=.returned (.bool (f q))/\Below w1.heap.size w1 w':=fun w1 b1=>by
     rw [hfx]
     exact rset_nil s0 _ _ w1 (fun w2 _=>hnm w2) (fun w2 b2=>hex w2 ((hp.below b1).below b2))
    clear hnm hex hfx
    have hac2:Hid (f q=true->(∀ x∈l.take (i+1),f x=true)):=fun hq=>by
     rw [List.take_succ_eq_append_getElem hil,HQ.out]
     intro x hx
     rcases List.mem_append.1 hx with hx|hx
     ·exact hT.out x hx
     ·rw [List.mem_singleton.1 hx];exact hq
    have hall:Hid (f q=false->l.all f=false):=fun hq=>by
     show l.all f=false
     rw [List.all_eq_false]
     exact ⟨q,by rw [<- HQ.out];exact List.getElem_mem hil,by rw [hq];decide⟩
    cases hfq:f q with
    | true=>
     rw [hfq] at hcall
     have hT2:Hid (∀ x∈l.take (i+1),f x=true):=hac2.out hfq
     clear hac2 hall hfq
     go_upto_region 4 with fail
     clear C0 C1
     generalize (wr.alloc (.cells #[.string s0,.nilIface] 136))=wx at *
     have x0:=(hX 0 _ rfl).1
     have x1:=(hX 1 _ rfl).1
     go_wp2_with (first
      | (go_at_call 161;refine (hcall _ hbx).mono ?_;rintro e w1 ⟨rfl,b1⟩)
      | fail)
     have hb2:=hbx.trans (b1.mono hbx.size)
     go_wp2
     go_roundw
     case rel=>exact ⟨i+1,hlt,by go_num,hT2,hb2⟩
     case measure=>simp [RowKit.intOf];omega
    | false=>
     rw [hfq] at hcall
     have hA:=hall.out hfq
     rw [hA] at HA
     subst HA
     clear hac2 hall hfq hA
     go_upto_region 4 with fail
     clear C0 C1
     generalize (wr.alloc (.cells #[.string s0,.nilIface] 136))=wx at *
     have x0:=(hX 0 _ rfl).1
     have x1:=(hX 1 _ rfl).1
     go_wp2_with (first
      | (go_at_call 161;refine (hcall _ hbx).mono ?_;rintro e w1 ⟨rfl,b1⟩)
      | fail)
     go_ret
     exact ⟨rfl,hbx.trans (b1.mono hbx.size)⟩
   ·have hal:Below wr.heap.size wr (wr.alloc (.cells #[.string s0,.iface tu ty] 136)):=(Below.refl _ _).alloc Nat.le.refl _
    have hX:Bn (wr.alloc (.cells #[.string s0,.iface tu ty] 136)) wr.heap.size [.string s0,.iface tu ty]:=Bn.new wr [.string s0,.iface tu ty] 136 _ rfl
    have hbx:=hb.trans (hal.mono hb.size)
    have hcall:∀ w1,Below w.heap.size w w1->Calls Tryz.prog 161 #[.agg #[.string s0,.iface tu ty]] w1 fun e w'=>e=.returned (.bool (f q))/\Below w1.heap.size w1 w':=fun w1 b1=>by
     rw [hfx]
     exact rset_ifc s0 tu ty _ _ w1 (fun w2 _=>hnm w2) (fun w2 b2=>hex w2 ((hp.below b1).below b2))
    clear hnm hex hfx
    have hac2:Hid (f q=true->(∀ x∈l.take (i+1),f x=true)):=fun hq=>by
     rw [List.take_succ_eq_append_getElem hil,HQ.out]
     intro x hx
     rcases List.mem_append.1 hx with hx|hx
     ·exact hT.out x hx
     ·rw [List.mem_singleton.1 hx];exact hq
    have hall:Hid (f q=false->l.all f=false):=fun hq=>by
     show l.all f=false
     rw [List.all_eq_false]
     exact ⟨q,by rw [<- HQ.out];exact List.getElem_mem hil,by rw [hq];decide⟩
    cases hfq:f q with
    | true=>
     rw [hfq] at hcall
     have hT2:Hid (∀ x∈l.take (i+1),f x=true):=hac2.out hfq
     clear hac2 hall hfq
     go_upto_region 4 with fail
     clear C0 C1
     generalize (wr.alloc (.cells #[.string s0,.iface tu ty] 136))=wx at *
     have x0:=(hX 0 _ rfl).1
     have x1:=(hX 1 _ rfl).1
     go_wp2_with (first
      | (go_at_call 161;refine (hcall _ hbx).mono ?_;rintro e w1 ⟨rfl,b1⟩)
      | fail)
     have hb2:=hbx.trans (b1.mono hbx.size)
     go_wp2
     go_roundw
     case rel=>exact ⟨i+1,hlt,by go_num,hT2,hb2⟩
     case measure=>simp [RowKit.intOf];omega
    | false=>
     rw [hfq] at hcall
     have hA:=hall.out hfq
     rw [hA] at HA
     subst HA
     clear hac2 hall hfq hA
     go_upto_region 4 with fail
     clear C0 C1
     generalize (wr.alloc (.cells #[.string s0,.iface tu ty] 136))=wx at *
     have x0:=(hX 0 _ rfl).1
     have x1:=(hX 1 _ rfl).1
     go_wp2_with (first
      | (go_at_call 161;refine (hcall _ hbx).mono ?_;rintro e w1 ⟨rfl,b1⟩)
      | fail)
     go_ret
     exact ⟨rfl,hbx.trans (b1.mono hbx.size)⟩
  ·have i1:¬ (i:Int) < (n:Int):=by omega
   have hV:V=true:=by
    rw [<- HAA.out,List.all_eq_true]
    have hf:=hT.out
    rw [List.take_of_length_le (by rw [HN.out];omega)] at hf
    exact hf
   subst hV
   go_wp2
   go_ret
   exact ⟨rfl,hb⟩
def alk (k n:Int) (s:ByteArray) (k' n':Int) (s':ByteArray):Bool:=decide (k=k') && decide (n=n') && decide (s=s')
theorem alike_any (k n:Int) (s:ByteArray) (a:Option Addr) (m:Nat) (k' n':Int) (s':ByteArray) (a':Option Addr) (m':Nat) (hk:k≠6) (w:World) :
  Calls Tryz.prog 193 #[.agg #[.int .i64 k,.int .i64 n,.string s,.slice a m m],.agg #[.int .i64 k',.int .i64 n',.string s',.slice a' m' m']] w fun e w'=>e=.returned (.bool (alk k n s k' n' s'))/\Below w.heap.size w w':=by
 have e6:(k == 6)=false:=beq_eq_false_iff_ne.2 hk
 have n6:(k != 6)=true:=by simp [hk]
 have hb:Below w.heap.size w ((w.alloc (.cells #[.int .i64 k,.int .i64 n,.string s,.slice a m m] 244)).alloc (.cells #[.int .i64 k',.int .i64 n',.string s',.slice a' m' m'] 244)):=((Below.refl _ _).alloc Nat.le.refl _).alloc (by simp) _
 unfold alk
 by_cases h1:k=k'
 ·subst h1
  rw [decide_eq_true rfl,Bool.true_and]
  by_cases h2:n=n'
  ·subst h2
   rw [decide_eq_true rfl,Bool.true_and]
   by_cases h3:s=s'
   ·subst h3
    rw [decide_eq_true rfl]
    go_enter Tryz.func193,Tryz.ntmps193
    go_wp2
    go_ret
    exact ⟨rfl,hb⟩
   ·have e3:=bytes_ne h3
    rw [decide_eq_false h3]
    clear h3
    go_enter Tryz.func193,Tryz.ntmps193
    go_wp2
    go_ret
    exact ⟨rfl,hb⟩
  ·have e2:(n == n')=false:=beq_eq_false_iff_ne.2 h2
   rw [decide_eq_false h2,Bool.false_and]
   go_enter Tryz.func193,Tryz.ntmps193
   go_wp2
   go_ret
   exact ⟨rfl,hb⟩
 ·have e1:(k == k')=false:=beq_eq_false_iff_ne.2 h1
  rw [decide_eq_false h1,Bool.false_and,Bool.false_and]
  go_enter Tryz.func193,Tryz.ntmps193
  go_wp2
  go_ret
  exact ⟨rfl,hb⟩
theorem B4.keep' {w w':World}{X:Nat}{a b c e:Value}(hb:Below w.heap.size w w') (h:B4 w X a b c e):B4 w' X a b c e:=h.keep hb
theorem cell_al {w:World}{p:Addr}{v:Value}{O:Obj}(h:w.cell? p=some v):(w.alloc O).cell? p=some v:=(((Below.refl w.heap.size w).alloc Nat.le.refl O).cell (World.block_lt_of_cell? w _ h)).trans h
theorem cell_pt {w:World}{X Y j:Nat}{v a b c e:Value}(h:w.cell? ⟨Y,j,none⟩=some v) (hne:Y≠X):(put4 w X a b c e).cell? ⟨Y,j,none⟩=some v:=cell_far4 (by omega) (cell_far4 (by omega) (cell_far4 (by omega) (cell_far4 (by omega) h)))
theorem sz1 (w:World) (o:Obj):w.heap.size+1=(w.alloc o).heap.size:=by simp
theorem z4_al {w:World}{X:Nat}(h:B4 w X (.int .i64 0) (.int .i64 0) (.string ⟨#[]⟩) (.slice none 0 0)) (O:Obj):(w.alloc O).cell? ⟨X,0,none⟩=some (.int .i64 0)/\(w.alloc O).cell? ⟨X,1,none⟩=some (.int .i64 0)/\(w.alloc O).cell? ⟨X,2,none⟩=some (.string ⟨#[]⟩)/\(w.alloc O).cell? ⟨X,3,none⟩=some (.slice none 0 0)/\
  (w.alloc O).frozen? ⟨X,0,none⟩=false/\(w.alloc O).frozen? ⟨X,1,none⟩=false/\(w.alloc O).frozen? ⟨X,2,none⟩=false/\(w.alloc O).frozen? ⟨X,3,none⟩=false:=by
 have k:=h.keep ((Below.refl _ _).alloc Nat.le.refl O)
 exact ⟨k.c0,k.c1,k.c2,k.c3,k.f0,k.f1,k.f2,k.f3⟩
def samS (x y:Sg):Bool:=samC x.1 y.1 x.2 y.2
def oneB (u v:Value):Prop:=∀ g,u.ownBlock=some g->v.ownBlock=some g->False
abbrev z4 (w:World) (X:Nat):Prop:=B4 w X (.int .i64 0) (.int .i64 0) (.string ⟨#[]⟩) (.slice none 0 0)
theorem cell_dr {w:World}{p:Addr}{v:Value}(h:w.cell? p=some v):w.drew.cell? p=some v:=h
theorem ne_pt {X Y i j:Nat}(h:Y≠X):¬ (X=Y/\i=j):=fun e=>h e.1.symm
abbrev O0:Obj:=.cells #[.int .i64 0,.int .i64 0,.string ⟨#[]⟩,.slice none 0 0] 244
theorem bw0 {w w1:World}(b:Below w.drew.heap.size w.drew w1):Below w.heap.size w w1:=((Below.refl _ w).drew).trans b
theorem bw1 {w w1:World}(b:Below (w.alloc (.cells #[.int .i64 0,.int .i64 0,.string ⟨#[]⟩,.slice none 0 0] 244)).drew.heap.size (w.alloc (.cells #[.int .i64 0,.int .i64 0,.string ⟨#[]⟩,.slice none 0 0] 244)).drew w1):Below w.heap.size w w1:=(((Below.refl _ w).alloc Nat.le.refl _).drew).trans (b.mono (by simp))
theorem bw2 {w w1:World}(b:Below ((w.alloc (.cells #[.int .i64 0,.int .i64 0,.string ⟨#[]⟩,.slice none 0 0] 244)).alloc (.cells #[.int .i64 0,.int .i64 0,.string ⟨#[]⟩,.slice none 0 0] 244)).drew.heap.size ((w.alloc (.cells #[.int .i64 0,.int .i64 0,.string ⟨#[]⟩,.slice none 0 0] 244)).alloc (.cells #[.int .i64 0,.int .i64 0,.string ⟨#[]⟩,.slice none 0 0] 244)).drew w1):Below w.heap.size w w1:=((((Below.refl _ w).alloc Nat.le.refl _).alloc (by simp) _).drew).trans (b.mono (by simp;omega))
theorem bx1 {w w1:World}(b:Below (w.alloc (.cells #[.int .i64 0,.int .i64 0,.string ⟨#[]⟩,.slice none 0 0] 244)).heap.size (w.alloc (.cells #[.int .i64 0,.int .i64 0,.string ⟨#[]⟩,.slice none 0 0] 244)) w1):Below w.heap.size w w1:=((Below.refl _ w).alloc Nat.le.refl _).trans (b.mono (by simp))
theorem bx2 {w w1:World}(b:Below ((w.alloc (.cells #[.int .i64 0,.int .i64 0,.string ⟨#[]⟩,.slice none 0 0] 244)).alloc (.cells #[.int .i64 0,.int .i64 0,.string ⟨#[]⟩,.slice none 0 0] 244)).heap.size ((w.alloc (.cells #[.int .i64 0,.int .i64 0,.string ⟨#[]⟩,.slice none 0 0] 244)).alloc (.cells #[.int .i64 0,.int .i64 0,.string ⟨#[]⟩,.slice none 0 0] 244)) w1):Below w.heap.size w w1:=(((Below.refl _ w).alloc Nat.le.refl _).alloc (by simp) _).trans (b.mono (by simp;omega))
theorem zC1 {w w1:World}(b:Below (w.alloc (.cells #[.int .i64 0,.int .i64 0,.string ⟨#[]⟩,.slice none 0 0] 244)).heap.size (w.alloc (.cells #[.int .i64 0,.int .i64 0,.string ⟨#[]⟩,.slice none 0 0] 244)) w1):z4 w1 w.heap.size:=(B4.new w _ _ _ _ _ _ rfl).keep b
theorem zC2 {w w1:World}(b:Below ((w.alloc (.cells #[.int .i64 0,.int .i64 0,.string ⟨#[]⟩,.slice none 0 0] 244)).alloc (.cells #[.int .i64 0,.int .i64 0,.string ⟨#[]⟩,.slice none 0 0] 244)).heap.size ((w.alloc (.cells #[.int .i64 0,.int .i64 0,.string ⟨#[]⟩,.slice none 0 0] 244)).alloc (.cells #[.int .i64 0,.int .i64 0,.string ⟨#[]⟩,.slice none 0 0] 244)) w1):z4 w1 w.heap.size:=((B4.new w _ _ _ _ 244 _ rfl).keep ((Below.refl _ _).alloc Nat.le.refl _)).keep b
theorem zD2 {w w1:World}(b:Below ((w.alloc (.cells #[.int .i64 0,.int .i64 0,.string ⟨#[]⟩,.slice none 0 0] 244)).alloc (.cells #[.int .i64 0,.int .i64 0,.string ⟨#[]⟩,.slice none 0 0] 244)).heap.size ((w.alloc (.cells #[.int .i64 0,.int .i64 0,.string ⟨#[]⟩,.slice none 0 0] 244)).alloc (.cells #[.int .i64 0,.int .i64 0,.string ⟨#[]⟩,.slice none 0 0] 244)) w1):z4 w1 (w.heap.size+1):=(B4.new (w.alloc (.cells #[.int .i64 0,.int .i64 0,.string ⟨#[]⟩,.slice none 0 0] 244)) _ _ _ _ _ _ (sz1 w _)).keep b
theorem zA1 {w w1:World}(b:Below (w.alloc (.cells #[.int .i64 0,.int .i64 0,.string ⟨#[]⟩,.slice none 0 0] 244)).drew.heap.size (w.alloc (.cells #[.int .i64 0,.int .i64 0,.string ⟨#[]⟩,.slice none 0 0] 244)).drew w1):z4 w1 w.heap.size:=((B4.new w _ _ _ _ _ _ rfl).keep ((Below.refl _ _).drew)).keep b
theorem zA2 {w w1:World}(b:Below ((w.alloc (.cells #[.int .i64 0,.int .i64 0,.string ⟨#[]⟩,.slice none 0 0] 244)).alloc (.cells #[.int .i64 0,.int .i64 0,.string ⟨#[]⟩,.slice none 0 0] 244)).drew.heap.size ((w.alloc (.cells #[.int .i64 0,.int .i64 0,.string ⟨#[]⟩,.slice none 0 0] 244)).alloc (.cells #[.int .i64 0,.int .i64 0,.string ⟨#[]⟩,.slice none 0 0] 244)).drew w1):z4 w1 w.heap.size:=(((B4.new w _ _ _ _ 244 _ rfl).keep ((Below.refl _ _).alloc Nat.le.refl _)).keep ((Below.refl _ _).drew)).keep b
theorem zB2 {w w1:World}(b:Below ((w.alloc (.cells #[.int .i64 0,.int .i64 0,.string ⟨#[]⟩,.slice none 0 0] 244)).alloc (.cells #[.int .i64 0,.int .i64 0,.string ⟨#[]⟩,.slice none 0 0] 244)).drew.heap.size ((w.alloc (.cells #[.int .i64 0,.int .i64 0,.string ⟨#[]⟩,.slice none 0 0] 244)).alloc (.cells #[.int .i64 0,.int .i64 0,.string ⟨#[]⟩,.slice none 0 0] 244)).drew w1):z4 w1 (w.heap.size+1):=((B4.new (w.alloc (.cells #[.int .i64 0,.int .i64 0,.string ⟨#[]⟩,.slice none 0 0] 244)) _ _ _ _ _ _ (sz1 w _)).keep ((Below.refl _ _).drew)).keep b
theorem Kids.put {w:World}{sl:Value}{L:List Value}{X:Nat}{a b c e:Value}(h:Kids w sl L) (hi:∀ v∈L,Ifc v) (hz:z4 w X):Kids (put4 w X a b c e) sl L:=by
 rcases h with h|⟨g,hv,hc⟩
 ·exact .inl h
 ·refine .inr ⟨g,hv,fun i hl=>?_⟩
  have hne:g≠X:=fun e=>by
   subst e
   have h0:=hc 0 (by omega)
   rw [hz.c0] at h0
   have h1:=Option.some.inj h0
   rcases hi _ (List.getElem_mem (by omega:0 < L.length)) with q|⟨u,y,q⟩
   ·rw [q] at h1;cases h1
   ·rw [q] at h1;cases h1
  exact cell_pt (hc i hl) hne
theorem KidsN.put {lo:Nat}{w:World}{sl:Value}{L:List Value}{X:Nat}{a b c e:Value}(h:KidsN lo w sl L) (hi:∀ v∈L,Ifc v) (hz:z4 w X):KidsN lo (put4 w X a b c e) sl L:=⟨h.1.put hi hz,h.2⟩
theorem KidsN.al {lo:Nat}{w:World}{sl:Value}{L:List Value}{O:Obj}(h:KidsN lo w sl L):KidsN lo (w.alloc O) sl L:=⟨h.1.below ((Below.refl _ _).alloc Nat.le.refl O) Nat.le.refl,h.2⟩
theorem B4.at {w:World}{X:Nat}{a b c e:Value}(h:B4 w X a b c e):At4 w X a b c e:=⟨h.c0,h.c1,h.c2,h.c3⟩
def Both (wr wc:World) (X Y:Nat) (a b c sl a' b' c' sl':Value) (L M:List Value):Prop:=
 At4 wc X a b c sl/\At4 wc Y a' b' c' sl'/\KidsN wr.heap.size wc sl L/\KidsN wr.heap.size wc sl' M/\wr.heap.size<=X/\wr.heap.size<=Y/\Below wr.heap.size wr wc
section
variable {wr w2:World}{X Y:Nat}{a b c sl a' b' c' sl':Value}{L M:List Value}
theorem fin_C (bv:Below wr.heap.size wr w2) (hT:(∀ v∈L,Ifc v)/\(∀ v∈M,Ifc v)) (K1:KidsN wr.heap.size w2 sl L) (K2:KidsN wr.heap.size w2 sl' M) (qX:z4 w2 X) (qY:z4 w2 Y) (hne:X≠Y) (hX:wr.heap.size<=X) (hY:wr.heap.size<=Y) :
  Both wr (put4 (put4 w2 X a b c sl) Y a' b' c' sl') X Y a b c sl a' b' c' sl' L M:=by
 have qY':=qY.farPut hne a b c sl
 exact ⟨((qX.put a b c sl).farPut hne.symm a' b' c' sl').at,(qY'.put a' b' c' sl').at,(K1.put hT.1 qX).put hT.1 qY',(K2.put hT.2 qX).put hT.2 qY',hX,hY,below_put (below_put bv hX _ _ _ _) hY _ _ _ _⟩
theorem fin_B (bv:Below wr.heap.size wr w2) (hT:(∀ v∈L,Ifc v)/\(∀ v∈M,Ifc v)) (K1:KidsN wr.heap.size w2 sl L) (K2:KidsN wr.heap.size w2 sl' M) (qX:z4 w2 X) (hX:wr.heap.size<=X) :
  Both wr (put4 (put4 (w2.alloc (.cells #[.int .i64 0,.int .i64 0,.string ⟨#[]⟩,.slice none 0 0] 244)) X a b c sl) w2.heap.size a' b' c' sl') X w2.heap.size a b c sl a' b' c' sl' L M:=
 fin_C (bv.alloc bv.size _) hT K1.al K2.al (qX.keep ((Below.refl _ _).alloc Nat.le.refl _)) (B4.new w2 _ _ _ _ _ _ rfl) (Nat.ne_of_lt qX.lt) hX bv.size
theorem fin_D (bv:Below wr.heap.size wr w2) (hT:(∀ v∈L,Ifc v)/\(∀ v∈M,Ifc v)) (K1:KidsN wr.heap.size w2 sl L) (K2:KidsN wr.heap.size w2 sl' M) (qY:z4 w2 Y) (hY:wr.heap.size<=Y) :
  Both wr (put4 (w2.alloc (.cells #[a,b,c,sl] 244)) Y a' b' c' sl') w2.heap.size Y a b c sl a' b' c' sl' L M:=by
 have q:=qY.keep ((Below.refl w2.heap.size w2).alloc Nat.le.refl (.cells #[a,b,c,sl] 244))
 have h:=B4.new w2 a b c sl 244 w2.heap.size rfl
 exact ⟨(h.farPut (Nat.ne_of_lt qY.lt) a' b' c' sl').at,(q.put a' b' c' sl').at,K1.al.put hT.1 q,K2.al.put hT.2 q,bv.size,hY,below_put (bv.alloc bv.size _) hY _ _ _ _⟩
theorem fin_A (bv:Below wr.heap.size wr w2) (K1:KidsN wr.heap.size w2 sl L) (K2:KidsN wr.heap.size w2 sl' M) :
  Both wr ((w2.alloc (.cells #[a,b,c,sl] 244)).alloc (.cells #[a',b',c',sl'] 244)) w2.heap.size (w2.heap.size+1) a b c sl a' b' c' sl' L M:=by
 have h:=(B4.new w2 a b c sl 244 w2.heap.size rfl).keep ((Below.refl _ _).alloc Nat.le.refl (.cells #[a',b',c',sl'] 244))
 have h':=B4.new (w2.alloc (.cells #[a,b,c,sl] 244)) a' b' c' sl' 244 (w2.heap.size+1) (sz1 w2 _)
 exact ⟨h.at,h'.at,K1.al.al,K2.al.al,bv.size,Nat.le_succ_of_le bv.size,(bv.alloc bv.size _).alloc (by simp;exact Nat.le_succ_of_le bv.size) _⟩
theorem fin_E (bv:Below wr.heap.size wr w2) (K1:KidsN wr.heap.size w2 sl L) (K2:KidsN wr.heap.size w2 sl' M) :
  Both wr ((w2.alloc (.cells #[a',b',c',sl'] 244)).alloc (.cells #[a,b,c,sl] 244)) (w2.heap.size+1) w2.heap.size a b c sl a' b' c' sl' L M:=by
 have h:=(B4.new w2 a' b' c' sl' 244 w2.heap.size rfl).keep ((Below.refl _ _).alloc Nat.le.refl (.cells #[a,b,c,sl] 244))
 have h':=B4.new (w2.alloc (.cells #[a',b',c',sl'] 244)) a b c sl 244 (w2.heap.size+1) (sz1 w2 _)
 exact ⟨h'.at,h.at,K1.al.al,K2.al.al,Nat.le_succ_of_le bv.size,bv.size,(bv.alloc bv.size _).alloc (by simp;exact Nat.le_succ_of_le bv.size) _⟩
end
theorem allz_app {α β:Type}(f:α->β->Bool):∀ (x:List α) (y:List β) (a:List α) (b:List β),x.length=y.length->allz f (x++a) (y++b)=(allz f x y && allz f a b)
 | [],[],a,b,_=>by simp [allz]
 | [],_ :: _,_,_,h=>by simp at h
 | _ :: _,[],_,_,h=>by simp at h
 | p :: x,q :: y,a,b,h=>by
  show (f p q && allz f (x++a) (y++b))=(f p q && allz f x y && allz f a b)
  rw [allz_app f x y a b (by simpa using h),Bool.and_assoc]
theorem allz_kid {d e:Nat}:∀ (ps:List (T d)) (qs:List (T e)),allz samS (kidS ps) (kidS qs)=allz (samC d e) ps qs
 | [],_=>by simp [kidS,allz]
 | _ :: _,[]=>by simp [kidS,allz]
 | p :: r,q :: t=>by
  show (samC d e p q && allz samS (kidS r) (kidS t))=_
  rw [allz_kid r t];rfl
theorem cl_n {d:Nat}{k n:Int}{s:ByteArray}{ps:List (T d)}(h:Cl (d+1) (mkT k n s ps)):k≠6/\ps.length=if k=3∨k=4 then 1 else if k=5 then 2 else 0:=by
 rcases h with ⟨h1,_,h3⟩|⟨h1,_,h3⟩|⟨h1,_,_,p,h4,_⟩|⟨h1,_,p,q,h3,_⟩|⟨h1,_,_,h4⟩
 ·simp only at h1 h3;subst h1 h3;simp
 ·simp only at h1 h3;subst h1 h3;simp
 ·simp only at h1 h4;subst h4;rcases h1 with rfl|rfl<;>simp
 ·simp only at h1 h3;subst h1 h3;simp
 ·simp only at h1 h4;subst h1 h4;simp
theorem sam_no {d e:Nat}{k n k' n':Int}{s s':ByteArray}{ps:List (T d)}{qs:List (T e)}(h:alk k n s k' n' s'=false):samS ⟨d+1,mkT k n s ps⟩ ⟨e+1,mkT k' n' s' qs⟩=false:=by
 show samC (d+1) (e+1) (mkT k n s ps) (mkT k' n' s' qs)=false
 rw [samC_mk]
 unfold alk at h
 rw [h];simp
theorem sam_yes {d e:Nat}{k n k' n':Int}{s s':ByteArray}{ps:List (T d)}{qs:List (T e)}(h:alk k n s k' n' s'=true) (hc:Cl (d+1) (mkT k n s ps)) (hc':Cl (e+1) (mkT k' n' s' qs)) :
  ps.length=qs.length/\samS ⟨d+1,mkT k n s ps⟩ ⟨e+1,mkT k' n' s' qs⟩=allz (samC d e) ps qs:=by
 have hk:k=k':=by unfold alk at h;simp only [Bool.and_eq_true,decide_eq_true_eq] at h;exact h.1.1
 have hl:ps.length=qs.length:=by rw [(cl_n hc).2,(cl_n hc').2,hk]
 refine ⟨hl,?_⟩
 show samC (d+1) (e+1) (mkT k n s ps) (mkT k' n' s' qs)=_
 rw [samC_mk]
 unfold alk at h
 rw [h,decide_eq_true hl];simp
theorem KidsN.gr {lo g:Nat}{w w':World}{sl:Value}{L:List Value}(h:KidsN lo w sl L) (hg:w.grownBy w' (some g)) (hl:g < lo):KidsN lo w' sl L:=by
 refine ⟨?_,h.2⟩
 rcases h.1 with q|⟨b,hv,hc⟩
 ·exact .inl q
 ·refine .inr ⟨b,hv,fun i hi=>hg.cell (hc i hi) (fun e=>?_)⟩
  have:=h.2 b (by rw [hv];rfl)
  have e2:b=g:=by simpa using e
  omega
theorem KidsN.dr {lo:Nat}{w:World}{sl:Value}{L:List Value}(h:KidsN lo w sl L):KidsN lo w.drew sl L:=⟨h.1.below ((Below.refl _ _).drew) Nat.le.refl,h.2⟩
def Start (w:World) (x y:Value) (V:Bool):Prop:=∃ S S',Stk ((w.alloc (.cells #[x] 130)).alloc (.cells #[y] 130)) w.heap.size (.slice (some ⟨w.heap.size,0,none⟩) 1 1) S/\Stk ((w.alloc (.cells #[x] 130)).alloc (.cells #[y] 130)) w.heap.size (.slice (some ⟨w.heap.size+1,0,none⟩) 1 1) S'/\
 S.length=S'.length/\(∀ y∈S,ClS y)/\(∀ y∈S',ClS y)/\allz samS S S'=V/\(S.map cntS).sum<=2000/\(S'.map cntS).sum<=2000
