import Derived.Test.YtfjdceknbdmhpaaGreatDoorWvc10
import Derived.Test.YtfjdceknbdmhpaaGreatDoorWvc27
/- A row with a zero element at its end, in whose place another is put. -/
namespace Go.Proofs.YtfjdceknbdmhpaaGreatDoor
open Go.RowKit Go.Lib
set_option linter.unusedSimpArgs false
set_option linter.unusedVariables false
theorem setCell_far (w:World) {p q:Addr} (h:p.block≠q.block) (u v:Value):(w.setCell p u).setCell q v=(w.setCell q v).setCell p u:=by
 unfold World.setCell
 simp only [World.mk.injEq,and_true,true_and]
 apply Array.ext_getElem?
 intro k
 simp only [Array.getElem?_modify]
 by_cases h1:q.block=k
 ·by_cases h2:p.block=k
  ·exact absurd (h2.trans h1.symm) h
  ·simp [h1,h2]
 ·by_cases h2:p.block=k
  ·simp [h1,h2]
  ·simp [h1,h2]
theorem putL_far (g S i:Nat) (v:Value) (h:S≠g):∀ (cs:List Value) (w:World) (o:Nat),putL (w.setCell ⟨S,i,none⟩ v) g o cs=(putL w g o cs).setCell ⟨S,i,none⟩ v
 | [],w,o=>rfl
 | c :: cs,w,o=>by
  unfold putL
  rw [setCell_far w (p:=⟨S,i,none⟩) (q:=⟨g,o,none⟩) h]
  exact putL_far g S i v h cs _ _
/-- The row v', of l and a zero element. -/
def ZR {α:Type} (w:World) (base:Nat) (bad:Nat→Prop) (e k:Nat) (R:(Nat→Prop)→World→α→List Value→Prop) (zs:List Value) (g cap:Nat) (l:List α):Prop:=
 base≤g∧g < w.heap.size∧¬ bad g∧∃ qs:List (List Value),w.ownsRow base e k (.slice (some ⟨g,0,none⟩) (l.length+1) cap) (l.length+1) (qs.flatten++zs)∧qs.length=l.length∧∀ (i:Nat) (h:i < l.length) (h':i < qs.length),(qs[i]).length=k∧R (fun b=>base≤b∧g≠b∧¬ bad b) w l[i] qs[i]
theorem ZR.keep {α:Type} {w w':World} {base e k g cap:Nat} {bad:Nat→Prop} {R:(Nat→Prop)→World→α→List Value→Prop} {zs:List Value} {l:List α} (hR:Kp R) (h:ZR w base bad e k R zs g cap l) (hs:w.heap.size≤w'.heap.size) (hk:∀ b,base≤b→¬ bad b→b < w.heap.size→w'.heap[b]?=w.heap[b]?):ZR w' base bad e k R zs g cap l:=by
 obtain ⟨h1,h2,h3,qs,ho,hl,hr⟩:=h
 refine ⟨h1,by omega,h3,qs,ownsRow_keep ho (fun g' hg=>?_),hl,fun i h h'=>⟨(hr i h h').1,hR (hr i h h').2 (fun b hb hlt=>⟨hb,hk b hb.1 hb.2.2 hlt⟩)⟩⟩
 simp only [Value.ownBlock,Option.some.injEq] at hg
 subst hg
 exact hk g h1 h3 h2
theorem ZR.on {α:Type} {w w':World} {base e k g cap:Nat} {bad:Nat→Prop} {R:(Nat→Prop)→World→α→List Value→Prop} {zs:List Value} {l:List α} (hR:Kp R) (h:ZR w base bad e k R zs g cap l) (hb:Below w.heap.size w w'):ZR w' base bad e k R zs g cap l:=h.keep hR hb.size (fun b _ _ hlt=>hb.block b hlt)
theorem ZR.fx {α:Type} {w w':World} {base e k g cap X:Nat} {bad:Nat→Prop} {R:(Nat→Prop)→World→α→List Value→Prop} {zs:List Value} {l:List α} (hR:Kp R) (h:ZR w base bad e k R zs g cap l) (hf:Fx X w w') (hX:X < base):ZR w' base bad e k R zs g cap l:=
 h.keep hR hf.size (fun b hb _ hlt=>hf.block b hlt (fun e=>by have:b=X:=Option.some.inj e;omega))
theorem flat_len {k:Nat}:∀ (qs:List (List Value)),(∀ (i:Nat) (h:i < qs.length),(qs[i]).length=k)→qs.flatten.length=qs.length*k
 | [],_=>by simp
 | x :: t,h=>by
  have hx:x.length=k:=h 0 (by simp)
  rw [List.flatten_cons,List.length_append,flat_len t (fun i hi=>h (i+1) (by simpa using hi)),List.length_cons,Nat.succ_mul]
  omega
theorem ZR.cells {α:Type} {w:World} {base e k g cap:Nat} {bad:Nat→Prop} {R:(Nat→Prop)→World→α→List Value→Prop} {zs:List Value} {l:List α} (h:ZR w base bad e k R zs g cap l):∀ j z,zs[j]?=some z→w.cell? ⟨g,l.length*k+j,none⟩=some z∧w.frozen? ⟨g,l.length*k+j,none⟩=false:=by
 obtain ⟨h1,h2,h3,qs,ho,hl,hr⟩:=h
 intro j z hz
 have hfl:qs.flatten.length=l.length*k:=by rw [flat_len qs (fun i hi=>(hr i (by omega) hi).1),hl]
 have hc:=World.ownsRow.cells ho (g:=g) rfl (l.length*k+j) z (by rw [List.getElem?_append_right (by omega),hfl,Nat.add_sub_cancel_left];exact hz)
 rw [add_plain,Nat.zero_add] at hc
 exact ⟨hc,World.ownsRow.frozenAt ho _⟩
/-- The zero element is there. -/
theorem ZR.of {α:Type} {w w':World} {base e k:Nat} {bad:Nat→Prop} {R:(Nat→Prop)→World→α→List Value→Prop} {v v':Value} {zs:List Value} {l:List α} {qs:List (List Value)} (hR:Kp R)
  (ho:w.ownsRow base e k v l.length qs.flatten) (hl:qs.length=l.length) (hr:∀ (i:Nat) (h:i < l.length) (h':i < qs.length),(qs[i]).length=k∧R (fun b=>base≤b∧v.ownBlock≠some b∧¬ bad b) w l[i] qs[i]) (hgb:∀ g,v.ownBlock=some g→¬ bad g)
  (ho':w'.ownsRow base e k v' (l.length+1) (qs.flatten++zs)) (hg:w.grownBy w' v.ownBlock) (hat:v'.ownBlock=v.ownBlock∨v'.ownBlock=some w.heap.size) (hbad:∀ b,bad b→b < w.heap.size):∃ g cap,v'=.slice (some ⟨g,0,none⟩) (l.length+1) cap∧l.length+1≤cap∧cap≤maxLen∧(v.ownBlock=some g∨g=w.heap.size)∧ZR w' base bad e k R zs g cap l:=by
 rcases ho'.2 with ⟨_,h2⟩ | ⟨g,cap,cur,rfl,hb,hgg,hnc,hcm,_⟩
 ·omega
 ·have hgl:g < w'.heap.size:=(Array.getElem?_eq_some_iff.1 hgg).1
  have hat':v.ownBlock=some g∨g=w.heap.size:=by
   simp only [Value.ownBlock] at hat
   rcases hat with h | h
   ·exact .inl h.symm
   ·exact .inr (Option.some.inj h)
  have hng:¬ bad g:=by
   rcases hat' with h | h
   ·exact hgb g h
   ·intro q;have:=hbad g q;omega
  refine ⟨g,cap,rfl,hnc,hcm,hat',hb,hgl,hng,qs,ho',hl,fun i h h'=>⟨(hr i h h').1,hR (hr i h h').2 (fun b hb hlt=>⟨⟨hb.1,fun e=>?_,hb.2.2⟩,hg.block b hlt (fun e=>hb.2.1 e.symm)⟩)⟩⟩
  subst e
  rcases hat' with h | h
  ·exact hb.2.1 h
  ·omega
/-- The element put in. -/
theorem ZR.put {α:Type} {w:World} {base e k g cap:Nat} {bad:Nat→Prop} {R:(Nat→Prop)→World→α→List Value→Prop} {zs:List Value} {l:List α} {p:α} {cs:List Value} (hR:Kp R) (h:ZR w base bad e k R zs g cap l) (hk:cs.length=k) (hz:zs.length=k) (hp:R (fun b=>base≤b∧g≠b∧¬ bad b) w p cs):OwnB (putL w g (l.length*k) cs) base bad e k R (.slice (some ⟨g,0,none⟩) (l.length+1) cap) (l++[p]):=by
 obtain ⟨h1,h2,h3,qs,ho,hl,hr⟩:=h
 have hfl:qs.flatten.length=l.length*k:=by rw [flat_len qs (fun i hi=>(hr i (by omega) hi).1),hl]
 have ho2:=putL_own cs zs qs.flatten [] w base e k g (l.length+1) cap (l.length*k) (by omega) hfl (by simpa using ho)
 rw [List.append_nil] at ho2
 have key:∀ b,base≤b∧g≠b∧¬ bad b→b < w.heap.size→(base≤b∧(Value.slice (some ⟨g,0,none⟩) (l.length+1) cap).ownBlock≠some b∧¬ bad b)∧(putL w g (l.length*k) cs).heap[b]?=w.heap[b]?:=fun b hb hlt=>
  ⟨⟨hb.1,fun e=>hb.2.1 (Option.some.inj e),hb.2.2⟩,putL_heap cs w g _ b (fun e=>hb.2.1 e.symm)⟩
 refine ⟨qs++[cs],?_,by simp [hl],fun i h h'=>?_,fun g' hg'=>?_⟩
 ·rw [List.flatten_append,List.length_append]
  simpa using ho2
 ·rcases Nat.lt_or_ge i l.length with hi | hi
  ·rw [List.getElem_append_left hi,List.getElem_append_left (by omega)]
   exact ⟨(hr i hi (by omega)).1,hR (hr i hi (by omega)).2 key⟩
  ·have:i=l.length:=by simp at h;omega
   subst this
   have e1:(l++[p])[l.length]=p:=by simp
   have e2:(qs++[cs])[l.length]'h'=cs:=by simp [← hl]
   rw [e1,e2]
   exact ⟨hk,hR hp key⟩
 ·simp only [Value.ownBlock,Option.some.injEq] at hg'
  subst hg'
  exact h3
/-- The zero element appended, as a step of a region. -/
theorem step_zero {α:Type} {P:Program} (wa W:World) (hW:Below wa.heap.size wa W) {ops:Array Oper} {o:Oper} {a:Act} {K:Act→World→Prop} {Q:Exit→Act→World→Prop} {E:Prop} (hgd:o.guard=none) (s x:Operand) (t:TypeId)
  (ho:o.op=.call { callee:=.builtin .append,args:=#[s,x],argTypes:=#[t,t] })
  (base:Nat) (bad:Nat→Prop) (e:TypeId) (i:TypeInfo) (z:Value) (k bytes:Nat) (ht:P.underlying t=some (.slice e)) (hi:P.info? e=some i) (hz:i.zero=some z)
  (hsize:i.size=k) (hby:i.bytes=bytes) (hzs:z.cells.size=k) {R:(Nat→Prop)→World→α→List Value→Prop} (hR:Kp R)
  (v:Value) (l:List α) (p:α) (cs zs:List Value) (xv:Value) (lo:Nat) (hs:a.eval s=v) (hx:a.eval x=xv) (hsrc:Src P k t xv 1 zs W)
  (hown:OwnB wa base bad e k R v l) (hp:R (fun b=>lo≤b) wa p cs) (hlo:base≤lo) (hv:∀ x,v.ownBlock=some x→x < lo) (hbad:∀ b,bad b→b < lo∧b < wa.heap.size) (hroom:(l.length+1+(l.length+1) / 4+192)*bytes≤281474976710656)
  (h63:l.length+1≤maxLen) (hbase:base≤wa.heap.size)
  (h:∀ g cap w',l.length+1≤cap→cap≤maxLen→ZR w' base bad e k R zs g cap l→R (fun b=>base≤b∧g≠b∧¬ bad b) w' p cs→W.grownBy w' v.ownBlock→Below base wa w'→((Value.slice (some ⟨g,0,none⟩) (l.length+1) cap).ownBlock=v.ownBlock∨(Value.slice (some ⟨g,0,none⟩) (l.length+1) cap).ownBlock=some W.heap.size)→K (a.put o.dst (.slice (some ⟨g,0,none⟩) (l.length+1) cap)) w') :
  if Region.wanted o (yielded ops a.tmps)=true then Oper.wp P o a W K Q else E:=by
 obtain ⟨qs,ho1,hl1,hr1,hg1⟩:=hown.on hR hW
 refine step_append_at _ hgd s x t t ho base e i z k bytes ht hi hz hsize hby hzs v l.length qs.flatten hs ho1 _ 1 zs hx hsrc 1 (.inr hroom) (Nat.le_refl _) h63 (Nat.le_trans hbase hW.size) ?_
 intro v' w' hown' hg hat
 obtain ⟨g,cap,rfl,h1,h2,h3,h4⟩:=ZR.of hR ho1 hl1 hr1 hg1 hown' hg hat (fun b q=>Nat.lt_of_lt_of_le (hbad b q).2 hW.size)
 refine h g cap w' h1 h2 h4 (hR hp (fun b hb hlt=>⟨⟨by omega,fun e=>?_,fun q=>?_⟩,?_⟩)) hg ?_ hat
 ·subst e
  rcases h3 with q | q
  ·have:=hv g q;omega
  ·have:=hW.size;omega
 ·have:=(hbad b q).1;omega
 ·rw [hg.block b (Nat.lt_of_lt_of_le hlt hW.size) (fun e=>by have:=hv b e.symm;omega)]
  exact hW.block b hlt
 ·exact (hW.mono hbase).grown hg (Nat.le_trans hbase hW.size) (fun k hk=>(World.ownsRow.lt ho1 k hk).1)
end Go.Proofs.YtfjdceknbdmhpaaGreatDoor
/- What the program's state does. -/
namespace Go.Proofs.YtfjdceknbdmhpaaGreatDoor
open Go.RowKit Go.Lib
set_option linter.unusedSimpArgs false
set_option linter.unusedVariables false
attribute [local go_sem ↓] Go.wp_at_zero Go.wp_at_succ
abbrev zT11:Obj:=.cells #[.string ⟨#[]⟩,.int .i64 0,.int .i64 0,.bool false,.bool false,.string ⟨#[]⟩,.string ⟨#[]⟩,.int .i64 0,.int .i64 0,.slice none 0 0,.slice none 0 0] 55
abbrev zTl:List Value:=[.string ⟨#[]⟩,.int .i64 0,.int .i64 0,.bool false,.bool false,.string ⟨#[]⟩,.string ⟨#[]⟩,.int .i64 0,.int .i64 0,.slice none 0 0,.slice none 0 0]
def erq (w:World) (X:Nat):Nat:=match w.cell? ⟨X,2,none⟩ with | some (.int _ n)=>(if n=0 then 1 else 0) | _=>0
theorem Pr.erq {w:World} {X:Nat} {a:Option Addr} {cap:Nat} {ws:List Wd} {fin:Pl} {r:RsC} (h:Pr w X a cap ws fin r):erq w X=if r.2.2=0 then 1 else 0:=by
 obtain ⟨n,h1,_⟩:=h
 unfold Go.Proofs.YtfjdceknbdmhpaaGreatDoor.erq
 rw [h1.c2]
theorem state_res {w4:World} {R:Nat} {a b c d e f g h i j k:Value} {tmps:Array Value} (hR:Bn w4 R [a,b,c,d,e,f,g,h,i,j,k]) (ht:tmps.getD 4 undef=.pointer (some ⟨R,0,none⟩)):(results Tryz.f105 tmps).run Tryz.prog w4=.ok (.agg #[a,b,c,d,e,f,g,h,i,j,k]) w4:=by
 have ht':tmps[4]?.getD undef=.pointer (some ⟨R,0,none⟩):=by simpa using ht
 have c0:=(hR 0 _ rfl).1
 have c1:=(hR 1 _ rfl).1
 have c2:=(hR 2 _ rfl).1
 have c3:=(hR 3 _ rfl).1
 have c4:=(hR 4 _ rfl).1
 have c5:=(hR 5 _ rfl).1
 have c6:=(hR 6 _ rfl).1
 have c7:=(hR 7 _ rfl).1
 have c8:=(hR 8 _ rfl).1
 have c9:=(hR 9 _ rfl).1
 have c10:=(hR 10 _ rfl).1
 simp [results,Tryz.results105,go_sem,ht',c0,c1,c2,c3,c4,c5,c6,c7,c8,c9,c10]
/-- What is told of a state that lies k below the deepest. -/
def StC (k:Nat):Prop:=∀ (w:World) (X:Nat) (a:Option Addr) (cap:Nat) (ws:List Wd) (fin:Pl) (r:RsC) (dp:Int),dp+(k:Int)=7→Pr w X a cap ws fin r→Wk ws cap→Ey w X→
 Calls Tryz.prog 105 #[.pointer (some ⟨X,0,none⟩),.int .i64 dp] w fun e w'=>(∃ cs,e=.returned (.agg cs.toArray)∧rSt (k+1) (fun b=>w.heap.size≤b) w' (stP fin k r).1 cs)∧Pr w' X a cap ws fin (stP fin k r).2∧Fx X w w'
theorem Fy.bel {X Y B:Nat} {a b:World} (h:Fy X Y a b) (hX:B≤X) (hY:B≤Y) (hB:B≤a.heap.size):Below B a b:=⟨h.os,h.tape,h.output,h.size,fun k hk=>h.block k (by omega) (by omega) (by omega)⟩
set_option maxRecDepth 100000 in
set_option maxHeartbeats 8000000 in
theorem state_zero:StC 0:=by
 intro w X a cap ws fin r dp hdp h hk hE
 have hdp7:dp=7:=by simpa using hdp
 subst hdp7
 have hX:=h.lt
 have hp0:=h.on ((Below.refl w.heap.size w).alloc (Nat.le_refl _) zT11)
 have hE0:=hE.on ((Below.refl w.heap.size w).alloc (Nat.le_refl _) zT11)
 have hA0:Bn (w.alloc zT11) w.heap.size zTl:=Bn.new w zTl 55 _ rfl
 have hF0:Fx X w (w.alloc zT11):=Fx.of ((Below.refl w.heap.size w).alloc (Nat.le_refl _) zT11) (Nat.le_refl _)
 have hs0:w.heap.size+1≤(w.alloc zT11).heap.size:=by simp
 obtain ⟨r0,hr0⟩:∃ r0,failC 13 (hereR fin r) r=r0:=⟨_,rfl⟩
 have hbad:r0.2.2≠0:=by rw [← hr0];exact failC_bad (by decide) _ _
 have hres:stP fin 0 r=((zHd,[]),r0):=by rw [← hr0];rfl
 rw [hres]
 obtain ⟨n,h1,h2,h3,h4⟩:=id hp0
 have hFl:=(pfail_any h1 13).mono (R':=fun x w'=>(∃ u,x=.returned u)∧Pr w' X a cap ws fin r0∧Fx X (w.alloc zT11) w') (fun e w' hh=>⟨hh.1,by rw [← hr0];exact Pr.bad hh.2.1 h2 h3 h4,hh.2.2⟩)
 have e1:(⟨wState.toArray⟩:ByteArray)=⟨#[115,116,97,116,101]⟩:=rfl
 have e2:(⟨wOn.toArray⟩:ByteArray)=⟨#[111,110]⟩:=rfl
 have hM:=fun w1 t (hp:Pr w1 X a cap ws fin r0)=>must_any hp hk t
 simp only [take_err hbad] at hM
 have hM1:=fun w1 hp=>hM w1 wState hp
 rw [e1] at hM1
 have hM2:=fun w1 hp=>hM w1 [123] hp
 have hM3:=fun w1 hp=>hM w1 [125] hp
 have hN:=fun w1 (hp:Pr w1 X a cap ws fin r0)=>pname_any hp hk
 simp only [name_err hbad] at hN
 have hK:=fun w1 Y (hp:Pr w1 X a cap ws fin r0) (he:Ey w1 X) (hXY:X < Y) (hB:Bn w1 Y (stV (.string ⟨#[]⟩) (.int .i64 0) (.int .i64 0) zK (.slice none 0 0) (.slice none 0 0)))=>kind_any hp hk he hXY hB
 simp only [kind_err hbad] at hK
 have hQ:=fun w1 (hp:Pr w1 X a cap ws fin r0)=>skips_any hp hk wOn
 rw [e2] at hQ
 simp only [is_err hbad,skR_no (is_err hbad wOn)] at hQ
 have hSe:=fun w1 (hp:Pr w1 X a cap ws fin r0)=>sees_any hp hk wState
 rw [e1] at hSe
 simp only [is_err hbad] at hSe
 clear hr0 hres h1 h2 h3 h4 hM h hE hbad
 unfold sV at hN
 go_enter Tryz.func105,Tryz.ntmps105
 go_upto_region 2 with fail
 generalize w.alloc zT11=w0 at *
 go_upto_region 3 with (first
  | (go_at_call 106;refine hFl.mono ?_;rintro e w1 ⟨⟨u,rfl⟩,hp1,hf1⟩))
 have hal:=(Below.refl w1.heap.size w1).alloc (Nat.le_refl _) zT11
 have hA2:=(hA0.fx hf1 (by omega)).on hal
 have hB2:Bn (w1.alloc zT11) w1.heap.size zTl:=Bn.new w1 zTl 55 _ rfl
 have hp2:=hp1.on hal
 have hE2:=(hE0.fx hf1).on hal
 have hF2:=(hF0.trans hf1).alloc zT11
 have hs2:w.heap.size+1≤w1.heap.size:=Nat.le_trans hs0 hf1.size
 obtain ⟨S,hS⟩:∃ S,w1.heap.size=S:=⟨_,rfl⟩
 go_upto_region 4 with fail
 rw [hS] at hB2 hs2
 generalize w1.alloc zT11=w2 at *
 clear hA0 hp0 hE0 hF0 hs0 hp1 hf1 hal hFl hS
 go_upto_region 5 with (first
  | (go_at_call 99;refine (hM1 _ hp2).mono ?_;rintro e w3 ⟨⟨u,rfl⟩,hp3,hf3⟩))
 have hA3:=hA2.fx hf3 (by omega)
 have hB3:=hB2.fx hf3 (by omega)
 have hE3:=hE2.fx hf3
 have hF3:=hF2.trans hf3
 clear hA2 hB2 hp2 hE2 hF2 hf3
 go_upto_region 6 with (first
  | (go_at_call 100;refine (hN _ hp3).mono ?_;rintro e w4 ⟨rfl,hp4,hf4⟩;have hA4:=hA3.fx hf4 (by omega);have hB4:=hB3.fx hf4 (by omega);obtain ⟨b0,g0⟩:=hB4 0 _ rfl;obtain ⟨b1,g1⟩:=hB4 1 _ rfl;obtain ⟨b2,g2⟩:=hB4 2 _ rfl))
 have hA5:=((hA4.far (X:=S) (i:=0) (by omega) (.string ⟨#[]⟩)).far (X:=S) (i:=1) (by omega) (.int .i64 0)).far (X:=S) (i:=2) (by omega) (.int .i64 0)
 have hB5:Bn _ S zTl:=((hB4.set (i:=0) (by simp) (.string ⟨#[]⟩)).set (i:=1) (by simp) (.int .i64 0)).set (i:=2) (by simp) (.int .i64 0)
 have hp5:=((hp4.far (Y:=S) (i:=0) (by omega) (.string ⟨#[]⟩)).far (Y:=S) (i:=1) (by omega) (.int .i64 0)).far (Y:=S) (i:=2) (by omega) (.int .i64 0)
 have hE5:=(((hE3.fx hf4).far (Y:=S) (i:=0) (by omega) (.string ⟨#[]⟩)).far (Y:=S) (i:=1) (by omega) (.int .i64 0)).far (Y:=S) (i:=2) (by omega) (.int .i64 0)
 have hF5:=(((hF3.trans hf4).setN (N:=S) (i:=0) (by omega) (.string ⟨#[]⟩)).setN (N:=S) (i:=1) (by omega) (.int .i64 0)).setN (N:=S) (i:=2) (by omega) (.int .i64 0)
 clear hA3 hB3 hp3 hE3 hF3 hA4 hB4 hp4 hf4 b0 g0 b1 g1 b2 g2
 generalize ((w4.setCell ⟨S,0,none⟩ (.string ⟨#[]⟩)).setCell ⟨S,1,none⟩ (.int .i64 0)).setCell ⟨S,2,none⟩ (.int .i64 0)=w5 at *
 go_upto_region 7 with (first
  | (go_at_call 99;refine (hM2 _ hp5).mono ?_;rintro e w6 ⟨⟨u,rfl⟩,hp6,hf6⟩))
 have hA6:=hA5.fx hf6 (by omega)
 have hB6:=hB5.fx hf6 (by omega)
 have hE6:=hE5.fx hf6
 have hF6:=hF5.trans hf6
 have hK6:=hK w6 S hp6 hE6 (by omega) hB6
 clear hA5 hB5 hp5 hE5 hF5 hf6 hK
 go_wp2_with (first
  | (go_at_call 166;refine hK6.mono ?_;rintro e w7 ⟨⟨u,rfl⟩,hp7,hB7,hf7⟩))
 have hA7:=hA6.fy hf7 (by omega) (by omega)
 have hF7:=hF6.andY hf7 (by omega)
 clear hA6 hB6 hp6 hE6 hF6 hf7 hK6
 go_loopw [] (fun wr=>Pr wr X a cap ws fin r0∧Bn wr S (stV (.string ⟨#[]⟩) (.int .i64 0) (.int .i64 0) zK (.slice none 0 0) (.slice none 0 0))∧Bn wr w.heap.size zTl∧Fx X w wr) (fun wr=>0)
 case atStart=>exact ⟨hp7,hB7,hA7,hF7⟩
 case round=>
  clear hp7 hB7 hA7 hF7
  obtain ⟨hp,hB,hA,hF⟩:=hrel
  have hXS:X < S:=by omega
  go_upto_region 12 with (first
   | (go_at_call 102;refine (hQ _ hp).mono ?_;rintro e w8 ⟨rfl,hp8,hf8⟩))
  go_upto_region 8 with (first
   | (go_at_call 104;refine (hSe _ hp8).mono ?_;rintro e w9 ⟨rfl,m9,rfl⟩))
  have hp9:=hp8.on (draws w8 m9)
  have hf9:=hf8.drewN m9
  have hB9:Bn (w8.drewN m9) S zTl:=Bn.fx (c:=.string ⟨#[]⟩) hB hf9 (by omega)
  have hA9:=hA.fx hf9 (by omega)
  have hF9:=hF.trans hf9
  clear hp8 hf8 hB hA hF hf9 hp
  generalize w8.drewN m9=w9 at *
  go_upto_region 9 with (first
   | (go_at_call 99;refine (hM3 _ hp9).mono ?_;rintro e wa ⟨⟨u,rfl⟩,hpa,hfa⟩))
  have hBa:=hB9.fx hfa (by omega)
  have hAa:=hA9.fx hfa (by omega)
  have hFa:=hF9.trans hfa
  clear hp9 hB9 hA9 hF9 hfa
  obtain ⟨b0,g0⟩:=hBa 0 _ rfl
  obtain ⟨b1,g1⟩:=hBa 1 _ rfl
  obtain ⟨b2,g2⟩:=hBa 2 _ rfl
  obtain ⟨b3,g3⟩:=hBa 3 _ rfl
  obtain ⟨b4,g4⟩:=hBa 4 _ rfl
  obtain ⟨b5,g5⟩:=hBa 5 _ rfl
  obtain ⟨b6,g6⟩:=hBa 6 _ rfl
  obtain ⟨b7,g7⟩:=hBa 7 _ rfl
  obtain ⟨b8,g8⟩:=hBa 8 _ rfl
  obtain ⟨b9,g9⟩:=hBa 9 _ rfl
  obtain ⟨b10,g10⟩:=hBa 10 _ rfl
  obtain ⟨a0,k0⟩:=hAa 0 _ rfl
  obtain ⟨a1,k1⟩:=hAa 1 _ rfl
  obtain ⟨a2,k2⟩:=hAa 2 _ rfl
  obtain ⟨a3,k3⟩:=hAa 3 _ rfl
  obtain ⟨a4,k4⟩:=hAa 4 _ rfl
  obtain ⟨a5,k5⟩:=hAa 5 _ rfl
  obtain ⟨a6,k6⟩:=hAa 6 _ rfl
  obtain ⟨a7,k7⟩:=hAa 7 _ rfl
  obtain ⟨a8,k8⟩:=hAa 8 _ rfl
  obtain ⟨a9,k9⟩:=hAa 9 _ rfl
  obtain ⟨a10,k10⟩:=hAa 10 _ rfl
  have hAz:=(((((((((((hAa.set (i:=0) (by simp) (.string ⟨#[]⟩)).set (i:=1) (by simp) (.int .i64 0)).set (i:=2) (by simp) (.int .i64 0)).set (i:=3) (by simp) (.bool false)).set (i:=4) (by simp) (.bool false)).set (i:=5) (by simp) (.string ⟨#[]⟩)).set (i:=6) (by simp) (.string ⟨#[]⟩)).set (i:=7) (by simp) (.int .i64 0)).set (i:=8) (by simp) (.int .i64 0)).set (i:=9) (by simp) (.slice none 0 0)).set (i:=10) (by simp) (.slice none 0 0))
  have hpz:=(((((((((((hpa.far (Y:=w.heap.size) (i:=0) (by omega) (.string ⟨#[]⟩)).far (Y:=w.heap.size) (i:=1) (by omega) (.int .i64 0)).far (Y:=w.heap.size) (i:=2) (by omega) (.int .i64 0)).far (Y:=w.heap.size) (i:=3) (by omega) (.bool false)).far (Y:=w.heap.size) (i:=4) (by omega) (.bool false)).far (Y:=w.heap.size) (i:=5) (by omega) (.string ⟨#[]⟩)).far (Y:=w.heap.size) (i:=6) (by omega) (.string ⟨#[]⟩)).far (Y:=w.heap.size) (i:=7) (by omega) (.int .i64 0)).far (Y:=w.heap.size) (i:=8) (by omega) (.int .i64 0)).far (Y:=w.heap.size) (i:=9) (by omega) (.slice none 0 0)).far (Y:=w.heap.size) (i:=10) (by omega) (.slice none 0 0))
  have hFz:=(((((((((((hFa.setN (N:=w.heap.size) (i:=0) (Nat.le_refl _) (.string ⟨#[]⟩)).setN (N:=w.heap.size) (i:=1) (Nat.le_refl _) (.int .i64 0)).setN (N:=w.heap.size) (i:=2) (Nat.le_refl _) (.int .i64 0)).setN (N:=w.heap.size) (i:=3) (Nat.le_refl _) (.bool false)).setN (N:=w.heap.size) (i:=4) (Nat.le_refl _) (.bool false)).setN (N:=w.heap.size) (i:=5) (Nat.le_refl _) (.string ⟨#[]⟩)).setN (N:=w.heap.size) (i:=6) (Nat.le_refl _) (.string ⟨#[]⟩)).setN (N:=w.heap.size) (i:=7) (Nat.le_refl _) (.int .i64 0)).setN (N:=w.heap.size) (i:=8) (Nat.le_refl _) (.int .i64 0)).setN (N:=w.heap.size) (i:=9) (Nat.le_refl _) (.slice none 0 0)).setN (N:=w.heap.size) (i:=10) (Nat.le_refl _) (.slice none 0 0))
  clear hBa hAa hpa hFa
  go_wp2
  exact bodyPost_ret (state_res hAz rfl) rfl ⟨⟨_,rfl,.slice none 0 0,.slice none 0 0,rfl,rdK_none _ _ _ _,rdK_none _ _ _ _⟩,hpz,hFz⟩
end Go.Proofs.YtfjdceknbdmhpaaGreatDoor
