import Derived.Test.YtppefcdkgejfbaaGreatDoorXac08
import Derived.Test.YtppefcdkgejfbaaGreatDoorXac04
import Derived.Deep.RegionLaw
import Derived.Deep.RegionHeldLaw
import Derived.Test.YtppefcdkgejfbaaGreatDoorRows
import Derived.Test.YtppefcdkgejfbaaGreatDoorXac05
import Derived.Test.YtppefcdkgejfbaaGreatDoorXac02
import Derived.Test.YtppefcdkgejfbaaGreatDoorXac01
import Derived.Deep.CutBlock
import Derived.Test.YtppefcdkgejfbaaGreatDoorXac06
import Derived.Deep.DeepCutAuto
import Derived.Laws.MakeOwn
set_option maxRecDepth 100000
set_option maxHeartbeats 32000000
namespace Go.Proofs.YtppefcdkgejfbaaGreatDoor
open Go.RowKit Go.Lib
set_option linter.unusedSimpArgs false
set_option linter.unusedVariables false
attribute [local go_sem ↓] Go.wp_at_zero Go.wp_at_succ
end Go.Proofs.YtppefcdkgejfbaaGreatDoor
namespace Go.Proofs.YtppefcdkgejfbaaGreatDoor
end Go.Proofs.YtppefcdkgejfbaaGreatDoor
namespace Go.Proofs.YtppefcdkgejfbaaGreatDoor
open Go.RowKit Go.Lib
set_option linter.unusedSimpArgs false
set_option linter.unusedVariables false
attribute [local go_sem ↓] Go.wp_at_zero Go.wp_at_succ
theorem wpList_pushB {α:Type}{P:Program}(w:World) {ops:Array Oper}{rest:List Oper}{o:Oper}{a:Act}{Q:Exit->Act->World->Prop}(hgd:o.guard=none) (s x:Operand) (t:TypeId)
  (ho:o.op=.call { callee:=.builtin .append,args:=#[s,x],argTypes:=#[t,t] })
  (base:Nat) (bad:Nat->Prop) (e:TypeId) (i:TypeInfo) (z:Value) (k bytes:Nat) (ht:P.underlying t=some (.slice e)) (hi:P.info? e=some i) (hz:i.zero=some z)
  (hsize:i.size=k) (hby:i.bytes=bytes) (hzs:z.cells.size=k) {R:(Nat->Prop)->World->α->List Value->Prop}(hR:Kp R)
  (v:Value) (l:List α) (p:α) (cs:List Value) (lo:Nat) (hs:a.eval s=v) (hx:a.eval x=.slice (some ⟨w.heap.size,0,none⟩) 1 1) (hk:cs.length=k) (h1:∀ u∈cs,u.oneCell'=true)
  (hown:OwnB w base bad e k R v l) (hp:R (fun b=>lo<=b) w p cs) (hlo:base<=lo) (hv:∀ x,v.ownBlock=some x->x < lo) (hbad:∀ b,bad b->b < lo/\b < w.heap.size) (hroom:(l.length+1+(l.length+1) / 4+192)*bytes<=281474976710656)
  (h63:l.length+1<=maxLen) (hbase:base<=w.heap.size)
  (h:∀ v' w',OwnB w' base bad e k R v' (l++[p])->(w.alloc (.cells cs.toArray e)).grownBy w' v.ownBlock->Below base w w'->(v'.ownBlock=v.ownBlock∨v'.ownBlock=some (w.alloc (.cells cs.toArray e)).heap.size)->wpList P ops Q rest (a.put o.dst v') w') :
  wpList P ops Q (o :: rest) a (w.alloc (.cells cs.toArray e)):=by
 have hal:Below w.heap.size w (w.alloc (.cells cs.toArray e)):=(Below.refl _ _).alloc Nat.le.refl _
 obtain ⟨qs,ho1,hl1,hr1,hg1⟩:=hown.on hR hal
 refine wpList_append_at _ hgd s x t t ho base e i z k bytes ht hi hz hsize hby hzs v l.length qs.flatten hs ho1 _ 1 cs hx (src_row ht w cs hk h1) 1 (.inr hroom) Nat.le.refl h63 (Nat.le_trans hbase hal.size) ?_
 intro v' w' hown' hg hat
 refine h v' w' (OwnB.snoc hR hk rfl ho1 hl1 hr1 hown' hg hat (hR hp (fun b hb hlt=>⟨hb,hal.block b hlt⟩)) hlo hv (fun b q=>⟨(hbad b q).1,Nat.lt_of_lt_of_le (hbad b q).2 hal.size⟩) hg1) hg ?_ hat
 exact ((Below.refl base w).alloc hbase _).grown hg (Nat.le_trans hbase hal.size) (fun k hk=>(World.ownsRow.lt ho1 k hk).1)
def sD (l:List UInt8):Value:=.string ⟨l.toArray⟩
def rSetD (ok:Nat->Prop) (w:World) (x:List UInt8 × Sx) (cs:List Value):Prop:=∃ c0 c1 c2 c3,cs=[sD x.1,c0,c1,c2,c3]/\RdX ok w x.2 (.agg #[c0,c1,c2,c3])
theorem kp_setD:Kp rSetD:=fun _ _ _ _ _ _ ⟨c0,c1,c2,c3,h,hr⟩ hk=>⟨c0,c1,c2,c3,h,hr.keep hk⟩
def rOnD (ok:Nat->Prop) (w:World) (o:OnC) (cs:List Value):Prop:=∃ c0 c1 c2 c3 sl,cs=[sD o.1,.bool o.2.1.1,c0,c1,c2,c3,sD o.2.2.1,sl,.int .i64 o.2.2.2.2.1,.int .i64 o.2.2.2.2.2]/\RdX ok w o.2.1.2 (.agg #[c0,c1,c2,c3])/\RdK ok w 5 (rSetD ok w) o.2.2.2.1 sl
theorem kp_onD:Kp rOnD:=fun _ _ _ _ _ _ ⟨c0,c1,c2,c3,sl,h,hr,hs⟩ hk=>⟨c0,c1,c2,c3,sl,h,hr.keep hk,hs.stay kp_setD hk⟩
def hdD (h:HdC) (so si:Value):List Value:=[sD h.1.1,.int .i64 h.1.2.1,.int .i64 h.1.2.2,.bool h.2.1.1,.bool h.2.1.2,sD h.2.2.1.1,sD h.2.2.1.2,.int .i64 h.2.2.2.1.1,.int .i64 h.2.2.2.1.2,so,si]
def rStD:(d:Nat)->(Nat->Prop)->World->St d->List Value->Prop
 | 0,_,_,t,_=>Empty.elim t
 | d+1,ok,w,t,cs=>∃ so si,cs=hdD t.1 so si/\RdK ok w 10 (rOnD ok w) t.1.2.2.2.2 so/\RdK ok w 11 (rStD d ok w) t.2 si
theorem kp_stD:∀ d,Kp (rStD d)
 | 0=>fun _ _ _ _ x _ _ _=>Empty.elim x
 | d+1=>fun _ _ _ _ _ _ ⟨so,si,h,h1,h2⟩ hk=>⟨so,si,h,h1.stay kp_onD hk,h2.stay (kp_stD d) hk⟩
def varD (x:List UInt8 × Int × Pl):List Value:=[sD x.1,.int .i64 x.2.1,.int .i64 x.2.2.1,.int .i64 x.2.2.2]
def rVarD (ok:Nat->Prop) (w:World) (x:List UInt8 × Int × Pl) (cs:List Value):Prop:=cs=varD x
theorem kp_varD:Kp rVarD:=fun _ _ _ _ _ _ h _=>h
abbrev ChD (d:Nat):=(List UInt8 × Pl) × Int × List (List UInt8 × Int × Pl) × List (St d)
def RdD (ok:Nat->Prop) (w:World) (d:Nat) (c:ChD d) (v:Value):Prop:=
 ∃ sv ss,v=.agg #[sD c.1.1,.int .i64 c.2.1,.int .i64 c.1.2.1,.int .i64 c.1.2.2,sv,ss]/\RdK ok w 4 (rVarD ok w) c.2.2.1 sv/\RdK ok w 11 (rStD d ok w) c.2.2.2 ss
theorem RdD.keep {ok ok':Nat->Prop}{w w':World}{d:Nat}{c:ChD d}{v:Value}(h:RdD ok w d c v) (hk:∀ b,ok b->b < w.heap.size->ok' b/\w'.heap[b]?=w.heap[b]?):RdD ok' w' d c v:=by
 obtain ⟨sv,ss,h1,h2,h3⟩:=h
 exact ⟨sv,ss,h1,h2.stay kp_varD hk,h3.stay (kp_stD d) hk⟩
theorem Fx.andD {X B:Nat}{a b c:World}(h:Fx X a b) (k:Below B b c) (hB:a.heap.size<=B):Fx X a c:=
 ⟨k.os.trans h.os,k.tape.trans h.tape,k.output.trans h.output,Nat.le_trans h.size k.size,fun j hj h1=>(k.block j (by omega)).trans (h.block j hj h1)⟩
end Go.Proofs.YtppefcdkgejfbaaGreatDoor
namespace Go.Proofs.YtppefcdkgejfbaaGreatDoor
open Go.ChangeShapes Go.WideShapes Go.ChangeAt Go.RowKit
set_option linter.unusedSimpArgs false
set_option linter.unusedVariables false
theorem weights_all {H:Type}{P:Program}{e:TypeId}:∀ {l:List (DataW H)}{d:DataW H},d∈l->∀ n∈d.weights P e,n∈DataW.weightsAll P e l
 | x :: r,d,h,n,hn=>by
  simp only [DataW.weightsAll,List.mem_append]
  rcases List.mem_cons.1 h with rfl|h
  ·exact .inl hn
  ·exact .inr (weights_all h n hn)
def Wt {H:Type}(t:TypeId) (d:DataW H):Prop:=∀ n∈d.weights Tryz.prog t,n<=reachBytes
theorem Wt.field {H:Type}{t u:TypeId}{fs:Array Field}{f:Field}{xs:List (DataW H × List MemPlace)}{y:DataW H × List MemPlace}(hu:Tryz.prog.underlying t=some (.struct fs)) (h:Wt t (.agg (xs.map (·.1)))) (j:Nat) (hf:fs[j]?=some f) (hy:xs[j]?=some y) (ht:f.type=u):Wt u y.1:=fun n hn=>by
 refine h n ?_
 simp only [DataW.weights,hu]
 refine DataW.weights_mem_each (j:=j) (t:=u) (d:=y.1) ?_ (by simp [hy]) n hn
 simp [hf,ht]
theorem spot_none {w:World}{a:Addr}{v:Value}(h:w.cell? (a.add 0)=some v):a=⟨a.block,a.off,none⟩:=by
 rw [show a.add 0=a from by simp [Addr.add]] at h
 unfold World.cell? at h
 split at h
 ·obtain ⟨b,o,s⟩:=a
  cases s with
  | none=>rfl
  | some x=>simp at h
 ·cases h
theorem RdK.both {α:Type}{ok:Nat->Prop}{w:World}{k:Nat}{R:α->List Value->Prop}{Q:α->Prop}{l:List α}{v:Value}(h:RdK ok w k (fun x cs=>R x cs/\Q x) l v):RdK ok w k R l v/\∀ x∈l,Q x:=by
 obtain ⟨a,cap,h1,h2,h3,h4⟩:=h
 refine ⟨⟨a,cap,h1,h2,h3,fun i hi=>?_⟩,fun x hx=>?_⟩
 ·obtain ⟨b,off,cs,q1,q2,q3,q4,q5,q6⟩:=h4 i hi
  exact ⟨b,off,cs,q1,q2,q3,q4,q5.1,q6⟩
 ·obtain ⟨i,hi,rfl⟩:=List.getElem_of_mem hx
  obtain ⟨b,off,cs,q1,q2,q3,q4,q5,q6⟩:=h4 i hi
  exact q5.2
section
variable {H:Type}{enc:TypeId × Value->H}{W:World}
theorem open_row {α:Type}{k:Nat}{R:α->List Value->Prop}{sl el:TypeId}(hu:Tryz.prog.underlying sl=some (.slice el)) (hc:Tryz.prog.cellsOf el=k) (hk:0 < k) (hby:decide (1<=Tryz.prog.bytesOf el)=true) {fuel:Nat}{cs:List Value}{x:DataW H × List MemPlace}
  (h:DataW.trod enc Tryz.prog W 0 (fun _=>true) true fuel sl cs=some x) (hw:Wt sl x.1) (hel:∀ n' cs' y,fuel=n'+1->DataW.trod enc Tryz.prog W 0 (fun _=>true) true n' el cs'=some y->Wt el y.1->∃ a,R a cs') :
  ∃ (l:List α) (v:Value),cs=[v]/\RdK (fun _=>True) W k R l v/\l.length<=140737488351232:=by
 rcases DataW.trod_slice hu h with ⟨rfl,_⟩|⟨ad,len,cap,elems,rest,n',hn',rfl,rfl,_,hlc,hcm,hel',helt,_,_⟩
 ·exact ⟨[],_,rfl,rdK_none _ _ _ _,by simp⟩
 ·have hlw:len<=140737488351232:=by
   have h0:=hw ((elems.length+rest.length)*Tryz.prog.bytesOf el) (by simp [DataW.weights,hu])
   have h1:(elems.length+rest.length)*1<=(elems.length+rest.length)*Tryz.prog.bytesOf el:=Nat.mul_le_mul_left _ (of_decide_eq_true hby)
   have h2:reachBytes=140737488351232:=rfl
   omega
  rw [hc] at helt
  have hall:∀ i,i < len->∃ q:α × List Value,W.cells? 0 (ad.add (i*k)) k=some q.2/\R q.1 q.2:=by
   intro i hi
   have h1:=helt i hi
   have hie:i < elems.length:=by omega
   rw [List.getElem?_eq_getElem hie] at h1
   obtain ⟨cs',h2,h3⟩:=Option.bind_eq_some_iff.1 h1
   obtain ⟨a,ha⟩:=hel n' cs' _ hn' h3 (fun n hn=>by
    refine hw n ?_
    simp only [DataW.weights,hu]
    exact List.mem_cons_of_mem _ (List.mem_append_left _ (weights_all (List.mem_map_of_mem (List.getElem_mem hie)) n hn)))
   exact ⟨(a,cs'),h2,ha⟩
  obtain ⟨l,hll,hfy⟩:=pick len hall
  refine ⟨l.map (·.1),_,rfl,⟨some ad,cap,by simp [hll],by simpa [hll] using hlc,hcm,fun i hi=>?_⟩,by simpa [hll] using hlw⟩
  have hi':i < l.length:=by simpa using hi
  obtain ⟨_,q2,q3⟩:=World.cells?_some (hfy 0 (by omega)).1
  obtain ⟨_,g2,g3⟩:=World.cells?_some (hfy i hi').1
  have hs:ad=⟨ad.block,ad.off,none⟩:=by
   have:=q3 0 hk
   rw [Nat.zero_mul,show (ad.add 0).add 0=ad.add 0 from by simp [Addr.add],List.getElem?_eq_getElem (by omega)] at this
   exact spot_none this
  generalize ad.block=b at hs
  generalize ad.off=off at hs
  subst hs
  have g4:∀ j u,(l[i]).2[j]?=some u->W.cell? ⟨b,off+i*k+j,none⟩=some u:=fun j u hj=>by
   have hjl:=(List.getElem?_eq_some_iff.1 hj).1
   have:=g3 j (by omega)
   rw [add_plain,add_plain,hj] at this
   exact this
  refine ⟨b,off,(l[i]).2,rfl,trivial,?_,g2,?_,g4⟩
  ·exact World.block_lt_of_cell? W _ (g4 0 _ (List.getElem?_eq_getElem (by omega)))
  ·rw [List.getElem_map]
   exact (hfy i hi').2
theorem open_node1 {fuel:Nat}{cs:List Value}{x:DataW H × List MemPlace}(h:DataW.trod enc Tryz.prog W 0 (fun _=>true) true fuel 57 cs=some x) :
  ∃ (x:Sx) (c0 c1 c2 c3:Value),cs=[c0,c1,c2,c3]/\RdX (fun _=>True) W x (.agg #[c0,c1,c2,c3]):=by
 obtain ⟨d,t,c0,c1,c2,c3,_,hcs,hr⟩:=open_node fuel fuel Nat.le.refl h
 exact ⟨⟨d,t⟩,c0,c1,c2,c3,hcs,hr⟩
theorem open_pos {fuel:Nat}{cs:List Value}{x:DataW H × List MemPlace}(h:DataW.trod enc Tryz.prog W 0 (fun _=>true) true fuel 23 cs=some x):∃ p:Pl,cs=[.int .i64 p.1,.int .i64 p.2]:=by
 obtain ⟨xs,n,_,rfl,hl,hlen,hf⟩:=DataW.trod_struct Tryz.underlying23 h
 have hc:Tryz.prog.cellsOf 23=2:=by kernel_rfl
 have cI:Tryz.prog.cellsOf 3=1:=by kernel_rfl
 rw [hc] at hl
 have f0:DataW.trod enc Tryz.prog W 0 (fun _=>true) true n 3 ((cs.drop 0).take (Tryz.prog.cellsOf 3))=xs[0]?:=hf 0 _ rfl
 have f1:DataW.trod enc Tryz.prog W 0 (fun _=>true) true n 3 ((cs.drop 1).take (Tryz.prog.cellsOf 3))=xs[1]?:=hf 1 _ rfl
 rw [cI] at f0 f1
 match cs,hl,xs,hlen with
 | [a,b],_,[y0,y1],_=>
  simp only [List.drop_zero,List.take_succ_cons,List.take_zero,List.drop_succ_cons,List.getElem?_cons_zero,List.getElem?_cons_succ] at f0 f1
  obtain ⟨k,e0,_,_⟩:=DataW.trod_int Tryz.underlying3 f0
  obtain ⟨m,e1,_,_⟩:=DataW.trod_int Tryz.underlying3 f1
  simp only [List.cons.injEq,and_true] at e0 e1
  subst e0 e1
  exact ⟨(k,m),rfl⟩
theorem str_wt {s:ByteArray}(h:Wt (H:=H) 9 (.lit (.string s.data.toList))):s.size<=140737488351232:=by
 have:=h s.data.toList.length (by simp [DataW.weights])
 simpa [reachBytes] using this
theorem sD_of (s:ByteArray):Value.string s=sD s.data.toList:=by unfold sD;simp
def WfI (n:Int):Prop:=(Lit.int .i64 n).wf=true
def WfV (v:List UInt8 × Int × Pl):Prop:=v.1.length<=140737488351232
theorem open_varD {fuel:Nat}{cs:List Value}{x:DataW H × List MemPlace}(h:DataW.trod enc Tryz.prog W 0 (fun _=>true) true fuel 93 cs=some x) (hw:Wt 93 x.1):∃ v,rVarD (fun _=>True) W v cs/\WfV v:=by
 obtain ⟨xs,n,_,rfl,hl,hlen,hf⟩:=DataW.trod_struct Tryz.underlying93 h
 have hc:Tryz.prog.cellsOf 93=4:=by kernel_rfl
 have cL:Tryz.prog.cellsOf 2=1:=by kernel_rfl
 have c9:Tryz.prog.cellsOf 9=1:=by kernel_rfl
 have cp:Tryz.prog.cellsOf 23=2:=by kernel_rfl
 rw [hc] at hl
 have f0:DataW.trod enc Tryz.prog W 0 (fun _=>true) true n 9 ((cs.drop 0).take (Tryz.prog.cellsOf 9))=xs[0]?:=hf 0 _ rfl
 have f1:DataW.trod enc Tryz.prog W 0 (fun _=>true) true n 2 ((cs.drop 1).take (Tryz.prog.cellsOf 2))=xs[1]?:=hf 1 _ rfl
 have f2:DataW.trod enc Tryz.prog W 0 (fun _=>true) true n 23 ((cs.drop 2).take (Tryz.prog.cellsOf 23))=xs[2]?:=hf 2 _ rfl
 rw [c9] at f0
 rw [cL] at f1
 rw [cp] at f2
 match cs,hl,xs,hlen with
 | [a,b,c,e],_,[y0,y1,y2],_=>
  have w0:=hw.field Tryz.underlying93 0 rfl rfl rfl
  simp only [List.drop_zero,List.take_succ_cons,List.take_zero,List.drop_succ_cons,List.getElem?_cons_zero,List.getElem?_cons_succ] at f0 f1 f2
  obtain ⟨s,e0,rfl,_⟩:=DataW.trod_string Tryz.underlying9 f0
  obtain ⟨m,e1,_,_⟩:=DataW.trod_int Tryz.underlying2 f1
  obtain ⟨p,e2⟩:=open_pos f2
  simp only [List.cons.injEq,and_true] at e0 e1 e2
  obtain ⟨e2,e3⟩:=e2
  subst e0 e1 e2 e3
  refine ⟨(s.data.toList,m,p),?_,?_⟩
  ·show [_,_,_,_]=[sD s.data.toList,_,_,_]
   rw [sD_of]
  ·have:=str_wt w0
   simpa [WfV] using this
def WfT (s:List UInt8 × Sx):Prop:=s.1.length<=140737488351232
def WfO (o:OnC):Prop:=o.1.length<=140737488351232/\o.2.2.1.length<=140737488351232/\o.2.2.2.1.length<=140737488351232/\∀ s∈o.2.2.2.1,WfT s
theorem open_setD {fuel:Nat}{cs:List Value}{x:DataW H × List MemPlace}(h:DataW.trod enc Tryz.prog W 0 (fun _=>true) true fuel 104 cs=some x) (hw:Wt 104 x.1):∃ s,rSetD (fun _=>True) W s cs/\WfT s:=by
 obtain ⟨xs,n,_,rfl,hl,hlen,hf⟩:=DataW.trod_struct Tryz.underlying104 h
 have hc:Tryz.prog.cellsOf 104=5:=by kernel_rfl
 have c9:Tryz.prog.cellsOf 9=1:=by kernel_rfl
 have cn:Tryz.prog.cellsOf 57=4:=by kernel_rfl
 rw [hc] at hl
 have f0:DataW.trod enc Tryz.prog W 0 (fun _=>true) true n 9 ((cs.drop 0).take (Tryz.prog.cellsOf 9))=xs[0]?:=hf 0 _ rfl
 have f1:DataW.trod enc Tryz.prog W 0 (fun _=>true) true n 57 ((cs.drop 1).take (Tryz.prog.cellsOf 57))=xs[1]?:=hf 1 _ rfl
 rw [c9] at f0
 rw [cn] at f1
 match cs,hl,xs,hlen with
 | [a,b,c,e,g],_,[y0,y1],_=>
  have w0:=hw.field Tryz.underlying104 0 rfl rfl rfl
  simp only [List.drop_zero,List.take_succ_cons,List.take_zero,List.drop_succ_cons,List.getElem?_cons_zero,List.getElem?_cons_succ] at f0 f1
  obtain ⟨s,e0,rfl,_⟩:=DataW.trod_string Tryz.underlying9 f0
  obtain ⟨x,c0,c1,c2,c3,e1,hr⟩:=open_node1 f1
  simp only [List.cons.injEq,and_true] at e0 e1
  obtain ⟨q0,q1,q2,q3⟩:=e1
  subst e0 q0 q1 q2 q3
  refine ⟨(s.data.toList,x),⟨_,_,_,_,?_,hr⟩,?_⟩
  ·rw [<- sD_of]
  ·have:=str_wt w0
   simpa [WfT] using this
theorem open_onD {fuel:Nat}{cs:List Value}{x:DataW H × List MemPlace}(h:DataW.trod enc Tryz.prog W 0 (fun _=>true) true fuel 60 cs=some x) (hw:Wt 60 x.1):∃ o,rOnD (fun _=>True) W o cs/\WfO o:=by
 obtain ⟨xs,n,_,rfl,hl,hlen,hf⟩:=DataW.trod_struct Tryz.underlying60 h
 have hc:Tryz.prog.cellsOf 60=10:=by kernel_rfl
 have c9:Tryz.prog.cellsOf 9=1:=by kernel_rfl
 have c4:Tryz.prog.cellsOf 4=1:=by kernel_rfl
 have cn:Tryz.prog.cellsOf 57=4:=by kernel_rfl
 have cs1:Tryz.prog.cellsOf 58=1:=by kernel_rfl
 have cp:Tryz.prog.cellsOf 23=2:=by kernel_rfl
 have c5:Tryz.prog.cellsOf 104=5:=by kernel_rfl
 rw [hc] at hl
 have f0:DataW.trod enc Tryz.prog W 0 (fun _=>true) true n 9 ((cs.drop 0).take (Tryz.prog.cellsOf 9))=xs[0]?:=hf 0 _ rfl
 have f1:DataW.trod enc Tryz.prog W 0 (fun _=>true) true n 4 ((cs.drop 1).take (Tryz.prog.cellsOf 4))=xs[1]?:=hf 1 _ rfl
 have f2:DataW.trod enc Tryz.prog W 0 (fun _=>true) true n 57 ((cs.drop 2).take (Tryz.prog.cellsOf 57))=xs[2]?:=hf 2 _ rfl
 have f3:DataW.trod enc Tryz.prog W 0 (fun _=>true) true n 9 ((cs.drop 6).take (Tryz.prog.cellsOf 9))=xs[3]?:=hf 3 _ rfl
 have f4:DataW.trod enc Tryz.prog W 0 (fun _=>true) true n 58 ((cs.drop 7).take (Tryz.prog.cellsOf 58))=xs[4]?:=hf 4 _ rfl
 have f5:DataW.trod enc Tryz.prog W 0 (fun _=>true) true n 23 ((cs.drop 8).take (Tryz.prog.cellsOf 23))=xs[5]?:=hf 5 _ rfl
 rw [c9] at f0 f3
 rw [c4] at f1
 rw [cn] at f2
 rw [cs1] at f4
 rw [cp] at f5
 match cs,hl,xs,hlen with
 | [a0,a1,a2,a3,a4,a5,a6,a7,a8,a9],_,[y0,y1,y2,y3,y4,y5],_=>
  have w0:=hw.field Tryz.underlying60 0 rfl rfl rfl
  have w3:=hw.field Tryz.underlying60 3 rfl rfl rfl
  have w4:=hw.field Tryz.underlying60 4 rfl rfl rfl
  simp only [List.drop_zero,List.take_succ_cons,List.take_zero,List.drop_succ_cons,List.getElem?_cons_zero,List.getElem?_cons_succ] at f0 f1 f2 f3 f4 f5
  obtain ⟨ev,e0,rfl,_⟩:=DataW.trod_string Tryz.underlying9 f0
  obtain ⟨hs,e1,_⟩:=DataW.trod_bool Tryz.underlying4 f1
  obtain ⟨gx,c0,c1,c2,c3,e2,hr⟩:=open_node1 f2
  obtain ⟨tg,e3,rfl,_⟩:=DataW.trod_string Tryz.underlying9 f3
  obtain ⟨l,sl,e4,hsl,hsn⟩:=open_row (k:=5) (R:=fun s cs=>rSetD (fun _=>True) W s cs/\WfT s) Tryz.underlying58 c5 (by decide) (by kernel_rfl) f4 w4 (fun n' cs' y _ hy hwy=>open_setD hy hwy)
  obtain ⟨p,e5⟩:=open_pos f5
  simp only [List.cons.injEq,and_true] at e0 e1 e2 e3 e4 e5
  obtain ⟨q0,q1,q2,q3⟩:=e2
  obtain ⟨q4,q5⟩:=e5
  subst e0 e1 q0 q1 q2 q3 e3 e4 q4 q5
  obtain ⟨hsl,hwt⟩:=hsl.both
  refine ⟨(ev.data.toList,(hs,gx),tg.data.toList,l,p),⟨_,_,_,_,_,?_,hr,hsl⟩,?_,?_,hsn,hwt⟩
  ·rw [<- sD_of,<- sD_of]
  ·have:=str_wt w0
   simpa using this
  ·have:=str_wt w3
   simpa using this
def WfS:(d:Nat)->St d->Prop
 | 0,t=>Empty.elim t
 | d+1,t=>WfI t.1.2.2.2.1.1/\WfI t.1.2.2.2.1.2/\(t.1.1.1.length<=140737488351232/\t.1.2.2.1.1.length<=140737488351232/\t.1.2.2.1.2.length<=140737488351232/\t.1.2.2.2.2.length<=140737488351232/\∀ o∈t.1.2.2.2.2,WfO o)/\t.2.length<=140737488351232/\∀ x∈t.2,WfS d x
theorem open_stD:∀ (m fuel:Nat),fuel<=m->∀ {cs:List Value}{x:DataW H × List MemPlace},DataW.trod enc Tryz.prog W 0 (fun _=>true) true fuel 48 cs=some x->Wt 48 x.1->∃ t,rStD (fuel / 2) (fun _=>True) W t cs/\WfS (fuel / 2) t
 | 0,fuel,hf,cs,x,h,_=>by
  obtain rfl:fuel=0:=by omega
  simp [DataW.trod] at h
 | m+1,fuel,hf,cs,x,h,hw=>by
  obtain ⟨xs,n,rfl,rfl,hl,hlen,hf'⟩:=DataW.trod_struct Tryz.underlying48 h
  have hc:Tryz.prog.cellsOf 48=11:=by kernel_rfl
  have c9:Tryz.prog.cellsOf 9=1:=by kernel_rfl
  have c4:Tryz.prog.cellsOf 4=1:=by kernel_rfl
  have c3:Tryz.prog.cellsOf 3=1:=by kernel_rfl
  have cp:Tryz.prog.cellsOf 23=2:=by kernel_rfl
  have co:Tryz.prog.cellsOf 46=1:=by kernel_rfl
  have cst:Tryz.prog.cellsOf 25=1:=by kernel_rfl
  have c10:Tryz.prog.cellsOf 60=10:=by kernel_rfl
  rw [hc] at hl
  have f0:DataW.trod enc Tryz.prog W 0 (fun _=>true) true n 9 ((cs.drop 0).take (Tryz.prog.cellsOf 9))=xs[0]?:=hf' 0 _ rfl
  have f1:DataW.trod enc Tryz.prog W 0 (fun _=>true) true n 23 ((cs.drop 1).take (Tryz.prog.cellsOf 23))=xs[1]?:=hf' 1 _ rfl
  have f2:DataW.trod enc Tryz.prog W 0 (fun _=>true) true n 4 ((cs.drop 3).take (Tryz.prog.cellsOf 4))=xs[2]?:=hf' 2 _ rfl
  have f3:DataW.trod enc Tryz.prog W 0 (fun _=>true) true n 4 ((cs.drop 4).take (Tryz.prog.cellsOf 4))=xs[3]?:=hf' 3 _ rfl
  have f4:DataW.trod enc Tryz.prog W 0 (fun _=>true) true n 9 ((cs.drop 5).take (Tryz.prog.cellsOf 9))=xs[4]?:=hf' 4 _ rfl
  have f5:DataW.trod enc Tryz.prog W 0 (fun _=>true) true n 9 ((cs.drop 6).take (Tryz.prog.cellsOf 9))=xs[5]?:=hf' 5 _ rfl
  have f6:DataW.trod enc Tryz.prog W 0 (fun _=>true) true n 3 ((cs.drop 7).take (Tryz.prog.cellsOf 3))=xs[6]?:=hf' 6 _ rfl
  have f7:DataW.trod enc Tryz.prog W 0 (fun _=>true) true n 3 ((cs.drop 8).take (Tryz.prog.cellsOf 3))=xs[7]?:=hf' 7 _ rfl
  have f8:DataW.trod enc Tryz.prog W 0 (fun _=>true) true n 46 ((cs.drop 9).take (Tryz.prog.cellsOf 46))=xs[8]?:=hf' 8 _ rfl
  have f9:DataW.trod enc Tryz.prog W 0 (fun _=>true) true n 25 ((cs.drop 10).take (Tryz.prog.cellsOf 25))=xs[9]?:=hf' 9 _ rfl
  rw [c9] at f0 f4 f5
  rw [c4] at f2 f3
  rw [c3] at f6 f7
  rw [cp] at f1
  rw [co] at f8
  rw [cst] at f9
  match cs,hl,xs,hlen with
  | [a0,a1,a2,a3,a4,a5,a6,a7,a8,a9,a10],_,[y0,y1,y2,y3,y4,y5,y6,y7,y8,y9],_=>
   have w0:=hw.field Tryz.underlying48 0 rfl rfl rfl
   have w4:=hw.field Tryz.underlying48 4 rfl rfl rfl
   have w5:=hw.field Tryz.underlying48 5 rfl rfl rfl
   have w8:=hw.field Tryz.underlying48 8 rfl rfl rfl
   have w9:=hw.field Tryz.underlying48 9 rfl rfl rfl
   simp only [List.drop_zero,List.take_succ_cons,List.take_zero,List.drop_succ_cons,List.getElem?_cons_zero,List.getElem?_cons_succ] at f0 f1 f2 f3 f4 f5 f6 f7 f8 f9
   obtain ⟨nm,e0,rfl,_⟩:=DataW.trod_string Tryz.underlying9 f0
   obtain ⟨p,e1⟩:=open_pos f1
   obtain ⟨al,e2,_⟩:=DataW.trod_bool Tryz.underlying4 f2
   obtain ⟨en,e3,_⟩:=DataW.trod_bool Tryz.underlying4 f3
   obtain ⟨dd,e4,rfl,_⟩:=DataW.trod_string Tryz.underlying9 f4
   obtain ⟨ud,e5,rfl,_⟩:=DataW.trod_string Tryz.underlying9 f5
   obtain ⟨wh,e6,_,g6⟩:=DataW.trod_int Tryz.underlying3 f6
   obtain ⟨rt,e7,_,g7⟩:=DataW.trod_int Tryz.underlying3 f7
   obtain ⟨ol,so,e8,hso,hon⟩:=open_row (k:=10) (R:=fun o cs=>rOnD (fun _=>True) W o cs/\WfO o) Tryz.underlying46 c10 (by decide) (by kernel_rfl) f8 w8 (fun n' cs' y _ hy hwy=>open_onD hy hwy)
   obtain ⟨g,rfl⟩:∃ g,n=g+1:=by
    cases n with
    | zero=>simp [DataW.trod] at f9
    | succ g=>exact ⟨g,rfl⟩
   obtain ⟨il,si,e9,hsi,hin⟩:=open_row (k:=11) (R:=fun t cs=>rStD (g / 2) (fun _=>True) W t cs/\WfS (g / 2) t) Tryz.underlying25 hc (by decide) (by kernel_rfl) f9 w9 (fun n' cs' y hn' hy hwy=>by
    obtain rfl:n'=g:=by omega
    exact open_stD m n' (by omega) hy hwy)
   simp only [List.cons.injEq,and_true] at e0 e1 e2 e3 e4 e5 e6 e7 e8 e9
   obtain ⟨q0,q1⟩:=e1
   subst e0 q0 q1 e2 e3 e4 e5 e6 e7 e8 e9
   obtain ⟨hsi,hwf⟩:=hsi.both
   obtain ⟨hso,hwo⟩:=hso.both
   rw [half2 g]
   refine ⟨(((nm.data.toList,p),(al,en),(dd.data.toList,ud.data.toList),(wh,rt),ol),il),⟨_,_,?_,hso,hsi⟩,g6,g7,⟨?_,?_,?_,hon,hwo⟩,hin,hwf⟩
   ·show _=[sD nm.data.toList,_,_,_,_,sD dd.data.toList,sD ud.data.toList,_,_,_,_]
    rw [<- sD_of,<- sD_of,<- sD_of]
   ·have:=str_wt w0
    simpa using this
   ·have:=str_wt w4
    simpa using this
   ·have:=str_wt w5
    simpa using this
def WfC (d:Nat) (c:ChD d):Prop:=WfI c.2.1/\(∀ x∈c.2.2.1,WfV x)/\c.2.2.2.length<=140737488351232/\∀ t∈c.2.2.2,WfS d t
theorem open_chD {fuel:Nat}{cs:List Value}{x:DataW H × List MemPlace}(h:DataW.trod enc Tryz.prog W 0 (fun _=>true) true fuel 27 cs=some x) (hw:Wt 27 x.1):∃ (d:Nat) (c:ChD d) (v0 v1 v2 v3 v4 v5:Value),cs=[v0,v1,v2,v3,v4,v5]/\RdD (fun _=>True) W d c (.agg #[v0,v1,v2,v3,v4,v5])/\WfC d c:=by
 obtain ⟨xs,n,_,rfl,hl,hlen,hf'⟩:=DataW.trod_struct Tryz.underlying27 h
 have hc:Tryz.prog.cellsOf 27=6:=by kernel_rfl
 have c9:Tryz.prog.cellsOf 9=1:=by kernel_rfl
 have c3:Tryz.prog.cellsOf 3=1:=by kernel_rfl
 have cp:Tryz.prog.cellsOf 23=2:=by kernel_rfl
 have cv:Tryz.prog.cellsOf 24=1:=by kernel_rfl
 have cst:Tryz.prog.cellsOf 25=1:=by kernel_rfl
 have c4:Tryz.prog.cellsOf 93=4:=by kernel_rfl
 have c11:Tryz.prog.cellsOf 48=11:=by kernel_rfl
 rw [hc] at hl
 have f0:DataW.trod enc Tryz.prog W 0 (fun _=>true) true n 9 ((cs.drop 0).take (Tryz.prog.cellsOf 9))=xs[0]?:=hf' 0 _ rfl
 have f1:DataW.trod enc Tryz.prog W 0 (fun _=>true) true n 3 ((cs.drop 1).take (Tryz.prog.cellsOf 3))=xs[1]?:=hf' 1 _ rfl
 have f2:DataW.trod enc Tryz.prog W 0 (fun _=>true) true n 23 ((cs.drop 2).take (Tryz.prog.cellsOf 23))=xs[2]?:=hf' 2 _ rfl
 have f3:DataW.trod enc Tryz.prog W 0 (fun _=>true) true n 24 ((cs.drop 4).take (Tryz.prog.cellsOf 24))=xs[3]?:=hf' 3 _ rfl
 have f4:DataW.trod enc Tryz.prog W 0 (fun _=>true) true n 25 ((cs.drop 5).take (Tryz.prog.cellsOf 25))=xs[4]?:=hf' 4 _ rfl
 rw [c9] at f0
 rw [c3] at f1
 rw [cp] at f2
 rw [cv] at f3
 rw [cst] at f4
 match cs,hl,xs,hlen with
 | [a0,a1,a2,a3,a4,a5],_,[y0,y1,y2,y3,y4],_=>
  have w3:=hw.field Tryz.underlying27 3 rfl rfl rfl
  have w4:=hw.field Tryz.underlying27 4 rfl rfl rfl
  simp only [List.drop_zero,List.take_succ_cons,List.take_zero,List.drop_succ_cons,List.getElem?_cons_zero,List.getElem?_cons_succ] at f0 f1 f2 f3 f4
  obtain ⟨nm,e0,_,_⟩:=DataW.trod_string Tryz.underlying9 f0
  obtain ⟨vn,e1,_,g1⟩:=DataW.trod_int Tryz.underlying3 f1
  obtain ⟨p,e2⟩:=open_pos f2
  obtain ⟨vl,sv,e3,hsv,hvn⟩:=open_row (k:=4) (R:=fun v cs=>rVarD (fun _=>True) W v cs/\WfV v) Tryz.underlying24 c4 (by decide) (by kernel_rfl) f3 w3 (fun n' cs' y _ hy hwy=>open_varD hy hwy)
  obtain ⟨g,rfl⟩:∃ g,n=g+1:=by
   cases n with
   | zero=>simp [DataW.trod] at f4
   | succ g=>exact ⟨g,rfl⟩
  obtain ⟨il,si,e4,hsi,hin⟩:=open_row (k:=11) (R:=fun t cs=>rStD (g / 2) (fun _=>True) W t cs/\WfS (g / 2) t) Tryz.underlying25 c11 (by decide) (by kernel_rfl) f4 w4 (fun n' cs' y hn' hy hwy=>by
   obtain rfl:n'=g:=by omega
   exact open_stD n' n' Nat.le.refl hy hwy)
  simp only [List.cons.injEq,and_true] at e0 e1 e2 e3 e4
  obtain ⟨q0,q1⟩:=e2
  subst e0 e1 q0 q1 e3 e4
  obtain ⟨hsv,hwv⟩:=hsv.both
  obtain ⟨hsi,hwf⟩:=hsi.both
  refine ⟨g / 2,((nm.data.toList,p),vn,vl,il),_,_,_,_,_,_,rfl,⟨_,_,?_,hsv,hsi⟩,g1,hwv,hin,hwf⟩
  rw [<- sD_of]
end
theorem open_chart {H:Type}{enc:TypeId × Value->H}{W:World}{v:Value}{x:DataW H}{p:List MemPlace}(hv:∃ cs,v=.agg cs)
  (h:DataW.Trod enc Tryz.prog W 0 (fun _=>true) true 27 v x p) (hw:Wt 27 x):∃ (d:Nat) (c:ChD d),RdD (fun _=>True) W d c v/\WfC d c:=by
 obtain ⟨cs,rfl⟩:=hv
 obtain ⟨fuel,hf⟩:=h
 obtain ⟨d,c,c0,c1,c2,c3,c4,c5,hcs,hr,hwf⟩:=open_chD hf hw
 refine ⟨d,c,?_,hwf⟩
 have e:cs=#[c0,c1,c2,c3,c4,c5]:=by
  have:cs.toList=[c0,c1,c2,c3,c4,c5]:=hcs
  exact Array.toList_inj.1 (by rw [this])
 rw [e]
 exact hr
end Go.Proofs.YtppefcdkgejfbaaGreatDoor
namespace Go.Proofs.YtppefcdkgejfbaaGreatDoor
open Go.RowKit
set_option linter.unusedSimpArgs false
set_option linter.unusedVariables false
theorem thru_cons {α:Type}(g:α->Int->Int) (p:α) (r:List α) (x:Int):thru g (p :: r) x=if g p x < 0 then -1 else thru g r (g p x):=rfl
def SmallC (d:Nat):Prop:=∀ (ok:Nat->Prop) (t:T d) (v:Value) (w:World) (dep:Nat) (left:Int),RdT ok w d t v->dep<=61->-1<=left->left<=200->
  Calls Tryz.prog 51 #[v,.int .i64 (dep:Int),.int .i64 left] w fun e w'=>e=.returned (.int .i64 (sml d t dep left))/\Below w.heap.size w w'
theorem refSmall_step (d:Nat) (IH:SmallC d):SmallC (d+1):=by
 intro ok t v w dep left h hdep hl0 hl1
 obtain ⟨k,n,s,ps,rfl⟩:=T.open t
 obtain ⟨sl,rfl,hp⟩:=rdT_mk.1 h
 obtain ⟨a,cap,rfl,hlc,hcm,hcell⟩:=hp.form
 rw [sml_mk]
 by_cases c1:60 < dep
 ·rw [if_pos (.inl c1)]
  have e1:(dep:Int) > 60:=by omega
  clear IH hcell h hp
  go_enter Tryz.func51,Tryz.ntmps51
  go_wp2
  go_ret
  exact ⟨rfl,(Below.refl _ _).alloc Nat.le.refl _⟩
 have e1:¬ (dep:Int) > 60:=by omega
 by_cases c2:left - 1 < 0
 ·rw [if_pos (.inr (.inl c2))]
  clear IH hcell h hp
  go_enter Tryz.func51,Tryz.ntmps51
  go_wp2
  go_ret
  exact ⟨rfl,(Below.refl _ _).alloc Nat.le.refl _⟩
 by_cases c3:1000 < s.size
 ·rw [if_pos (.inr (.inr c3))]
  have e3:(s.size:Int) > 1000:=by omega
  clear IH hcell h hp
  go_enter Tryz.func51,Tryz.ntmps51
  go_wp2
  go_ret
  exact ⟨rfl,(Below.refl _ _).alloc Nat.le.refl _⟩
 rw [if_neg (by omega)]
 have e3:¬ (s.size:Int) > 1000:=by omega
 obtain ⟨V,hV⟩:∃ V,thru (fun p x=>sml d p (dep+1) x) ps (left - 1)=V:=⟨_,rfl⟩
 rw [hV]
 have HV:Hid (thru (fun p x=>sml d p (dep+1) x) (ps.drop 0) (left - 1)=V):=hV
 have HC:Hid (∀ (i:Nat) (hi:i < ps.length),∃ b off c0 c1 c2 c3,a=some ⟨b,off,none⟩/\b < w.heap.size/\RdT ok w d ps[i] (.agg #[c0,c1,c2,c3])/\w.cell? ⟨b,off+i*4,none⟩=some c0/\w.cell? ⟨b,off+i*4+1,none⟩=some c1/\w.cell? ⟨b,off+i*4+2,none⟩=some c2/\w.cell? ⟨b,off+i*4+3,none⟩=some c3):=hcell
 clear hV hcell h hp
 go_enter Tryz.func51,Tryz.ntmps51
 go_wp2
 go_loopw [2,25] (fun l i wr=>∃ (j:Nat) (L:Int),j<=ps.length/\i=.int .i64 (j:Int)/\l=.int .i64 L/\0<=L/\L<=199/\Hid (thru (fun p x=>sml d p (dep+1) x) (ps.drop j) L=V)/\At4 wr w.heap.size (.int .i64 k) (.int .i64 n) (.string s) (.slice a ps.length cap)/\Below w.heap.size w wr) (fun _ i _=>ps.length - (RowKit.intOf i).toNat)
 case atStart=>exact ⟨0,left - 1,Nat.zero_le _,rfl,rfl,by omega,by omega,HV,At4.new _ _ _ _ _ _,(Below.refl _ _).alloc Nat.le.refl _⟩
 case round=>
  obtain ⟨j,L,hj,rfl,rfl,hL0,hL1,hT,hA,hb⟩:=hrel
  obtain ⟨y0,y1,y2,y3⟩:=id hA
  by_cases hlt:j < ps.length
  ·obtain ⟨b,off,c0,c1,c2,c3,rfl,hbl,hr,k0,k1,k2,k3⟩:=HC.out j hlt
   have C0:=(hb.cell (p:=⟨b,off+j*4,none⟩) hbl).trans k0
   have C1:=(hb.cell (p:=⟨b,off+j*4+1,none⟩) hbl).trans k1
   have C2:=(hb.cell (p:=⟨b,off+j*4+2,none⟩) hbl).trans k2
   have C3:=(hb.cell (p:=⟨b,off+j*4+3,none⟩) hbl).trans k3
   have hcall:=IH ok ps[j] _ wr (dep+1) L (RdT.below hb Nat.le.refl hr) (by omega) (by omega) (by omega)
   have hTT:=hT.out
   rw [List.drop_eq_getElem_cons hlt,thru_cons] at hTT
   have hok:=sml_ok d ps[j] (dep+1) L
   have hcp:=cnt_pos d ps[j]
   obtain ⟨z,hz⟩:∃ z,sml d ps[j] (dep+1) L=z:=⟨_,rfl⟩
   rw [hz] at hcall hTT hok
   have i1:(j:Int) < (ps.length:Int):=by omega
   have i2:(0:Int)<=(j:Int):=by omega
   have hd1:((dep+1:Nat):Int)=(dep:Int)+1:=by omega
   rw [hd1] at hcall
   clear k0 k1 k2 k3 hr hbl
   by_cases hzn:z < 0
   ·rw [if_pos hzn] at hTT
    subst hTT
    clear hok hz hd1
    go_wp2_with (first
     | (go_at_call 51;refine hcall.mono ?_;rintro e w1 ⟨rfl,b1⟩))
    go_ret
    exact ⟨rfl,hb.trans (b1.mono hb.size)⟩
   ·rw [if_neg hzn] at hTT
    have hzL:z<=L:=by have:=(hok (by omega)).1;omega
    have hN:Hid (thru (fun p x=>sml d p (dep+1) x) (ps.drop (j+1)) z=V):=hTT
    clear hok hz hTT hd1 hcp
    go_wp2_with (first
     | (go_at_call 51;refine hcall.mono ?_;rintro e w1 ⟨rfl,b1⟩))
    go_roundw
    case rel=>exact ⟨j+1,z,hlt,by go_num,rfl,by omega,by omega,hN,hA.keepB b1 (World.block_lt_of_cell? wr _ y0),hb.trans (b1.mono hb.size)⟩
    case measure=>simp [RowKit.intOf];omega
  ·have i1:¬ (j:Int) < (ps.length:Int):=by omega
   have hTT:=hT.out
   rw [List.drop_eq_nil_of_le (by omega)] at hTT
   have hTe:L=V:=hTT
   subst hTe
   clear hTT
   go_wp2
   go_ret
   exact ⟨rfl,hb⟩
theorem refSmall_any:∀ (d:Nat),SmallC d
 | 0=>fun _ t=>Empty.elim t
 | d+1=>refSmall_step d (refSmall_any d)
theorem refSmallTop_any {ok:Nat->Prop}{d:Nat}{t:T d}{v:Value}{w:World}(h:RdT ok w d t v) :
  Calls Tryz.prog 27 #[v] w fun e w'=>e=.returned (.bool (decide (0<=sml d t 0 200)))/\Below w.heap.size w w':=by
 match d,t,h with
 | 0,t,h=>exact Empty.elim t
 | d+1,t,h=>
  obtain ⟨k,n,s,ps,rfl⟩:=T.open t
  have h0:=h
  obtain ⟨sl,rfl,hp⟩:=rdT_mk.1 h
  have hb0:=(Below.refl w.heap.size w).alloc Nat.le.refl (.cells #[.int .i64 k,.int .i64 n,.string s,sl] 57)
  have hcall:=refSmall_any (d+1) ok (mkT k n s ps) _ _ 0 200 (RdT.below hb0 Nat.le.refl h0) (by omega) (by omega) (by omega)
  obtain ⟨z,hz⟩:∃ z,sml (d+1) (mkT k n s ps) 0 200=z:=⟨_,rfl⟩
  rw [hz] at hcall ⊢
  clear hz h0 hp
  go_enter Tryz.func27,Tryz.ntmps27
  go_wp2_with (first
   | (go_at_call 51;refine hcall.mono ?_;rintro e w1 ⟨rfl,b1⟩))
  all_goals go_ret
  all_goals exact ⟨by simp [*],hb0.trans (b1.mono hb0.size)⟩
end Go.Proofs.YtppefcdkgejfbaaGreatDoor
namespace Go.Proofs.YtppefcdkgejfbaaGreatDoor
open Go.RowKit Go.Lib
set_option linter.unusedSimpArgs false
set_option linter.unusedVariables false
attribute [local go_sem ↓] Go.wp_at_zero Go.wp_at_succ
end Go.Proofs.YtppefcdkgejfbaaGreatDoor
namespace Go.Proofs.YtppefcdkgejfbaaGreatDoor
end Go.Proofs.YtppefcdkgejfbaaGreatDoor
namespace Go.Proofs.YtppefcdkgejfbaaGreatDoor
open Go.RowKit Go.Lib
set_option linter.unusedSimpArgs false
set_option linter.unusedVariables false
attribute [local go_sem ↓] Go.wp_at_zero Go.wp_at_succ
theorem Tryz.infoSet:(Tryz.prog.info? 120).map (fun i=>(i.zero,i.size,i.bytes))=some (some (.agg #[.string ⟨#[]⟩,.nilIface]),2,32):=by kernel_rfl
theorem Tryz.infoOn:(Tryz.prog.info? 88).map (fun i=>(i.zero,i.size,i.bytes))=some (some (.agg #[.string ⟨#[]⟩,.nilIface,.string ⟨#[]⟩,.slice none 0 0,.int .i64 0,.int .i64 0]),6,88):=by kernel_rfl
theorem Tryz.infoSt:(Tryz.prog.info? 79).map (fun i=>(i.zero,i.size,i.bytes))=some (some (.agg #[.string ⟨#[]⟩,.int .i64 0,.int .i64 0,.bool false,.bool false,.string ⟨#[]⟩,.string ⟨#[]⟩,.int .i64 0,.int .i64 0,.slice none 0 0,.slice none 0 0]),11,136):=by kernel_rfl
theorem Tryz.infoVar:(Tryz.prog.info? 92).map (fun i=>(i.zero,i.size,i.bytes))=some (some (.agg #[.string ⟨#[]⟩,.int .i64 0,.int .i64 0,.int .i64 0]),4,40):=by kernel_rfl
theorem Fx.bel {X B:Nat}{u a b:World}(h:Fx X a b) (hb:Below B u a) (hX:B<=X) (hB:B<=u.heap.size):Below B u b:=
 ⟨h.os.trans hb.os,h.tape.trans hb.tape,h.output.trans hb.output,Nat.le_trans hb.size h.size,fun k hk=>(h.block k (Nat.lt_of_lt_of_le hk (Nat.le_trans hB hb.size)) (fun e=>by have:k=X:=Option.some.inj e;omega)).trans (hb.block k hk)⟩
theorem below_st {B:Nat}{u w:World}(h:Below B u w) (X i:Nat) (v:Value) (hX:B<=X):Below B u (w.setCell ⟨X,i,none⟩ v):=h.setCell hX v
theorem al_ref (v:Value) (w:World):(Instr.typeAssert (.iface 67 v) 85 133 true).run Tryz.prog w=.ok (.tuple #[.agg #[.string ⟨#[]⟩],.bool false]) w:=by kernel_rfl
theorem al_not (v:Value) (w:World):(Instr.typeAssert (.iface 67 v) 85 135 true).run Tryz.prog w=.ok (.tuple #[.agg #[.nilIface],.bool false]) w:=by kernel_rfl
theorem al_neg (v:Value) (w:World):(Instr.typeAssert (.iface 67 v) 85 136 true).run Tryz.prog w=.ok (.tuple #[.agg #[.nilIface],.bool false]) w:=by kernel_rfl
theorem al_bin (v:Value) (w:World):(Instr.typeAssert (.iface 67 v) 85 138 true).run Tryz.prog w=.ok (.tuple #[.agg #[.string ⟨#[]⟩,.nilIface,.nilIface],.bool false]) w:=by kernel_rfl
theorem an_ref (w:World):(Instr.typeAssert .nilIface 85 133 true).run Tryz.prog w=.ok (.tuple #[.agg #[.string ⟨#[]⟩],.bool false]) w:=by kernel_rfl
theorem an_not (w:World):(Instr.typeAssert .nilIface 85 135 true).run Tryz.prog w=.ok (.tuple #[.agg #[.nilIface],.bool false]) w:=by kernel_rfl
theorem an_neg (w:World):(Instr.typeAssert .nilIface 85 136 true).run Tryz.prog w=.ok (.tuple #[.agg #[.nilIface],.bool false]) w:=by kernel_rfl
theorem an_bin (w:World):(Instr.typeAssert .nilIface 85 138 true).run Tryz.prog w=.ok (.tuple #[.agg #[.string ⟨#[]⟩,.nilIface,.nilIface],.bool false]) w:=by kernel_rfl
attribute [local go_sem] as_ref_ref as_not_ref as_not_not as_neg_ref as_neg_not as_neg_neg as_bin_ref as_bin_not as_bin_neg as_bin_bin al_ref al_not al_neg al_bin an_ref an_not an_neg an_bin
def CwC (v:Value):Prop:=∀ w,Calls Tryz.prog 169 #[v] w fun e w'=>e=.returned v/\Below w.heap.size w w'
theorem cw_lit (n:Int):CwC (.iface 67 (.agg #[.int .i64 n])):=by
 intro w
 go_enter Tryz.func169,Tryz.ntmps169
 go_wp2
 go_ret
 exact ⟨rfl,Below.refl _ _⟩
theorem cw_nil:CwC .nilIface:=by
 intro w
 go_enter Tryz.func169,Tryz.ntmps169
 go_wp2
 go_ret
 exact ⟨rfl,Below.refl _ _⟩
theorem cw_ref (s:ByteArray) (hs:s.size<=140737488351232):CwC (.iface 133 (.agg #[.string s])):=by
 intro w
 have h1:=fun w1=>pClone_any s w1 hs
 go_enter Tryz.func169,Tryz.ntmps169
 go_wp2_with (first
  | (go_at_call 13;refine (h1 _).mono ?_;rintro e w1 ⟨rfl,b1⟩))
 go_ret
 exact ⟨rfl,((Below.refl w.heap.size w).alloc Nat.le.refl _).trans (b1.mono (by simp))⟩
theorem cw_not (v:Value) (hv:Ifc v) (h:CwC v):CwC (.iface 135 (.agg #[v])):=by
 intro w
 rcases hv with rfl|⟨u,y,rfl⟩
 ·go_enter Tryz.func169,Tryz.ntmps169
  go_wp2_with (first
   | (go_at_call 169;refine (h _).mono ?_;rintro e w1 ⟨rfl,b1⟩))
  go_ret
  exact ⟨rfl,((Below.refl w.heap.size w).alloc Nat.le.refl _).trans (b1.mono (by simp))⟩
 ·go_enter Tryz.func169,Tryz.ntmps169
  go_wp2_with (first
   | (go_at_call 169;refine (h _).mono ?_;rintro e w1 ⟨rfl,b1⟩))
  go_ret
  exact ⟨rfl,((Below.refl w.heap.size w).alloc Nat.le.refl _).trans (b1.mono (by simp))⟩
theorem cw_neg (v:Value) (hv:Ifc v) (h:CwC v):CwC (.iface 136 (.agg #[v])):=by
 intro w
 rcases hv with rfl|⟨u,y,rfl⟩
 ·go_enter Tryz.func169,Tryz.ntmps169
  go_wp2_with (first
   | (go_at_call 169;refine (h _).mono ?_;rintro e w1 ⟨rfl,b1⟩))
  go_ret
  exact ⟨rfl,((Below.refl w.heap.size w).alloc Nat.le.refl _).trans (b1.mono (by simp))⟩
 ·go_enter Tryz.func169,Tryz.ntmps169
  go_wp2_with (first
   | (go_at_call 169;refine (h _).mono ?_;rintro e w1 ⟨rfl,b1⟩))
  go_ret
  exact ⟨rfl,((Below.refl w.heap.size w).alloc Nat.le.refl _).trans (b1.mono (by simp))⟩
theorem Below.nx {w wc w1:World}(h:Below w.heap.size w wc) (b:Below wc.heap.size wc w1):Below w.heap.size w w1:=h.trans (b.mono h.size)
theorem Below.nxd {w wc w1:World}(h:Below w.heap.size w wc) (b:Below wc.drew.heap.size wc.drew w1):Below w.heap.size w w1:=(h.drew).trans (b.mono h.size)
theorem cw_bin (s:ByteArray) (hs:s.size<=140737488351232) (u v:Value) (hu:Ifc u) (hv:Ifc v) (h:CwC u) (h':CwC v):CwC (.iface 138 (.agg #[.string s,u,v])):=by
 intro w
 have h1:=fun w1=>pClone_any s w1 hs
 have hal:=(Below.refl w.heap.size w).alloc Nat.le.refl (.cells #[.string s,u,v] 138)
 have c0:(w.alloc (.cells #[.string s,u,v] 138)).cell? ⟨w.heap.size,0,none⟩=some (.string s):=by simp
 have c1:(w.alloc (.cells #[.string s,u,v] 138)).cell? ⟨w.heap.size,1,none⟩=some u:=by simp
 have c2:(w.alloc (.cells #[.string s,u,v] 138)).cell? ⟨w.heap.size,2,none⟩=some v:=by simp
 have hlt:w.heap.size < (w.alloc (.cells #[.string s,u,v] 138)).heap.size:=by simp
 rcases hu with rfl|⟨u1,y1,rfl⟩<;>rcases hv with rfl|⟨u2,y2,rfl⟩
 ·have g1:∀ w1,Calls Tryz.prog 169 #[.nilIface] w1 fun e w'=>e=.returned (.nilIface)/\Below w1.heap.size w1 w':=h
  have g2:∀ w1,Calls Tryz.prog 169 #[.nilIface] w1 fun e w'=>e=.returned (.nilIface)/\Below w1.heap.size w1 w':=h'
  clear h h'
  go_enter Tryz.func169,Tryz.ntmps169
  go_upto_region 13 with fail
  generalize w.alloc (.cells #[.string s,.nilIface,.nilIface] 138)=wx at *
  have hB:Below wx.heap.size wx wx:=Below.refl _ _
  obtain ⟨S,hS⟩:∃ S,w.heap.size=S:=⟨_,rfl⟩
  rw [hS] at c0 c1 c2 hlt ⊢
  go_region_held_law (fun w'=>w'.cell? ⟨S,0,none⟩=some (.string s)/\w'.cell? ⟨S,1,none⟩=some (.nilIface)/\w'.cell? ⟨S,2,none⟩=some (.nilIface))
   (exact ⟨(hB.cell (p:=⟨S,0,none⟩) hlt).trans c0,(hB.cell (p:=⟨S,1,none⟩) hlt).trans c1,(hB.cell (p:=⟨S,2,none⟩) hlt).trans c2⟩)
   (first
    | (go_at_call 13;(with_reducible refine (h1 _).mono ?_);rintro e w1 ⟨rfl,b1⟩;first|have hB:=Below.nxd hB b1|have hB:=Below.nx hB b1)
    | (go_at_call 169;(with_reducible refine (g1 _).mono ?_);rintro e w1 ⟨rfl,b1⟩;first|have hB:=Below.nxd hB b1|have hB:=Below.nx hB b1)
    | (go_at_call 169;(with_reducible refine (g2 _).mono ?_);rintro e w1 ⟨rfl,b1⟩;first|have hB:=Below.nxd hB b1|have hB:=Below.nx hB b1)
    | fail)
  all_goals (
   go_wp2
   go_ret
   exact ⟨rfl,hal.trans (hB.mono (by rw [hS];omega))⟩)
 ·have g1:∀ w1,Calls Tryz.prog 169 #[.nilIface] w1 fun e w'=>e=.returned (.nilIface)/\Below w1.heap.size w1 w':=h
  have g2:∀ w1,Calls Tryz.prog 169 #[.iface u2 y2] w1 fun e w'=>e=.returned (.iface u2 y2)/\Below w1.heap.size w1 w':=h'
  clear h h'
  go_enter Tryz.func169,Tryz.ntmps169
  go_upto_region 13 with fail
  generalize w.alloc (.cells #[.string s,.nilIface,.iface u2 y2] 138)=wx at *
  have hB:Below wx.heap.size wx wx:=Below.refl _ _
  obtain ⟨S,hS⟩:∃ S,w.heap.size=S:=⟨_,rfl⟩
  rw [hS] at c0 c1 c2 hlt ⊢
  go_region_held_law (fun w'=>w'.cell? ⟨S,0,none⟩=some (.string s)/\w'.cell? ⟨S,1,none⟩=some (.nilIface)/\w'.cell? ⟨S,2,none⟩=some (.iface u2 y2))
   (exact ⟨(hB.cell (p:=⟨S,0,none⟩) hlt).trans c0,(hB.cell (p:=⟨S,1,none⟩) hlt).trans c1,(hB.cell (p:=⟨S,2,none⟩) hlt).trans c2⟩)
   (first
    | (go_at_call 13;(with_reducible refine (h1 _).mono ?_);rintro e w1 ⟨rfl,b1⟩;first|have hB:=Below.nxd hB b1|have hB:=Below.nx hB b1)
    | (go_at_call 169;(with_reducible refine (g1 _).mono ?_);rintro e w1 ⟨rfl,b1⟩;first|have hB:=Below.nxd hB b1|have hB:=Below.nx hB b1)
    | (go_at_call 169;(with_reducible refine (g2 _).mono ?_);rintro e w1 ⟨rfl,b1⟩;first|have hB:=Below.nxd hB b1|have hB:=Below.nx hB b1)
    | fail)
  all_goals (
   go_wp2
   go_ret
   exact ⟨rfl,hal.trans (hB.mono (by rw [hS];omega))⟩)
 ·have g1:∀ w1,Calls Tryz.prog 169 #[.iface u1 y1] w1 fun e w'=>e=.returned (.iface u1 y1)/\Below w1.heap.size w1 w':=h
  have g2:∀ w1,Calls Tryz.prog 169 #[.nilIface] w1 fun e w'=>e=.returned (.nilIface)/\Below w1.heap.size w1 w':=h'
  clear h h'
  go_enter Tryz.func169,Tryz.ntmps169
  go_upto_region 13 with fail
  generalize w.alloc (.cells #[.string s,.iface u1 y1,.nilIface] 138)=wx at *
  have hB:Below wx.heap.size wx wx:=Below.refl _ _
  obtain ⟨S,hS⟩:∃ S,w.heap.size=S:=⟨_,rfl⟩
  rw [hS] at c0 c1 c2 hlt ⊢
  go_region_held_law (fun w'=>w'.cell? ⟨S,0,none⟩=some (.string s)/\w'.cell? ⟨S,1,none⟩=some (.iface u1 y1)/\w'.cell? ⟨S,2,none⟩=some (.nilIface))
   (exact ⟨(hB.cell (p:=⟨S,0,none⟩) hlt).trans c0,(hB.cell (p:=⟨S,1,none⟩) hlt).trans c1,(hB.cell (p:=⟨S,2,none⟩) hlt).trans c2⟩)
   (first
    | (go_at_call 13;(with_reducible refine (h1 _).mono ?_);rintro e w1 ⟨rfl,b1⟩;first|have hB:=Below.nxd hB b1|have hB:=Below.nx hB b1)
    | (go_at_call 169;(with_reducible refine (g1 _).mono ?_);rintro e w1 ⟨rfl,b1⟩;first|have hB:=Below.nxd hB b1|have hB:=Below.nx hB b1)
    | (go_at_call 169;(with_reducible refine (g2 _).mono ?_);rintro e w1 ⟨rfl,b1⟩;first|have hB:=Below.nxd hB b1|have hB:=Below.nx hB b1)
    | fail)
  all_goals (
   go_wp2
   go_ret
   exact ⟨rfl,hal.trans (hB.mono (by rw [hS];omega))⟩)
 ·have g1:∀ w1,Calls Tryz.prog 169 #[.iface u1 y1] w1 fun e w'=>e=.returned (.iface u1 y1)/\Below w1.heap.size w1 w':=h
  have g2:∀ w1,Calls Tryz.prog 169 #[.iface u2 y2] w1 fun e w'=>e=.returned (.iface u2 y2)/\Below w1.heap.size w1 w':=h'
  clear h h'
  go_enter Tryz.func169,Tryz.ntmps169
  go_upto_region 13 with fail
  generalize w.alloc (.cells #[.string s,.iface u1 y1,.iface u2 y2] 138)=wx at *
  have hB:Below wx.heap.size wx wx:=Below.refl _ _
  obtain ⟨S,hS⟩:∃ S,w.heap.size=S:=⟨_,rfl⟩
  rw [hS] at c0 c1 c2 hlt ⊢
  go_region_held_law (fun w'=>w'.cell? ⟨S,0,none⟩=some (.string s)/\w'.cell? ⟨S,1,none⟩=some (.iface u1 y1)/\w'.cell? ⟨S,2,none⟩=some (.iface u2 y2))
   (exact ⟨(hB.cell (p:=⟨S,0,none⟩) hlt).trans c0,(hB.cell (p:=⟨S,1,none⟩) hlt).trans c1,(hB.cell (p:=⟨S,2,none⟩) hlt).trans c2⟩)
   (first
    | (go_at_call 13;(with_reducible refine (h1 _).mono ?_);rintro e w1 ⟨rfl,b1⟩;first|have hB:=Below.nxd hB b1|have hB:=Below.nx hB b1)
    | (go_at_call 169;(with_reducible refine (g1 _).mono ?_);rintro e w1 ⟨rfl,b1⟩;first|have hB:=Below.nxd hB b1|have hB:=Below.nx hB b1)
    | (go_at_call 169;(with_reducible refine (g2 _).mono ?_);rintro e w1 ⟨rfl,b1⟩;first|have hB:=Below.nxd hB b1|have hB:=Below.nx hB b1)
    | fail)
  all_goals (
   go_wp2
   go_ret
   exact ⟨rfl,hal.trans (hB.mono (by rw [hS];omega))⟩)
theorem ifc_of (d:Nat) (t:T d):Ifc (exV d t):=exV_form d t
theorem copiedW:∀ (d:Nat) (t:T d),Cl d t->shrt 1000 d t=true->CwC (exV d t)
 | 0,t,_,_=>Empty.elim t
 | d+1,t,hc,hs=>by
  rcases hc.cases with ⟨n,rfl⟩|⟨s,rfl⟩|⟨k,p,hk,rfl,hp⟩|⟨s,p,q,rfl,hp,hq⟩|rfl
  ·exact cw_lit n
  ·rw [shrt_mk,Bool.and_eq_true,decide_eq_true_eq] at hs
   exact cw_ref s (by omega)
  ·rw [shrt_mk,Bool.and_eq_true,List.all_cons,Bool.and_eq_true] at hs
   have h:=copiedW d p hp hs.2.1
   rcases hk with rfl|rfl
   ·exact cw_not _ (ifc_of d p) h
   ·exact cw_neg _ (ifc_of d p) h
  ·rw [shrt_mk,Bool.and_eq_true,decide_eq_true_eq,List.all_cons,Bool.and_eq_true,List.all_cons,Bool.and_eq_true] at hs
   exact cw_bin s (by omega) _ _ (ifc_of d p) (ifc_of d q) (copiedW d p hp hs.2.1) (copiedW d q hq hs.2.2.1)
  ·exact cw_nil
theorem copied_any {d:Nat}{t:T d}(hc:Cl d t) (hn:cnt d t<=100000) (hs:shrt 1000 d t=true) (w:World):Calls Tryz.prog 148 #[exV d t] w fun e w'=>e=.returned (exV d t)/\Below w.heap.size w w':=by
 have h1:=fun w1=>pNodes_cnt d t w1 hc hn
 have h2:∀ w1,Calls Tryz.prog 169 #[exV d t] w1 fun e w'=>e=.returned (exV d t)/\Below w1.heap.size w1 w':=copiedW d t hc hs
 generalize exV d t=v at *
 obtain ⟨n,hn⟩:∃ n,min (cnt d t) 41=n:=⟨_,rfl⟩
 rw [hn] at h1
 clear hn
 by_cases hq:40 < n
 ·have i1:(40:Int) < (n:Int):=by omega
  go_enter Tryz.func148,Tryz.ntmps148
  go_wp2_with (first
   | (go_at_call 43;refine (h1 _).mono ?_;rintro e w1 ⟨rfl,b1⟩))
  go_ret
  exact ⟨rfl,b1⟩
 ·have i1:¬ (40:Int) < (n:Int):=by omega
  go_enter Tryz.func148,Tryz.ntmps148
  go_wp2_with (first
   | (go_at_call 43;refine (h1 _).mono ?_;rintro e w1 ⟨rfl,b1⟩)
   | (go_at_call 169;refine (h2 _).mono ?_;rintro e w2 ⟨rfl,b2⟩))
  go_ret
  exact ⟨rfl,Below.nx b1 b2⟩
def Nw (B:Nat) (w:World) (b:Nat):Prop:=B<=b/\∀ j,w.frozen? ⟨b,j,none⟩=false
theorem Nw.to {B B':Nat}{w w':World}{b:Nat}(h:Nw B w b) (hB:B'<=b) (hq:w'.heap[b]?=w.heap[b]?):Nw B' w' b/\w'.heap[b]?=w.heap[b]?:=⟨⟨hB,fun j=>(frozen_of_block hq).trans (h.2 j)⟩,hq⟩
def RowG {α:Type}(w:World) (G k n:Nat) (R:(Nat->Prop)->World->α->List Value->Prop) (l:List α):Prop:=
 (∀ j,j < n*k->(∃ u,w.cell? ⟨G,j,none⟩=some u)/\w.frozen? ⟨G,j,none⟩=false)/\
 (∀ (i:Nat) (h:i < l.length),∃ cs,cs.length=k/\R (Nw (G+1) w) w l[i] cs/\∀ j u,cs[j]?=some u->w.cell? ⟨G,i*k+j,none⟩=some u)/\
 ∀ j,w.frozen? ⟨G,j,none⟩=false
theorem RowG.made {α:Type}(w:World) (z:Array Value) (k n:Nat) (e:TypeId) (R:(Nat->Prop)->World->α->List Value->Prop):RowG (w.alloc (.cells (madeCells z (n*k)) e)) w.heap.size k n R ([]:List α):=by
 refine ⟨fun j hj=>⟨?_,by simp⟩,fun i h=>absurd h (by simp),fun j=>by simp⟩
 rw [World.cell?_alloc_new]
 have hs:j < (madeCells z (n*k)).size:=by rw [size_madeCells];exact hj
 exact ⟨_,Array.getElem?_eq_getElem hs⟩
theorem RowG.on {α:Type}{w w':World}{G k n:Nat}{R:(Nat->Prop)->World->α->List Value->Prop}{l:List α}(hR:Kp R) (hG:G < w.heap.size) (h:RowG w G k n R l) (hb:Below w.heap.size w w'):RowG w' G k n R l:=by
 refine ⟨fun j hj=>?_,fun i hi=>?_,fun j=>(hb.frozen (p:=⟨G,j,none⟩) hG).trans (h.2.2 j)⟩
 ·obtain ⟨⟨u,hu⟩,hf⟩:=h.1 j hj
  exact ⟨⟨u,(hb.cell (p:=⟨G,j,none⟩) hG).trans hu⟩,(hb.frozen (p:=⟨G,j,none⟩) hG).trans hf⟩
 ·obtain ⟨cs,h1,h2,h3⟩:=h.2.1 i hi
  exact ⟨cs,h1,hR h2 (fun b hb' hl=>hb'.to hb'.1 (hb.block b hl)),fun j u hu=>(hb.cell (p:=⟨G,i*k+j,none⟩) hG).trans (h3 j u hu)⟩
theorem putL_cell:∀ (cs:List Value) (w:World) (G o j:Nat),(∀ i,i < cs.length->∃ u,w.cell? ⟨G,o+i,none⟩=some u)->(putL w G o cs).cell? ⟨G,j,none⟩=if o<=j/\j < o+cs.length then cs[j - o]? else w.cell? ⟨G,j,none⟩
 | [],w,G,o,j,_=>by rw [if_neg (by simp only [List.length_nil];omega)];rfl
 | c :: cs,w,G,o,j,h=>by
  have h':∀ i,i < cs.length->∃ u,(w.setCell ⟨G,o,none⟩ c).cell? ⟨G,o+1+i,none⟩=some u:=fun i hi=>by
   obtain ⟨u,hu⟩:=h (i+1) (by simp;omega)
   exact ⟨u,cell_far4 (by omega) (by rw [show o+1+i=o+(i+1) by omega];exact hu)⟩
  show (putL (w.setCell ⟨G,o,none⟩ c) G (o+1) cs).cell? ⟨G,j,none⟩=_
  rw [putL_cell cs _ G (o+1) j h']
  obtain ⟨u,hu⟩:=h 0 (by simp)
  rw [Nat.add_zero] at hu
  by_cases hj:o+1<=j/\j < o+1+cs.length
  ·rw [if_pos hj,if_pos (by simp only [List.length_cons];omega),show j - o=(j - (o+1))+1 by omega,List.getElem?_cons_succ]
  ·rw [if_neg hj]
   by_cases he:o=j
   ·subst he
    rw [if_pos (by simp only [List.length_cons];omega),Nat.sub_self,List.getElem?_cons_zero]
    exact cell_same4 hu
   ·rw [if_neg (by simp only [List.length_cons];omega)]
    cases hw:w.cell? ⟨G,j,none⟩ with
    | some v=>exact cell_far4 (by omega) hw
    | none=>
     unfold World.setCell World.cell? at *
     simp only [Array.getElem?_modify] at hw ⊢
     by_cases hb:w.heap[G]?=none
     ·simp [hb]
     ·obtain ⟨x,hx⟩:=Option.ne_none_iff_exists'.1 hb
      simp only [hx] at hw ⊢
      cases x<;>simp_all [Array.getElem?_set]
theorem putL_frozen:∀ (cs:List Value) (w:World) (G o:Nat) (p:Addr),(putL w G o cs).frozen? p=w.frozen? p
 | [],w,G,o,p=>rfl
 | c :: cs,w,G,o,p=>by
  show (putL (w.setCell ⟨G,o,none⟩ c) G (o+1) cs).frozen? p=_
  rw [putL_frozen cs _ G (o+1) p]
  exact World.frozen?_setCell _ _ _ _
theorem mul_in {i j k m:Nat}(hi:i < m) (hj:j < k):i*k+j < m*k:=by
 have:(i+1)*k<=m*k:=Nat.mul_le_mul_right k hi
 rw [Nat.succ_mul] at this
 omega
theorem RowG.put {α:Type}{w:World}{G k n:Nat}{R:(Nat->Prop)->World->α->List Value->Prop}{l:List α}{x:α}{cs:List Value}(hR:Kp R) (h:RowG w G k n R l) (hl:l.length < n) (hk:cs.length=k) (hp:R (Nw (G+1) w) w x cs):RowG (putL w G (l.length*k) cs) G k n R (l++[x]):=by
 have hin:∀ i,i < cs.length->∃ u,w.cell? ⟨G,l.length*k+i,none⟩=some u:=fun i hi=>(h.1 _ (mul_in hl (by omega))).1
 have hc:=fun j=>putL_cell cs w G (l.length*k) j hin
 have hkp:∀ b,Nw (G+1) w b->b < w.heap.size->Nw (G+1) (putL w G (l.length*k) cs) b/\(putL w G (l.length*k) cs).heap[b]?=w.heap[b]?:=fun b hb _=>hb.to hb.1 (putL_heap cs w G _ b (by have:=hb.1;omega))
 refine ⟨fun j hj=>⟨?_,(putL_frozen cs w G _ _).trans (h.1 j hj).2⟩,fun i hi=>?_,fun j=>(putL_frozen cs w G _ _).trans (h.2.2 j)⟩
 ·rw [hc]
  split
  ·next hr=>exact ⟨_,List.getElem?_eq_getElem (by omega)⟩
  ·exact (h.1 j hj).1
 ·rcases Nat.lt_or_ge i l.length with hlt|hge
  ·obtain ⟨cs',h1,h2,h3⟩:=h.2.1 i hlt
   rw [List.getElem_append_left hlt]
   refine ⟨cs',h1,hR h2 hkp,fun j u hu=>?_⟩
   have hjk:j < k:=by
    have:=(List.getElem?_eq_some_iff.1 hu).1
    omega
   have:=mul_in hlt hjk
   rw [hc,if_neg (by omega)]
   exact h3 j u hu
  ·have:i=l.length:=by simp at hi;omega
   subst this
   have e1:(l++[x])[l.length]=x:=by simp
   rw [e1]
   refine ⟨cs,hk,hR hp hkp,fun j u hu=>?_⟩
   have hjk:j < k:=by
    have:=(List.getElem?_eq_some_iff.1 hu).1
    omega
   rw [hc,if_pos (by omega),Nat.add_sub_cancel_left]
   exact hu
theorem RowG.rd {α:Type}{w:World}{G k n:Nat}{R:(Nat->Prop)->World->α->List Value->Prop}{l:List α}(hR:Kp R) (h:RowG w G k n R l) (hG:G < w.heap.size) (hn:l.length=n) (hm:n<=maxLen):RdK (Nw G w) w k (R (Nw G w) w) l (.slice (some ⟨G,0,none⟩) n n):=by
 subst hn
 refine ⟨some ⟨G,0,none⟩,l.length,rfl,Nat.le_refl _,hm,fun i hi=>?_⟩
 obtain ⟨cs,h1,h2,h3⟩:=h.2.1 i hi
 refine ⟨G,0,cs,rfl,⟨Nat.le_refl _,h.2.2⟩,hG,h1,hR h2 (fun b hb _=>hb.to (by have:=hb.1;omega) rfl),fun j u hu=>?_⟩
 rw [Nat.zero_add]
 exact h3 j u hu
