import Derived.Test.YtlkdaldfklaicaaGreatDoorWvc11
import Derived.Test.YtlkdaldfklaicaaGreatDoorWvc08
import Derived.Test.YtlkdaldfklaicaaGreatDoorRows
import Derived.Test.YtlkdaldfklaicaaGreatDoorWvc01
import Derived.Deep.RegionLaw
import Derived.Deep.CutBlock
import Derived.Test.YtlkdaldfklaicaaGreatDoorWvc04
import Derived.Deep.RegionHeldLaw
import Derived.Test.YtlkdaldfklaicaaGreatDoorWvc03
import Derived.Deep.DeepCutAuto
import Derived.Shelf.LaysC
import Derived.Shelf.Strconv.AtoiAll
import Derived.Test.YtlkdaldfklaicaaGreatDoorWvc06
set_option maxRecDepth 100000
set_option maxHeartbeats 32000000
namespace Go.Proofs.YtlkdaldfklaicaaGreatDoor
open Go.ChangeShapes Go.WideShapes Go.ChangeAt Go.RowKit
set_option linter.unusedSimpArgs false
set_option linter.unusedVariables false
theorem zdO {H:Type}{P:Program}{e:TypeId}:∀ {l:List (DataW H)}{d:DataW H},d∈l->∀ n∈d.weights P e,n∈DataW.weightsAll P e l
 | x :: r,d,h,n,hn=>by
  simp only [DataW.weightsAll,List.mem_append]
  rcases List.mem_cons.1 h with rfl|h
  ·exact .inl hn
  ·exact .inr (zdO h n hn)
def Wt {H:Type}(t:TypeId) (d:DataW H):Prop:=∀ n∈d.weights Tryz.prog t,n<=reachBytes
theorem Wt.field {H:Type}{t u:TypeId}{fs:Array Field}{f:Field}{xs:List (DataW H × List MemPlace)}{y:DataW H × List MemPlace}(hu:Tryz.prog.underlying t=some (.struct fs)) (h:Wt t (.agg (xs.map (·.1)))) (j:Nat) (hf:fs[j]?=some f) (hy:xs[j]?=some y) (ht:f.type=u):Wt u y.1:=fun n hn=>by
 refine h n ?_
 simp only [DataW.weights,hu]
 refine DataW.weights_mem_each (j:=j) (t:=u) (d:=y.1) ?_ (by simp [hy]) n hn
 simp [hf,ht]
theorem zjj {w:World}{a:Addr}{v:Value}(h:w.cell? (a.add 0)=some v):a=⟨a.block,a.off,none⟩:=by
 rw [show a.add 0=a from by simp [Addr.add]] at h
 unfold World.cell? at h
 split at h
 ·obtain ⟨b,o,s⟩:=a
  cases s with
  | none=>rfl
  | some x=>simp at h
 ·cases h
theorem RdK.both {α:Type}{ok:Nat->Prop}{w:World}{k:Nat}{R:α->List Value->Prop}{Q:α->Prop}{l:List α}{v:Value}(h:RdK ok w k (fun x cs=>R x cs/\Q x) l v):RdK ok w k R l v/\∀ x∈l,Q x:=by
 obtain ⟨a,cap,h1,h2,h3,h4⟩:=h
 refine ⟨⟨a,cap,h1,h2,h3,fun i hi=>?_⟩,fun x hx=>?_⟩
 ·obtain ⟨b,off,cs,q1,q2,q3,q4,q5,q6⟩:=h4 i hi
  exact ⟨b,off,cs,q1,q2,q3,q4,q5.1,q6⟩
 ·obtain ⟨i,hi,rfl⟩:=List.getElem_of_mem hx
  obtain ⟨b,off,cs,q1,q2,q3,q4,q5,q6⟩:=h4 i hi
  exact q5.2
section
variable {H:Type}{enc:TypeId × Value->H}{W:World}
theorem zcH {α:Type}{k:Nat}{R:α->List Value->Prop}{sl el:TypeId}(hu:Tryz.prog.underlying sl=some (.slice el)) (hc:Tryz.prog.cellsOf el=k) (hk:0 < k) (hby:decide (1<=Tryz.prog.bytesOf el)=true) {fuel:Nat}{cs:List Value}{x:DataW H × List MemPlace}
  (h:DataW.trod enc Tryz.prog W 0 (fun _=>true) true fuel sl cs=some x) (hw:Wt sl x.1) (hel:∀ n' cs' y,fuel=n'+1->DataW.trod enc Tryz.prog W 0 (fun _=>true) true n' el cs'=some y->Wt el y.1->∃ a,R a cs') :
  ∃ (l:List α) (v:Value),cs=[v]/\RdK (fun _=>True) W k R l v/\l.length<=140737488351232:=by
 rcases DataW.trod_slice hu h with ⟨rfl,_⟩|⟨ad,len,cap,elems,rest,n',hn',rfl,rfl,_,hlc,hcm,hel',helt,_,_⟩
 ·exact ⟨[],_,rfl,zaO _ _ _ _,by simp⟩
 ·have hlw:len<=140737488351232:=by
   have h0:=hw ((elems.length+rest.length)*Tryz.prog.bytesOf el) (by simp [DataW.weights,hu])
   have h1:(elems.length+rest.length)*1<=(elems.length+rest.length)*Tryz.prog.bytesOf el:=Nat.mul_le_mul_left _ (of_decide_eq_true hby)
   have h2:reachBytes=140737488351232:=rfl
   omega
  rw [hc] at helt
  have hall:∀ i,i < len->∃ q:α × List Value,W.cells? 0 (ad.add (i*k)) k=some q.2/\R q.1 q.2:=by
   intro i hi
   have h1:=helt i hi
   have hie:i < elems.length:=by omega
   rw [List.getElem?_eq_getElem hie] at h1
   obtain ⟨cs',h2,h3⟩:=Option.bind_eq_some_iff.1 h1
   obtain ⟨a,ha⟩:=hel n' cs' _ hn' h3 (fun n hn=>by
    refine hw n ?_
    simp only [DataW.weights,hu]
    exact List.mem_cons_of_mem _ (List.mem_append_left _ (zdO (List.mem_map_of_mem (List.getElem_mem hie)) n hn)))
   exact ⟨(a,cs'),h2,ha⟩
  obtain ⟨l,hll,hfy⟩:=znf len hall
  refine ⟨l.map (·.1),_,rfl,⟨some ad,cap,by simp [hll],by simpa [hll] using hlc,hcm,fun i hi=>?_⟩,by simpa [hll] using hlw⟩
  have hi':i < l.length:=by simpa using hi
  obtain ⟨_,q2,q3⟩:=World.cells?_some (hfy 0 (by omega)).1
  obtain ⟨_,g2,g3⟩:=World.cells?_some (hfy i hi').1
  have hs:ad=⟨ad.block,ad.off,none⟩:=by
   have:=q3 0 hk
   rw [Nat.zero_mul,show (ad.add 0).add 0=ad.add 0 from by simp [Addr.add],List.getElem?_eq_getElem (by omega)] at this
   exact zjj this
  generalize ad.block=b at hs
  generalize ad.off=off at hs
  subst hs
  have g4:∀ j u,(l[i]).2[j]?=some u->W.cell? ⟨b,off+i*k+j,none⟩=some u:=fun j u hj=>by
   have hjl:=(List.getElem?_eq_some_iff.1 hj).1
   have:=g3 j (by omega)
   rw [zbb,zbb,hj] at this
   exact this
  refine ⟨b,off,(l[i]).2,rfl,trivial,?_,g2,?_,g4⟩
  ·exact World.block_lt_of_cell? W _ (g4 0 _ (List.getElem?_eq_getElem (by omega)))
  ·rw [List.getElem_map]
   exact (hfy i hi').2
theorem zem {fuel:Nat}{cs:List Value}{x:DataW H × List MemPlace}(h:DataW.trod enc Tryz.prog W 0 (fun _=>true) true fuel 79 cs=some x) :
  ∃ (x:Sx) (c0 c1 c2 c3:Value),cs=[c0,c1,c2,c3]/\RdX (fun _=>True) W x (.agg #[c0,c1,c2,c3]):=by
 obtain ⟨d,t,c0,c1,c2,c3,_,hcs,hr⟩:=zeT fuel fuel zn2 h
 exact ⟨⟨d,t⟩,c0,c1,c2,c3,hcs,hr⟩
theorem zc8 {fuel:Nat}{cs:List Value}{x:DataW H × List MemPlace}(h:DataW.trod enc Tryz.prog W 0 (fun _=>true) true fuel 23 cs=some x):∃ p:Pl,cs=[.int .i64 p.1,.int .i64 p.2]:=by
 obtain ⟨xs,n,_,rfl,hl,hlen,hf⟩:=DataW.trod_struct Tryz.underlying23 h
 have hc:Tryz.prog.cellsOf 23=2:=by kernel_rfl
 have cI:Tryz.prog.cellsOf 3=1:=by kernel_rfl
 rw [hc] at hl
 have f0:DataW.trod enc Tryz.prog W 0 (fun _=>true) true n 3 ((cs.drop 0).take (Tryz.prog.cellsOf 3))=xs[0]?:=hf 0 _ rfl
 have f1:DataW.trod enc Tryz.prog W 0 (fun _=>true) true n 3 ((cs.drop 1).take (Tryz.prog.cellsOf 3))=xs[1]?:=hf 1 _ rfl
 rw [cI] at f0 f1
 match cs,hl,xs,hlen with
 | [a,b],_,[y0,y1],_=>
  simp only [List.drop_zero,List.take_succ_cons,List.take_zero,List.drop_succ_cons,List.getElem?_cons_zero,List.getElem?_cons_succ] at f0 f1
  obtain ⟨k,e0,_,_⟩:=DataW.trod_int Tryz.underlying3 f0
  obtain ⟨m,e1,_,_⟩:=DataW.trod_int Tryz.underlying3 f1
  simp only [List.cons.injEq,and_true] at e0 e1
  subst e0 e1
  exact ⟨(k,m),rfl⟩
theorem zc4 {s:ByteArray}(h:Wt (H:=H) 9 (.lit (.string s.data.toList))):s.size<=140737488351232:=by
 have:=h s.data.toList.length (by simp [DataW.weights])
 simpa [reachBytes] using this
theorem zdQ (s:ByteArray):Value.string s=sD s.data.toList:=by unfold sD;simp
def WfI (n:Int):Prop:=(Lit.int .i64 n).wf=true
def WfV (v:List UInt8 × Int × Pl):Prop:=v.1.length<=140737488351232
theorem ziQ {fuel:Nat}{cs:List Value}{x:DataW H × List MemPlace}(h:DataW.trod enc Tryz.prog W 0 (fun _=>true) true fuel 50 cs=some x) (hw:Wt 50 x.1):∃ v,zb0 (fun _=>True) W v cs/\WfV v:=by
 obtain ⟨xs,n,_,rfl,hl,hlen,hf⟩:=DataW.trod_struct Tryz.underlying50 h
 have hc:Tryz.prog.cellsOf 50=4:=by kernel_rfl
 have cL:Tryz.prog.cellsOf 2=1:=by kernel_rfl
 have c9:Tryz.prog.cellsOf 9=1:=by kernel_rfl
 have cp:Tryz.prog.cellsOf 23=2:=by kernel_rfl
 rw [hc] at hl
 have f0:DataW.trod enc Tryz.prog W 0 (fun _=>true) true n 9 ((cs.drop 0).take (Tryz.prog.cellsOf 9))=xs[0]?:=hf 0 _ rfl
 have f1:DataW.trod enc Tryz.prog W 0 (fun _=>true) true n 2 ((cs.drop 1).take (Tryz.prog.cellsOf 2))=xs[1]?:=hf 1 _ rfl
 have f2:DataW.trod enc Tryz.prog W 0 (fun _=>true) true n 23 ((cs.drop 2).take (Tryz.prog.cellsOf 23))=xs[2]?:=hf 2 _ rfl
 rw [c9] at f0
 rw [cL] at f1
 rw [cp] at f2
 match cs,hl,xs,hlen with
 | [a,b,c,e],_,[y0,y1,y2],_=>
  have w0:=hw.field Tryz.underlying50 0 rfl rfl rfl
  simp only [List.drop_zero,List.take_succ_cons,List.take_zero,List.drop_succ_cons,List.getElem?_cons_zero,List.getElem?_cons_succ] at f0 f1 f2
  obtain ⟨s,e0,rfl,_⟩:=DataW.trod_string Tryz.underlying9 f0
  obtain ⟨m,e1,_,_⟩:=DataW.trod_int Tryz.underlying2 f1
  obtain ⟨p,e2⟩:=zc8 f2
  simp only [List.cons.injEq,and_true] at e0 e1 e2
  obtain ⟨e2,e3⟩:=e2
  subst e0 e1 e2 e3
  refine ⟨(s.data.toList,m,p),?_,?_⟩
  ·show [_,_,_,_]=[sD s.data.toList,_,_,_]
   rw [zdQ]
  ·have:=zc4 w0
   simpa [WfV] using this
def WfT (s:List UInt8 × Sx):Prop:=s.1.length<=140737488351232
def WfO (o:OnC):Prop:=o.1.length<=140737488351232/\o.2.2.1.length<=140737488351232/\o.2.2.2.1.length<=140737488351232/\∀ s∈o.2.2.2.1,WfT s
theorem zjo {fuel:Nat}{cs:List Value}{x:DataW H × List MemPlace}(h:DataW.trod enc Tryz.prog W 0 (fun _=>true) true fuel 85 cs=some x) (hw:Wt 85 x.1):∃ s,zbf (fun _=>True) W s cs/\WfT s:=by
 obtain ⟨xs,n,_,rfl,hl,hlen,hf⟩:=DataW.trod_struct Tryz.underlying85 h
 have hc:Tryz.prog.cellsOf 85=5:=by kernel_rfl
 have c9:Tryz.prog.cellsOf 9=1:=by kernel_rfl
 have cn:Tryz.prog.cellsOf 79=4:=by kernel_rfl
 rw [hc] at hl
 have f0:DataW.trod enc Tryz.prog W 0 (fun _=>true) true n 9 ((cs.drop 0).take (Tryz.prog.cellsOf 9))=xs[0]?:=hf 0 _ rfl
 have f1:DataW.trod enc Tryz.prog W 0 (fun _=>true) true n 79 ((cs.drop 1).take (Tryz.prog.cellsOf 79))=xs[1]?:=hf 1 _ rfl
 rw [c9] at f0
 rw [cn] at f1
 match cs,hl,xs,hlen with
 | [a,b,c,e,g],_,[y0,y1],_=>
  have w0:=hw.field Tryz.underlying85 0 rfl rfl rfl
  simp only [List.drop_zero,List.take_succ_cons,List.take_zero,List.drop_succ_cons,List.getElem?_cons_zero,List.getElem?_cons_succ] at f0 f1
  obtain ⟨s,e0,rfl,_⟩:=DataW.trod_string Tryz.underlying9 f0
  obtain ⟨x,c0,c1,c2,c3,e1,hr⟩:=zem f1
  simp only [List.cons.injEq,and_true] at e0 e1
  obtain ⟨q0,q1,q2,q3⟩:=e1
  subst e0 q0 q1 q2 q3
  refine ⟨(s.data.toList,x),⟨_,_,_,_,?_,hr⟩,?_⟩
  ·rw [<- zdQ]
  ·have:=zc4 w0
   simpa [WfT] using this
theorem zjN {fuel:Nat}{cs:List Value}{x:DataW H × List MemPlace}(h:DataW.trod enc Tryz.prog W 0 (fun _=>true) true fuel 82 cs=some x) (hw:Wt 82 x.1):∃ o,zba (fun _=>True) W o cs/\WfO o:=by
 obtain ⟨xs,n,_,rfl,hl,hlen,hf⟩:=DataW.trod_struct Tryz.underlying82 h
 have hc:Tryz.prog.cellsOf 82=10:=by kernel_rfl
 have c9:Tryz.prog.cellsOf 9=1:=by kernel_rfl
 have c4:Tryz.prog.cellsOf 4=1:=by kernel_rfl
 have cn:Tryz.prog.cellsOf 79=4:=by kernel_rfl
 have cs1:Tryz.prog.cellsOf 80=1:=by kernel_rfl
 have cp:Tryz.prog.cellsOf 23=2:=by kernel_rfl
 have c5:Tryz.prog.cellsOf 85=5:=by kernel_rfl
 rw [hc] at hl
 have f0:DataW.trod enc Tryz.prog W 0 (fun _=>true) true n 9 ((cs.drop 0).take (Tryz.prog.cellsOf 9))=xs[0]?:=hf 0 _ rfl
 have f1:DataW.trod enc Tryz.prog W 0 (fun _=>true) true n 4 ((cs.drop 1).take (Tryz.prog.cellsOf 4))=xs[1]?:=hf 1 _ rfl
 have f2:DataW.trod enc Tryz.prog W 0 (fun _=>true) true n 79 ((cs.drop 2).take (Tryz.prog.cellsOf 79))=xs[2]?:=hf 2 _ rfl
 have f3:DataW.trod enc Tryz.prog W 0 (fun _=>true) true n 9 ((cs.drop 6).take (Tryz.prog.cellsOf 9))=xs[3]?:=hf 3 _ rfl
 have f4:DataW.trod enc Tryz.prog W 0 (fun _=>true) true n 80 ((cs.drop 7).take (Tryz.prog.cellsOf 80))=xs[4]?:=hf 4 _ rfl
 have f5:DataW.trod enc Tryz.prog W 0 (fun _=>true) true n 23 ((cs.drop 8).take (Tryz.prog.cellsOf 23))=xs[5]?:=hf 5 _ rfl
 rw [c9] at f0 f3
 rw [c4] at f1
 rw [cn] at f2
 rw [cs1] at f4
 rw [cp] at f5
 match cs,hl,xs,hlen with
 | [a0,a1,a2,a3,a4,a5,a6,a7,a8,a9],_,[y0,y1,y2,y3,y4,y5],_=>
  have w0:=hw.field Tryz.underlying82 0 rfl rfl rfl
  have w3:=hw.field Tryz.underlying82 3 rfl rfl rfl
  have w4:=hw.field Tryz.underlying82 4 rfl rfl rfl
  simp only [List.drop_zero,List.take_succ_cons,List.take_zero,List.drop_succ_cons,List.getElem?_cons_zero,List.getElem?_cons_succ] at f0 f1 f2 f3 f4 f5
  obtain ⟨ev,e0,rfl,_⟩:=DataW.trod_string Tryz.underlying9 f0
  obtain ⟨hs,e1,_⟩:=DataW.trod_bool Tryz.underlying4 f1
  obtain ⟨gx,c0,c1,c2,c3,e2,hr⟩:=zem f2
  obtain ⟨tg,e3,rfl,_⟩:=DataW.trod_string Tryz.underlying9 f3
  obtain ⟨l,sl,e4,hsl,hsn⟩:=zcH (k:=5) (R:=fun s cs=>zbf (fun _=>True) W s cs/\WfT s) Tryz.underlying80 c5 (by decide) (by kernel_rfl) f4 w4 (fun n' cs' y _ hy hwy=>zjo hy hwy)
  obtain ⟨p,e5⟩:=zc8 f5
  simp only [List.cons.injEq,and_true] at e0 e1 e2 e3 e4 e5
  obtain ⟨q0,q1,q2,q3⟩:=e2
  obtain ⟨q4,q5⟩:=e5
  subst e0 e1 q0 q1 q2 q3 e3 e4 q4 q5
  obtain ⟨hsl,hwt⟩:=hsl.both
  refine ⟨(ev.data.toList,(hs,gx),tg.data.toList,l,p),⟨_,_,_,_,_,?_,hr,hsl⟩,?_,?_,hsn,hwt⟩
  ·rw [<- zdQ,<- zdQ]
  ·have:=zc4 w0
   simpa using this
  ·have:=zc4 w3
   simpa using this
def WfS:(d:Nat)->St d->Prop
 | 0,t=>Empty.elim t
 | d+1,t=>WfI t.1.2.2.2.1.1/\WfI t.1.2.2.2.1.2/\(t.1.1.1.length<=140737488351232/\t.1.2.2.1.1.length<=140737488351232/\t.1.2.2.1.2.length<=140737488351232/\t.1.2.2.2.2.length<=140737488351232/\∀ o∈t.1.2.2.2.2,WfO o)/\t.2.length<=140737488351232/\∀ x∈t.2,WfS d x
theorem zf7:∀ (m fuel:Nat),fuel<=m->∀ {cs:List Value}{x:DataW H × List MemPlace},DataW.trod enc Tryz.prog W 0 (fun _=>true) true fuel 76 cs=some x->Wt 76 x.1->∃ t,zad (fuel / 2) (fun _=>True) W t cs/\WfS (fuel / 2) t
 | 0,fuel,hf,cs,x,h,_=>by
  obtain rfl:fuel=0:=by omega
  simp [DataW.trod] at h
 | m+1,fuel,hf,cs,x,h,hw=>by
  obtain ⟨xs,n,rfl,rfl,hl,hlen,hf'⟩:=DataW.trod_struct Tryz.underlying76 h
  have hc:Tryz.prog.cellsOf 76=11:=by kernel_rfl
  have c9:Tryz.prog.cellsOf 9=1:=by kernel_rfl
  have c4:Tryz.prog.cellsOf 4=1:=by kernel_rfl
  have c3:Tryz.prog.cellsOf 3=1:=by kernel_rfl
  have cp:Tryz.prog.cellsOf 23=2:=by kernel_rfl
  have co:Tryz.prog.cellsOf 74=1:=by kernel_rfl
  have cst:Tryz.prog.cellsOf 25=1:=by kernel_rfl
  have c10:Tryz.prog.cellsOf 82=10:=by kernel_rfl
  rw [hc] at hl
  have f0:DataW.trod enc Tryz.prog W 0 (fun _=>true) true n 9 ((cs.drop 0).take (Tryz.prog.cellsOf 9))=xs[0]?:=hf' 0 _ rfl
  have f1:DataW.trod enc Tryz.prog W 0 (fun _=>true) true n 23 ((cs.drop 1).take (Tryz.prog.cellsOf 23))=xs[1]?:=hf' 1 _ rfl
  have f2:DataW.trod enc Tryz.prog W 0 (fun _=>true) true n 4 ((cs.drop 3).take (Tryz.prog.cellsOf 4))=xs[2]?:=hf' 2 _ rfl
  have f3:DataW.trod enc Tryz.prog W 0 (fun _=>true) true n 4 ((cs.drop 4).take (Tryz.prog.cellsOf 4))=xs[3]?:=hf' 3 _ rfl
  have f4:DataW.trod enc Tryz.prog W 0 (fun _=>true) true n 9 ((cs.drop 5).take (Tryz.prog.cellsOf 9))=xs[4]?:=hf' 4 _ rfl
  have f5:DataW.trod enc Tryz.prog W 0 (fun _=>true) true n 9 ((cs.drop 6).take (Tryz.prog.cellsOf 9))=xs[5]?:=hf' 5 _ rfl
  have f6:DataW.trod enc Tryz.prog W 0 (fun _=>true) true n 3 ((cs.drop 7).take (Tryz.prog.cellsOf 3))=xs[6]?:=hf' 6 _ rfl
  have f7:DataW.trod enc Tryz.prog W 0 (fun _=>true) true n 3 ((cs.drop 8).take (Tryz.prog.cellsOf 3))=xs[7]?:=hf' 7 _ rfl
  have f8:DataW.trod enc Tryz.prog W 0 (fun _=>true) true n 74 ((cs.drop 9).take (Tryz.prog.cellsOf 74))=xs[8]?:=hf' 8 _ rfl
  have f9:DataW.trod enc Tryz.prog W 0 (fun _=>true) true n 25 ((cs.drop 10).take (Tryz.prog.cellsOf 25))=xs[9]?:=hf' 9 _ rfl
  rw [c9] at f0 f4 f5
  rw [c4] at f2 f3
  rw [c3] at f6 f7
  rw [cp] at f1
  rw [co] at f8
  rw [cst] at f9
  match cs,hl,xs,hlen with
  | [a0,a1,a2,a3,a4,a5,a6,a7,a8,a9,a10],_,[y0,y1,y2,y3,y4,y5,y6,y7,y8,y9],_=>
   have w0:=hw.field Tryz.underlying76 0 rfl rfl rfl
   have w4:=hw.field Tryz.underlying76 4 rfl rfl rfl
   have w5:=hw.field Tryz.underlying76 5 rfl rfl rfl
   have w8:=hw.field Tryz.underlying76 8 rfl rfl rfl
   have w9:=hw.field Tryz.underlying76 9 rfl rfl rfl
   simp only [List.drop_zero,List.take_succ_cons,List.take_zero,List.drop_succ_cons,List.getElem?_cons_zero,List.getElem?_cons_succ] at f0 f1 f2 f3 f4 f5 f6 f7 f8 f9
   obtain ⟨nm,e0,rfl,_⟩:=DataW.trod_string Tryz.underlying9 f0
   obtain ⟨p,e1⟩:=zc8 f1
   obtain ⟨al,e2,_⟩:=DataW.trod_bool Tryz.underlying4 f2
   obtain ⟨en,e3,_⟩:=DataW.trod_bool Tryz.underlying4 f3
   obtain ⟨dd,e4,rfl,_⟩:=DataW.trod_string Tryz.underlying9 f4
   obtain ⟨ud,e5,rfl,_⟩:=DataW.trod_string Tryz.underlying9 f5
   obtain ⟨wh,e6,_,g6⟩:=DataW.trod_int Tryz.underlying3 f6
   obtain ⟨rt,e7,_,g7⟩:=DataW.trod_int Tryz.underlying3 f7
   obtain ⟨ol,so,e8,hso,hon⟩:=zcH (k:=10) (R:=fun o cs=>zba (fun _=>True) W o cs/\WfO o) Tryz.underlying74 c10 (by decide) (by kernel_rfl) f8 w8 (fun n' cs' y _ hy hwy=>zjN hy hwy)
   obtain ⟨g,rfl⟩:∃ g,n=g+1:=by
    cases n with
    | zero=>simp [DataW.trod] at f9
    | succ g=>exact ⟨g,rfl⟩
   obtain ⟨il,si,e9,hsi,hin⟩:=zcH (k:=11) (R:=fun t cs=>zad (g / 2) (fun _=>True) W t cs/\WfS (g / 2) t) Tryz.underlying25 hc (by decide) (by kernel_rfl) f9 w9 (fun n' cs' y hn' hy hwy=>by
    obtain rfl:n'=g:=by omega
    exact zf7 m n' (by omega) hy hwy)
   simp only [List.cons.injEq,and_true] at e0 e1 e2 e3 e4 e5 e6 e7 e8 e9
   obtain ⟨q0,q1⟩:=e1
   subst e0 q0 q1 e2 e3 e4 e5 e6 e7 e8 e9
   obtain ⟨hsi,hwf⟩:=hsi.both
   obtain ⟨hso,hwo⟩:=hso.both
   rw [zj8 g]
   refine ⟨(((nm.data.toList,p),(al,en),(dd.data.toList,ud.data.toList),(wh,rt),ol),il),⟨_,_,?_,hso,hsi⟩,g6,g7,⟨?_,?_,?_,hon,hwo⟩,hin,hwf⟩
   ·show _=[sD nm.data.toList,_,_,_,_,sD dd.data.toList,sD ud.data.toList,_,_,_,_]
    rw [<- zdQ,<- zdQ,<- zdQ]
   ·have:=zc4 w0
    simpa using this
   ·have:=zc4 w4
    simpa using this
   ·have:=zc4 w5
    simpa using this
def WfC (d:Nat) (c:ChD d):Prop:=WfI c.2.1/\(∀ x∈c.2.2.1,WfV x)/\c.2.2.2.length<=140737488351232/\∀ t∈c.2.2.2,WfS d t
theorem zle {fuel:Nat}{cs:List Value}{x:DataW H × List MemPlace}(h:DataW.trod enc Tryz.prog W 0 (fun _=>true) true fuel 27 cs=some x) (hw:Wt 27 x.1):∃ (d:Nat) (c:ChD d) (v0 v1 v2 v3 v4 v5:Value),cs=[v0,v1,v2,v3,v4,v5]/\RdD (fun _=>True) W d c (.agg #[v0,v1,v2,v3,v4,v5])/\WfC d c:=by
 obtain ⟨xs,n,_,rfl,hl,hlen,hf'⟩:=DataW.trod_struct Tryz.underlying27 h
 have hc:Tryz.prog.cellsOf 27=6:=by kernel_rfl
 have c9:Tryz.prog.cellsOf 9=1:=by kernel_rfl
 have c3:Tryz.prog.cellsOf 3=1:=by kernel_rfl
 have cp:Tryz.prog.cellsOf 23=2:=by kernel_rfl
 have cv:Tryz.prog.cellsOf 24=1:=by kernel_rfl
 have cst:Tryz.prog.cellsOf 25=1:=by kernel_rfl
 have c4:Tryz.prog.cellsOf 50=4:=by kernel_rfl
 have c11:Tryz.prog.cellsOf 76=11:=by kernel_rfl
 rw [hc] at hl
 have f0:DataW.trod enc Tryz.prog W 0 (fun _=>true) true n 9 ((cs.drop 0).take (Tryz.prog.cellsOf 9))=xs[0]?:=hf' 0 _ rfl
 have f1:DataW.trod enc Tryz.prog W 0 (fun _=>true) true n 3 ((cs.drop 1).take (Tryz.prog.cellsOf 3))=xs[1]?:=hf' 1 _ rfl
 have f2:DataW.trod enc Tryz.prog W 0 (fun _=>true) true n 23 ((cs.drop 2).take (Tryz.prog.cellsOf 23))=xs[2]?:=hf' 2 _ rfl
 have f3:DataW.trod enc Tryz.prog W 0 (fun _=>true) true n 24 ((cs.drop 4).take (Tryz.prog.cellsOf 24))=xs[3]?:=hf' 3 _ rfl
 have f4:DataW.trod enc Tryz.prog W 0 (fun _=>true) true n 25 ((cs.drop 5).take (Tryz.prog.cellsOf 25))=xs[4]?:=hf' 4 _ rfl
 rw [c9] at f0
 rw [c3] at f1
 rw [cp] at f2
 rw [cv] at f3
 rw [cst] at f4
 match cs,hl,xs,hlen with
 | [a0,a1,a2,a3,a4,a5],_,[y0,y1,y2,y3,y4],_=>
  have w3:=hw.field Tryz.underlying27 3 rfl rfl rfl
  have w4:=hw.field Tryz.underlying27 4 rfl rfl rfl
  simp only [List.drop_zero,List.take_succ_cons,List.take_zero,List.drop_succ_cons,List.getElem?_cons_zero,List.getElem?_cons_succ] at f0 f1 f2 f3 f4
  obtain ⟨nm,e0,_,_⟩:=DataW.trod_string Tryz.underlying9 f0
  obtain ⟨vn,e1,_,g1⟩:=DataW.trod_int Tryz.underlying3 f1
  obtain ⟨p,e2⟩:=zc8 f2
  obtain ⟨vl,sv,e3,hsv,hvn⟩:=zcH (k:=4) (R:=fun v cs=>zb0 (fun _=>True) W v cs/\WfV v) Tryz.underlying24 c4 (by decide) (by kernel_rfl) f3 w3 (fun n' cs' y _ hy hwy=>ziQ hy hwy)
  obtain ⟨g,rfl⟩:∃ g,n=g+1:=by
   cases n with
   | zero=>simp [DataW.trod] at f4
   | succ g=>exact ⟨g,rfl⟩
  obtain ⟨il,si,e4,hsi,hin⟩:=zcH (k:=11) (R:=fun t cs=>zad (g / 2) (fun _=>True) W t cs/\WfS (g / 2) t) Tryz.underlying25 c11 (by decide) (by kernel_rfl) f4 w4 (fun n' cs' y hn' hy hwy=>by
   obtain rfl:n'=g:=by omega
   exact zf7 n' n' zn2 hy hwy)
  simp only [List.cons.injEq,and_true] at e0 e1 e2 e3 e4
  obtain ⟨q0,q1⟩:=e2
  subst e0 e1 q0 q1 e3 e4
  obtain ⟨hsv,hwv⟩:=hsv.both
  obtain ⟨hsi,hwf⟩:=hsi.both
  refine ⟨g / 2,((nm.data.toList,p),vn,vl,il),_,_,_,_,_,_,rfl,⟨_,_,?_,hsv,hsi⟩,g1,hwv,hin,hwf⟩
  rw [<- zdQ]
end
theorem zeF {H:Type}{enc:TypeId × Value->H}{W:World}{v:Value}{x:DataW H}{p:List MemPlace}(hv:∃ cs,v=.agg cs)
  (h:DataW.Trod enc Tryz.prog W 0 (fun _=>true) true 27 v x p) (hw:Wt 27 x):∃ (d:Nat) (c:ChD d),RdD (fun _=>True) W d c v/\WfC d c:=by
 obtain ⟨cs,rfl⟩:=hv
 obtain ⟨fuel,hf⟩:=h
 obtain ⟨d,c,c0,c1,c2,c3,c4,c5,hcs,hr,hwf⟩:=zle hf hw
 refine ⟨d,c,?_,hwf⟩
 have e:cs=#[c0,c1,c2,c3,c4,c5]:=by
  have:cs.toList=[c0,c1,c2,c3,c4,c5]:=hcs
  exact Array.toList_inj.1 (by rw [this])
 rw [e]
 exact hr
end Go.Proofs.YtlkdaldfklaicaaGreatDoor
namespace Go.Proofs.YtlkdaldfklaicaaGreatDoor
open Go.RowKit
set_option linter.unusedSimpArgs false
set_option linter.unusedVariables false
theorem zi8 {α:Type}(g:α->Int->Int) (p:α) (r:List α) (x:Int):zc0 g (p :: r) x=if g p x < 0 then -1 else zc0 g r (g p x):=rfl
def zg8 (d:Nat):Prop:=∀ (ok:Nat->Prop) (t:T d) (v:Value) (w:World) (dep:Nat) (left:Int),RdT ok w d t v->dep<=61->-1<=left->left<=200->
  Calls Tryz.prog 53 #[v,.int .i64 (dep:Int),.int .i64 left] w fun e w'=>e=.returned (.int .i64 (sml d t dep left))/\Below w.heap.size w w'
theorem zeR (d:Nat) (IH:zg8 d):zg8 (d+1):=by
 intro ok t v w dep left h hdep hl0 hl1
 obtain ⟨k,n,s,ps,rfl⟩:=T.open t
 obtain ⟨sl,rfl,hp⟩:=zaT.1 h
 obtain ⟨a,cap,rfl,hlc,hcm,hcell⟩:=hp.form
 rw [zjP]
 by_cases c1:60 < dep
 ·rw [if_pos (.inl c1)]
  have e1:(dep:Int) > 60:=by omega
  clear IH hcell h hp
  go_enter Tryz.func53,Tryz.ntmps53
  go_wp2
  go_ret
  exact ⟨rfl,zn3.alloc zn2 _⟩
 have e1:¬ (dep:Int) > 60:=by omega
 by_cases c2:left - 1 < 0
 ·rw [if_pos (.inr (.inl c2))]
  clear IH hcell h hp
  go_enter Tryz.func53,Tryz.ntmps53
  go_wp2
  go_ret
  exact ⟨rfl,zn3.alloc zn2 _⟩
 by_cases c3:1000 < s.size
 ·rw [if_pos (.inr (.inr c3))]
  have e3:(s.size:Int) > 1000:=by omega
  clear IH hcell h hp
  go_enter Tryz.func53,Tryz.ntmps53
  go_wp2
  go_ret
  exact ⟨rfl,zn3.alloc zn2 _⟩
 rw [if_neg (by omega)]
 have e3:¬ (s.size:Int) > 1000:=by omega
 obtain ⟨V,hV⟩:∃ V,zc0 (fun p x=>sml d p (dep+1) x) ps (left - 1)=V:=⟨_,rfl⟩
 rw [hV]
 have HV:Hid (zc0 (fun p x=>sml d p (dep+1) x) (ps.drop 0) (left - 1)=V):=hV
 have HC:Hid (∀ (i:Nat) (hi:i < ps.length),∃ b off c0 c1 c2 c3,a=some ⟨b,off,none⟩/\b < w.heap.size/\RdT ok w d ps[i] (.agg #[c0,c1,c2,c3])/\w.cell? ⟨b,off+i*4,none⟩=some c0/\w.cell? ⟨b,off+i*4+1,none⟩=some c1/\w.cell? ⟨b,off+i*4+2,none⟩=some c2/\w.cell? ⟨b,off+i*4+3,none⟩=some c3):=hcell
 clear hV hcell h hp
 go_enter Tryz.func53,Tryz.ntmps53
 go_wp2
 go_loopw [2,25] (fun l i wr=>∃ (j:Nat) (L:Int),j<=ps.length/\i=.int .i64 (j:Int)/\l=.int .i64 L/\0<=L/\L<=199/\Hid (zc0 (fun p x=>sml d p (dep+1) x) (ps.drop j) L=V)/\At4 wr w.heap.size (.int .i64 k) (.int .i64 n) (.string s) (.slice a ps.length cap)/\Below w.heap.size w wr) (fun _ i _=>ps.length - (RowKit.intOf i).toNat)
 case atStart=>exact ⟨0,left - 1,Nat.zero_le _,rfl,rfl,by omega,by omega,HV,At4.new _ _ _ _ _ _,zn3.alloc zn2 _⟩
 case round=>
  obtain ⟨j,L,hj,rfl,rfl,hL0,hL1,hT,hA,hb⟩:=hrel
  obtain ⟨y0,y1,y2,y3⟩:=id hA
  by_cases hlt:j < ps.length
  ·obtain ⟨b,off,c0,c1,c2,c3,rfl,hbl,hr,k0,k1,k2,k3⟩:=HC.out j hlt
   have C0:=(hb.cell (p:=⟨b,off+j*4,none⟩) hbl).trans k0
   have C1:=(hb.cell (p:=⟨b,off+j*4+1,none⟩) hbl).trans k1
   have C2:=(hb.cell (p:=⟨b,off+j*4+2,none⟩) hbl).trans k2
   have C3:=(hb.cell (p:=⟨b,off+j*4+3,none⟩) hbl).trans k3
   have hcall:=IH ok ps[j] _ wr (dep+1) L (RdT.below hb zn2 hr) (by omega) (by omega) (by omega)
   have hTT:=hT.out
   rw [List.drop_eq_getElem_cons hlt,zi8] at hTT
   have hok:=zhF d ps[j] (dep+1) L
   have hcp:=zij d ps[j]
   obtain ⟨z,hz⟩:∃ z,sml d ps[j] (dep+1) L=z:=⟨_,rfl⟩
   rw [hz] at hcall hTT hok
   have i1:(j:Int) < (ps.length:Int):=by omega
   have i2:(0:Int)<=(j:Int):=by omega
   have hd1:((dep+1:Nat):Int)=(dep:Int)+1:=by omega
   rw [hd1] at hcall
   clear k0 k1 k2 k3 hr hbl
   by_cases hzn:z < 0
   ·rw [if_pos hzn] at hTT
    subst hTT
    clear hok hz hd1
    go_wp2_with (first
     | (go_at_call 53;refine hcall.mono ?_;rintro e w1 ⟨rfl,b1⟩))
    go_ret
    exact ⟨rfl,hb.trans (b1.mono hb.size)⟩
   ·rw [if_neg hzn] at hTT
    have hzL:z<=L:=by have:=(hok (by omega)).1;omega
    have hN:Hid (zc0 (fun p x=>sml d p (dep+1) x) (ps.drop (j+1)) z=V):=hTT
    clear hok hz hTT hd1 hcp
    go_wp2_with (first
     | (go_at_call 53;refine hcall.mono ?_;rintro e w1 ⟨rfl,b1⟩))
    go_roundw
    case rel=>exact ⟨j+1,z,hlt,by go_num,rfl,by omega,by omega,hN,hA.keepB b1 (World.block_lt_of_cell? wr _ y0),hb.trans (b1.mono hb.size)⟩
    case measure=>simp [RowKit.intOf];omega
  ·have i1:¬ (j:Int) < (ps.length:Int):=by omega
   have hTT:=hT.out
   rw [List.drop_eq_nil_of_le (by omega)] at hTT
   have hTe:L=V:=hTT
   subst hTe
   clear hTT
   go_wp2
   go_ret
   exact ⟨rfl,hb⟩
theorem zc7:∀ (d:Nat),zg8 d
 | 0=>fun _ t=>Empty.elim t
 | d+1=>zeR d (zc7 d)
theorem zcs {ok:Nat->Prop}{d:Nat}{t:T d}{v:Value}{w:World}(h:RdT ok w d t v) :
  Calls Tryz.prog 32 #[v] w fun e w'=>e=.returned (.bool (decide (0<=sml d t 0 200)))/\Below w.heap.size w w':=by
 match d,t,h with
 | 0,t,h=>exact Empty.elim t
 | d+1,t,h=>
  obtain ⟨k,n,s,ps,rfl⟩:=T.open t
  have h0:=h
  obtain ⟨sl,rfl,hp⟩:=zaT.1 h
  have hb0:=(Below.refl w.heap.size w).alloc zn2 (.cells #[.int .i64 k,.int .i64 n,.string s,sl] 79)
  have hcall:=zc7 (d+1) ok (mkT k n s ps) _ _ 0 200 (RdT.below hb0 zn2 h0) (by omega) (by omega) (by omega)
  obtain ⟨z,hz⟩:∃ z,sml (d+1) (mkT k n s ps) 0 200=z:=⟨_,rfl⟩
  rw [hz] at hcall ⊢
  clear hz h0 hp
  go_enter Tryz.func32,Tryz.ntmps32
  go_wp2_with (first
   | (go_at_call 53;refine hcall.mono ?_;rintro e w1 ⟨rfl,b1⟩))
  all_goals go_ret
  all_goals exact ⟨by simp [*],hb0.trans (b1.mono hb0.size)⟩
end Go.Proofs.YtlkdaldfklaicaaGreatDoor
namespace Go.Proofs.YtlkdaldfklaicaaGreatDoor
open Go.RowKit Go.Lib
set_option linter.unusedSimpArgs false
set_option linter.unusedVariables false
attribute [local go_sem ↓] Go.wp_at_zero Go.wp_at_succ
abbrev zfQ:Obj:=.cells #[.string ⟨#[]⟩,.int .i64 0,.int .i64 0,.bool false,.bool false,.string ⟨#[]⟩,.string ⟨#[]⟩,.int .i64 0,.int .i64 0,.slice none 0 0,.slice none 0 0] 76
abbrev zDl:List Value:=[.string ⟨#[]⟩,.int .i64 0,.int .i64 0,.bool false,.bool false,.string ⟨#[]⟩,.string ⟨#[]⟩,.int .i64 0,.int .i64 0,.slice none 0 0,.slice none 0 0]
theorem Tryz.infoOnD:(Tryz.prog.info? 82).map (fun i=>(i.zero,i.size,i.bytes))=some (some (.agg #[.string ⟨#[]⟩,.bool false,.int .i64 0,.int .i64 0,.string ⟨#[]⟩,.slice none 0 0,.string ⟨#[]⟩,.slice none 0 0,.int .i64 0,.int .i64 0]),10,136):=by kernel_rfl
theorem Tryz.infoStD:(Tryz.prog.info? 76).map (fun i=>(i.zero,i.size,i.bytes))=some (some (.agg #[.string ⟨#[]⟩,.int .i64 0,.int .i64 0,.bool false,.bool false,.string ⟨#[]⟩,.string ⟨#[]⟩,.int .i64 0,.int .i64 0,.slice none 0 0,.slice none 0 0]),11,136):=by kernel_rfl
def Pr (w:World) (X:Nat) (a:Option Addr) (cap:Nat) (ws:List Wd) (fin:Pl) (r:RsC):Prop:=
 ∃ n,Rr w X a cap ws n r.2.2/\r.1=ws.drop n/\n<=ws.length/\(r.2.2≠0->r.2.1=zak fin r)
theorem Pr.lt {w:World}{X:Nat}{a:Option Addr}{cap:Nat}{ws:List Wd}{fin:Pl}{r:RsC}(h:Pr w X a cap ws fin r):X < w.heap.size:=by
 obtain ⟨n,h,_⟩:=h
 exact h.lt
theorem Pr.on {w w':World}{X:Nat}{a:Option Addr}{cap:Nat}{ws:List Wd}{fin:Pl}{r:RsC}(h:Pr w X a cap ws fin r) (hb:Below w.heap.size w w'):Pr w' X a cap ws fin r:=by
 obtain ⟨n,h1,h2,h3,h4⟩:=h
 exact ⟨n,h1.on hb,h2,h3,h4⟩
theorem Pr.far {w:World}{X Y i:Nat}{a:Option Addr}{cap:Nat}{ws:List Wd}{fin:Pl}{r:RsC}(h:Pr w X a cap ws fin r) (hY:X < Y) (u:Value):Pr (w.setCell ⟨Y,i,none⟩ u) X a cap ws fin r:=by
 obtain ⟨n,h1,h2,h3,h4⟩:=h
 exact ⟨n,h1.far hY u,h2,h3,h4⟩
theorem zbv {ws:List Wd}{n:Nat}{x:Wd}{l:List Wd}(h:x :: l=ws.drop n):n < ws.length/\l=ws.drop (n+1)/\∀ hn:n < ws.length,ws[n]=x:=by
 have hn:n < ws.length:=by
  rcases Nat.lt_or_ge n ws.length with h' | h'
  ·exact h'
  ·rw [List.drop_eq_nil_of_le h'] at h;cases h
 rw [List.drop_eq_getElem_cons hn] at h
 injection h with h1 h2
 exact ⟨hn,h2,fun _=>h1.symm⟩
theorem drop_nil {ws:List Wd}{n:Nat}(h:[]=ws.drop n) (hn:n<=ws.length):n=ws.length:=by
 have:=congrArg List.length h
 rw [List.length_drop] at this
 simp at this
 omega
theorem Pr.bad {w:World}{X n:Nat}{a:Option Addr}{cap:Nat}{ws:List Wd}{fin:Pl}{r:RsC}{e:Int}(h:Rr w X a cap ws n (if r.2.2=0 then e else r.2.2)) (h1:r.1=ws.drop n) (h2:n<=ws.length) (h3:r.2.2≠0->r.2.1=zak fin r):Pr w X a cap ws fin (zab e (zak fin r) r):=by
 unfold zab
 by_cases h0:r.2.2=0
 ·rw [if_pos h0] at h ⊢
  exact ⟨n,h,h1,h2,fun _=>rfl⟩
 ·rw [if_neg h0] at h ⊢
  exact ⟨n,h,h1,h2,h3⟩
theorem Pr.step {w:World}{X n:Nat}{a:Option Addr}{cap:Nat}{ws:List Wd}{fin:Pl}{r:RsC}{x:Wd}{l:List Wd}(h:Rr w X a cap ws (n+1) r.2.2) (h1:x :: l=ws.drop n) (h0:r.2.2=0):Pr w X a cap ws fin (l,r.2):=by
 obtain ⟨hn,hl,_⟩:=zbv h1
 exact ⟨n+1,h,hl,hn,fun e=>absurd h0 e⟩
theorem zb8 {w:World}{X:Nat}{a:Option Addr}{cap:Nat}{ws:List Wd}{n:Nat}{b:Int}(h:Rr w X a cap ws n b) (e:Int) :
  Calls Tryz.prog 52 #[.pointer (some ⟨X,0,none⟩),.int .i64 e] w fun x w'=>(∃ u,x=.returned u)/\Rr w' X a cap ws n (if b=0 then e else b)/\Fx X w w':=by
 have hS:=h.set2 e
 obtain ⟨c0,c1,c2,f1,f2,hL⟩:=id h
 by_cases hb:b=0
 ·rw [if_pos hb]
  have i1:(b == 0)=true:=by simpa using hb
  clear hL hb
  go_enter Tryz.func52,Tryz.ntmps52
  go_wp2
  go_end0
  exact ⟨⟨_,rfl⟩,hS,(Fx.refl X w).setX _⟩
 ·rw [if_neg hb]
  have i1:(b == 0)=false:=by simpa using hb
  clear hL hb hS
  go_enter Tryz.func52,Tryz.ntmps52
  go_wp2
  go_end0
  exact ⟨⟨_,rfl⟩,h,Fx.refl X w⟩
theorem zdk {w:World}{X:Nat}{a:Option Addr}{cap:Nat}{ws:List Wd}{fin:Pl}{r:RsC}(h:Pr w X a cap ws fin r) (hk:Wk ws cap) (t:List UInt8) :
  Calls Tryz.prog 50 #[.pointer (some ⟨X,0,none⟩),.string ⟨t.toArray⟩] w fun e w'=>e=.returned (.bool (isC t r))/\∃ m,w'=w.drewN m:=by
 obtain ⟨n,⟨c0,c1,c2,f1,f2,hL⟩,h1,h2,h3⟩:=h
 have hcap:=hk.c
 have hlen:=hk.l
 obtain ⟨b,hb⟩:∃ b,r.2.2=b:=⟨_,rfl⟩
 unfold isC
 rw [hb] at c2 ⊢
 have i2:(0:Int)<=(n:Int):=by omega
 by_cases hz:b=0
 ·subst hz
  cases hr:r.1 with
  | cons x l=>
   rw [hr] at h1
   obtain ⟨hn,_,hx⟩:=zbv h1
   obtain ⟨g,off,rfl,hgX,d0,d1,d2,d3⟩:=hL n hn
   have i1:(n:Int) < (ws.length:Int):=by omega
   have hd1:w.cell? ⟨g,off+n*4+1,none⟩=some (.string ⟨(tkW x).2.toArray⟩):=by rw [hx hn] at d1;exact d1
   obtain ⟨bs,hbs⟩:∃ bs,(tkW x).2=bs:=⟨_,rfl⟩
   simp only [hbs] at hd1 ⊢
   clear d0 d1 d2 d3 hL hbs h1 hx hr h2 h3
   by_cases hq:bs=t
   ·have i3:(bs == t)=true:=by rw [hq];simp
    rw [decide_eq_true hq]
    clear hq
    go_enter Tryz.func50,Tryz.ntmps50
    go_wp2
    go_quiet (fail)
    go_wp2
    go_ret
    exact ⟨rfl,_,rfl⟩
   ·have i3:(bs == t)=false:=beq_eq_false_iff_ne.2 hq
    rw [decide_eq_false hq]
    clear hq
    go_enter Tryz.func50,Tryz.ntmps50
    go_wp2
    go_quiet (fail)
    go_wp2
    go_ret
    exact ⟨rfl,_,rfl⟩
  | nil=>
   rw [hr] at h1
   have hn:=drop_nil h1 h2
   have i1:decide (n < ws.length)=false:=decide_eq_false (by omega)
   have i3:¬ n < ws.length:=by omega
   simp only [Bool.and_false]
   clear hL h1 h2 h3 hr hn
   go_enter Tryz.func50,Tryz.ntmps50
   go_wp2
   go_quiet (fail)
   go_wp2
   go_ret
   exact ⟨rfl,_,rfl⟩
 ·have i1:(b == 0)=false:=by simpa using hz
  rw [decide_eq_false hz]
  simp only [Bool.false_and]
  clear hL hz h1 h3
  go_enter Tryz.func50,Tryz.ntmps50
  go_wp2
  go_quiet (fail)
  go_wp2
  go_ret
  exact ⟨rfl,_,rfl⟩
def skR (fin:Pl) (t:List UInt8) (r:RsC):RsC:=if isC t r=true then zi fin t r else r
theorem zaR {fin:Pl}{t:List UInt8}{r:RsC}(h:isC t r=true):skR fin t r=zi fin t r:=if_pos h
theorem za9 {fin:Pl}{t:List UInt8}{r:RsC}(h:isC t r=false):skR fin t r=r:=if_neg (by rw [h];decide)
theorem zb4 {t:List UInt8}{r:RsC}(h:isC t r=true):r.2.2=0/\∃ x l,r.1=x :: l:=by
 refine ⟨zkU h,?_⟩
 unfold isC at h
 cases hr:r.1 with
 | nil=>rw [hr] at h;simp at h
 | cons x l=>exact ⟨x,l,rfl⟩
theorem zay {w:World}{X:Nat}{a:Option Addr}{cap:Nat}{ws:List Wd}{fin:Pl}{r:RsC}(h:Pr w X a cap ws fin r) (hk:Wk ws cap) (t:List UInt8) :
  Calls Tryz.prog 48 #[.pointer (some ⟨X,0,none⟩),.string ⟨t.toArray⟩] w fun e w'=>e=.returned (.bool (isC t r))/\Pr w' X a cap ws fin (skR fin t r)/\Fx X w w':=by
 have hS:=zdk h hk t
 cases hi:isC t r with
 | true=>
  rw [hi] at hS
  rw [zaR hi]
  obtain ⟨h0,x,l,hr⟩:=zb4 hi
  have e:zi fin t r=(l,r.2):=by unfold zi;rw [if_pos hi,hr];rfl
  rw [e]
  obtain ⟨n,h1,h2,h3,h4⟩:=id h
  rw [hr] at h2
  have hlen:=hk.l
  have i5:IntKind.i64.wrap ((n:Int)+1)=(n:Int)+1:=by rw [IntKind.wrap_i64];omega
  go_enter Tryz.func48,Tryz.ntmps48
  go_upto_region 3 with (first
   | (go_at_call 50;refine hS.mono ?_;rintro e w1 ⟨rfl,m,rfl⟩))
  have hR1:=h1.on (zbk w m)
  have hR2:=hR1.set1 (n+1)
  have hF:Fx X w ((w.drewN m).setCell ⟨X,1,none⟩ (.int .i64 ((n+1:Nat):Int))):=((Fx.refl X w).drewN m).setX _
  obtain ⟨c0,c1,c2,f1,f2,hL⟩:=id hR1
  clear hL hS h h1 h4 hi e
  generalize w.drewN m=w1 at *
  go_wp2
  go_ret
  refine ⟨rfl,?_,?_⟩
  ·exact Pr.step hR2 h2 h0
  ·exact hF
 | false=>
  rw [hi] at hS
  rw [za9 hi]
  go_enter Tryz.func48,Tryz.ntmps48
  go_wp2_with (first
   | (go_at_call 50;refine hS.mono ?_;rintro e w1 ⟨rfl,m,rfl⟩))
  go_ret
  exact ⟨rfl,h.on (zbk w m),(Fx.refl X w).drewN m⟩
theorem zao {w:World}{X:Nat}{a:Option Addr}{cap:Nat}{ws:List Wd}{fin:Pl}{r:RsC}(h:Pr w X a cap ws fin r) (hk:Wk ws cap) (t:List UInt8) :
  Calls Tryz.prog 45 #[.pointer (some ⟨X,0,none⟩),.string ⟨t.toArray⟩] w fun e w'=>(∃ u,e=.returned u)/\Pr w' X a cap ws fin (zi fin t r)/\Fx X w w':=by
 have hS:=zay h hk t
 cases hi:isC t r with
 | true=>
  rw [hi,zaR hi] at hS
  go_enter Tryz.func45,Tryz.ntmps45
  go_wp2_with (first
   | (go_at_call 48;refine hS.mono ?_;rintro e w1 ⟨rfl,hp,hf⟩))
  go_end0
  exact ⟨⟨_,rfl⟩,hp,hf⟩
 | false=>
  rw [hi,za9 hi] at hS
  rw [zdm hi]
  have hF:=fun w1 n (hr:Rr w1 X a cap ws n r.2.2)=>zb8 hr 12
  go_enter Tryz.func45,Tryz.ntmps45
  go_wp2_with (first
   | (go_at_call 48;refine hS.mono ?_;rintro e w1 ⟨rfl,⟨n,hr,h1,h2,h3⟩,hf⟩)
   | (go_at_call 52;refine (hF _ _ hr).mono ?_;rintro e w2 ⟨⟨u,rfl⟩,hr2,hf2⟩))
  go_end0
  exact ⟨⟨_,rfl⟩,Pr.bad hr2 h1 h2 h3,hf.trans hf2⟩
theorem znh {w:World}{X:Nat}{a:Option Addr}{cap:Nat}{ws:List Wd}{fin:Pl}{r:RsC}(h:Pr w X a cap ws fin r) (hk:Wk ws cap) :
  Calls Tryz.prog 30 #[.pointer (some ⟨X,0,none⟩)] w fun e w'=>(∃ u,e=.returned u)/\Pr w' X a cap ws fin (zbm fin r)/\Fx X w w':=by
 obtain ⟨n,h1,h2,h3,h4⟩:=id h
 have hcap:=hk.c
 have hF:=fun w1 (hr:Rr w1 X a cap ws n r.2.2)=>zb8 hr 12
 obtain ⟨c0,c1,c2,f1,f2,hL⟩:=id h1
 clear hL
 have hlast:∀ w',Rr w' X a cap ws n (if r.2.2=0 then 12 else r.2.2)->n < ws.length->Pr w' X a cap ws fin (zbm fin r):=fun w' hr hn=>by
  have hne:r.1≠[]:=by
   rw [h2]
   intro e
   have:=congrArg List.length e
   rw [List.length_drop] at this
   simp at this
   omega
  unfold zbm
  by_cases h0:r.2.2=0
  ·rw [if_pos ⟨h0,hne⟩];exact Pr.bad hr h2 h3 h4
  ·rw [if_neg (fun e=>h0 e.1)]
   rw [if_neg h0] at hr
   exact ⟨n,hr,h2,h3,h4⟩
 by_cases hn:n < ws.length
 ·have i1:decide ((n:Int) < (ws.length:Int))=true:=decide_eq_true (by omega)
  have HL:Hid (∀ w',Rr w' X a cap ws n (if r.2.2=0 then 12 else r.2.2)->n < ws.length->Pr w' X a cap ws fin (zbm fin r)):=hlast
  obtain ⟨b,hb⟩:∃ b,r.2.2=b:=⟨_,rfl⟩
  clear hlast h2 h4
  go_enter Tryz.func30,Tryz.ntmps30
  go_wp2
  go_quiet (fail)
  have hr1:=h1.on (zbk w nq)
  go_wp2_with (first
   | (go_at_call 52;refine (hF _ hr1).mono ?_;rintro e w2 ⟨⟨u,rfl⟩,hr2,hf2⟩))
  go_end0
  exact ⟨⟨_,rfl⟩,HL.out _ hr2 hn,((Fx.refl X w).drewN _).trans hf2⟩
 ·have i1:decide (n < ws.length)=false:=decide_eq_false hn
  have e:zbm fin r=r:=by
   unfold zbm
   rw [if_neg]
   rintro ⟨_,q⟩
   exact q (by rw [h2];exact List.drop_eq_nil_of_le (by omega))
  rw [e]
  clear hlast h2 h4 e
  go_enter Tryz.func30,Tryz.ntmps30
  go_wp2
  go_quiet (fail)
  go_wp2
  go_end0
  exact ⟨⟨_,rfl⟩,h.on (zbk w _),(Fx.refl X w).drewN _⟩
end Go.Proofs.YtlkdaldfklaicaaGreatDoor
namespace Go.Proofs.YtlkdaldfklaicaaGreatDoor
open Go.Shelf
set_option linter.unusedVariables false
def zdd:Ren:={ f:=fun x=>match x with|172=>70|244=>79|245=>80|247=>83|279=>84|280=>85|281=>86|282=>87|287=>89|316=>39|171=>91|205=>90|321=>96|322=>97|243=>98|246=>103|283=>111|284=>112|285=>113|286=>114|129=>118|317=>117|318=>119|319=>120|320=>121|337=>122|338=>123|n=>n,t:=fun x=>match x with|9=>9|3=>3|75=>138|76=>139|4=>4|5=>5|167=>158|37=>129|0=>0|85=>159|2=>2|168=>161|53=>166|175=>167|46=>169|210=>171|127=>130|145=>182|143=>180|21=>21|171=>194|173=>197|212=>201|51=>202|20=>20|213=>203|232=>207|233=>208|80=>209|n=>n,g:=fun x=>match x with|15=>0|16=>1|17=>2|18=>3|19=>4|n=>n }
theorem zmy:LaysC.n172 Tryz.prog zdd:=
 {mixed:=by kernel_rfl,f129:=Tryz.func118.trans (congrArg some (by kernel_rfl)),f171:=Tryz.func91.trans (congrArg some (by kernel_rfl)),f172:=Tryz.func70.trans (congrArg some (by kernel_rfl)),f205:=Tryz.func90.trans (congrArg some (by kernel_rfl)),f243:=Tryz.func98.trans (congrArg some (by kernel_rfl)),f244:=Tryz.func79.trans (congrArg some (by kernel_rfl)),f245:=Tryz.func80.trans (congrArg some (by kernel_rfl)),f246:=Tryz.func103.trans (congrArg some (by kernel_rfl)),f247:=Tryz.func83.trans (congrArg some (by kernel_rfl)),f279:=Tryz.func84.trans (congrArg some (by kernel_rfl)),f280:=Tryz.func85.trans (congrArg some (by kernel_rfl)),f281:=Tryz.func86.trans (congrArg some (by kernel_rfl)),f282:=Tryz.func87.trans (congrArg some (by kernel_rfl)),f283:=Tryz.func111.trans (congrArg some (by kernel_rfl)),f284:=Tryz.func112.trans (congrArg some (by kernel_rfl)),f285:=Tryz.func113.trans (congrArg some (by kernel_rfl)),f286:=Tryz.func114.trans (congrArg some (by kernel_rfl)),f287:=Tryz.func89.trans (congrArg some (by kernel_rfl)),f316:=Tryz.func39.trans (congrArg some (by kernel_rfl)),f317:=Tryz.func117.trans (congrArg some (by kernel_rfl)),f318:=Tryz.func119.trans (congrArg some (by kernel_rfl)),f319:=Tryz.func120.trans (congrArg some (by kernel_rfl)),f320:=Tryz.func121.trans (congrArg some (by kernel_rfl)),f321:=Tryz.func96.trans (congrArg some (by kernel_rfl)),f322:=Tryz.func97.trans (congrArg some (by kernel_rfl)),f337:=Tryz.func122.trans (congrArg some (by kernel_rfl)),f338:=Tryz.func123.trans (congrArg some (by kernel_rfl)),t0:=Tryz.underlying0,a0:=Tryz.isAgg0,z0:=Tryz.sizeOf0,v0:=Tryz.zeroValue0,t2:=Tryz.underlying2,a2:=Tryz.isAgg2,z2:=Tryz.sizeOf2,v2:=Tryz.zeroValue2,t3:=Tryz.underlying3,a3:=Tryz.isAgg3,z3:=Tryz.sizeOf3,v3:=Tryz.zeroValue3,t4:=Tryz.underlying4,a4:=Tryz.isAgg4,z4:=Tryz.sizeOf4,v4:=Tryz.zeroValue4,t5:=Tryz.underlying5,a5:=Tryz.isAgg5,z5:=Tryz.sizeOf5,v5:=Tryz.zeroValue5,t9:=Tryz.underlying9,a9:=Tryz.isAgg9,z9:=Tryz.sizeOf9,v9:=Tryz.zeroValue9,t20:=Tryz.underlying20,a20:=Tryz.isAgg20,z20:=Tryz.sizeOf20,v20:=Tryz.zeroValue20,t21:=Tryz.underlying21,a21:=Tryz.isAgg21,z21:=Tryz.sizeOf21,v21:=Tryz.zeroValue21,t37:=Tryz.underlying129,a37:=Tryz.isAgg129,z37:=Tryz.sizeOf129,v37:=Tryz.zeroValue129,t46:=Tryz.underlying169,a46:=Tryz.isAgg169,z46:=Tryz.sizeOf169,v46:=Tryz.zeroValue169,t51:=Tryz.underlying202,a51:=Tryz.isAgg202,z51:=Tryz.sizeOf202,v51:=Tryz.zeroValue202,t53:=Tryz.underlying166,a53:=Tryz.isAgg166,z53:=Tryz.sizeOf166,v53:=Tryz.zeroValue166,t75:=Tryz.underlying138,a75:=Tryz.isAgg138,z75:=Tryz.sizeOf138,v75:=Tryz.zeroValue138,t76:=Tryz.underlying139,a76:=Tryz.isAgg139,z76:=Tryz.sizeOf139,v76:=Tryz.zeroValue139,t85:=Tryz.underlying159,a85:=Tryz.isAgg159,z85:=Tryz.sizeOf159,v85:=Tryz.zeroValue159,t127:=Tryz.underlying130,a127:=Tryz.isAgg130,z127:=Tryz.sizeOf130,v127:=Tryz.zeroValue130,t143:=Tryz.underlying180,a143:=Tryz.isAgg180,z143:=Tryz.sizeOf180,v143:=Tryz.zeroValue180,t145:=Tryz.underlying182,a145:=Tryz.isAgg182,z145:=Tryz.sizeOf182,v145:=Tryz.zeroValue182,t167:=Tryz.underlying158,a167:=Tryz.isAgg158,z167:=Tryz.sizeOf158,v167:=Tryz.zeroValue158,t168:=Tryz.underlying161,a168:=Tryz.isAgg161,z168:=Tryz.sizeOf161,v168:=Tryz.zeroValue161,t171:=Tryz.underlying194,a171:=Tryz.isAgg194,z171:=Tryz.sizeOf194,v171:=Tryz.zeroValue194,t173:=Tryz.underlying197,a173:=Tryz.isAgg197,z173:=Tryz.sizeOf197,v173:=Tryz.zeroValue197,t175:=Tryz.underlying167,a175:=Tryz.isAgg167,z175:=Tryz.sizeOf167,v175:=Tryz.zeroValue167,t210:=Tryz.underlying171,a210:=Tryz.isAgg171,z210:=Tryz.sizeOf171,v210:=Tryz.zeroValue171,t212:=Tryz.underlying201,a212:=Tryz.isAgg201,z212:=Tryz.sizeOf201,v212:=Tryz.zeroValue201,t213:=Tryz.underlying203,a213:=Tryz.isAgg203,z213:=Tryz.sizeOf203,t232:=Tryz.underlying207,a232:=Tryz.isAgg207,z232:=Tryz.sizeOf207,v232:=Tryz.zeroValue207,t233:=Tryz.underlying208,a233:=Tryz.isAgg208,z233:=Tryz.sizeOf208,v233:=Tryz.zeroValue208,g15:=by kernel_rfl,g16:=by kernel_rfl,g17:=by kernel_rfl,g18:=by kernel_rfl,g19:=by kernel_rfl,t80:=Tryz.underlying209,a80:=Tryz.isAgg209,z80:=Tryz.sizeOf209,v80:=Tryz.zeroValue209,i0:=by kernel_rfl,i2:=by kernel_rfl,i3:=by kernel_rfl,i4:=by kernel_rfl,i5:=by kernel_rfl,i9:=by kernel_rfl,i20:=by kernel_rfl,i21:=by kernel_rfl,i37:=by kernel_rfl,i46:=by kernel_rfl,i51:=by kernel_rfl,i53:=by kernel_rfl,i75:=by kernel_rfl,i76:=by kernel_rfl,i80:=by kernel_rfl,i85:=by kernel_rfl,i127:=by kernel_rfl,i143:=by kernel_rfl,i145:=by kernel_rfl,i167:=by kernel_rfl,i168:=by kernel_rfl,i171:=by kernel_rfl,i173:=by kernel_rfl,i175:=by kernel_rfl,i210:=by kernel_rfl,i212:=by kernel_rfl,i232:=by kernel_rfl,i233:=by kernel_rfl,m15:=by kernel_rfl,m16:=by kernel_rfl,m17:=by kernel_rfl,m18:=by kernel_rfl,m19:=by kernel_rfl,c0:=by kernel_rfl,c2:=by kernel_rfl,c3:=by kernel_rfl,c4:=by kernel_rfl,c5:=by kernel_rfl,c9:=by kernel_rfl,c20:=by kernel_rfl,c21:=by kernel_rfl,c37:=by kernel_rfl,c46:=by kernel_rfl,c51:=by kernel_rfl,c53:=by kernel_rfl,c75:=by kernel_rfl,c76:=by kernel_rfl,c80:=by kernel_rfl,c85:=by kernel_rfl,c127:=by kernel_rfl,c143:=by kernel_rfl,c145:=by kernel_rfl,c167:=by kernel_rfl,c168:=by kernel_rfl,c171:=by kernel_rfl,c173:=by kernel_rfl,c175:=by kernel_rfl,c210:=by kernel_rfl,c212:=by kernel_rfl,c213:=by kernel_rfl,c232:=by kernel_rfl,c233:=by kernel_rfl }
end Go.Proofs.YtlkdaldfklaicaaGreatDoor
namespace Go.Proofs.YtlkdaldfklaicaaGreatDoor
open Go.RowKit Go.Lib
set_option linter.unusedSimpArgs false
set_option linter.unusedVariables false
attribute [local go_sem ↓] Go.wp_at_zero Go.wp_at_succ
def zdo (k:Nat) (fin:Pl) (r:RsC):Option Wd × RsC:=match r.1 with
 | []=>(none,zab 12 (zak fin r) r)
 | x :: l=>if r.2.2=0/\x.1=k/\zX (tkW x).2=false then (some x,(l,r.2)) else (none,zab 12 (zak fin r) r)
def wdA:Option Wd->Value
 | none=>.agg #[.int .i64 0,.string ⟨#[]⟩,.int .i64 0,.int .i64 0]
 | some x=>.agg #[.int .i64 (x.1:Int),.string (txt x.2.1),.int .i64 x.2.2.1,.int .i64 x.2.2.2]
theorem zdp {w4:World}{R:Nat}{a b c e:Value}{tmps:Array Value}(hR:World.cell? w4 ⟨R,0,none⟩=some a/\World.cell? w4 ⟨R,1,none⟩=some b/\World.cell? w4 ⟨R,2,none⟩=some c/\World.cell? w4 ⟨R,3,none⟩=some e) (ht:tmps.getD 4 undef=.pointer (some ⟨R,0,none⟩)):(results Tryz.f69 tmps).run Tryz.prog w4=.ok (.agg #[a,b,c,e]) w4:=by
 obtain ⟨c0,c1,c2,c3⟩:=hR
 have ht':tmps[4]?.getD undef=.pointer (some ⟨R,0,none⟩):=by simpa using ht
 simp [results,Tryz.results69,go_sem,ht',c0,c1,c2,c3]
theorem B4.atP {w:World}{N:Nat}{a b c e:Value}(h:B4 w N a b c e):w.cell? ⟨N,0,none⟩=some a/\w.cell? ⟨N,1,none⟩=some b/\w.cell? ⟨N,2,none⟩=some c/\w.cell? ⟨N,3,none⟩=some e:=⟨h.c0,h.c1,h.c2,h.c3⟩
theorem B4.fxP {w w':World}{X N:Nat}{a b c e:Value}(h:B4 w N a b c e) (hf:Fx X w w') (hN:N≠X):B4 w' N a b c e:=by
 have hb:w'.heap[N]?=w.heap[N]?:=hf.block N h.lt (fun q=>hN (Option.some.inj q))
 have hc:∀ i,w'.cell? ⟨N,i,none⟩=w.cell? ⟨N,i,none⟩:=fun i=>World.cell?_of_block (w:=w) (a:=⟨N,i,none⟩) hb
 have hz:∀ i,w'.frozen? ⟨N,i,none⟩=w.frozen? ⟨N,i,none⟩:=fun i=>World.frozen?_of_block (w:=w) (a:=⟨N,i,none⟩) hb
 exact ⟨(hc 0).trans h.c0,(hc 1).trans h.c1,(hc 2).trans h.c2,(hc 3).trans h.c3,(hz 0).trans h.f0,(hz 1).trans h.f1,(hz 2).trans h.f2,(hz 3).trans h.f3⟩
theorem Fx.put4' {X N:Nat}{a b:World}(h:Fx X a b) (hN:a.heap.size<=N) (c0 c1 c2 c3:Value):Fx X a (Go.Proofs.YtlkdaldfklaicaaGreatDoor.put4 b N c0 c1 c2 c3):=(((h.setN hN c0).setN hN c1).setN hN c2).setN hN c3
theorem Rr.put4 {w:World}{X N:Nat}{a:Option Addr}{cap:Nat}{ws:List Wd}{n:Nat}{b:Int}(h:Rr w X a cap ws n b) (hN:X < N) (c0 c1 c2 c3:Value):Rr (put4 w N c0 c1 c2 c3) X a cap ws n b:=(((h.far hN c0).far hN c1).far hN c2).far hN c3
abbrev zGW:Obj:=.cells #[.int .i64 0,.string ⟨#[]⟩,.int .i64 0,.int .i64 0] 73
theorem zmf (w:World):Below w.heap.size w (w.alloc zGW):=zn3.alloc zn2 _
theorem zif {w:World}{X:Nat}{a:Option Addr}{cap:Nat}{ws:List Wd}{fin:Pl}{r:RsC}(h:Pr w X a cap ws fin r) (hk:Wk ws cap) (k:Nat) (hno:r.2.2≠0∨r.1=[]∨∃ x l,r.1=x :: l/\(x.1≠k∨zX (tkW x).2=true)) :
  Calls Tryz.prog 69 #[.pointer (some ⟨X,0,none⟩),.int .i64 (k:Int)] w fun e w'=>e=.returned (wdA none)/\Pr w' X a cap ws fin (zab 12 (zak fin r) r)/\Fx X w w':=by
 obtain ⟨n,h1,h2,h3,h4⟩:=id h
 have hX:=h.lt
 have hR0:=h1.on (zmf w)
 have hB0:B4 (w.alloc zGW) w.heap.size (.int .i64 0) (.string ⟨#[]⟩) (.int .i64 0) (.int .i64 0):=B4.new w _ _ _ _ _ _ rfl
 have hF:=fun w1 (hr:Rr w1 X a cap ws n r.2.2)=>zb8 hr 12
 have hRs:=fun s w1=>zbQ s w1
 have hcap:=hk.c
 have hbad:∀ w',Rr w' X a cap ws n (if r.2.2=0 then 12 else r.2.2)->Pr w' X a cap ws fin (zab 12 (zak fin r) r):=fun w' hr=>Pr.bad hr h2 h3 h4
 have HB:Hid (∀ w',Rr w' X a cap ws n (if r.2.2=0 then 12 else r.2.2)->Pr w' X a cap ws fin (zab 12 (zak fin r) r)):=hbad
 obtain ⟨c0,c1,c2,f1,f2,hL⟩:=id hR0
 obtain ⟨b,hb⟩:∃ b,r.2.2=b:=⟨_,rfl⟩
 rw [hb] at c2 hno
 have i2:(0:Int)<=(n:Int):=by omega
 have hend:∀ w1,Fx X (w.alloc zGW) w1->Rr w1 X a cap ws n (if r.2.2=0 then 12 else r.2.2)->B4 w1 w.heap.size (.int .i64 0) (.string ⟨#[]⟩) (.int .i64 0) (.int .i64 0)/\Fx X w w1:=fun w1 hf hr=>⟨hB0.fxP hf (by omega),(Fx.of (zmf w) zn2).trans hf⟩
 have HEnd:Hid (∀ w1,Fx X (w.alloc zGW) w1->Rr w1 X a cap ws n (if r.2.2=0 then 12 else r.2.2)->B4 w1 w.heap.size (.int .i64 0) (.string ⟨#[]⟩) (.int .i64 0) (.int .i64 0)/\Fx X w w1):=hend
 clear hbad hend
 by_cases hz:b=0
 ·subst hz
  rcases hno with q|q|⟨x,l,q,q2⟩
  ·exact absurd rfl q
  ·rw [q] at h2
   have hn:=drop_nil h2 h3
   have i1:(n == ws.length)=true:=by simpa using hn
   have i3:((n:Int) == (ws.length:Int))=true:=by simp [hn]
   clear hL h2 h3 h4 q hn hB0 hRs
   go_enter Tryz.func69,Tryz.ntmps69
   go_wp2
   go_quiet (fail)
   have hr1:=hR0.on (zbk _ nq)
   have hfq:Fx X (w.alloc zGW) ((w.alloc zGW).drewN nq):=(Fx.refl _ _).drewN nq
   generalize (w.alloc zGW).drewN nq=w1 at *
   go_upto_region 3 with (first
    | (go_at_call 52;refine (hF _ hr1).mono ?_;rintro e w2 ⟨⟨u,rfl⟩,hr2,hf2⟩))
   obtain ⟨hB2,hF2⟩:=HEnd.out _ (hfq.trans hf2) hr2
   obtain ⟨y0,y1,y2,y3,z0,z1,z2,z3⟩:=id hB2
   go_wp2
   exact bodyPost_ret (zdp (hB2.put _ _ _ _).atP rfl) rfl ⟨rfl,HB.out _ (hr2.put4 hX _ _ _ _),hF2.put4' zn2 _ _ _ _⟩
  ·rw [q] at h2
   obtain ⟨hn,_,hx⟩:=zbv h2
   obtain ⟨g,off,rfl,hgX,d0,d1,d2,d3⟩:=hL n hn
   have i1:((n:Int) == (ws.length:Int))=false:=by simp;omega
   have i3:(n:Int) < (ws.length:Int):=by omega
   rw [hx hn] at d0 d1
   have hd1:(w.alloc zGW).cell? ⟨g,off+n*4+1,none⟩=some (.string ⟨(tkW x).2.toArray⟩):=d1
   have hRv:=fun w1=>hRs ⟨(tkW x).2.toArray⟩ w1
   have e2:bl ⟨(tkW x).2.toArray⟩=(tkW x).2:=rfl
   simp only [e2] at hRv
   obtain ⟨bs,hbs⟩:∃ bs,(tkW x).2=bs:=⟨_,rfl⟩
   obtain ⟨K,hK⟩:∃ K,x.1=K:=⟨_,rfl⟩
   simp only [hbs,hK] at hd1 d0 hRv q2
   clear hL h2 h3 h4 q hB0 hRs d1 d2 d3 hx e2 hbs hK
   by_cases hk1:K=k
   ·have i4:((K:Int) != (k:Int))=false:=by simp [hk1]
    have hrs:zX bs=true:=q2.resolve_left (fun e=>e hk1)
    simp only [hrs] at hRv
    have hRq:∀ n,Calls Tryz.prog 78 #[.string ⟨bs.toArray⟩] ((w.alloc zGW).drewN n) fun e w'=>e=.returned (.bool true)/\∃ m,w'=(w.alloc zGW).drewN m:=fun n=>(hRv _).mono (fun e w' hh=>⟨hh.1,n,hh.2.symm⟩)
    clear q2 hrs hk1 hRv
    go_enter Tryz.func69,Tryz.ntmps69
    go_wp2
    go_quiet (exact hRq _)
    have hr1:=hR0.on (zbk _ nq)
    have hfq:Fx X (w.alloc zGW) ((w.alloc zGW).drewN nq):=(Fx.refl _ _).drewN nq
    generalize (w.alloc zGW).drewN nq=w1 at *
    go_upto_region 3 with (first
     | (go_at_call 52;refine (hF _ hr1).mono ?_;rintro e w2 ⟨⟨u,rfl⟩,hr2,hf2⟩))
    obtain ⟨hB2,hF2⟩:=HEnd.out _ (hfq.trans hf2) hr2
    obtain ⟨y0,y1,y2,y3,z0,z1,z2,z3⟩:=id hB2
    go_wp2
    exact bodyPost_ret (zdp (hB2.put _ _ _ _).atP rfl) rfl ⟨rfl,HB.out _ (hr2.put4 hX _ _ _ _),hF2.put4' zn2 _ _ _ _⟩
   ·have i4:((K:Int) != (k:Int))=true:=by simp;omega
    clear q2 hRv
    go_enter Tryz.func69,Tryz.ntmps69
    go_wp2
    go_quiet (fail)
    have hr1:=hR0.on (zbk _ nq)
    have hfq:Fx X (w.alloc zGW) ((w.alloc zGW).drewN nq):=(Fx.refl _ _).drewN nq
    generalize (w.alloc zGW).drewN nq=w1 at *
    go_upto_region 3 with (first
     | (go_at_call 52;refine (hF _ hr1).mono ?_;rintro e w2 ⟨⟨u,rfl⟩,hr2,hf2⟩))
    obtain ⟨hB2,hF2⟩:=HEnd.out _ (hfq.trans hf2) hr2
    obtain ⟨y0,y1,y2,y3,z0,z1,z2,z3⟩:=id hB2
    go_wp2
    exact bodyPost_ret (zdp (hB2.put _ _ _ _).atP rfl) rfl ⟨rfl,HB.out _ (hr2.put4 hX _ _ _ _),hF2.put4' zn2 _ _ _ _⟩
 ·have i1:(b != 0)=true:=by simpa using hz
  clear hL h2 h3 h4 hno hB0 hRs
  go_enter Tryz.func69,Tryz.ntmps69
  go_wp2
  go_quiet (fail)
  have hr1:=hR0.on (zbk _ nq)
  have hfq:Fx X (w.alloc zGW) ((w.alloc zGW).drewN nq):=(Fx.refl _ _).drewN nq
  generalize (w.alloc zGW).drewN nq=w1 at *
  go_upto_region 3 with (first
   | (go_at_call 52;refine (hF _ hr1).mono ?_;rintro e w2 ⟨⟨u,rfl⟩,hr2,hf2⟩))
  obtain ⟨hB2,hF2⟩:=HEnd.out _ (hfq.trans hf2) hr2
  obtain ⟨y0,y1,y2,y3,z0,z1,z2,z3⟩:=id hB2
  go_wp2
  exact bodyPost_ret (zdp (hB2.put _ _ _ _).atP rfl) rfl ⟨rfl,HB.out _ (hr2.put4 hX _ _ _ _),hF2.put4' zn2 _ _ _ _⟩
theorem zj2 {w:World}{X:Nat}{a:Option Addr}{cap:Nat}{ws:List Wd}{fin:Pl}{r:RsC}(h:Pr w X a cap ws fin r) (hk:Wk ws cap) {x:Wd}{l:List Wd}(h0:r.2.2=0) (hr:r.1=x :: l) (hrs:zX (tkW x).2=false) :
  Calls Tryz.prog 69 #[.pointer (some ⟨X,0,none⟩),.int .i64 (x.1:Int)] w fun e w'=>e=.returned (wdA (some x))/\Pr w' X a cap ws fin (l,r.2)/\Fx X w w':=by
 obtain ⟨n,h1,h2,h3,h4⟩:=id h
 have hX:=h.lt
 have hR0:=h1.on (zmf w)
 have hB0:B4 (w.alloc zGW) w.heap.size (.int .i64 0) (.string ⟨#[]⟩) (.int .i64 0) (.int .i64 0):=B4.new w _ _ _ _ _ _ rfl
 have hcap:=hk.c
 have hlen:=hk.l
 rw [hr] at h2
 have HS:Hid (∀ w',Rr w' X a cap ws (n+1) r.2.2->Pr w' X a cap ws fin (l,r.2)):=fun w' q=>Pr.step q h2 h0
 rw [h0] at h1 hR0 HS
 obtain ⟨hn,_,hx⟩:=zbv h2
 obtain ⟨c0,c1,c2,f1,f2,hL⟩:=id hR0
 obtain ⟨g,off,rfl,hgX,d0,d1,d2,d3⟩:=hL n hn
 have i1:((n:Int) == (ws.length:Int))=false:=by simp;omega
 have i2:(0:Int)<=(n:Int):=by omega
 have i3:(n:Int) < (ws.length:Int):=by omega
 have i5:IntKind.i64.wrap ((n:Int)+1)=(n:Int)+1:=by rw [IntKind.wrap_i64];omega
 have i6:IntKind.i64.wrap ((n:Int)+1 - 1)=(n:Int):=by rw [IntKind.wrap_i64];omega
 rw [hx hn] at d0 d1 d2 d3
 have hRv:=fun w1=>zbQ (txt x.2.1) w1
 have e2:bl (txt x.2.1)=(tkW x).2:=rfl
 rw [e2,hrs] at hRv
 have hRq:∀ n,Calls Tryz.prog 78 #[.string (txt x.2.1)] ((w.alloc zGW).drewN n) fun e w'=>e=.returned (.bool false)/\∃ m,w'=(w.alloc zGW).drewN m:=fun n=>(hRv _).mono (fun e w' hh=>⟨hh.1,n,hh.2.symm⟩)
 unfold wdA
 obtain ⟨K,seg,ln,co⟩:=x
 simp only at d0 d1 d2 d3 hRq ⊢
 obtain ⟨bs,hbs⟩:∃ bs,txt seg=bs:=⟨_,rfl⟩
 rw [hbs] at d1 hRq ⊢
 have hfr:∀ m,Rr (((w.alloc zGW).drewN m).setCell ⟨X,1,none⟩ (.int .i64 ((n+1:Nat):Int))) X (some ⟨g,off,none⟩) cap ws (n+1) 0/\B4 (((w.alloc zGW).drewN m).setCell ⟨X,1,none⟩ (.int .i64 ((n+1:Nat):Int))) w.heap.size (.int .i64 0) (.string ⟨#[]⟩) (.int .i64 0) (.int .i64 0)/\Fx X w (((w.alloc zGW).drewN m).setCell ⟨X,1,none⟩ (.int .i64 ((n+1:Nat):Int))):=fun m=>
  ⟨(hR0.on (zbk _ m)).set1 (n+1),(hB0.keep (zbk _ m)).far (by omega) _,(((Fx.of (zmf w) zn2).drewN m).setX _)⟩
 have HF:Hid (∀ m,Rr (((w.alloc zGW).drewN m).setCell ⟨X,1,none⟩ (.int .i64 ((n+1:Nat):Int))) X (some ⟨g,off,none⟩) cap ws (n+1) 0/\B4 (((w.alloc zGW).drewN m).setCell ⟨X,1,none⟩ (.int .i64 ((n+1:Nat):Int))) w.heap.size (.int .i64 0) (.string ⟨#[]⟩) (.int .i64 0) (.int .i64 0)/\Fx X w (((w.alloc zGW).drewN m).setCell ⟨X,1,none⟩ (.int .i64 ((n+1:Nat):Int)))):=hfr
 have HX:Hid (∀ hn:n < ws.length,ws[n]=(K,seg,ln,co)):=hx
 clear hfr hL h2 h3 h4 hB0 hRv hrs e2 h0 hx hr
 go_enter Tryz.func69,Tryz.ntmps69
 go_wp2
 go_quiet (exact hRq _)
 obtain ⟨hR2,hB2,hF2⟩:=HF.out nq
 have hr1:=hR0.on (zbk _ nq)
 clear c0 c1 c2 f1 f2 d0 d1 d2 d3
 obtain ⟨c0,c1,c2,f1,f2,hL⟩:=id hr1
 clear hL
 generalize (w.alloc zGW).drewN nq=w1 at *
 go_upto_region 5 with fail
 obtain ⟨y0,y1,y2,y3,z0,z1,z2,z3⟩:=id hB2
 clear c0 c1 c2 f1 f2 hr1
 obtain ⟨c0,c1,c2,f1,f2,hL⟩:=id hR2
 obtain ⟨g',off',hgg,hgX',d0,d1,d2,d3⟩:=hL n hn
 simp only [Option.some.injEq,Addr.mk.injEq,and_true] at hgg
 obtain ⟨rfl,rfl⟩:=hgg
 rw [HX.out hn] at d0 d1 d2 d3
 simp only [hbs] at d0 d1 d2 d3
 have i7:(((n+1:Nat):Int))=(n:Int)+1:=by omega
 rw [i7] at c1 y0 y1 y2 y3 z0 z1 z2 z3 hB2 hF2 hR2 c0 c2 f1 f2 d0 d1 d2 d3
 clear hL
 generalize w1.setCell ⟨X,1,none⟩ (.int .i64 ((n:Int)+1))=w2 at *
 go_region
 go_wp2
 exact bodyPost_ret (zdp (hB2.put _ _ _ _).atP rfl) rfl ⟨rfl,HS.out _ ((hR2.put4 hX _ _ _ _).on (zn3.drew)),(hF2.put4' zn2 _ _ _ _).drew⟩
theorem zgR {w:World}{X:Nat}{a:Option Addr}{cap:Nat}{ws:List Wd}{fin:Pl}{r:RsC}(h:Pr w X a cap ws fin r) (hk:Wk ws cap) (k:Nat) :
  Calls Tryz.prog 69 #[.pointer (some ⟨X,0,none⟩),.int .i64 (k:Int)] w fun e w'=>e=.returned (wdA (zdo k fin r).1)/\Pr w' X a cap ws fin (zdo k fin r).2/\Fx X w w':=by
 unfold zdo
 cases hr:r.1 with
 | nil=>exact zif h hk k (.inr (.inl hr))
 | cons x l=>
  simp only
  by_cases hc:r.2.2=0/\x.1=k/\zX (tkW x).2=false
  ·rw [if_pos hc]
   obtain ⟨h0,rfl,hrs⟩:=hc
   exact zj2 h hk h0 hr hrs
  ·rw [if_neg hc]
   refine zif h hk k ?_
   by_cases h0:r.2.2=0
   ·refine .inr (.inr ⟨x,l,hr,?_⟩)
    by_cases hk1:x.1=k
    ·refine .inr ?_
     cases hb:zX (tkW x).2 with
     | true=>rfl
     | false=>exact absurd ⟨h0,hk1,hb⟩ hc
    ·exact .inl hk1
   ·exact .inl h0
