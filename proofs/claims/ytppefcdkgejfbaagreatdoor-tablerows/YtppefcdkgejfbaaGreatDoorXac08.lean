import Derived.Test.YtppefcdkgejfbaaGreatDoorXac07
import Derived.Test.YtppefcdkgejfbaaGreatDoorXac02
import Derived.Test.YtppefcdkgejfbaaGreatDoorXac04
import Derived.Test.YtppefcdkgejfbaaGreatDoorXac03
import Derived.Sort.CutIn
import Derived.Test.YtppefcdkgejfbaaGreatDoorRows
import Derived.Deep.Slices
import Derived.ProofKit
import Derived.OpenShut
import Derived.ShutString
import Derived.ChangeOld
import Derived.SizedLaws
import Derived.Below
import Derived.Test.YtppefcdkgejfbaaGreatDoorXac06
import Derived.Lib.ParseIntBCases
import Derived.Lib.AtoiAll
import Derived.Test.YtppefcdkgejfbaaGreatDoorXac01
import Derived.BigQuiet
import Derived.Deep.QuietTactic
import Derived.BigRegion
import Derived.Shelf.Unicode.DecodeSlow
import Derived.Deep.RegionHeldLaw
import Derived.Deep.DeepCutAuto
set_option maxRecDepth 100000
set_option maxHeartbeats 32000000
namespace Go.Proofs.YtppefcdkgejfbaaGreatDoor
open Go.RowKit Go.Lib Go.Shelf
set_option linter.unusedSimpArgs false
set_option linter.unusedVariables false
attribute [local go_sem] Oper.semAt_some
def nd0 (x:Nat × SgS):Nd:=match x.2 with
 | ⟨0,_⟩=>ndZ
 | ⟨_+1,t⟩=>(⟨t.1.1.1.toArray⟩,(0,(x.1:Int),0),(t.1.2.1.1,t.1.2.1.2,false))
def ndX (x:Fx3):Nd:=nd0 (x.1,x.2.1)
def OwnNd (w:World) (base:Nat) (v:Value) (l:List Nd):Prop:=w.ownsRow base 63 7 v l.length (l.map ndV).flatten
theorem OwnNd.rd {w:World}{base:Nat}{v:Value}{l:List Nd}(h:OwnNd w base v l):RdNd (fun b=>base<=b) w l v:=by
 have h2:OwnK w base 63 7 rNd v l:=⟨l.map ndV,h,by simp,fun i h h'=>by simp [rNd,ndV]⟩
 exact h2.rd kp_nd
def ndsM (fl:List (Nat × SgS)):List Nd:=if fl.length<=40 then (List.range fl.length).map (plN (fl.map nd0)) else []
theorem nodes_res {w:World}{R:Nat}{a:Option Addr}{n c:Nat}{tmps:Array Value}(hR:w.cell? ⟨R,0,none⟩=some (.slice a n c)) (ht:tmps.getD 2 undef=.pointer (some ⟨R,0,none⟩)):(results Tryz.f28 tmps).run Tryz.prog w=.ok (.slice a n c) w:=by
 have ht':tmps[2]?.getD undef=.pointer (some ⟨R,0,none⟩):=by simpa using ht
 unfold results
 simp [Tryz.f28,ht',go_sem,hR]
def lsJ (l:List Nd) (j:Nat):List Nd:=(List.range l.length).map (fun i=>if i < j then plN l i else nAt l i)
theorem lsJ_len (l:List Nd) (j:Nat):(lsJ l j).length=l.length:=by simp [lsJ]
theorem lsJ_zero (l:List Nd):lsJ l 0=l:=by
 apply List.ext_getElem (by simp [lsJ])
 intro i h1 h2
 simp [lsJ,nAt,h2]
theorem lsJ_at (l:List Nd) (j i:Nat) (hi:i < l.length):nAt (lsJ l j) i=if i < j then plN l i else nAt l i:=by
 unfold nAt lsJ
 rw [List.getD_eq_getElem?_getD,List.getElem?_map,List.getElem?_range hi]
 rfl
theorem lsJ_d (l:List Nd) (j i:Nat) (hi:i < l.length):nD (lsJ l j) i=nD l i:=by
 unfold nD
 rw [lsJ_at l j i hi]
 split<;>rfl
theorem lsJ_D (l:List Nd) (j:Nat):nD (lsJ l j)=nD l:=by
 funext i
 by_cases hi:i < l.length
 ·exact lsJ_d l j i hi
 ·unfold nD nAt
  rw [List.getD_eq_getElem?_getD,List.getD_eq_getElem?_getD,List.getElem?_eq_none (by rw [lsJ_len];omega),List.getElem?_eq_none (by omega)]
theorem lsJ_pl (l:List Nd) (j:Nat) (hj:j < l.length):plN (lsJ l j) j=plN l j:=by
 unfold plN
 rw [lsJ_D,lsJ_len,lsJ_at l j j hj,if_neg (Nat.lt_irrefl j)]
theorem lsJ_set (l:List Nd) (j:Nat) (hj:j < l.length):(lsJ l j).set j (plN l j)=lsJ l (j+1):=by
 apply List.ext_getElem (by simp [lsJ])
 intro i h1 h2
 rw [List.getElem_set]
 by_cases e:j=i
 ·subst e
  simp [lsJ]
 ·rw [if_neg e]
  simp only [lsJ,List.getElem_map,List.getElem_range]
  by_cases h:i < j
  ·rw [if_pos h,if_pos (by omega)]
  ·rw [if_neg h,if_neg (by omega)]
theorem ownNd_cells {w:World}{base g n rc:Nat}{l:List Nd}(h:OwnNd w base (.slice (some ⟨g,0,none⟩) n rc) l) (j:Nat) (hj:j < l.length) :
  (w.cell? ⟨g,j*7,none⟩=some (.string (nAt l j).1)/\w.frozen? ⟨g,j*7,none⟩=false)/\(w.cell? ⟨g,j*7+1,none⟩=some (.int .i64 (nP l j))/\w.frozen? ⟨g,j*7+1,none⟩=false)/\(w.cell? ⟨g,j*7+2,none⟩=some (.int .i64 (nD l j))/\w.frozen? ⟨g,j*7+2,none⟩=false)/\(w.cell? ⟨g,j*7+3,none⟩=some (.int .i64 (nB l j))/\w.frozen? ⟨g,j*7+3,none⟩=false)/\
  (w.cell? ⟨g,j*7+4,none⟩=some (.bool (nAt l j).2.2.1)/\w.frozen? ⟨g,j*7+4,none⟩=false)/\(w.cell? ⟨g,j*7+5,none⟩=some (.bool (nAt l j).2.2.2.1)/\w.frozen? ⟨g,j*7+5,none⟩=false)/\(w.cell? ⟨g,j*7+6,none⟩=some (.bool (nL l j))/\w.frozen? ⟨g,j*7+6,none⟩=false):=by
 obtain ⟨b,off,hb,_,c0,c1,c2,c3,c4,c5,c6⟩:=nd_at h.rd j hj
 obtain rfl:n=l.length:=by
  rcases h.2 with ⟨h1,_⟩|⟨g,cap,cur,h1,_⟩
  ·cases h1
  ·simp only [Value.slice.injEq] at h1;exact h1.2.1
 have hf:=World.ownsRow.frozenAt h
 simp only [Option.some.injEq,Addr.mk.injEq,and_true] at hb
 obtain ⟨rfl,rfl⟩:=hb
 simp only [Nat.zero_add] at c0 c1 c2 c3 c4 c5 c6
 exact ⟨⟨c0,hf _⟩,⟨c1,hf _⟩,⟨c2,hf _⟩,⟨c3,hf _⟩,⟨c4,hf _⟩,⟨c5,hf _⟩,⟨c6,hf _⟩⟩
def onlyN (Q:Exit->Act->World->Prop):Exit->Act->World->Prop
 | .normal,a,w=>Q .normal a w
 | _,_,_=>False
theorem onlyN_out {Q:Exit->Act->World->Prop}(e:Exit) (a:Act) (w:World) (h:onlyN Q e a w):Q e a w:=by
 cases e with
 | normal=>exact h
 | _=>exact h.elim
theorem flat_set7 (q:Nd) (v0 v1 v2 v3 v4 v5 v6:Value) (hq:ndV q=[v0,v1,v2,v3,v4,v5,v6]):∀ (l:List Nd) (j:Nat),j < l.length->
  (((((((((l.map ndV).flatten.set (j*7) v0).set (j*7+1) v1).set (j*7+2) v2).set (j*7+3) v3).set (j*7+4) v4).set (j*7+5) v5).set (j*7+6) v6))=((l.set j q).map ndV).flatten
 | [],j,h=>by simp at h
 | x :: t,0,_=>by
  simp only [List.set_cons_zero,List.map_cons,List.flatten_cons,hq]
  simp [ndV]
 | x :: t,j+1,h=>by
  have ih:=flat_set7 q v0 v1 v2 v3 v4 v5 v6 hq t j (by simpa using h)
  have e:∀ (k:Nat) (v:Value) (r:List Value),(ndV x++r).set ((j+1)*7+k) v=ndV x++r.set (j*7+k) v:=fun k v r=>by
   rw [List.set_append_right _ _ (by simp [ndV];omega)]
   congr 2
   simp [ndV];omega
  have e0:∀ (v:Value) (r:List Value),(ndV x++r).set ((j+1)*7) v=ndV x++r.set (j*7) v:=fun v r=>e 0 v r
  simp only [List.map_cons,List.flatten_cons,e0,e,List.set_cons_succ]
  rw [ih]
theorem ownNd_put {w:World}{base g n rc:Nat}{l:List Nd}(h:OwnNd w base (.slice (some ⟨g,0,none⟩) n rc) l) (j:Nat) (hj:j < l.length) (q:Nd) (v0 v1 v2 v3 v4 v5 v6:Value) (hq:ndV q=[v0,v1,v2,v3,v4,v5,v6]) :
  OwnNd (((((((w.setCell ⟨g,j*7,none⟩ v0).setCell ⟨g,j*7+1,none⟩ v1).setCell ⟨g,j*7+2,none⟩ v2).setCell ⟨g,j*7+3,none⟩ v3).setCell ⟨g,j*7+4,none⟩ v4).setCell ⟨g,j*7+5,none⟩ v5).setCell ⟨g,j*7+6,none⟩ v6) base (.slice (some ⟨g,0,none⟩) n rc) (l.set j q):=by
 obtain rfl:n=l.length:=by
  rcases h.2 with ⟨h1,_⟩|⟨g,cap,cur,h1,_⟩
  ·cases h1
  ·simp only [Value.slice.injEq] at h1;exact h1.2.1
 have s0:=(World.ownsRow.stored h (j*7) v0).1
 have s1:=(World.ownsRow.stored s0 (j*7+1) v1).1
 have s2:=(World.ownsRow.stored s1 (j*7+2) v2).1
 have s3:=(World.ownsRow.stored s2 (j*7+3) v3).1
 have s4:=(World.ownsRow.stored s3 (j*7+4) v4).1
 have s5:=(World.ownsRow.stored s4 (j*7+5) v5).1
 have s6:=(World.ownsRow.stored s5 (j*7+6) v6).1
 rw [flat_set7 q v0 v1 v2 v3 v4 v5 v6 hq l j hj] at s6
 unfold OwnNd
 rw [List.length_set]
 exact s6
def NdI (w:World) (pre:List Fx3) (o:Nat->Prop) (W:World):Prop:=
 ∃ v,Bn W (w.heap.size+2) [v]/\Bn W (w.heap.size+1) [.slice none 0 0]/\OwnNd W (w.heap.size+4) v (pre.map ndX)/\(∀ k,o k↔(k=w.heap.size+1∨k=w.heap.size+2∨v.ownBlock=some k))/\pre.length<=40/\w.heap.size+4<=W.heap.size/\Below w.heap.size w W
def NdA (w:World) (T:Fx3->Nat->Array Value) (pre:List Fx3) (x:Fx3) (a':Act) (o:Nat->Prop) (W:World):Prop:=
 ∃ v Bs,Bn W (w.heap.size+2) [v]/\Bn W (w.heap.size+1) [.slice none 0 0]/\OwnNd W (w.heap.size+4) v (pre.map ndX)/\(∀ k,o k↔(k=w.heap.size+1∨k=w.heap.size+2∨v.ownBlock=some k∨k=Bs))/\pre.length<=40/\w.heap.size+4<=W.heap.size/\Below w.heap.size w W/\
  w.heap.size+4<=Bs/\v.ownBlock≠some Bs/\Bs < W.heap.size/\Bn W Bs x.2.2/\a'={ tmps:=T x Bs,defers:=[] }
def NdX (w:World) (c:Code) (pre:List Fx3) (o:Nat->Prop) (W:World):Prop:=c=.ret/\pre.length=41/\Bn W (w.heap.size+1) [.slice none 0 0]/\o (w.heap.size+1)/\w.heap.size+4<=W.heap.size/\Below w.heap.size w W
theorem bn_keep {K:Nat->Prop}{A B:World}{Y:Nat}{u:Value}{cs:List Value}(h:Bn A Y (u :: cs)) (hs:Sm K A B) (hK:K Y):Bn B Y (u :: cs):=h.blk (hs.block Y h.lt hK)
theorem ndI_len {w:World}{s:List Fx3}{o:Nat->Prop}{A:World}(h:NdI w s o A):∀ k,o k->k < A.heap.size/\w.heap.size<=k:=by
 obtain ⟨v,h1,h2,h3,h4,h5,h6,h7⟩:=h
 intro k hk
 rcases (h4 k).1 hk with rfl|rfl|hk
 ·exact ⟨by omega,by omega⟩
 ·exact ⟨by omega,by omega⟩
 ·have:=ownsRow_lt h3 k hk
  exact ⟨this.2,by omega⟩
theorem ndI_stb (w:World):Stb w.heap.size (NdI w):=by
 rintro s o A B ⟨v,h1,h2,h3,h4,h5,h6,h7⟩ hs
 exact ⟨v,bn_keep h1 hs (.inr ((h4 _).2 (.inr (.inl rfl)))),bn_keep h2 hs (.inr ((h4 _).2 (.inl rfl))),ownsRow_keep h3 (fun g hg=>hs.block g (ownsRow_lt h3 g hg).2 (.inr ((h4 _).2 (.inr (.inr hg))))),h4,h5,Nat.le_trans h6 hs.size,h7.trans (hs.below h7.size (fun i hi=>.inl hi))⟩
theorem ndA_stb (w:World) (T:Fx3->Nat->Array Value) (pre:List Fx3) (x:Fx3) (a':Act):Stb w.heap.size (fun (_:Unit)=>NdA w T pre x a'):=by
 rintro _ o A B ⟨v,Bs,h1,h2,h3,h4,h5,h6,h7,h8,h9,h10,h11,h12⟩ hs
 refine ⟨v,Bs,bn_keep h1 hs (.inr ((h4 _).2 (.inr (.inl rfl)))),bn_keep h2 hs (.inr ((h4 _).2 (.inl rfl))),ownsRow_keep h3 (fun g hg=>hs.block g (ownsRow_lt h3 g hg).2 (.inr ((h4 _).2 (.inr (.inr (.inl hg)))))),h4,h5,Nat.le_trans h6 hs.size,h7.trans (hs.below h7.size (fun i hi=>.inl hi)),h8,h9,Nat.lt_of_lt_of_le h10 hs.size,?_,h12⟩
 exact h11.blk (hs.block Bs h10 (.inr ((h4 _).2 (.inr (.inr (.inr rfl))))))
theorem ndX_stb (w:World) (c:Code):Stb w.heap.size (NdX w c):=by
 rintro s o A B ⟨h0,h1,h2,h3,h4,h5⟩ hs
 exact ⟨h0,h1,bn_keep h2 hs (.inr h3),h3,Nat.le_trans h4 hs.size,h5.trans (hs.below h5.size (fun i hi=>.inl hi))⟩
theorem flX_form {ok:Nat->Prop}{w:World}{d:Nat}{l:List (St d)}{v:Value}(h:RdK ok w 11 (rSt d ok w) l v) {pre rest:List Fx3}{x:Fx3}(hx:flX w d 0 l v=pre++x :: rest) :
  ∃ (k e:Nat) (t:St (e+1)) (s0 s1 s2:ByteArray) (n1 n2 n3 n4:Int) (b1 b2:Bool) (oa:Option Addr) (on oc:Nat) (ia:Option Addr) (il ic:Nat),x=(k,⟨e+1,t⟩,[.string s0,.int .i64 n1,.int .i64 n2,.bool b1,.bool b2,.string s1,.string s2,.int .i64 n3,.int .i64 n4,.slice oa on oc,.slice ia il ic])/\
   Hid (ndX x=(s0,(0,(k:Int),0),(b1,b2,false))/\s0.size=t.1.1.1.length):=by
 have hr:=flX_rd d 0 l v h x (by rw [hx];simp)
 obtain ⟨k,⟨e,t⟩,cs⟩:=x
 cases e with
 | zero=>exact Empty.elim t
 | succ e=>
  obtain ⟨so,si,he,h1,h2⟩:=hr
  obtain ⟨oa,oc,rfl,_,_⟩:=h1.form
  obtain ⟨ia,ic,rfl,_,_⟩:=h2.form
  refine ⟨k,e,t,⟨t.1.1.1.toArray⟩,⟨t.1.2.2.1.1.toArray⟩,⟨t.1.2.2.1.2.toArray⟩,t.1.1.2.1,t.1.1.2.2,t.1.2.2.2.1.1,t.1.2.2.2.1.2,t.1.2.1.1,t.1.2.1.2,oa,t.1.2.2.2.2.length,oc,ia,t.2.length,ic,?_,rfl,?_⟩
  ·simp only at he
   rw [he]
   rfl
  ·show t.1.1.1.toArray.size=_
   simp
theorem tnodes_any {ok:Nat->Prop}{w:World}{d:Nat}{c:ChG d}{v:Value}(h:RdC ok w d c v) (hok:∀ b,ok b->b < w.heap.size) (hlen:(flM d 0 c.2.2.2).length<=1000000) (hnm:∀ y∈flM d 0 c.2.2.2,(nd0 y).1.size<=140737488351232) :
  Calls Tryz.prog 28 #[v] w fun e w'=>∃ r,e=.returned r/\RdNd (fun b=>w.heap.size<=b) w' (ndsM (flM d 0 c.2.2.2)) r/\Below w.heap.size w w':=by
 obtain ⟨sv,ss,rfl,hvv,hss⟩:=h
 obtain ⟨va,vc,rfl,hv1,hv2⟩:=hvv.form
 obtain ⟨sa,sc,rfl,hs1,hs2⟩:=hss.form
 unfold maxLen at hv2 hs2
 have HR:=hidOf hss
 clear hvv hss
 refine (callsIn_wide (n:=5)).1 ?_
 refine callsIn_of_wp_marks Tryz.func28 rfl trivial ?_ rfl
 simp only [Tryz.ntmps28,List.size_toArray,List.length_cons,List.length_nil,Nat.reduceAdd,Nat.reduceSub,Array.replicate_succ,Array.replicate_zero,List.push_toArray,List.append_toArray,List.nil_append,List.cons_append]
 gi_wp2_with (refine ⟨trivial,?_⟩;gi_at_call 35;refine (states_in Fence.wide _ trivial rfl _ _ _ _ _ _ _).mono ?_;rintro e w' ⟨rfl,rfl⟩)
 obtain ⟨W4,hW4⟩:∃ W4,(((w.alloc (.cells #[sV c.1.1,.int .i64 c.2.1,.int .i64 c.1.2.1,.int .i64 c.1.2.2,.slice va c.2.2.1.length vc,.slice sa c.2.2.2.length sc] 42)).alloc (.cells #[.slice none 0 0] 30)).alloc (.cells #[.slice none 0 0] 30)).alloc (.cells #[sV c.1.1,.int .i64 c.2.1,.int .i64 c.1.2.1,.int .i64 c.1.2.2,.slice va c.2.2.1.length vc,.slice sa c.2.2.2.length sc] 42)=W4:=⟨_,rfl⟩
 have hsz:W4.heap.size=w.heap.size+4:=by rw [<- hW4];simp
 have hB:Below w.heap.size w W4:=by rw [<- hW4];exact ((((Below.refl _ w).alloc Nat.le.refl _).alloc (by simp) _).alloc (by simp;omega) _).alloc (by simp;omega) _
 have hX:W4.cell? ⟨w.heap.size+1+1+1,5,none⟩=some (.slice sa c.2.2.2.length sc):=by rw [<- hW4];exact ((Bn.new _ [sV c.1.1,.int .i64 c.2.1,.int .i64 c.1.2.1,.int .i64 c.1.2.2,.slice va c.2.2.1.length vc,.slice sa c.2.2.2.length sc] 42 (w.heap.size+1+1+1) (by simp)) 5 _ rfl).1
 have hR1:Bn W4 (w.heap.size+1) [.slice none 0 0]:=by
  rw [<- hW4]
  refine ((Bn.new _ [.slice none 0 0] 30 (w.heap.size+1) (by simp)).on ((Below.refl _ _).alloc Nat.le.refl _)).on ((Below.refl _ _).alloc Nat.le.refl _)
 have hL1:Bn W4 (w.heap.size+2) [.slice none 0 0]:=by
  rw [<- hW4]
  exact (Bn.new _ [.slice none 0 0] 30 (w.heap.size+2) (by simp)).on ((Below.refl _ _).alloc Nat.le.refl _)
 rw [hW4]
 clear hW4
 have hrd4:RdK ok W4 11 (rSt d ok W4) c.2.2.2 (.slice sa c.2.2.2.length sc):=HR.out.stay (kp_st d) (fun b hb hl=>⟨hb,hB.block b (hok b hb)⟩)
 have hlen4:(flX W4 d 0 c.2.2.2 (.slice sa c.2.2.2.length sc)).length<=1000000:=by rw [<- List.length_map (f:=fun x:Fx3=>(x.1,x.2.1)),flX_map];exact hlen
 refine wpIn_rangeFunc_st rfl (by omega) (gf:=56) (lb:=#[.pointer (some ⟨w.heap.size+1+1+1,0,none⟩)]) rfl trivial (enters_of Tryz.func56 (by kernel_rfl) rfl)
  (states_owns (F:=Fence.wide) (n:=5 - 1) trivial rfl (by omega) (ok:=ok) hX hok (by omega) hrd4 hlen4) (Below.refl _ _) (m:=w.heap.size) (by omega) (fun _=>rfl)
  (NdI w) (NdA w (fun x Bs=>#[.agg #[sV c.1.1,.int .i64 c.2.1,.int .i64 c.1.2.1,.int .i64 c.1.2.2,.slice va c.2.2.1.length vc,.slice sa c.2.2.2.length sc],.pointer (some ⟨w.heap.size,0,none⟩),.pointer (some ⟨w.heap.size+1,0,none⟩),.pointer (some ⟨w.heap.size+1+1,0,none⟩),
   .int .i64 (x.1:Int),.pointer (some ⟨Bs,0,none⟩),undef,.agg #[sV c.1.1,.int .i64 c.2.1,.int .i64 c.1.2.1,.int .i64 c.1.2.2,.slice va c.2.2.1.length vc,.slice sa c.2.2.2.length sc],.func (.func 56) #[] #[.pointer (some ⟨w.heap.size+1+1+1,0,none⟩)],.int .i64 (x.1:Int),.agg x.2.2.toArray,
   undef,undef,undef,undef,undef,undef,undef,undef,undef,undef,undef,undef,undef,undef,undef,undef,undef,undef,undef,undef,undef,undef,undef,undef,undef,undef,undef,undef])) (NdX w)
  (fun s o A h=>ndI_len h) (ndI_stb w) (fun pre x a'=>ndA_stb w _ pre x a') (ndX_stb w) (fun k=>k=w.heap.size+1∨k=w.heap.size+2) ?h0 ?assign ?body ?done ?stop
 case h0=>exact ⟨.slice none 0 0,hL1,hR1,World.ownsRow_nil _ _ _ _,fun k=>by simp [Value.ownBlock],by simp,by omega,hB⟩
 case assign=>
  rintro l pre x rest o W K hxs ⟨v,i1,i2,i3,i4,i5,i6,i7⟩ hK
  obtain ⟨k,e,t,s0,s1,s2,n1,n2,n3,n4,b1,b2,oa,on,oc,ia,il,ic,rfl,HN⟩:=flX_form hrd4 hxs
  simp only [encS]
  gi_wp2
  have hal:Below W.heap.size W (W.alloc (.cells #[.string s0,.int .i64 n1,.int .i64 n2,.bool b1,.bool b2,.string s1,.string s2,.int .i64 n3,.int .i64 n4,.slice oa on oc,.slice ia il ic] 79)):=(Below.refl _ _).alloc Nat.le.refl _
  refine hK _ (fun k=>o k∨k=W.heap.size) _ ⟨Sm.alloc _ _ _,fun k hk=>hk.imp id (fun e=>Nat.le_of_eq e.symm)⟩ ⟨v,W.heap.size,i1.on hal,i2.on hal,ownsRow_keep i3 (fun g hg=>hal.block g (ownsRow_lt i3 g hg).2),fun k=>?_,i5,Nat.le_trans i6 hal.size,i7.trans (hal.mono i7.size),i6,fun e=>?_,by simp,Bn.new W _ _ _ rfl,rfl⟩
  ·show (o k∨k=W.heap.size)↔_
   rw [i4 k,or_assoc,or_assoc]
  ·have:=(ownsRow_lt i3 _ e).2
   omega
 case body=>
  rintro l pre x rest a' o W hxs ⟨v,Bs,i1,i2,i3,i4,i5,i6,i7,i8,i9,i10,i11,rfl⟩
  obtain ⟨k,e,t,s0,s1,s2,n1,n2,n3,n4,b1,b2,oa,on,oc,ia,il,ic,rfl,HN⟩:=flX_form hrd4 hxs
  have hform:∃ a cap,v=.slice a pre.length cap/\pre.length<=cap/\cap<=maxLen:=by
   rcases i3.2 with ⟨h1,h2⟩|⟨g,cap,cur,h1,_,_,h3,h4,_⟩
   ·have h2':pre.length=0:=by simpa using h2
    exact ⟨none,0,by rw [h1,h2'],by omega,by simp [maxLen]⟩
   ·exact ⟨some ⟨g,0,none⟩,cap,by simpa using h1,by simpa using h3,h4⟩
  obtain ⟨ra,rc,rfl,hrc,hrm⟩:=hform
  obtain ⟨cL,fL⟩:=i1 0 _ rfl
  obtain ⟨cR,fR⟩:=i2 0 _ rfl
  have q0:=(i11 0 _ rfl).1
  have q3:=(i11 3 _ rfl).1
  have q4:=(i11 4 _ rfl).1
  have HXS:=hidOf hxs
  clear hxs
  obtain ⟨n,hn⟩:∃ n,pre.length=n:=⟨_,rfl⟩
  rw [hn] at cL i5
  unfold maxLen at hrm
  dsimp only
  have hL2:w.heap.size+2 < W.heap.size:=by omega
  have hBo:some Bs≠(Value.slice ra n rc).ownBlock:=by rw [<- hn];exact fun e=>i9 e.symm
  have hown:∀ g,(Value.slice ra n rc).ownBlock=some g->w.heap.size+4<=g/\g < W.heap.size:=by rw [<- hn];exact ownsRow_lt i3
  have hLo:some (w.heap.size+2)≠(Value.slice ra n rc).ownBlock:=fun e=>by have:=(hown _ e.symm).1;omega
  have hRo:some (w.heap.size+1)≠(Value.slice ra n rc).ownBlock:=fun e=>by have:=(hown _ e.symm).1;omega
  have nBL:Bs≠w.heap.size+2:=by omega
  have hml:(pre.map ndX).length=n:=by simp [hn]
  unfold OwnNd at i3
  rw [hml,hn] at i3
  rw [hn] at i4
  have hsz0:s0.size<=140737488351232:=by
   have hmem:(k,(⟨e+1,t⟩:SgS))∈flM d 0 c.2.2.2:=by
    rw [<- flX_map W4 d 0 c.2.2.2 (.slice sa c.2.2.2.length sc),HXS.out]
    simp
   have:=hnm _ hmem
   have h2:=congrArg (fun z:Nd=>z.1.size) HN.out.1
   have h3:(nd0 (k,(⟨e+1,t⟩:SgS))).1.size=s0.size:=h2
   omega
  by_cases h40:n=40
  ·subst h40
   gi_wp2
   refine ⟨o,⟨Sm.setCell _ _ _ _ (fun h=>?_),fun _ h=>.inl h⟩,rfl,by simp [hn],?_,(i4 _).2 (.inl rfl),by simpa [World.setCell] using i6,i7.setCell (p:=⟨w.heap.size+1,0,none⟩) (by simp) _⟩
   ·rcases h with h|h
    ·have h':w.heap.size+1 < w.heap.size:=h
     omega
    ·exact h ((i4 _).2 (.inl rfl))
   ·have:=i2.set (i:=0) (by simp) (.slice none 0 0)
    exact this
  ·have h40':¬ ((n:Int)=40):=by omega
   have FIN:∀ (wa wb:World) (gb cb:Nat),Below W.heap.size W wa->wb.ownsRow (w.heap.size+4) 63 7 (.slice (some ⟨gb,0,none⟩) (n+1) cb) (n+1) (((pre.map ndX).map ndV).flatten++[.string s0,.int .i64 0,.int .i64 (k:Int),.int .i64 0,.bool b1,.bool b2,.bool false])->
     (wa.alloc (.cells #[.string s0,.int .i64 0,.int .i64 (k:Int),.int .i64 0,.bool b1,.bool b2,.bool false] 63)).grownBy wb (Value.slice ra n rc).ownBlock->((Value.slice (some ⟨gb,0,none⟩) (n+1) cb).ownBlock=(Value.slice ra n rc).ownBlock∨(Value.slice (some ⟨gb,0,none⟩) (n+1) cb).ownBlock=some (wa.alloc (.cells #[.string s0,.int .i64 0,.int .i64 (k:Int),.int .i64 0,.bool b1,.bool b2,.bool false] 63)).heap.size)->
     ∃ o',Fp w.heap.size o o' W (wb.setCell ⟨w.heap.size+2,0,none⟩ (.slice (some ⟨gb,0,none⟩) (n+1) cb))/\NdI w (pre++[(k,(⟨e+1,t⟩:SgS),[.string s0,.int .i64 n1,.int .i64 n2,.bool b1,.bool b2,.string s1,.string s2,.int .i64 n3,.int .i64 n4,.slice oa on oc,.slice ia il ic])]) o' (wb.setCell ⟨w.heap.size+2,0,none⟩ (.slice (some ⟨gb,0,none⟩) (n+1) cb)):=by
    intro wa wb gb cb bw hOb hgb hat
    have hgb':gb=w.heap.size+2->False:=fun e=>by have:=(ownsRow_lt hOb gb rfl).1;omega
    have hR1:wb.heap[w.heap.size+1]?=W.heap[w.heap.size+1]?:=(hgb.block _ (by have:=bw.size;simp;omega) hRo).trans ((Below.heap_alloc _ _ _ (by have:=bw.size;omega)).trans (bw.block _ (by omega)))
    have hL1:wb.heap[w.heap.size+2]?=W.heap[w.heap.size+2]?:=(hgb.block _ (by have:=bw.size;simp;omega) hLo).trans ((Below.heap_alloc _ _ _ (by have:=bw.size;omega)).trans (bw.block _ (by omega)))
    have hsb:W.heap.size<=wb.heap.size:=Nat.le_trans bw.size (by have:=hgb.size;simp at this;omega)
    refine ⟨fun j=>j=w.heap.size+1∨j=w.heap.size+2∨some gb=some j,⟨?_,?_⟩,.slice (some ⟨gb,0,none⟩) (n+1) cb,?_,?_,?_,fun j=>Iff.rfl,by simp [hn];omega,by simp [World.setCell];omega,?_⟩
    ·refine ((Sm.of_below (K:=fun j=>j < w.heap.size∨¬ o j) bw (fun _ h _=>h)).trans (Sm.alloc (fun j=>j < w.heap.size∨¬ o j) _ _) (fun _ _ h=>h)).trans (Sm.of_grown (K:=fun j=>j < w.heap.size∨¬ o j) hgb (fun j _ hj e=>?_)) (fun _ _ h=>h) |>.trans (Sm.setCell (fun j=>j < w.heap.size∨¬ o j) _ _ _ (fun h=>?_)) (fun _ _ h=>h)
     ·rcases hj with hj|hj
      ·have:=(hown _ e.symm).1;omega
      ·exact hj ((i4 _).2 (.inr (.inr (.inl e.symm))))
     ·rcases h with h|h
      ·have h':w.heap.size+2 < w.heap.size:=h
       omega
      ·exact h ((i4 _).2 (.inr (.inl rfl)))
    ·rintro j (rfl|rfl|hj)
     ·exact .inl ((i4 _).2 (.inl rfl))
     ·exact .inl ((i4 _).2 (.inr (.inl rfl)))
     ·rcases hat with h|h
      ·exact .inl ((i4 _).2 (.inr (.inr (.inl (h.symm.trans hj)))))
      ·right
       have h':some gb=some (wa.alloc (.cells #[.string s0,.int .i64 0,.int .i64 (k:Int),.int .i64 0,.bool b1,.bool b2,.bool false] 63)).heap.size:=h
       have h1:=Option.some.inj h'
       have h2:=Option.some.inj hj
       have h3:=bw.size
       rw [World.size_alloc] at h1
       omega
    ·have:=(i1.blk hL1).set (i:=0) (by simp) (.slice (some ⟨gb,0,none⟩) (n+1) cb)
     exact this
    ·exact (i2.blk hR1).far (by omega) _
    ·have h1:OwnNd wb (w.heap.size+4) (.slice (some ⟨gb,0,none⟩) (n+1) cb) ((pre++[((k,(⟨e+1,t⟩:SgS),[.string s0,.int .i64 n1,.int .i64 n2,.bool b1,.bool b2,.string s1,.string s2,.int .i64 n3,.int .i64 n4,.slice oa on oc,.slice ia il ic]):Fx3)]).map ndX):=by
      unfold OwnNd
      rw [List.map_append,List.map_singleton,HN.out.1,List.length_append,hml,List.map_append,List.flatten_append]
      simpa [ndV] using hOb
     refine ownsRow_keep h1 (fun g hg=>Below.heap_setCell _ _ _ _ (fun e=>?_))
     have hg':some gb=some g:=hg
     have h2:=Option.some.inj hg'
     have h3:g=w.heap.size+2:=e
     exact hgb' (by omega)
    ·refine i7.trans ?_
     refine (((Below.refl _ W).trans (bw.mono i7.size)).alloc (by have:=bw.size;have:=i7.size;omega) _).grown hgb (by have:=bw.size;have:=i7.size;simp;omega) (fun j hj=>by have:=(hown _ hj).1;omega) |>.setCell (p:=⟨w.heap.size+2,0,none⟩) (by simp) _
   obtain ⟨ie,hie,hie0,hie1,hie2⟩:=info_parts Tryz.infoNdP
   gi_wp2
   refine wpIn_region_round (S:=fun (W:World)=>W.cell? ⟨Bs,0,none⟩=some (.string s0)/\W.cell? ⟨Bs,3,none⟩=some (.bool b1)/\W.cell? ⟨Bs,4,none⟩=some (.bool b2)) (by kernel_rfl) (by kernel_rfl) (fun ⟨_,_,h⟩=>h) ?_ (fun hHeld=>?_)
   ·(try dsimp only);(refine ⟨?_,?_,?_⟩<;>(repeat (with_reducible first|assumption|refine cell_al ?_|refine cell_dr ?_|refine cell_far4 (ne_pt nBL) ?_))<;>done)
   refine wpAnyH_take (i:=1) (oi:=_) (v:=_) rfl (by kernel_rfl) (by kernel_rfl) (by kernel_rfl) (fun _ _ _ h=>h) (Or.inl ⟨by rfl,by intro w hSw;(try dsimp only at hSw);go_simp;try (with_reducible rfl)⟩) (by assumption) ?_
   (try simp only [Act.put,List.setIfInBounds_toArray,List.set_cons_zero,List.set_cons_succ])
   refine wpAnyH_take (i:=2) (oi:=_) (v:=_) rfl (by kernel_rfl) (by kernel_rfl) (by kernel_rfl) (fun _ _ _ h=>h) (Or.inl ⟨by rfl,by intro w hSw;(try dsimp only at hSw);go_simp;try (with_reducible rfl)⟩) (by assumption) ?_
   (try simp only [Act.put,List.setIfInBounds_toArray,List.set_cons_zero,List.set_cons_succ])
   refine wpAnyH_take (i:=4) (oi:=_) (v:=_) rfl (by kernel_rfl) (by kernel_rfl) (by kernel_rfl) (fun _ _ _ h=>h) (Or.inl ⟨by rfl,by intro w hSw;(try dsimp only at hSw);go_simp;try (with_reducible rfl)⟩) (by assumption) ?_
   (try simp only [Act.put,List.setIfInBounds_toArray,List.set_cons_zero,List.set_cons_succ])
   refine wpAnyH_take (i:=5) (oi:=_) (v:=_) rfl (by kernel_rfl) (by kernel_rfl) (by kernel_rfl) (fun _ _ _ h=>h) (Or.inl ⟨by rfl,by intro w hSw;(try dsimp only at hSw);go_simp;try (with_reducible rfl)⟩) (by assumption) ?_
   (try simp only [Act.put,List.setIfInBounds_toArray,List.set_cons_zero,List.set_cons_succ])
   refine wpAnyH_take (i:=6) (oi:=_) (v:=_) rfl (by kernel_rfl) (by kernel_rfl) (by kernel_rfl) (fun _ _ _ h=>h) (Or.inl ⟨by rfl,by intro w hSw;(try dsimp only at hSw);go_simp;try (with_reducible rfl)⟩) (by assumption) ?_
   (try simp only [Act.put,List.setIfInBounds_toArray,List.set_cons_zero,List.set_cons_succ])
   refine wpAnyH_take (i:=7) (oi:=_) (v:=_) rfl (by kernel_rfl) (by kernel_rfl) (by kernel_rfl) (fun _ _ _ h=>h) (Or.inl ⟨by rfl,by intro w hSw;(try dsimp only at hSw);go_simp;try (with_reducible rfl)⟩) (by assumption) ?_
   (try simp only [Act.put,List.setIfInBounds_toArray,List.set_cons_zero,List.set_cons_succ])
   refine wpAnyH_take (i:=8) (oi:=_) (v:=_) rfl (by kernel_rfl) (by kernel_rfl) (by kernel_rfl) (fun _ _ _ h=>h) (Or.inl ⟨by rfl,by intro w hSw;(try dsimp only at hSw);go_simp;try (with_reducible rfl)⟩) (by assumption) ?_
   (try simp only [Act.put,List.setIfInBounds_toArray,List.set_cons_zero,List.set_cons_succ])
   refine wpAnyH_ready (rs:=[0,3]) (by kernel_rfl) (by simp) ?_
   refine AllReadyH.cons rfl (fun K hK=>?_) (AllReadyH.cons rfl (fun K hK=>?_) AllReadyH.nil)
   ·go_simp
    refine hK.out _ _ ?_ (fun hHeld=>?_)
    ·(try dsimp only);(refine ⟨?_,?_,?_⟩<;>(repeat (with_reducible first|assumption|refine cell_al ?_|refine cell_dr ?_|refine cell_far4 (ne_pt nBL) ?_))<;>done)
    clear hK K
    refine wpAnyH_ready (rs:=[3]) (by kernel_rfl) (by simp) ?_
    refine AllReadyH.cons rfl (fun K hK=>?_) AllReadyH.nil
    go_simp
    go_wp2_with (first|(go_at_call 13;(with_reducible refine (pClone_any s0 _ hsz0).mono ?_);rintro e wa ⟨rfl,b3⟩;have bw:Below W.heap.size W wa:=((Below.refl _ W).drew).trans b3;have z0:=(bw.cell (p:=⟨Bs,0,none⟩) i10).trans q0;have z3:=(bw.cell (p:=⟨Bs,3,none⟩) i10).trans q3;have z4:=(bw.cell (p:=⟨Bs,4,none⟩) i10).trans q4;have rw:=ownsRow_keep i3 (w':=wa) (fun g hg=>bw.block g (ownsRow_lt i3 g hg).2);have zL:=(bw.cell (p:=⟨w.heap.size+2,0,none⟩) hL2).trans cL;have zF:=(bw.frozen (p:=⟨w.heap.size+2,0,none⟩) hL2).trans fL;have zLa:=cell_al (O:=.cells #[.string s0,.int .i64 0,.int .i64 (k:Int),.int .i64 0,.bool b1,.bool b2,.bool false] 63) zL;have hsa:=Nat.le_trans i6 bw.size)|fail)
    refine hK.out _ _ ?_ (fun hHeld=>?_)
    ·(try dsimp only);(refine ⟨?_,?_,?_⟩<;>(repeat (with_reducible first|assumption|refine cell_al ?_|refine cell_dr ?_|refine cell_far4 (ne_pt nBL) ?_))<;>done)
    clear hK K
    refine wpAnyH_take (i:=9) (oi:=_) (v:=_) rfl (by kernel_rfl) (by kernel_rfl) (by kernel_rfl) (fun _ _ _ h=>h) (Or.inl ⟨by rfl,by intro w hSw;(try dsimp only at hSw);go_simp;try (with_reducible rfl)⟩) (by assumption) ?_
    (try simp only [Act.put,List.setIfInBounds_toArray,List.set_cons_zero,List.set_cons_succ])
    refine wpAnyH_ready (rs:=[10]) (by kernel_rfl) (by simp) ?_
    refine AllReadyH.cons rfl (fun K hK=>?_) AllReadyH.nil
    go_simp
    refine hK.out _ _ ?_ (fun hHeld=>?_)
    ·(try dsimp only);(refine ⟨?_,?_,?_⟩<;>(repeat (with_reducible first|assumption|refine cell_al ?_|refine cell_dr ?_|refine cell_far4 (ne_pt nBL) ?_))<;>done)
    clear hK K
    refine wpAnyH_ready (rs:=[11]) (by kernel_rfl) (by simp) ?_
    refine AllReadyH.cons rfl (fun K hK=>?_) AllReadyH.nil
    refine step_append_at _ rfl _ _ 30 30 rfl (w.heap.size+4) 63 ie (.agg #[.string ⟨#[]⟩,.int .i64 0,.int .i64 0,.int .i64 0,.bool false,.bool false,.bool false]) 7 48 Tryz.underlying30 hie hie0 hie1 hie2 rfl (.slice ra n rc) n _ rfl (rw.alloc _) _ 1 [.string s0,.int .i64 0,.int .i64 (k:Int),.int .i64 0,.bool b1,.bool b2,.bool false] rfl (src_row Tryz.underlying30 wa _ rfl (by simp [Value.oneCell'])) 1 (.inr (by omega)) Nat.le.refl (by unfold maxLen;omega) (by simp;omega) ?_;intro vb wb hOb hgb hat;have y0:=hgb.cell (cell_al (O:=.cells #[.string s0,.int .i64 0,.int .i64 (k:Int),.int .i64 0,.bool b1,.bool b2,.bool false] 63) z0) hBo;have y3:=hgb.cell (cell_al (O:=.cells #[.string s0,.int .i64 0,.int .i64 (k:Int),.int .i64 0,.bool b1,.bool b2,.bool false] 63) z3) hBo;have y4:=hgb.cell (cell_al (O:=.cells #[.string s0,.int .i64 0,.int .i64 (k:Int),.int .i64 0,.bool b1,.bool b2,.bool false] 63) z4) hBo;have hLb:wb.heap[w.heap.size+2]?=wa.heap[w.heap.size+2]?:=(hgb.block _ (by simp;omega) hLo).trans (Below.heap_alloc _ _ _ (by omega));have yL:=(World.cell?_of_block (a:=⟨w.heap.size+2,0,none⟩) hLb).trans zL;have yF:=(World.frozen?_of_block (a:=⟨w.heap.size+2,0,none⟩) hLb).trans zF;obtain ⟨gb,cb,rfl⟩:=ownsRow_succ hOb
    refine hK.out _ _ ?_ (fun hHeld=>?_)
    ·(try dsimp only);(refine ⟨?_,?_,?_⟩<;>(repeat (with_reducible first|assumption|refine cell_al ?_|refine cell_dr ?_|refine cell_far4 (ne_pt nBL) ?_))<;>done)
    clear hK K
    refine wpAnyH_ready (rs:=[12]) (by kernel_rfl) (by simp) ?_
    refine AllReadyH.cons rfl (fun K hK=>?_) AllReadyH.nil
    go_simp
    refine hK.out _ _ ?_ (fun hHeld=>?_)
    ·(try dsimp only);(refine ⟨?_,?_,?_⟩<;>(repeat (with_reducible first|assumption|refine cell_al ?_|refine cell_dr ?_|refine cell_far4 (ne_pt nBL) ?_))<;>done)
    clear hK K
    refine wpAnyH_done (by kernel_rfl) ?_ _
    exact FIN wa wb gb cb bw (by simpa using hOb) hgb hat
   ·go_simp
    go_wp2_with (first|(go_at_call 13;(with_reducible refine (pClone_any s0 _ hsz0).mono ?_);rintro e wa ⟨rfl,b3⟩;have bw:Below W.heap.size W wa:=((Below.refl _ W).drew).trans b3;have z0:=(bw.cell (p:=⟨Bs,0,none⟩) i10).trans q0;have z3:=(bw.cell (p:=⟨Bs,3,none⟩) i10).trans q3;have z4:=(bw.cell (p:=⟨Bs,4,none⟩) i10).trans q4;have rw:=ownsRow_keep i3 (w':=wa) (fun g hg=>bw.block g (ownsRow_lt i3 g hg).2);have zL:=(bw.cell (p:=⟨w.heap.size+2,0,none⟩) hL2).trans cL;have zF:=(bw.frozen (p:=⟨w.heap.size+2,0,none⟩) hL2).trans fL;have zLa:=cell_al (O:=.cells #[.string s0,.int .i64 0,.int .i64 (k:Int),.int .i64 0,.bool b1,.bool b2,.bool false] 63) zL;have hsa:=Nat.le_trans i6 bw.size)|fail)
    refine hK.out _ _ ?_ (fun hHeld=>?_)
    ·(try dsimp only);(refine ⟨?_,?_,?_⟩<;>(repeat (with_reducible first|assumption|refine cell_al ?_|refine cell_dr ?_|refine cell_far4 (ne_pt nBL) ?_))<;>done)
    clear hK K
    refine wpAnyH_take (i:=9) (oi:=_) (v:=_) rfl (by kernel_rfl) (by kernel_rfl) (by kernel_rfl) (fun _ _ _ h=>h) (Or.inl ⟨by rfl,by intro w hSw;(try dsimp only at hSw);go_simp;try (with_reducible rfl)⟩) (by assumption) ?_
    (try simp only [Act.put,List.setIfInBounds_toArray,List.set_cons_zero,List.set_cons_succ])
    refine wpAnyH_ready (rs:=[0,10]) (by kernel_rfl) (by simp) ?_
    refine AllReadyH.cons rfl (fun K hK=>?_) (AllReadyH.cons rfl (fun K hK=>?_) AllReadyH.nil)
    ·go_simp
     refine hK.out _ _ ?_ (fun hHeld=>?_)
     ·(try dsimp only);(refine ⟨?_,?_,?_⟩<;>(repeat (with_reducible first|assumption|refine cell_al ?_|refine cell_dr ?_|refine cell_far4 (ne_pt nBL) ?_))<;>done)
     clear hK K
     refine wpAnyH_ready (rs:=[10]) (by kernel_rfl) (by simp) ?_
     refine AllReadyH.cons rfl (fun K hK=>?_) AllReadyH.nil
     go_simp
     refine hK.out _ _ ?_ (fun hHeld=>?_)
     ·(try dsimp only);(refine ⟨?_,?_,?_⟩<;>(repeat (with_reducible first|assumption|refine cell_al ?_|refine cell_dr ?_|refine cell_far4 (ne_pt nBL) ?_))<;>done)
     clear hK K
     refine wpAnyH_ready (rs:=[11]) (by kernel_rfl) (by simp) ?_
     refine AllReadyH.cons rfl (fun K hK=>?_) AllReadyH.nil
     refine step_append_at _ rfl _ _ 30 30 rfl (w.heap.size+4) 63 ie (.agg #[.string ⟨#[]⟩,.int .i64 0,.int .i64 0,.int .i64 0,.bool false,.bool false,.bool false]) 7 48 Tryz.underlying30 hie hie0 hie1 hie2 rfl (.slice ra n rc) n _ rfl (rw.alloc _) _ 1 [.string s0,.int .i64 0,.int .i64 (k:Int),.int .i64 0,.bool b1,.bool b2,.bool false] rfl (src_row Tryz.underlying30 wa _ rfl (by simp [Value.oneCell'])) 1 (.inr (by omega)) Nat.le.refl (by unfold maxLen;omega) (by simp;omega) ?_;intro vb wb hOb hgb hat;have y0:=hgb.cell (cell_al (O:=.cells #[.string s0,.int .i64 0,.int .i64 (k:Int),.int .i64 0,.bool b1,.bool b2,.bool false] 63) z0) hBo;have y3:=hgb.cell (cell_al (O:=.cells #[.string s0,.int .i64 0,.int .i64 (k:Int),.int .i64 0,.bool b1,.bool b2,.bool false] 63) z3) hBo;have y4:=hgb.cell (cell_al (O:=.cells #[.string s0,.int .i64 0,.int .i64 (k:Int),.int .i64 0,.bool b1,.bool b2,.bool false] 63) z4) hBo;have hLb:wb.heap[w.heap.size+2]?=wa.heap[w.heap.size+2]?:=(hgb.block _ (by simp;omega) hLo).trans (Below.heap_alloc _ _ _ (by omega));have yL:=(World.cell?_of_block (a:=⟨w.heap.size+2,0,none⟩) hLb).trans zL;have yF:=(World.frozen?_of_block (a:=⟨w.heap.size+2,0,none⟩) hLb).trans zF;obtain ⟨gb,cb,rfl⟩:=ownsRow_succ hOb
     refine hK.out _ _ ?_ (fun hHeld=>?_)
     ·(try dsimp only);(refine ⟨?_,?_,?_⟩<;>(repeat (with_reducible first|assumption|refine cell_al ?_|refine cell_dr ?_|refine cell_far4 (ne_pt nBL) ?_))<;>done)
     clear hK K
     refine wpAnyH_ready (rs:=[12]) (by kernel_rfl) (by simp) ?_
     refine AllReadyH.cons rfl (fun K hK=>?_) AllReadyH.nil
     go_simp
     refine hK.out _ _ ?_ (fun hHeld=>?_)
     ·(try dsimp only);(refine ⟨?_,?_,?_⟩<;>(repeat (with_reducible first|assumption|refine cell_al ?_|refine cell_dr ?_|refine cell_far4 (ne_pt nBL) ?_))<;>done)
     clear hK K
     refine wpAnyH_done (by kernel_rfl) ?_ _
     exact FIN wa wb gb cb bw (by simpa using hOb) hgb hat
    ·go_simp
     refine hK.out _ _ ?_ (fun hHeld=>?_)
     ·(try dsimp only);(refine ⟨?_,?_,?_⟩<;>(repeat (with_reducible first|assumption|refine cell_al ?_|refine cell_dr ?_|refine cell_far4 (ne_pt nBL) ?_))<;>done)
     clear hK K
     refine wpAnyH_ready (rs:=[0]) (by kernel_rfl) (by simp) ?_
     refine AllReadyH.cons rfl (fun K hK=>?_) AllReadyH.nil
     go_simp
     refine hK.out _ _ ?_ (fun hHeld=>?_)
     ·(try dsimp only);(refine ⟨?_,?_,?_⟩<;>(repeat (with_reducible first|assumption|refine cell_al ?_|refine cell_dr ?_|refine cell_far4 (ne_pt nBL) ?_))<;>done)
     clear hK K
     refine wpAnyH_ready (rs:=[11]) (by kernel_rfl) (by simp) ?_
     refine AllReadyH.cons rfl (fun K hK=>?_) AllReadyH.nil
     refine step_append_at _ rfl _ _ 30 30 rfl (w.heap.size+4) 63 ie (.agg #[.string ⟨#[]⟩,.int .i64 0,.int .i64 0,.int .i64 0,.bool false,.bool false,.bool false]) 7 48 Tryz.underlying30 hie hie0 hie1 hie2 rfl (.slice ra n rc) n _ rfl (rw.alloc _) _ 1 [.string s0,.int .i64 0,.int .i64 (k:Int),.int .i64 0,.bool b1,.bool b2,.bool false] rfl (src_row Tryz.underlying30 wa _ rfl (by simp [Value.oneCell'])) 1 (.inr (by omega)) Nat.le.refl (by unfold maxLen;omega) (by simp;omega) ?_;intro vb wb hOb hgb hat;have y0:=hgb.cell (cell_al (O:=.cells #[.string s0,.int .i64 0,.int .i64 (k:Int),.int .i64 0,.bool b1,.bool b2,.bool false] 63) z0) hBo;have y3:=hgb.cell (cell_al (O:=.cells #[.string s0,.int .i64 0,.int .i64 (k:Int),.int .i64 0,.bool b1,.bool b2,.bool false] 63) z3) hBo;have y4:=hgb.cell (cell_al (O:=.cells #[.string s0,.int .i64 0,.int .i64 (k:Int),.int .i64 0,.bool b1,.bool b2,.bool false] 63) z4) hBo;have hLb:wb.heap[w.heap.size+2]?=wa.heap[w.heap.size+2]?:=(hgb.block _ (by simp;omega) hLo).trans (Below.heap_alloc _ _ _ (by omega));have yL:=(World.cell?_of_block (a:=⟨w.heap.size+2,0,none⟩) hLb).trans zL;have yF:=(World.frozen?_of_block (a:=⟨w.heap.size+2,0,none⟩) hLb).trans zF;obtain ⟨gb,cb,rfl⟩:=ownsRow_succ hOb
     refine hK.out _ _ ?_ (fun hHeld=>?_)
     ·(try dsimp only);(refine ⟨?_,?_,?_⟩<;>(repeat (with_reducible first|assumption|refine cell_al ?_|refine cell_dr ?_|refine cell_far4 (ne_pt nBL) ?_))<;>done)
     clear hK K
     refine wpAnyH_ready (rs:=[12]) (by kernel_rfl) (by simp) ?_
     refine AllReadyH.cons rfl (fun K hK=>?_) AllReadyH.nil
     go_simp
     refine hK.out _ _ ?_ (fun hHeld=>?_)
     ·(try dsimp only);(refine ⟨?_,?_,?_⟩<;>(repeat (with_reducible first|assumption|refine cell_al ?_|refine cell_dr ?_|refine cell_far4 (ne_pt nBL) ?_))<;>done)
     clear hK K
     refine wpAnyH_done (by kernel_rfl) ?_ _
     exact FIN wa wb gb cb bw (by simpa using hOb) hgb hat
 case done=>
  rintro D o W hD ⟨v,i1,i2,i3,i4,i5,i6,i7⟩ hnD hK
  obtain ⟨cL,fL⟩:=i1 0 _ rfl
  obtain ⟨cR,fR⟩:=i2 0 _ rfl
  obtain ⟨ra,n,rc,rfl⟩:∃ a n c,v=.slice a n c:=by
   rcases i3.2 with ⟨h1,h2⟩|⟨g,cap,cur,h1,_⟩
   ·exact ⟨_,_,_,h1⟩
   ·exact ⟨_,_,_,h1⟩
  obtain ⟨xs,hxs⟩:∃ xs,flX W4 d 0 c.2.2.2 (.slice sa c.2.2.2.length sc)=xs:=⟨_,rfl⟩
  rw [hxs] at i3 i5
  have hmap:xs.map ndX=(flM d 0 c.2.2.2).map nd0:=by
   rw [<- flX_map W4 d 0 c.2.2.2 (.slice sa c.2.2.2.length sc),hxs,List.map_map]
   rfl
  have hln:(flM d 0 c.2.2.2).length=xs.length:=by rw [<- flX_map W4 d 0 c.2.2.2 (.slice sa c.2.2.2.length sc),hxs,List.length_map]
  obtain ⟨l0,hl0⟩:∃ l0,xs.map ndX=l0:=⟨_,rfl⟩
  have hl0n:l0.length=xs.length:=by rw [<- hl0];simp
  rw [hl0] at i3
  obtain rfl:n=l0.length:=by
   rcases i3.2 with ⟨h1,h2⟩|⟨g,cap,cur,h1,_⟩
   ·simp only [Value.slice.injEq] at h1
    omega
   ·simp only [Value.slice.injEq] at h1
    exact h1.2.1
  have HF:Hid (ndsM (flM d 0 c.2.2.2)=(List.range l0.length).map (plN l0)):=by
   unfold ndsM
   rw [hln,if_pos i5,<- hmap,hl0,hl0n]
   rfl
  rw [<- hl0n] at i5
  clear hmap hln hxs hl0
  have hDg:∀ g,(Value.slice ra l0.length rc).ownBlock=some g->g≠D/\w.heap.size+4<=g:=fun g hg=>⟨fun e=>hnD (e ▸ (i4 g).2 (.inr (.inr hg))),(ownsRow_lt i3 g hg).1⟩
  have hDL:w.heap.size+2≠D:=fun e=>hnD (e ▸ (i4 _).2 (.inr (.inl rfl)))
  have hDR:w.heap.size+1≠D:=fun e=>hnD (e ▸ (i4 _).2 (.inl rfl))
  obtain ⟨n,hn⟩:∃ n,l0.length=n:=⟨_,rfl⟩
  rw [hn] at i1 i5 hDg cL
  clear hl0n
  gi_wp2
  refine wpIn_wide.2 ?_
  have i3':OwnNd W (w.heap.size+4) (.slice ra n rc) (lsJ l0 0):=by rw [lsJ_zero,<- hn];exact i3
  go_loopw [28] (fun ix wr=>∃ (j:Nat),j<=n/\ix=.int .i64 (j:Int)/\OwnNd wr (w.heap.size+4) (.slice ra n rc) (lsJ l0 j)/\Bn wr (w.heap.size+2) [.slice ra n rc]/\Bn wr (w.heap.size+1) [.slice none 0 0]/\wr.heap[D]?=some (.deferred (some []))/\Below w.heap.size w wr/\w.heap.size+4<=wr.heap.size) (fun ix _=>n - (RowKit.intOf ix).toNat)
  case atStart=>exact ⟨0,Nat.zero_le _,rfl,i3',i1,i2,hK,i7,i6⟩
  case round=>
   obtain ⟨j,hj,rfl,hO,hL,hR,hK2,hB2,hsz2⟩:=hrel
   by_cases hlt:j < n
   ·have i1':(j:Int) < (n:Int):=by omega
    have i2':(0:Int)<=(j:Int):=by omega
    have hlj:(lsJ l0 j).length=n:=by rw [lsJ_len,hn]
    obtain ⟨g,rfl⟩:∃ g,ra=some ⟨g,0,none⟩:=by
     rcases hO.2 with ⟨h1,h2⟩|⟨g,cap,cur,h1,_⟩
     ·simp only [Value.slice.injEq] at h1;omega
     ·simp only [Value.slice.injEq] at h1;exact ⟨g,h1.1⟩
    obtain ⟨hgD,hg4⟩:=hDg g rfl
    have hgl:g < wr.heap.size:=(ownsRow_lt hO g rfl).2
    obtain ⟨cL,fL⟩:=hL 0 _ rfl
    have hpl:=fun w1 (b1:Below wr.heap.size wr w1)=>placed_any (i:=j) (hO.rd.stay kp_nd (ok':=fun b=>w.heap.size+4<=b) (w':=w1) (fun b hb hl=>⟨hb,b1.block b hl⟩)) (by rw [hlj];exact i5) (by rw [hlj];exact hlt)
    have hpe:plN (lsJ l0 j) j=plN l0 j:=lsJ_pl l0 j (by rw [hn];exact hlt)
    rw [hpe] at hpl
    obtain ⟨p0,p1,p2,p3,p4,p5,p6,HP⟩:∃ p0 p1 p2 p3 p4 p5 p6,Hid (plN l0 j=(p0,(p1,p2,p3),(p4,p5,p6))):=⟨_,_,_,_,_,_,_,rfl⟩
    rw [HP.out] at hpl
    simp only [ndV] at hpl
    have hL2:w.heap.size+2 < wr.heap.size:=by omega
    have nLg:w.heap.size+2≠g:=by omega
    go_upto_region 11 with fail
    refine wp_mono (Q:=onlyN _) ?_ (fun e a w h=>onlyN_out e a w h)
    refine wp_region_held_drew (S:=fun (W:World)=>W.cell? ⟨w.heap.size+2,0,none⟩=some (.slice (some ⟨g,0,none⟩) n rc)) (by kernel_rfl) ?_ (fun hHeld=>?_)
    ·(try dsimp only);(repeat (with_reducible first|assumption|refine cell_dr ?_|refine cell_far4 (ne_pt nLg) ?_))<;>done
    refine wpAnyH_take (i:=0) (oi:=_) (v:=_) rfl (by kernel_rfl) (by kernel_rfl) (by kernel_rfl) (fun _ _ _ h=>h) (Or.inl ⟨by rfl,by intro w hSw;(try dsimp only at hSw);go_simp;try (with_reducible rfl)⟩) (by assumption) ?_
    (try simp only [Act.put,List.setIfInBounds_toArray,List.set_cons_zero,List.set_cons_succ])
    refine wpAnyH_take (i:=1) (oi:=_) (v:=_) rfl (by kernel_rfl) (by kernel_rfl) (by kernel_rfl) (fun _ _ _ h=>h) (Or.inl ⟨by rfl,by intro w hSw;(try dsimp only at hSw);go_simp;try (with_reducible rfl)⟩) (by assumption) ?_
    (try simp only [Act.put,List.setIfInBounds_toArray,List.set_cons_zero,List.set_cons_succ])
    refine wpAnyH_take (i:=2) (oi:=_) (v:=_) rfl (by kernel_rfl) (by kernel_rfl) (by kernel_rfl) (fun _ _ _ h=>h) (Or.inl ⟨by rfl,by intro w hSw;(try dsimp only at hSw);go_simp;try (with_reducible rfl)⟩) (by assumption) ?_
    (try simp only [Act.put,List.setIfInBounds_toArray,List.set_cons_zero,List.set_cons_succ])
    refine wpAnyH_take (i:=3) (oi:=_) (v:=_) rfl (by kernel_rfl) (by kernel_rfl) (by kernel_rfl) (fun _ _ _ h=>h) (Or.inl ⟨by rfl,by intro w hSw;(try dsimp only at hSw);go_simp;try (with_reducible rfl)⟩) (by assumption) ?_
    (try simp only [Act.put,List.setIfInBounds_toArray,List.set_cons_zero,List.set_cons_succ])
    refine wpAnyH_ready (rs:=[4]) (by kernel_rfl) (by simp) ?_
    refine AllReadyH.cons rfl (fun K hK=>?_) AllReadyH.nil
    go_simp
    go_wp2_with (first|(go_at_call 42;(with_reducible refine (hpl _ ((Below.refl _ wr).drew)).mono ?_);rintro e wa ⟨rfl,b3⟩;have bw:Below wr.heap.size wr wa:=((Below.refl _ wr).drew).trans b3;have zL:=(bw.cell (p:=⟨w.heap.size+2,0,none⟩) hL2).trans cL;have hOa:OwnNd wa (w.heap.size+4) (.slice (some ⟨g,0,none⟩) n rc) (lsJ l0 j):=ownsRow_keep hO (fun g hg=>bw.block g (ownsRow_lt hO g hg).2);have hcs:=ownNd_cells hOa j (by rw [hlj];exact hlt);obtain ⟨⟨m0,f0⟩,⟨m1,f1⟩,⟨m2,f2⟩,⟨m3,f3⟩,⟨m4,f4⟩,⟨m5,f5⟩,⟨m6,f6⟩⟩:=hcs)|fail)
    refine hK.out _ _ ?_ (fun hHeld=>?_)
    ·(try dsimp only);(repeat (with_reducible first|assumption|refine cell_dr ?_|refine cell_far4 (ne_pt nLg) ?_))<;>done
    clear hK K
    refine wpAnyH_take (i:=5) (oi:=_) (v:=_) rfl (by kernel_rfl) (by kernel_rfl) (by kernel_rfl) (fun _ _ _ h=>h) (Or.inl ⟨by rfl,by intro w hSw;(try dsimp only at hSw);go_simp;try (with_reducible rfl)⟩) (by assumption) ?_
    (try simp only [Act.put,List.setIfInBounds_toArray,List.set_cons_zero,List.set_cons_succ])
    refine wpAnyH_ready (rs:=[6]) (by kernel_rfl) (by simp) ?_
    refine AllReadyH.cons rfl (fun K hK=>?_) AllReadyH.nil
    go_simp
    refine hK.out _ _ ?_ (fun hHeld=>?_)
    ·(try dsimp only);(repeat (with_reducible first|assumption|refine cell_dr ?_|refine cell_far4 (ne_pt nLg) ?_))<;>done
    clear hK K
    refine wpAnyH_done (by kernel_rfl) ?_ _
    unfold onlyN
    have hOb:=ownNd_put hOa j (by rw [hlj];exact hlt) (p0,(p1,p2,p3),(p4,p5,p6)) (.string p0) (.int .i64 p1) (.int .i64 p2) (.int .i64 p3) (.bool p4) (.bool p5) (.bool p6) rfl
    have hset:(lsJ l0 j).set j (p0,(p1,p2,p3),(p4,p5,p6))=lsJ l0 (j+1):=by rw [<- HP.out];exact lsJ_set l0 j (by rw [hn];exact hlt)
    rw [hset] at hOb
    clear hset
    have hLa:=hL.on bw
    have hRa:=hR.on bw
    have hKa:wa.heap[D]?=some (.deferred (some [])):=(bw.block D (Array.getElem?_eq_some_iff.1 hK2).1).trans hK2
    have nRg:w.heap.size+1≠g:=by omega
    have hLb:=(((((((hLa.far (i:=j*7) nLg.symm (.string p0)).far (i:=j*7+1) nLg.symm (.int .i64 p1)).far (i:=j*7+2) nLg.symm (.int .i64 p2)).far (i:=j*7+3) nLg.symm (.int .i64 p3)).far (i:=j*7+4) nLg.symm (.bool p4)).far (i:=j*7+5) nLg.symm (.bool p5)).far (i:=j*7+6) nLg.symm (.bool p6))
    have hRb:=(((((((hRa.far (i:=j*7) nRg.symm (.string p0)).far (i:=j*7+1) nRg.symm (.int .i64 p1)).far (i:=j*7+2) nRg.symm (.int .i64 p2)).far (i:=j*7+3) nRg.symm (.int .i64 p3)).far (i:=j*7+4) nRg.symm (.bool p4)).far (i:=j*7+5) nRg.symm (.bool p5)).far (i:=j*7+6) nRg.symm (.bool p6))
    obtain ⟨wb,hwb⟩:∃ wb,(((((((wa.setCell ⟨g,j*7,none⟩ (.string p0)).setCell ⟨g,j*7+1,none⟩ (.int .i64 p1)).setCell ⟨g,j*7+2,none⟩ (.int .i64 p2)).setCell ⟨g,j*7+3,none⟩ (.int .i64 p3)).setCell ⟨g,j*7+4,none⟩ (.bool p4)).setCell ⟨g,j*7+5,none⟩ (.bool p5)).setCell ⟨g,j*7+6,none⟩ (.bool p6))=wb:=⟨_,rfl⟩
    have hbb:Below w.heap.size wa wb:=by
     rw [<- hwb]
     have hgw:w.heap.size<=g:=by omega
     exact (((((((Below.refl _ wa).setCell (p:=⟨g,j*7,none⟩) hgw _).setCell (p:=⟨g,j*7+1,none⟩) hgw _).setCell (p:=⟨g,j*7+2,none⟩) hgw _).setCell (p:=⟨g,j*7+3,none⟩) hgw _).setCell (p:=⟨g,j*7+4,none⟩) hgw _).setCell (p:=⟨g,j*7+5,none⟩) hgw _).setCell (p:=⟨g,j*7+6,none⟩) hgw _
    have hKb:wb.heap[D]?=some (.deferred (some [])):=by
     rw [<- hwb]
     have hs:∀ (W:World) (o:Nat) (u:Value),W.heap[D]?=some (.deferred (some []))->(W.setCell ⟨g,o,none⟩ u).heap[D]?=some (.deferred (some [])):=fun W o u h=>(Below.heap_setCell _ _ _ _ (fun e=>hgD e.symm)).trans h
     exact hs _ _ _ (hs _ _ _ (hs _ _ _ (hs _ _ _ (hs _ _ _ (hs _ _ _ (hs _ _ _ hKa))))))
    rw [hwb] at hOb hLb hRb ⊢
    clear hwb hHeld zL hOa m0 m1 m2 m3 m4 m5 m6 f0 f1 f2 f3 f4 f5 f6 hLa hRa hKa hpl
    have hBb:Below w.heap.size w wb:=(hB2.trans (bw.mono hB2.size)).trans hbb
    have hszb:w.heap.size+4<=wb.heap.size:=Nat.le_trans hsz2 (Nat.le_trans bw.size hbb.size)
    go_wp2
    go_roundw
    case rel=>exact ⟨j+1,hlt,by go_num,hOb,hLb,hRb,hKb,hBb,hszb⟩
    case measure=>simp [RowKit.intOf];omega
   ·have i1':¬ (j:Int) < (n:Int):=by omega
    obtain rfl:j=n:=by omega
    obtain ⟨cL,fL⟩:=hL 0 _ rfl
    obtain ⟨cR,fR⟩:=hR 0 _ rfl
    go_wp2
    refine wpIn_wide.2 ?_
    go_wp2
    refine ⟨by simp,.inl ⟨_,_,rfl,run_takeDeferred ((Below.heap_setCell _ _ _ _ (fun e=>hDR e.symm)).trans hK2),?_⟩⟩
    have hDw:D < wr.heap.size:=(Array.getElem?_eq_some_iff.1 hK2).1
    have hRb:Bn ((wr.setCell ⟨w.heap.size+1,0,none⟩ (.slice ra j rc)).putObj D (.deferred none)) (w.heap.size+1) [.slice ra j rc]:=(hR.set (i:=0) (by simp) (.slice ra j rc)).blk (World.putObj_heap_other (by omega))
    refine ⟨_,nodes_res (hRb 0 _ rfl).1 rfl,_,rfl,?_,(hB2.setCell (p:=⟨w.heap.size+1,0,none⟩) (by simp) _).trans (belowK_b (w:=w) Nat.le.refl _ D _ _ (by omega) ((Below.heap_setCell _ _ _ _ (fun e=>hDR e.symm)).trans hK2) rfl rfl)⟩
    rw [HF.out]
    have e2:lsJ l0 j=(List.range l0.length).map (plN l0):=by
     unfold lsJ
     apply List.map_congr_left
     intro i hi
     rw [if_pos (by rw [List.mem_range] at hi;omega)]
    rw [<- e2]
    have hO2:OwnNd ((wr.setCell ⟨w.heap.size+1,0,none⟩ (.slice ra j rc)).putObj D (.deferred none)) (w.heap.size+4) (.slice ra j rc) (lsJ l0 j):=ownsRow_keep hO (fun g hg=>(World.putObj_heap_other (by have:=(hDg g hg).1;omega)).trans (Below.heap_setCell _ _ _ _ (fun e=>by have h1:g=w.heap.size+1:=e;have:=(hDg g hg).2;omega)))
    exact hO2.rd.low kp_nd (by omega)
 case stop=>
  rintro D cc pre o W hD hpre ⟨rfl,hp,hR,ho,hsz,hB2⟩ hnD hK
  have hDR:w.heap.size+1≠D:=fun e=>hnD (e ▸ ho)
  gi_wp2
  refine ⟨by simp,.inl ⟨_,_,rfl,run_takeDeferred hK,?_⟩⟩
  have hR2:Bn (W.putObj D (.deferred none)) (w.heap.size+1) [.slice none 0 0]:=hR.blk (World.putObj_heap_other (by omega))
  refine ⟨_,nodes_res (hR2 0 _ rfl).1 rfl,_,rfl,?_,hB2.trans (belowK_b (w:=w) Nat.le.refl W D _ _ (by omega) hK rfl rfl)⟩
  have hl:41<=(flM d 0 c.2.2.2).length:=by
   rw [<- flX_map W4 d 0 c.2.2.2 (.slice sa c.2.2.2.length sc),List.length_map,<- hp]
   exact hpre.length_le
  unfold ndsM
  rw [if_neg (by omega)]
  exact rdK_none _ _ _ _
end Go.Proofs.YtppefcdkgejfbaaGreatDoor
namespace Go.Proofs.YtppefcdkgejfbaaGreatDoor
open Go.RowKit Go.Lib
set_option linter.unusedSimpArgs false
set_option linter.unusedVariables false
attribute [local go_sem ↓] Go.wp_at_zero Go.wp_at_succ
def nsL:Nat->List Nat->Prop
 | _,[]=>True
 | m,x :: r=>x<=m/\nsL (x+1) r
theorem nsL_fl:∀ (d k:Nat) (l:List (St d)) (m:Nat) (rest:List Nat),k<=m->(∀ m',k<=m'->nsL m' rest)->nsL m ((flM d k l).map (fun x=>x.1)++rest)
 | 0,k,l,m,rest,hm,hr=>by simpa [flM] using hr m hm
 | d+1,k,[],m,rest,hm,hr=>by simpa [flM] using hr m hm
 | d+1,k,t :: r,m,rest,hm,hr=>by
  have e:(flM (d+1) k (t :: r)).map (fun x=>x.1)++rest=k :: ((flM d (k+1) t.2).map (fun x=>x.1)++((flM (d+1) k r).map (fun x=>x.1)++rest)):=by
   simp [flM,List.flatMap_cons,List.append_assoc]
  rw [e]
  exact ⟨hm,nsL_fl d (k+1) t.2 (k+1) _ Nat.le.refl (fun m' h=>nsL_fl (d+1) k r m' rest (by omega) hr)⟩
theorem nsL_at:∀ (l:List Nat) (m:Nat),nsL m l->∀ i,i < l.length->(i=0->l.getD i 0<=m)/\(0 < i->l.getD i 0<=l.getD (i - 1) 0+1)
 | [],m,_,i,hi=>by simp at hi
 | x :: r,m,h,0,hi=>⟨fun _=>h.1,fun h=>by omega⟩
 | x :: r,m,h,i+1,hi=>by
  refine ⟨fun h=>by omega,fun _=>?_⟩
  have ih:=nsL_at r (x+1) h.2 i (by simpa using hi)
  cases i with
  | zero=>exact ih.1 rfl
  | succ i=>exact ih.2 (by omega)
theorem nd0_d (x:Nat × SgS) (h:x.2.1≠0):(nd0 x).2.1.2.1=(x.1:Int):=by
 obtain ⟨k,⟨d,t⟩⟩:=x
 cases d with
 | zero=>exact absurd rfl h
 | succ d=>rfl
theorem flM_pos:∀ (d k:Nat) (l:List (St d)),∀ x∈flM d k l,x.2.1≠0
 | 0,k,l,x,hx=>by simp [flM] at hx
 | d+1,k,l,x,hx=>by
  simp only [flM,List.mem_flatMap,List.mem_cons] at hx
  obtain ⟨t,_,rfl|hx⟩:=hx
  ·simp
  ·exact flM_pos d (k+1) t.2 x hx
theorem nst_fl (d:Nat) (l:List (St d)):nst (nD ((flM d 0 l).map nd0)) (flM d 0 l).length:=by
 have h:=nsL_fl d 0 l 0 [] Nat.le.refl (fun _ _=>trivial)
 rw [List.append_nil] at h
 have hD:∀ i,i < (flM d 0 l).length->nD ((flM d 0 l).map nd0) i=(((flM d 0 l).map (fun x=>x.1)).getD i 0:Nat):=fun i hi=>by
  unfold nD nAt
  rw [List.getD_eq_getElem?_getD,List.getD_eq_getElem?_getD,List.getElem?_map,List.getElem?_map,List.getElem?_eq_getElem hi]
  exact nd0_d _ (flM_pos d 0 l _ (List.getElem_mem hi))
 intro i hi
 have h2:=nsL_at _ 0 h i (by simpa using hi)
 rw [hD i hi]
 refine ⟨by omega,fun e=>by have:=h2.1 e;omega,fun e=>?_⟩
 rw [hD (i - 1) (by omega)]
 have:=h2.2 e
 omega
theorem ndsM_formed (d:Nat) (l:List (St d)):fmB (ndsM (flM d 0 l))=true:=by
 unfold fmB
 rw [decide_eq_true_eq,fm_placed]
 unfold ndsM
 split
 ·rename_i h40
  obtain ⟨l0,hl0⟩:∃ l0,(flM d 0 l).map nd0=l0:=⟨_,rfl⟩
  have hn:l0.length=(flM d 0 l).length:=by rw [<- hl0];simp
  have hns:=nst_fl d l
  rw [hl0,<- hn] at hns
  rw [hl0,<- hn]
  rw [<- hn] at h40
  have eL:(List.range l0.length).map (plN l0)=lsJ l0 l0.length:=by
   unfold lsJ
   apply List.map_congr_left
   intro i hi
   rw [if_pos (by simpa using hi)]
  rw [eL,lsJ_len]
  refine ⟨h40,by rw [lsJ_D];exact hns,fun i hi=>?_⟩
  rw [lsJ_at l0 _ i hi,if_pos hi]
  unfold plN
  rw [lsJ_D,lsJ_len,lsJ_at l0 _ i hi,if_pos hi]
  rfl
 ·exact ⟨by simp,fun i hi=>by simp at hi,fun i hi=>by simp at hi⟩
def Ain (D:Nat->Int) (k:Int) (x:Nat):Prop:=k < x/\Anc D k x
theorem anc_trans {D:Nat->Int}{p q r:Int}(h:Anc D p q) (k:Anc D q r):Anc D p r:=by
 obtain ⟨a1,a2,a3⟩:=h
 obtain ⟨b1,b2,b3⟩:=k
 refine ⟨a1,by omega,fun m c d=>?_⟩
 rcases Int.lt_or_le q m with h|h
 ·have:=b3 m h d
  rcases Int.lt_or_le p q with h2|h2
  ·have h3:=a3 q.toNat (by omega) (by omega)
   omega
  ·have:p=q:=by omega
   subst this;omega
 ·exact a3 m c h
theorem anc_mid {D:Nat->Int}{p q r:Int}(h:Anc D p r) (k:Anc D q r) (hpq:p<=q):Anc D p q:=⟨h.1,hpq,fun m a b=>h.2.2 m a (by have:=k.2.1;omega)⟩
theorem mtC_spec {n:Nat}{D P B:Nat->Int}{L:Nat->Bool}(h:FmP n D P B L) {i j:Nat}(hi:i < n) (hj:j < n):∀ (f:Nat) (k:Int),k < f->-1<=k->(0<=k->Ain D k i)->(∀ q:Int,Ain D q i->Ain D q j->q<=k)->
  (-1<=mtC P B j f k/\(0<=mtC P B j f k->Ain D (mtC P B j f k) i/\Ain D (mtC P B j f k) j)/\∀ q:Int,Ain D q i->Ain D q j->q<=mtC P B j f k)
 | 0,k,h1,h2,h3,h4=>by
  have:k = -1:=by omega
  subst this
  exact ⟨by unfold mtC;omega,fun h=>by unfold mtC at h;omega,fun q a b=>by unfold mtC;exact h4 q a b⟩
 | f+1,k,h1,h2,h3,h4=>by
  unfold mtC
  by_cases h0:k < 0
  ·rw [if_pos h0]
   have:k = -1:=by omega
   subst this
   exact ⟨by omega,fun h=>by omega,h4⟩
  rw [if_neg h0]
  have hA:=h3 (by omega)
  have hkn:k.toNat < n:=by have:=hA.1;omega
  have hls:=lsP_anc h (i:=j) (j:=k.toNat) hj hkn
  rw [Int.toNat_of_nonneg (by omega)] at hls
  by_cases hl:lsP B (j:Int) k=true
  ·rw [if_pos hl]
   exact ⟨by omega,fun _=>⟨hA,hls.1 hl⟩,h4⟩
  ·rw [if_neg hl]
   have hp:=h.plt (i:=k.toNat) hkn
   refine mtC_spec h hi hj f (P k.toNat) (by omega) (by omega) (fun h0'=>?_) (fun q a b=>?_)
   ·have h1:Anc D (P k.toNat) k:=by
     have:=(anc_up h.par hkn (p:=P k.toNat) (by omega)).2 ⟨h0',by omega,fun m a b=>by omega⟩
     rwa [Int.toNat_of_nonneg (by omega)] at this
    exact ⟨by have:=hA.1;omega,anc_trans h1 hA.2⟩
   ·have hqk:=h4 q a b
    rcases Int.lt_or_le q k with hlt|hge
    ·have h1:=anc_mid a.2 hA.2 hqk
     have h2:=(anc_up h.par hkn (p:=q) (by omega)).1 (by rw [Int.toNat_of_nonneg (by omega)];exact h1)
     exact h2.2.1
    ·have:q=k:=by omega
     subst this
     exact absurd (hls.2 b) hl
theorem mtB_spec {l:List Nd}(hf:fmB l=true) {i j:Nat}(hi:i < l.length) (hj:j < l.length) :
  -1<=mtB l i j/\(0<=mtB l i j->Ain (nD l) (mtB l i j) i/\Ain (nD l) (mtB l i j) j)/\∀ q:Int,Ain (nD l) q i->Ain (nD l) q j->q<=mtB l i j:=by
 have h:=fmB_fm hf
 have hp:=h.plt (i:=i) hi
 unfold mtB
 rw [hf,nmB_nat hi,nmB_nat hj,if_pos (by rfl),Int.toNat_natCast]
 refine mtC_spec h hi hj _ _ (by omega) hp.1 (fun h0=>?_) (fun q a b=>?_)
 ·exact ⟨hp.2,(anc_up h.par hi (p:=nP l i) hp.2).2 ⟨h0,by omega,fun m a b=>by omega⟩⟩
 ·exact ((anc_up h.par hi (p:=q) a.1).1 a.2).2.1
theorem wiB_of {l:List Nd}(hf:fmB l=true) {i:Nat}{m:Int}(hi:i < l.length) (hm : -1<=m) (h:0<=m->Ain (nD l) m i):wiB l i m=true:=by
 unfold wiB
 rw [hf,nmB_nat hi,Bool.true_and]
 by_cases h0:m = -1
 ·rw [if_pos h0,Bool.or_true]
 ·rw [if_neg h0]
  obtain ⟨k,rfl⟩:∃ k:Nat,m=k:=⟨m.toNat,by omega⟩
  have hA:=h (by omega)
  have hk:k < l.length:=by have:=hA.1;omega
  rw [nmB_nat hk,(lsP_anc (fmB_fm hf) hi hk).2 hA]
  simp
end Go.Proofs.YtppefcdkgejfbaaGreatDoor
namespace Go.Proofs.YtppefcdkgejfbaaGreatDoor
open Go.ChangeShapes Go.WideShapes Go.ChangeAt Go.RowKit
set_option linter.unusedSimpArgs false
set_option linter.unusedVariables false
theorem half2 (g:Nat):(g+2) / 2=g / 2+1:=by omega
theorem pick {α:Type}{p:Nat->α->Prop}:∀ (n:Nat),(∀ i,i < n->∃ a,p i a)->∃ l:List α,l.length=n/\∀ (i:Nat) (h:i < l.length),p i l[i]
 | 0,_=>⟨[],rfl,fun i h=>absurd h (by simp)⟩
 | n+1,H=>by
  obtain ⟨l,hl,hp⟩:=pick n (fun i hi=>H i (by omega))
  obtain ⟨a,ha⟩:=H n (by omega)
  refine ⟨l++[a],by simp [hl],fun i h=>?_⟩
  rcases Nat.lt_or_ge i l.length with hi|hi
  ·rw [List.getElem_append_left hi];exact hp i hi
  ·have:i=n:=by simp at h;omega
   subst this
   have e:(l++[a])[i]'h=a:=by simp [<- hl]
   rw [e];exact ha
theorem open_node {H:Type}{enc:TypeId × Value->H}{W:World}:∀ (m fuel:Nat),fuel<=m->∀ {cs:List Value}{x:DataW H × List MemPlace},DataW.trod enc Tryz.prog W 0 (fun _=>true) true fuel 57 cs=some x->
  ∃ (d:Nat) (t:T d) (c0 c1 c2 c3:Value),d=fuel / 2/\cs=[c0,c1,c2,c3]/\RdT (fun _=>True) W d t (.agg #[c0,c1,c2,c3])
 | 0,fuel,hf,cs,x,h=>by
  obtain rfl:fuel=0:=by omega
  simp [DataW.trod] at h
 | m+1,fuel,hf,cs,x,h=>by
  obtain ⟨xs,n,rfl,rfl,hl,hlen,hfd⟩:=DataW.trod_struct Tryz.underlying57 h
  have hc:Tryz.prog.cellsOf 57=4:=by kernel_rfl
  have cI:Tryz.prog.cellsOf 3=1:=by kernel_rfl
  have cL:Tryz.prog.cellsOf 2=1:=by kernel_rfl
  have c9:Tryz.prog.cellsOf 9=1:=by kernel_rfl
  have cP:Tryz.prog.cellsOf 55=1:=by kernel_rfl
  rw [hc] at hl
  have f0:DataW.trod enc Tryz.prog W 0 (fun _=>true) true n 3 ((cs.drop 0).take (Tryz.prog.cellsOf 3))=xs[0]?:=hfd 0 _ rfl
  have f1:DataW.trod enc Tryz.prog W 0 (fun _=>true) true n 2 ((cs.drop 1).take (Tryz.prog.cellsOf 2))=xs[1]?:=hfd 1 _ rfl
  have f2:DataW.trod enc Tryz.prog W 0 (fun _=>true) true n 9 ((cs.drop 2).take (Tryz.prog.cellsOf 9))=xs[2]?:=hfd 2 _ rfl
  have f3:DataW.trod enc Tryz.prog W 0 (fun _=>true) true n 55 ((cs.drop 3).take (Tryz.prog.cellsOf 55))=xs[3]?:=hfd 3 _ rfl
  rw [cI] at f0
  rw [cL] at f1
  rw [c9] at f2
  rw [cP] at f3
  match cs,hl,xs,hlen with
  | [a,b,c,e],_,[y0,y1,y2,y3],_=>
   simp only [List.drop_zero,List.take_succ_cons,List.take_zero,List.drop_succ_cons,List.getElem?_cons_zero,List.getElem?_cons_succ] at f0 f1 f2 f3
   obtain ⟨k,e0,rfl,_⟩:=DataW.trod_int Tryz.underlying3 f0
   obtain ⟨nn,e1,rfl,_⟩:=DataW.trod_int Tryz.underlying2 f1
   obtain ⟨s,e2,rfl,_⟩:=DataW.trod_string Tryz.underlying9 f2
   simp only [List.cons.injEq,and_true] at e0 e1 e2
   subst e0 e1 e2
   obtain ⟨g,rfl⟩:∃ g,n=g+1:=by
    cases n with
    | zero=>simp [DataW.trod] at f3
    | succ g=>exact ⟨g,rfl⟩
   rcases DataW.trod_slice Tryz.underlying55 f3 with ⟨hcs,_⟩|⟨ad,len,cap,elems,rest,n',hn',hcs,_,_,hlc,hcm,hel,helt,_,_⟩
   ·simp only [List.cons.injEq,and_true] at hcs
    subst hcs
    refine ⟨g / 2+1,mkT k nn s [],_,_,_,_,(half2 g).symm,rfl,rdT_mk.2 ⟨_,rfl,none,0,rfl,by simp,by simp [maxLen],fun _=>rfl,fun x hx=>by cases hx⟩⟩
   ·obtain rfl:n'=g:=by omega
    simp only [List.cons.injEq,and_true] at hcs
    subst hcs
    rw [hc] at helt
    have hall:∀ i,i < len->∃ q:T (n' / 2) × Value × Value × Value × Value,W.cells? 0 (ad.add (i*4)) 4=some [q.2.1,q.2.2.1,q.2.2.2.1,q.2.2.2.2]/\RdT (fun _=>True) W (n' / 2) q.1 (.agg #[q.2.1,q.2.2.1,q.2.2.2.1,q.2.2.2.2]):=by
     intro i hi
     have h1:=helt i hi
     rw [List.getElem?_eq_getElem (by omega)] at h1
     obtain ⟨cs',h2,h3⟩:=Option.bind_eq_some_iff.1 h1
     obtain ⟨d,t,c0,c1,c2,c3,rfl,rfl,hr⟩:=open_node m n' (by omega) h3
     exact ⟨(t,c0,c1,c2,c3),h2,hr⟩
    obtain ⟨l,hll,hfy⟩:=pick len hall
    refine ⟨n' / 2+1,mkT k nn s (l.map (fun q=>q.1)),_,_,_,_,(half2 n').symm,rfl,rdT_mk.2 ⟨_,rfl,some ad,cap,by simp [hll],by simpa [hll] using hlc,hcm,by simp,?_⟩⟩
    intro z hz i hi
    obtain rfl:=Option.some.inj hz
    have hi':i < l.length:=by simpa using hi
    obtain ⟨g1,g2⟩:=hfy i hi'
    obtain ⟨_,_,hcell⟩:=World.cells?_some g1
    have k0:=hcell 0 (by omega)
    have k1:=hcell 1 (by omega)
    have k2:=hcell 2 (by omega)
    have k3:=hcell 3 (by omega)
    rw [Go.Deep.add_add] at k0 k1 k2 k3
    simp only [Nat.add_zero] at k0
    refine ⟨trivial,(l[i]).2.1,(l[i]).2.2.1,(l[i]).2.2.2.1,(l[i]).2.2.2.2,?_,by simpa using k0,by simpa using k1,by simpa using k2,by simpa using k3⟩
    simp only [List.getElem_map]
    exact g2
end Go.Proofs.YtppefcdkgejfbaaGreatDoor
namespace Go.Proofs.YtppefcdkgejfbaaGreatDoor
open Go.RowKit Go.Lib
set_option linter.unusedSimpArgs false
set_option linter.unusedVariables false
attribute [local go_sem ↓] Go.wp_at_zero Go.wp_at_succ
def RdX (ok:Nat->Prop) (w:World) (x:Sx) (v:Value):Prop:=RdT ok w x.1 x.2 v
theorem RdX.keep {ok ok':Nat->Prop}{w w':World}{x:Sx}{v:Value}(h:RdX ok w x v) (hk:∀ b,ok b->b < w.heap.size->ok' b/\w'.heap[b]?=w.heap[b]?):RdX ok' w' x v:=RdT.keep hk h
end Go.Proofs.YtppefcdkgejfbaaGreatDoor
namespace Go.Proofs.YtppefcdkgejfbaaGreatDoor
end Go.Proofs.YtppefcdkgejfbaaGreatDoor
namespace Go.Proofs.YtppefcdkgejfbaaGreatDoor
open Go.RowKit Go.Lib
set_option linter.unusedSimpArgs false
set_option linter.unusedVariables false
attribute [local go_sem ↓] Go.wp_at_zero Go.wp_at_succ
end Go.Proofs.YtppefcdkgejfbaaGreatDoor
namespace Go.Proofs.YtppefcdkgejfbaaGreatDoor
open Go.RowKit
set_option linter.unusedSimpArgs false
set_option linter.unusedVariables false
end Go.Proofs.YtppefcdkgejfbaaGreatDoor
namespace Go.Proofs.YtppefcdkgejfbaaGreatDoor
open Go.RowKit Go.Lib
set_option linter.unusedSimpArgs false
set_option linter.unusedVariables false
attribute [local go_sem ↓] Go.wp_at_zero Go.wp_at_succ
