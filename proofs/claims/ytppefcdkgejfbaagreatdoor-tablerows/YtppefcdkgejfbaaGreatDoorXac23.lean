import Derived.Test.YtppefcdkgejfbaaGreatDoorXac22
import Derived.Test.YtppefcdkgejfbaaGreatDoorXac08
import Derived.Test.YtppefcdkgejfbaaGreatDoorXac20
import Derived.Test.YtppefcdkgejfbaaGreatDoorXac21
import Derived.Test.YtppefcdkgejfbaaGreatDoorXac02
set_option maxRecDepth 100000
set_option maxHeartbeats 32000000
namespace Go.Proofs.YtppefcdkgejfbaaGreatDoor
open Go.RowKit Go.Lib Go.Shelf
set_option linter.unusedSimpArgs false
set_option linter.unusedVariables false
attribute [local go_sem] Oper.semAt_some
theorem flM_ok:∀ (d k:Nat) (l:List (St d)),(∀ t∈l,StOk d t)->∀ y∈flM d k l,StOk y.2.1 y.2.2
 | 0,k,l,_,y,hy=>by simp [flM] at hy
 | d+1,k,l,h,y,hy=>by
  simp only [flM,List.mem_flatMap,List.mem_cons] at hy
  obtain ⟨t,ht,rfl|hy⟩:=hy
  ·exact h t ht
  ·exact flM_ok d (k+1) t.2 (fun x hx=>(h t ht).2.2 x hx) y hy
theorem sum_mem {α:Type}(f:α->Nat):∀ (l:List α) (x:α),x∈l->f x<=(l.map f).sum
 | [],x,h=>by cases h
 | y :: l,x,h=>by
  rcases List.mem_cons.1 h with rfl|h
  ·simp
  ·have:=sum_mem f l x h
   simp only [List.map_cons,List.sum_cons]
   omega
def oneZ:SgS->Nat
 | ⟨0,_⟩=>0
 | ⟨e+1,t⟩=>szL (e+1) [t]
theorem flM_sz:∀ (d k:Nat) (l:List (St d)),∀ y∈flM d k l,oneZ y.2<=szL d l
 | 0,k,l,y,hy=>by simp [flM] at hy
 | d+1,k,l,y,hy=>by
  simp only [flM,List.mem_flatMap,List.mem_cons] at hy
  obtain ⟨t,ht,rfl|hy⟩:=hy
  ·show szL d t.2+0+1<=(l.map (fun t=>szL d t.2)).sum+1
   have:szL d t.2<=(l.map (fun t=>szL d t.2)).sum:=sum_mem (fun t:St (d+1)=>szL d t.2) l t ht
   omega
  ·have h1:=flM_sz d (k+1) t.2 y hy
   have h2:szL d t.2<=(l.map (fun t=>szL d t.2)).sum:=sum_mem (fun t:St (d+1)=>szL d t.2) l t ht
   show _<=(l.map (fun t=>szL d t.2)).sum+1
   omega
theorem stt_res {w4:World}{R R':Nat}{a b c d e f g h i j k:Value}{q:Bool}{tmps:Array Value}(hR:Bn w4 R [a,b,c,d,e,f,g,h,i,j,k]) (hR':Bn w4 R' [.bool q]) (ht:tmps.getD 4 undef=.pointer (some ⟨R,0,none⟩)) (ht2:tmps.getD 5 undef=.pointer (some ⟨R',0,none⟩)):(results Tryz.f16 tmps).run Tryz.prog w4=.ok (.tuple #[.agg #[a,b,c,d,e,f,g,h,i,j,k],.bool q]) w4:=by
 have ht':tmps[4]?.getD undef=.pointer (some ⟨R,0,none⟩):=by simpa using ht
 have ht2':tmps[5]?.getD undef=.pointer (some ⟨R',0,none⟩):=by simpa using ht2
 have c0:=(hR 0 _ rfl).1
 have c1:=(hR 1 _ rfl).1
 have c2:=(hR 2 _ rfl).1
 have c3:=(hR 3 _ rfl).1
 have c4:=(hR 4 _ rfl).1
 have c5:=(hR 5 _ rfl).1
 have c6:=(hR 6 _ rfl).1
 have c7:=(hR 7 _ rfl).1
 have c8:=(hR 8 _ rfl).1
 have c9:=(hR 9 _ rfl).1
 have c10:=(hR 10 _ rfl).1
 have d0:=(hR' 0 _ rfl).1
 simp [results,Tryz.results16,go_sem,ht',ht2',c0,c1,c2,c3,c4,c5,c6,c7,c8,c9,c10,d0]
def tlS (ok:Nat->Prop) (w:World) (x:SgS) (v:Value):Prop:=match x with
 | ⟨0,_⟩=>False
 | ⟨_+1,t⟩=>∃ (i1 i2:Int) (c3 c4:Bool) (c5 c6:ByteArray) (c7 c8:Int) (u1:Option Addr) (u3:Nat) (u4:Option Addr) (u6:Nat),v=.agg #[.string ⟨t.1.1.1.toArray⟩,.int .i64 i1,.int .i64 i2,.bool c3,.bool c4,.string c5,.string c6,.int .i64 c7,.int .i64 c8,.slice u1 t.1.2.2.2.2.length u3,.slice u4 t.2.length u6]/\RdK ok w 6 (rOnS ok w) t.1.2.2.2.2 (.slice u1 t.1.2.2.2.2.length u3)
theorem tlS.stay {ok ok':Nat->Prop}{w w':World}:∀ {x:SgS}{v:Value},tlS ok w x v->(∀ b,ok b->b < w.heap.size->ok' b/\w'.heap[b]?=w.heap[b]?)->tlS ok' w' x v
 | ⟨0,_⟩,_,h,_=>h
 | ⟨_+1,_⟩,_,⟨i1,i2,c3,c4,c5,c6,c7,c8,u1,u3,u4,u6,h1,h2⟩,hk=>⟨i1,i2,c3,c4,c5,c6,c7,c8,u1,u3,u4,u6,h1,h2.stay kp_onS hk⟩
def zSt:List Value:=[.string ⟨#[]⟩,.int .i64 0,.int .i64 0,.bool false,.bool false,.string ⟨#[]⟩,.string ⟨#[]⟩,.int .i64 0,.int .i64 0,.slice none 0 0,.slice none 0 0]
def SI (w:World) (i0:Nat) (pre:List Fx3) (o:Nat->Prop) (W:World):Prop:=
 ∃ j:Nat,pre.length+j=i0/\Bn W (w.heap.size+1) [.int .i64 (j:Int)]/\Bn W (w.heap.size+2) zSt/\Bn W (w.heap.size+3) [.bool false]/\(∀ k,o k↔(k=w.heap.size+1∨k=w.heap.size+2∨k=w.heap.size+3))/\w.heap.size+5<=W.heap.size/\Below w.heap.size w W
def SA (w:World) (i0:Nat) (T:Fx3->Nat->Array Value) (pre:List Fx3) (x:Fx3) (a':Act) (o:Nat->Prop) (W:World):Prop:=
 ∃ (j Bs:Nat),pre.length+j=i0/\Bn W (w.heap.size+1) [.int .i64 (j:Int)]/\Bn W (w.heap.size+2) zSt/\Bn W (w.heap.size+3) [.bool false]/\(∀ k,o k↔(k=w.heap.size+1∨k=w.heap.size+2∨k=w.heap.size+3∨k=Bs))/\w.heap.size+5<=W.heap.size/\Below w.heap.size w W/\w.heap.size+5<=Bs/\Bs < W.heap.size/\Bn W Bs x.2.2/\a'={ tmps:=T x Bs,defers:=[] }
def SX (w:World) (i0:Nat) (c:Code) (pre:List Fx3) (o:Nat->Prop) (W:World):Prop:=
 c=.ret/\∃ p x a b c d e f g h i j k,pre=p++[x]/\p.length=i0/\Hid (tlS (fun b=>o b/\w.heap.size<=b) W x.2.1 (.agg #[a,b,c,d,e,f,g,h,i,j,k]))/\Bn W (w.heap.size+2) [a,b,c,d,e,f,g,h,i,j,k]/\Bn W (w.heap.size+3) [.bool true]/\o (w.heap.size+2)/\o (w.heap.size+3)/\w.heap.size+5<=W.heap.size/\Below w.heap.size w W
theorem sI_len {w:World}{i0:Nat}{s:List Fx3}{o:Nat->Prop}{A:World}(h:SI w i0 s o A):∀ k,o k->k < A.heap.size/\w.heap.size<=k:=by
 obtain ⟨j,h1,h2,h3,h4,h5,h6,h7⟩:=h
 intro k hk
 rcases (h5 k).1 hk with rfl|rfl|rfl<;>omega
theorem sI_stb (w:World) (i0:Nat):Stb w.heap.size (SI w i0):=by
 rintro s o A B ⟨j,h1,h2,h3,h4,h5,h6,h7⟩ hs
 exact ⟨j,h1,bn_keep h2 hs (.inr ((h5 _).2 (.inl rfl))),bn_keep h3 hs (.inr ((h5 _).2 (.inr (.inl rfl)))),bn_keep h4 hs (.inr ((h5 _).2 (.inr (.inr rfl)))),h5,Nat.le_trans h6 hs.size,h7.trans (hs.below h7.size (fun i hi=>.inl hi))⟩
theorem sA_stb (w:World) (i0:Nat) (T:Fx3->Nat->Array Value) (pre:List Fx3) (x:Fx3) (a':Act):Stb w.heap.size (fun (_:Unit)=>SA w i0 T pre x a'):=by
 rintro _ o A B ⟨j,Bs,h1,h2,h3,h4,h5,h6,h7,h8,h9,h10,h11⟩ hs
 exact ⟨j,Bs,h1,bn_keep h2 hs (.inr ((h5 _).2 (.inl rfl))),bn_keep h3 hs (.inr ((h5 _).2 (.inr (.inl rfl)))),bn_keep h4 hs (.inr ((h5 _).2 (.inr (.inr (.inl rfl))))),h5,Nat.le_trans h6 hs.size,h7.trans (hs.below h7.size (fun i hi=>.inl hi)),h8,Nat.lt_of_lt_of_le h9 hs.size,h10.blk (hs.block Bs h9 (.inr ((h5 _).2 (.inr (.inr (.inr rfl)))))),h11⟩
theorem sX_stb (w:World) (i0:Nat) (c:Code):Stb w.heap.size (SX w i0 c):=by
 rintro s o A B ⟨h0,p,x,a,b,c,d,e,f,g,h,i,j,k,h1,h2,h3,h4,h5,h6,h7,h8,h9⟩ hs
 exact ⟨h0,p,x,a,b,c,d,e,f,g,h,i,j,k,h1,h2,h3.out.stay (fun b hb hl=>⟨hb,hs.block b hl (.inr hb.1)⟩),bn_keep h4 hs (.inr h6),bn_keep h5 hs (.inr h7),h6,h7,Nat.le_trans h8 hs.size,h9.trans (hs.below h9.size (fun i hi=>.inl hi))⟩
theorem Sm.putL {K:Nat->Prop}{G:Nat}(hK:¬ K G):∀ (cs:List Value) (A:World) (o:Nat),Sm K A (putL A G o cs)
 | [],A,_=>Sm.refl _ _
 | c :: cs,A,o=>(Sm.setCell K A ⟨G,o,none⟩ c hK).trans (Sm.putL hK cs _ _) (fun _ _ h=>h)
theorem flX_cells {ok:Nat->Prop}{w:World}{d:Nat}{l:List (St d)}{v:Value}(h:RdK ok w 11 (rSt d ok w) l v) {x:Fx3}(hx:x∈flX w d 0 l v) :
  ∃ (k e:Nat) (t:St (e+1)) (sn:ByteArray) (sl sc:Int) (sb se:Bool) (sd su:ByteArray) (sw sr:Int) (oa:Option Addr) (no oc:Nat) (ia:Option Addr) (ni ic:Nat),x=(k,⟨e+1,t⟩,[.string sn,.int .i64 sl,.int .i64 sc,.bool sb,.bool se,.string sd,.string su,.int .i64 sw,.int .i64 sr,.slice oa no oc,.slice ia ni ic])/\
   Hid (∀ so si,hdV t.1 so si=[.string sn,.int .i64 sl,.int .i64 sc,.bool sb,.bool se,.string sd,.string su,.int .i64 sw,.int .i64 sr,so,si])/\Hid (t.1.2.2.2.2.length=no/\t.2.length=ni/\sn=⟨t.1.1.1.toArray⟩)/\Hid (RdK ok w 6 (rOn ok w) t.1.2.2.2.2 (.slice oa no oc))/\Hid (RdK ok w 11 (rSt e ok w) t.2 (.slice ia ni ic)):=by
 have hr:=flX_rd d 0 l v h x hx
 obtain ⟨k,⟨e,t⟩,cs⟩:=x
 cases e with
 | zero=>exact Empty.elim t
 | succ e=>
  obtain ⟨so,si,he,h1,h2⟩:=hr
  obtain ⟨oa,oc,rfl,_,_⟩:=h1.form
  obtain ⟨ia,ic,rfl,_,_⟩:=h2.form
  refine ⟨k,e,t,⟨t.1.1.1.toArray⟩,t.1.1.2.1,t.1.1.2.2,t.1.2.1.1,t.1.2.1.2,⟨t.1.2.2.1.1.toArray⟩,⟨t.1.2.2.1.2.toArray⟩,t.1.2.2.2.1.1,t.1.2.2.2.1.2,oa,_,oc,ia,_,ic,?_,fun _ _=>rfl,⟨rfl,rfl,rfl⟩,h1,h2⟩
  simp only at he
  rw [he]
  rfl
theorem stateT_any {ok:Nat->Prop}{w:World}{d:Nat}{c:ChG d}{v:Value}(h:RdC ok w d c v) (hok:∀ b,ok b->b < w.heap.size) (hlen:(flM d 0 c.2.2.2).length<=1000000) (hst:∀ t∈c.2.2.2,StOk d t) (hsz:szL d c.2.2.2<=1000000) (i0:Nat) (hi63:i0 < 9223372036854775808) :
  Calls Tryz.prog 16 #[v,.int .i64 (i0:Int)] w fun e w'=>∃ a b c3 d3 e3 f g h i j k q,e=.returned (.tuple #[.agg #[a,b,c3,d3,e3,f,g,h,i,j,k],.bool q])/\((q=true/\∃ hi:i0 < (flM d 0 c.2.2.2).length,tlS (fun b=>w.heap.size<=b) w' ((flM d 0 c.2.2.2)[i0]).2 (.agg #[a,b,c3,d3,e3,f,g,h,i,j,k]))∨(q=false/\(flM d 0 c.2.2.2).length<=i0/\[a,b,c3,d3,e3,f,g,h,i,j,k]=zSt))/\Below w.heap.size w w':=by
 obtain ⟨sv,ss,rfl,hvv,hss⟩:=h
 obtain ⟨va,vc,rfl,hv1,hv2⟩:=hvv.form
 obtain ⟨sa,sc,rfl,hs1,hs2⟩:=hss.form
 unfold maxLen at hv2 hs2
 have HR:=hidOf hss
 clear hvv hss
 refine (callsIn_wide (n:=5)).1 ?_
 refine callsIn_of_wp_marks Tryz.func16 rfl trivial ?_ rfl
 simp only [Tryz.ntmps16,List.size_toArray,List.length_cons,List.length_nil,Nat.reduceAdd,Nat.reduceSub,Array.replicate_succ,Array.replicate_zero,List.push_toArray,List.append_toArray,List.nil_append,List.cons_append]
 have i1:¬ ((i0:Int) < 0):=by omega
 gi_wp2_with (refine ⟨trivial,?_⟩;gi_at_call 35;refine (states_in Fence.wide _ trivial rfl _ _ _ _ _ _ _).mono ?_;rintro e w' ⟨rfl,rfl⟩)
 obtain ⟨W5,hW5⟩:∃ W5,((((w.alloc (.cells #[sV c.1.1,.int .i64 c.2.1,.int .i64 c.1.2.1,.int .i64 c.1.2.2,.slice va c.2.2.1.length vc,.slice sa c.2.2.2.length sc] 42)).alloc (.cells #[.int .i64 (i0:Int)] 3)).alloc (.cells #[.string ⟨#[]⟩,.int .i64 0,.int .i64 0,.bool false,.bool false,.string ⟨#[]⟩,.string ⟨#[]⟩,.int .i64 0,.int .i64 0,.slice none 0 0,.slice none 0 0] 79)).alloc (.cells #[.bool false] 4)).alloc (.cells #[sV c.1.1,.int .i64 c.2.1,.int .i64 c.1.2.1,.int .i64 c.1.2.2,.slice va c.2.2.1.length vc,.slice sa c.2.2.2.length sc] 42)=W5:=⟨_,rfl⟩
 have hsz5:W5.heap.size=w.heap.size+5:=by rw [<- hW5];simp
 have hB:Below w.heap.size w W5:=by rw [<- hW5];exact (((((Below.refl _ w).alloc Nat.le.refl _).alloc (by simp) _).alloc (by simp;omega) _).alloc (by simp;omega) _).alloc (by simp;omega) _
 have hX:W5.cell? ⟨w.heap.size+1+1+1+1,5,none⟩=some (.slice sa c.2.2.2.length sc):=by rw [<- hW5];exact ((Bn.new _ [sV c.1.1,.int .i64 c.2.1,.int .i64 c.1.2.1,.int .i64 c.1.2.2,.slice va c.2.2.1.length vc,.slice sa c.2.2.2.length sc] 42 (w.heap.size+1+1+1+1) (by simp)) 5 _ rfl).1
 have hR1:Bn W5 (w.heap.size+1) [.int .i64 (i0:Int)]:=by
  rw [<- hW5]
  exact (((Bn.new _ [.int .i64 (i0:Int)] 3 (w.heap.size+1) (by simp)).on ((Below.refl _ _).alloc Nat.le.refl _)).on ((Below.refl _ _).alloc Nat.le.refl _)).on ((Below.refl _ _).alloc Nat.le.refl _)
 have hR2:Bn W5 (w.heap.size+2) zSt:=by
  rw [<- hW5]
  exact ((Bn.new _ zSt 79 (w.heap.size+2) (by simp)).on ((Below.refl _ _).alloc Nat.le.refl _)).on ((Below.refl _ _).alloc Nat.le.refl _)
 have hR3:Bn W5 (w.heap.size+3) [.bool false]:=by
  rw [<- hW5]
  exact (Bn.new _ [.bool false] 4 (w.heap.size+3) (by simp)).on ((Below.refl _ _).alloc Nat.le.refl _)
 rw [hW5]
 clear hW5
 have hrd5:RdK ok W5 11 (rSt d ok W5) c.2.2.2 (.slice sa c.2.2.2.length sc):=HR.out.stay (kp_st d) (fun b hb hl=>⟨hb,hB.block b (hok b hb)⟩)
 have hlen5:(flX W5 d 0 c.2.2.2 (.slice sa c.2.2.2.length sc)).length<=1000000:=by rw [<- List.length_map (f:=fun x:Fx3=>(x.1,x.2.1)),flX_map];exact hlen
 have HM:=hidOf (flX_map W5 d 0 c.2.2.2 (.slice sa c.2.2.2.length sc))
 refine wpIn_rangeFunc_st rfl (by omega) (gf:=56) (lb:=#[.pointer (some ⟨w.heap.size+1+1+1+1,0,none⟩)]) rfl trivial (enters_of Tryz.func56 (by kernel_rfl) rfl)
  (states_owns (F:=Fence.wide) (n:=5 - 1) trivial rfl (by omega) (ok:=ok) hX hok (by omega) hrd5 hlen5) (Below.refl _ _) (m:=w.heap.size) (by omega) (fun _=>rfl)
  (SI w i0) (SA w i0 (fun x Bs=>#[.agg #[sV c.1.1,.int .i64 c.2.1,.int .i64 c.1.2.1,.int .i64 c.1.2.2,.slice va c.2.2.1.length vc,.slice sa c.2.2.2.length sc],.int .i64 (i0:Int),.pointer (some ⟨w.heap.size,0,none⟩),.pointer (some ⟨w.heap.size+1,0,none⟩),.pointer (some ⟨w.heap.size+1+1,0,none⟩),.pointer (some ⟨w.heap.size+1+1+1,0,none⟩),undef,.pointer (some ⟨Bs,0,none⟩),.int .i64 (i0:Int),.bool false,undef,
   .agg #[sV c.1.1,.int .i64 c.2.1,.int .i64 c.1.2.1,.int .i64 c.1.2.2,.slice va c.2.2.1.length vc,.slice sa c.2.2.2.length sc],.func (.func 56) #[] #[.pointer (some ⟨w.heap.size+1+1+1+1,0,none⟩)],.int .i64 (x.1:Int),.agg x.2.2.toArray,undef,undef,undef,undef,undef,undef,undef])) (SX w i0)
  (fun s o A h=>sI_len h) (sI_stb w i0) (fun pre x a'=>sA_stb w i0 _ pre x a') (sX_stb w i0) (fun k=>k=w.heap.size+1∨k=w.heap.size+2∨k=w.heap.size+3) ?h0 ?assign ?body ?done ?stop
 case h0=>exact ⟨i0,by simp,hR1,hR2,hR3,fun k=>Iff.rfl,by omega,hB⟩
 case assign=>
  rintro l pre x rest o W K hxs ⟨j,h1,h2,h3,h4,h5,h6,h7⟩ hK
  obtain ⟨k,e,t,sn,sl,sc',sb,se,sd,su,sw,sr,oa,no,oc,ia,ni,ic,rfl,_⟩:=flX_cells hrd5 (x:=x) (by rw [hxs];simp)
  simp only [encS]
  gi_wp2
  have hal:Below W.heap.size W (W.alloc (.cells #[.string sn,.int .i64 sl,.int .i64 sc',.bool sb,.bool se,.string sd,.string su,.int .i64 sw,.int .i64 sr,.slice oa no oc,.slice ia ni ic] 79)):=(Below.refl _ _).alloc Nat.le.refl _
  refine hK _ (fun k=>o k∨k=W.heap.size) _ ⟨Sm.alloc _ _ _,fun k hk=>hk.imp id (fun e=>Nat.le_of_eq e.symm)⟩ ⟨j,W.heap.size,h1,h2.on hal,h3.on hal,h4.on hal,fun k=>?_,Nat.le_trans h6 hal.size,h7.trans (hal.mono h7.size),h6,by simp,Bn.new W _ _ _ rfl,rfl⟩
  show (o k∨k=W.heap.size)↔_
  rw [h5 k,or_assoc,or_assoc]
 case body=>
  rintro l pre x rest a' o W hxs ⟨j,Bs,h1,h2,h3,h4,h5,h6,h7,h8,h9,h10,rfl⟩
  obtain ⟨k,e,t,sn,sl,sc',sb,se,sd,su,sw,sr,oa,no,oc,ia,ni,ic,rfl,HV,HNN,HON,HIN⟩:=flX_cells hrd5 (x:=x) (by rw [hxs];simp)
  have hmem:(k,(⟨e+1,t⟩:SgS))∈flM d 0 c.2.2.2:=by
   rw [<- HM.out,hxs]
   simp
  have hok1:StOk (e+1) t:=flM_ok d 0 c.2.2.2 hst _ hmem
  have hsz1:szL (e+1) [t]<=1000000:=Nat.le_trans (flM_sz d 0 c.2.2.2 _ hmem) hsz
  have HXS:=hidOf hxs
  clear hxs hmem
  obtain ⟨cj,fj⟩:=h2 0 _ rfl
  dsimp only
  cases j with
  | zero=>
   have q0:=(h10 0 _ rfl).1
   have q1:=(h10 1 _ rfl).1
   have q2:=(h10 2 _ rfl).1
   have q3:=(h10 3 _ rfl).1
   have q4:=(h10 4 _ rfl).1
   have q5:=(h10 5 _ rfl).1
   have q6:=(h10 6 _ rfl).1
   have q7:=(h10 7 _ rfl).1
   have q8:=(h10 8 _ rfl).1
   have q9:=(h10 9 _ rfl).1
   have q10:=(h10 10 _ rfl).1
   have hcop:∀ n,CallsIn (Fence.wide.inRound l) n Tryz.prog 36 #[.agg #[.string sn,.int .i64 sl,.int .i64 sc',.bool sb,.bool se,.string sd,.string su,.int .i64 sw,.int .i64 sr,.slice oa no oc,.slice ia ni ic]] W fun e w'=>∃ (i1 i2:Int) (c3 c4:Bool) (c5 c6:ByteArray) (c7 c8:Int) (u1:Option Addr) (u3:Nat) (u4:Option Addr) (u6:Nat),e=.returned (.agg #[.string sn,.int .i64 i1,.int .i64 i2,.bool c3,.bool c4,.string c5,.string c6,.int .i64 c7,.int .i64 c8,.slice u1 no u3,.slice u4 ni u6])/\Hid (RdK (fun b=>W.heap.size<=b) w' 6 (rOnS (fun b=>W.heap.size<=b) w') t.1.2.2.2.2 (.slice u1 no u3))/\Below W.heap.size W w':=fun n=>CallsIn.inRound l (callsIn_wide.2 (copiedT_any (ok:=ok) HV.out HNN.out.1 HNN.out.2.1 (HON.out.stay kp_on (fun b hb hl=>⟨hb,((h7.block b (hok b hb)).trans (hB.block b (hok b hb)).symm)⟩)) (HIN.out.stay (kp_st e) (fun b hb hl=>⟨hb,((h7.block b (hok b hb)).trans (hB.block b (hok b hb)).symm)⟩)) hok1 hsz1))
   have hz0:((0:Nat):Int)=0:=rfl
   rw [hz0] at cj
   gi_wp2_with (first
    | (refine ⟨trivial,?_⟩;gi_at_call 36;refine (hcop _).mono ?_;rintro e wa ⟨i1,i2,c3,c4,c5,c6,c7,c8,u1,u3,u4,u6,rfl,HOS,b3⟩;have hRa:=h3.on b3;have hRb:=h4.on b3;obtain ⟨r0,g0⟩:=hRa 0 _ rfl;obtain ⟨r1,g1⟩:=hRa 1 _ rfl;obtain ⟨r2,g2⟩:=hRa 2 _ rfl;obtain ⟨r3,g3⟩:=hRa 3 _ rfl;obtain ⟨r4,g4⟩:=hRa 4 _ rfl;obtain ⟨r5,g5⟩:=hRa 5 _ rfl;obtain ⟨r6,g6⟩:=hRa 6 _ rfl;obtain ⟨r7,g7⟩:=hRa 7 _ rfl;obtain ⟨r8,g8⟩:=hRa 8 _ rfl;obtain ⟨r9,g9⟩:=hRa 9 _ rfl;obtain ⟨r10,g10⟩:=hRa 10 _ rfl;obtain ⟨k0,m0⟩:=hRb 0 _ rfl)
    | (gi_at_call 36;refine (hcop _).mono ?_;rintro e wa ⟨i1,i2,c3,c4,c5,c6,c7,c8,u1,u3,u4,u6,rfl,HOS,b3⟩;have hRa:=h3.on b3;have hRb:=h4.on b3;obtain ⟨r0,g0⟩:=hRa 0 _ rfl;obtain ⟨r1,g1⟩:=hRa 1 _ rfl;obtain ⟨r2,g2⟩:=hRa 2 _ rfl;obtain ⟨r3,g3⟩:=hRa 3 _ rfl;obtain ⟨r4,g4⟩:=hRa 4 _ rfl;obtain ⟨r5,g5⟩:=hRa 5 _ rfl;obtain ⟨r6,g6⟩:=hRa 6 _ rfl;obtain ⟨r7,g7⟩:=hRa 7 _ rfl;obtain ⟨r8,g8⟩:=hRa 8 _ rfl;obtain ⟨r9,g9⟩:=hRa 9 _ rfl;obtain ⟨r10,g10⟩:=hRa 10 _ rfl;obtain ⟨k0,m0⟩:=hRb 0 _ rfl)
    | fail)
   have hRz:Bn (putL wa (w.heap.size+2) 0 [.string sn,.int .i64 i1,.int .i64 i2,.bool c3,.bool c4,.string c5,.string c6,.int .i64 c7,.int .i64 c8,.slice u1 no u3,.slice u4 ni u6]) (w.heap.size+2) [.string sn,.int .i64 i1,.int .i64 i2,.bool c3,.bool c4,.string c5,.string c6,.int .i64 c7,.int .i64 c8,.slice u1 no u3,.slice u4 ni u6]:=(((((((((((hRa.set (i:=0) (by simp) (.string sn)).set (i:=1) (by simp) (.int .i64 i1)).set (i:=2) (by simp) (.int .i64 i2)).set (i:=3) (by simp) (.bool c3)).set (i:=4) (by simp) (.bool c4)).set (i:=5) (by simp) (.string c5)).set (i:=6) (by simp) (.string c6)).set (i:=7) (by simp) (.int .i64 c7)).set (i:=8) (by simp) (.int .i64 c8)).set (i:=9) (by simp) (.slice u1 no u3)).set (i:=10) (by simp) (.slice u4 ni u6))
   have hRz2:Bn ((putL wa (w.heap.size+2) 0 [.string sn,.int .i64 i1,.int .i64 i2,.bool c3,.bool c4,.string c5,.string c6,.int .i64 c7,.int .i64 c8,.slice u1 no u3,.slice u4 ni u6]).setCell ⟨w.heap.size+3,0,none⟩ (.bool true)) (w.heap.size+2) [.string sn,.int .i64 i1,.int .i64 i2,.bool c3,.bool c4,.string c5,.string c6,.int .i64 c7,.int .i64 c8,.slice u1 no u3,.slice u4 ni u6]:=hRz.far (i:=0) (by omega) _
   have hRw:Bn ((putL wa (w.heap.size+2) 0 [.string sn,.int .i64 i1,.int .i64 i2,.bool c3,.bool c4,.string c5,.string c6,.int .i64 c7,.int .i64 c8,.slice u1 no u3,.slice u4 ni u6]).setCell ⟨w.heap.size+3,0,none⟩ (.bool true)) (w.heap.size+3) [.bool true]:=(hRb.blk (putL_heap _ _ _ _ _ (by omega))).set (i:=0) (by simp) (.bool true)
   have o2:o (w.heap.size+2):=(h5 _).2 (.inr (.inl rfl))
   have o3:o (w.heap.size+3):=(h5 _).2 (.inr (.inr (.inl rfl)))
   have hsm:Sm (fun k=>k < w.heap.size∨¬ o k) W ((putL wa (w.heap.size+2) 0 [.string sn,.int .i64 i1,.int .i64 i2,.bool c3,.bool c4,.string c5,.string c6,.int .i64 c7,.int .i64 c8,.slice u1 no u3,.slice u4 ni u6]).setCell ⟨w.heap.size+3,0,none⟩ (.bool true)):=((Sm.of_below b3 (fun i hi _=>hi)).trans (Sm.putL (K:=fun k=>k < w.heap.size∨¬ o k) (fun h=>by rcases h with h|h;omega;exact h o2) [.string sn,.int .i64 i1,.int .i64 i2,.bool c3,.bool c4,.string c5,.string c6,.int .i64 c7,.int .i64 c8,.slice u1 no u3,.slice u4 ni u6] wa 0) (fun _ _ h=>h)).trans (Sm.setCell (fun k=>k < w.heap.size∨¬ o k) _ ⟨w.heap.size+3,0,none⟩ (.bool true) (fun h=>by rcases h with h|h;exact absurd (show w.heap.size+3 < w.heap.size from h) (by omega);exact h o3)) (fun _ _ h=>h)
   have hos:Hid (RdK (fun b=>(o b∨(W.heap.size<=b/\b < wa.heap.size))/\w.heap.size<=b) ((putL wa (w.heap.size+2) 0 [.string sn,.int .i64 i1,.int .i64 i2,.bool c3,.bool c4,.string c5,.string c6,.int .i64 c7,.int .i64 c8,.slice u1 no u3,.slice u4 ni u6]).setCell ⟨w.heap.size+3,0,none⟩ (.bool true)) 6 (rOnS (fun b=>(o b∨(W.heap.size<=b/\b < wa.heap.size))/\w.heap.size<=b) ((putL wa (w.heap.size+2) 0 [.string sn,.int .i64 i1,.int .i64 i2,.bool c3,.bool c4,.string c5,.string c6,.int .i64 c7,.int .i64 c8,.slice u1 no u3,.slice u4 ni u6]).setCell ⟨w.heap.size+3,0,none⟩ (.bool true))) t.1.2.2.2.2 (.slice u1 no u3)):=HOS.out.stay kp_onS (fun b hb hl=>⟨⟨.inr ⟨hb,hl⟩,by omega⟩,(Below.heap_setCell _ _ _ _ (fun e=>by have e9:b=w.heap.size+3:=e;omega)).trans (putL_heap _ _ _ _ _ (by omega))⟩)
   refine ⟨fun k=>o k∨(W.heap.size<=k/\k < wa.heap.size),⟨hsm,fun _ h=>h.imp id (fun e=>e.1)⟩,rfl,pre,(k,(⟨e+1,t⟩:SgS),[.string sn,.int .i64 sl,.int .i64 sc',.bool sb,.bool se,.string sd,.string su,.int .i64 sw,.int .i64 sr,.slice oa no oc,.slice ia ni ic]),_,_,_,_,_,_,_,_,_,_,_,rfl,by omega,?_,hRz2,hRw,.inl o2,.inl o3,Nat.le_trans h6 hsm.size,h7.trans (hsm.below h7.size (fun i hi=>.inl hi))⟩
   show tlS _ _ _ _
   obtain ⟨e1,e2,e3⟩:=HNN.out
   refine ⟨i1,i2,c3,c4,c5,c6,c7,c8,u1,u3,u4,u6,by rw [e1,e2,<- e3],?_⟩
   rw [e1]
   exact hos.out
  | succ j=>
   have hj0:¬ (((j+1:Nat):Int)=0):=by omega
   have hw:IntKind.i64.wrap (((j+1:Nat):Int) - 1)=(j:Int):=by rw [wrap_small]<;>omega
   obtain ⟨J,hJ⟩:∃ J,((j+1:Nat):Int)=J:=⟨_,rfl⟩
   rw [hJ] at cj hj0 hw
   gi_wp2
   have o1:o (w.heap.size+1):=(h5 _).2 (.inl rfl)
   have hsm:Sm (fun k=>k < w.heap.size∨¬ o k) W (W.setCell ⟨w.heap.size+1,0,none⟩ (.int .i64 (j:Int))):=Sm.setCell (fun k=>k < w.heap.size∨¬ o k) _ ⟨w.heap.size+1,0,none⟩ _ (fun h=>by rcases h with h|h;exact absurd (show w.heap.size+1 < w.heap.size from h) (by omega);exact h o1)
   refine ⟨fun k=>k=w.heap.size+1∨k=w.heap.size+2∨k=w.heap.size+3,⟨hsm,fun k h=>.inl ((h5 k).2 ?_)⟩,j,by simp;omega,h2.set (i:=0) (by simp) (.int .i64 (j:Int)),h3.far (i:=0) (by omega) _,h4.far (i:=0) (by omega) _,fun _=>Iff.rfl,Nat.le_trans h6 hsm.size,h7.trans (hsm.below h7.size (fun i hi=>.inl hi))⟩
   rcases h with h|h|h
   ·exact .inl h
   ·exact .inr (.inl h)
   ·exact .inr (.inr (.inl h))
 case done=>
  rintro D o W hD ⟨j,h1,h2,h3,h4,h5,h6,h7⟩ hnD hK
  have hD2:w.heap.size+2≠D:=fun e=>hnD (e ▸ (h5 _).2 (.inr (.inl rfl)))
  have hD3:w.heap.size+3≠D:=fun e=>hnD (e ▸ (h5 _).2 (.inr (.inr rfl)))
  have h3:Bn W (w.heap.size+2) [.string ⟨#[]⟩,.int .i64 0,.int .i64 0,.bool false,.bool false,.string ⟨#[]⟩,.string ⟨#[]⟩,.int .i64 0,.int .i64 0,.slice none 0 0,.slice none 0 0]:=h3
  obtain ⟨r0,g0⟩:=h3 0 _ rfl
  obtain ⟨r1,g1⟩:=h3 1 _ rfl
  obtain ⟨r2,g2⟩:=h3 2 _ rfl
  obtain ⟨r3,g3⟩:=h3 3 _ rfl
  obtain ⟨r4,g4⟩:=h3 4 _ rfl
  obtain ⟨r5,g5⟩:=h3 5 _ rfl
  obtain ⟨r6,g6⟩:=h3 6 _ rfl
  obtain ⟨r7,g7⟩:=h3 7 _ rfl
  obtain ⟨r8,g8⟩:=h3 8 _ rfl
  obtain ⟨r9,g9⟩:=h3 9 _ rfl
  obtain ⟨r10,g10⟩:=h3 10 _ rfl
  obtain ⟨k0,m0⟩:=h4 0 _ rfl
  gi_wp2
  have hDl:D < W.heap.size:=(Array.getElem?_eq_some_iff.1 hK).1
  have hRz:Bn (putL W (w.heap.size+2) 0 [.string ⟨#[]⟩,.int .i64 0,.int .i64 0,.bool false,.bool false,.string ⟨#[]⟩,.string ⟨#[]⟩,.int .i64 0,.int .i64 0,.slice none 0 0,.slice none 0 0]) (w.heap.size+2) [.string ⟨#[]⟩,.int .i64 0,.int .i64 0,.bool false,.bool false,.string ⟨#[]⟩,.string ⟨#[]⟩,.int .i64 0,.int .i64 0,.slice none 0 0,.slice none 0 0]:=(((((((((((h3.set (i:=0) (by simp [zSt]) (.string ⟨#[]⟩)).set (i:=1) (by simp [zSt]) (.int .i64 0)).set (i:=2) (by simp [zSt]) (.int .i64 0)).set (i:=3) (by simp [zSt]) (.bool false)).set (i:=4) (by simp [zSt]) (.bool false)).set (i:=5) (by simp [zSt]) (.string ⟨#[]⟩)).set (i:=6) (by simp [zSt]) (.string ⟨#[]⟩)).set (i:=7) (by simp [zSt]) (.int .i64 0)).set (i:=8) (by simp [zSt]) (.int .i64 0)).set (i:=9) (by simp [zSt]) (.slice none 0 0)).set (i:=10) (by simp [zSt]) (.slice none 0 0))
  have hRz2:Bn ((putL W (w.heap.size+2) 0 [.string ⟨#[]⟩,.int .i64 0,.int .i64 0,.bool false,.bool false,.string ⟨#[]⟩,.string ⟨#[]⟩,.int .i64 0,.int .i64 0,.slice none 0 0,.slice none 0 0]).setCell ⟨w.heap.size+3,0,none⟩ (.bool false)) (w.heap.size+2) [.string ⟨#[]⟩,.int .i64 0,.int .i64 0,.bool false,.bool false,.string ⟨#[]⟩,.string ⟨#[]⟩,.int .i64 0,.int .i64 0,.slice none 0 0,.slice none 0 0]:=hRz.far (i:=0) (by omega) _
  have hRw:Bn ((putL W (w.heap.size+2) 0 [.string ⟨#[]⟩,.int .i64 0,.int .i64 0,.bool false,.bool false,.string ⟨#[]⟩,.string ⟨#[]⟩,.int .i64 0,.int .i64 0,.slice none 0 0,.slice none 0 0]).setCell ⟨w.heap.size+3,0,none⟩ (.bool false)) (w.heap.size+3) [.bool false]:=(h4.blk (putL_heap _ _ _ _ _ (by omega))).set (i:=0) (by simp) (.bool false)
  have hKz:((putL W (w.heap.size+2) 0 [.string ⟨#[]⟩,.int .i64 0,.int .i64 0,.bool false,.bool false,.string ⟨#[]⟩,.string ⟨#[]⟩,.int .i64 0,.int .i64 0,.slice none 0 0,.slice none 0 0]).setCell ⟨w.heap.size+3,0,none⟩ (.bool false)).heap[D]?=some (.deferred (some [])):=((Below.heap_setCell _ _ _ _ (fun e=>hD3 (show w.heap.size+3=D from e.symm))).trans (putL_heap _ _ _ _ _ (by omega))).trans hK
  have hBz:Below w.heap.size w ((putL W (w.heap.size+2) 0 [.string ⟨#[]⟩,.int .i64 0,.int .i64 0,.bool false,.bool false,.string ⟨#[]⟩,.string ⟨#[]⟩,.int .i64 0,.int .i64 0,.slice none 0 0,.slice none 0 0]).setCell ⟨w.heap.size+3,0,none⟩ (.bool false)):=(putL_below _ W (w.heap.size+2) 0 h7 (by omega)).setCell (p:=⟨w.heap.size+3,0,none⟩) (by simp) _
  refine ⟨by simp,.inl ⟨_,_,rfl,run_takeDeferred hKz,?_⟩⟩
  have g2:=hRz2.blk (w':=((putL W (w.heap.size+2) 0 [.string ⟨#[]⟩,.int .i64 0,.int .i64 0,.bool false,.bool false,.string ⟨#[]⟩,.string ⟨#[]⟩,.int .i64 0,.int .i64 0,.slice none 0 0,.slice none 0 0]).setCell ⟨w.heap.size+3,0,none⟩ (.bool false)).putObj D (.deferred none)) (World.putObj_heap_other (by omega))
  have g3:=hRw.blk (w':=((putL W (w.heap.size+2) 0 [.string ⟨#[]⟩,.int .i64 0,.int .i64 0,.bool false,.bool false,.string ⟨#[]⟩,.string ⟨#[]⟩,.int .i64 0,.int .i64 0,.slice none 0 0,.slice none 0 0]).setCell ⟨w.heap.size+3,0,none⟩ (.bool false)).putObj D (.deferred none)) (World.putObj_heap_other (by omega))
  refine ⟨_,stt_res g2 g3 rfl rfl,_,_,_,_,_,_,_,_,_,_,_,false,rfl,.inr ⟨rfl,?_,rfl⟩,hBz.trans (belowK_b (w:=w) Nat.le.refl _ D _ _ (by omega) hKz rfl rfl)⟩
  rw [<- HM.out,List.length_map]
  omega
 case stop=>
  rintro D cc pre o W hD hpre ⟨rfl,p,x,a,b,c3,d3,e3,f,g,h,i,j,k,h1,h2,h3,h4,h5,h6,h7,h8,h9⟩ hnD hK
  have hD2:w.heap.size+2≠D:=fun e=>hnD (e ▸ h6)
  have hD3:w.heap.size+3≠D:=fun e=>hnD (e ▸ h7)
  gi_wp2
  refine ⟨by simp,.inl ⟨_,_,rfl,run_takeDeferred hK,?_⟩⟩
  have g2:Bn (W.putObj D (.deferred none)) (w.heap.size+2) [a,b,c3,d3,e3,f,g,h,i,j,k]:=h4.blk (World.putObj_heap_other (by omega))
  have g3:Bn (W.putObj D (.deferred none)) (w.heap.size+3) [.bool true]:=h5.blk (World.putObj_heap_other (by omega))
  obtain ⟨rest,hrest⟩:=hpre
  have hget:(flM d 0 c.2.2.2)[i0]?=some (x.1,x.2.1):=by
   rw [<- HM.out,<- hrest,h1,<- h2]
   simp
  obtain ⟨hi0,hx0⟩:=List.getElem?_eq_some_iff.1 hget
  refine ⟨_,stt_res g2 g3 rfl rfl,a,b,c3,d3,e3,f,g,h,i,j,k,true,rfl,.inl ⟨rfl,hi0,?_⟩,h9.trans (belowK_b (w:=w) Nat.le.refl W D _ _ (by omega) hK rfl rfl)⟩
  rw [hx0]
  exact h3.out.stay (fun b hb hl=>⟨hb.2,World.putObj_heap_other (fun e=>hnD (e ▸ hb.1))⟩)
end Go.Proofs.YtppefcdkgejfbaaGreatDoor
namespace Go.Proofs.YtppefcdkgejfbaaGreatDoor
open Go.RowKit Go.Lib
set_option linter.unusedSimpArgs false
set_option linter.unusedVariables false
attribute [local go_sem ↓] Go.wp_at_zero Go.wp_at_succ
abbrev Rw:=Nat × Nat × ByteArray × Int × Int
def rRw (ok:Nat->Prop) (w:World) (r:Rw) (cs:List Value):Prop:=∃ (ga:Option Addr) (gn gc:Nat) (sa:Option Addr) (sn sc:Nat),cs=[.int .i64 (r.1:Int),.int .i64 (r.2.1:Int),.string r.2.2.1,.slice ga gn gc,.int .i64 r.2.2.2.1,.int .i64 r.2.2.2.2,.slice sa sn sc]
theorem kp_rw:Kp rRw:=fun _ _ _ _ _ _ h _=>h
def rwO (L:List Nd) (i k:Nat) (o:OnC):Rw:=(i,k,⟨o.1.toArray⟩,fdB L ⟨o.2.2.1.toArray⟩,mtB L i (fdB L ⟨o.2.2.1.toArray⟩))
def rwL (L:List Nd) (i:Nat) (ons:List OnC):List Rw:=ons.mapIdx (fun k o=>rwO L i k o)
def onsA:SgS->List OnC
 | ⟨0,_⟩=>[]
 | ⟨_+1,t⟩=>t.1.2.2.2.2
def onsI (fl:List (Nat × SgS)) (i:Nat):List OnC:=match fl[i]? with
 | some x=>onsA x.2
 | none=>[]
def rwsA (L:List Nd) (fl:List (Nat × SgS)) (ord:List Nat):List Rw:=ord.flatMap (fun i=>rwL L i (onsI fl i))
theorem rwL_take (L:List Nd) (i:Nat) (ons:List OnC) (k:Nat) (hk:k < ons.length):(rwL L i ons).take (k+1)=(rwL L i ons).take k++[rwO L i k ons[k]]:=by
 have hl:k < (rwL L i ons).length:=by unfold rwL;simpa using hk
 rw [List.take_succ_eq_append_getElem hl]
 simp [rwL]
theorem rwL_len (L:List Nd) (i:Nat) (ons:List OnC):(rwL L i ons).length=ons.length:=by simp [rwL]
theorem rwsA_take (L:List Nd) (fl:List (Nat × SgS)) (ord:List Nat) (j:Nat) (hj:j < ord.length):rwsA L fl (ord.take (j+1))=rwsA L fl (ord.take j)++rwL L ord[j] (onsI fl ord[j]):=by
 rw [List.take_succ_eq_append_getElem hj]
 simp only [rwsA,List.flatMap_append,List.flatMap_cons,List.flatMap_nil,List.append_nil]
def OnB (o:OnC):Prop:=OnK o/\o.2.2.2.1.length<=100000
theorem row_on {w:World}(t0:ByteArray) (t1:Int) (t2:Option Addr) (t3 t4:Nat) (t5:Option Addr) (t6 t7:Nat) (t8:Option Addr) (t9 t10:Nat) (t11:Option Addr) (t12 t13:Nat) {vs:List Vr}(hv:RdV w (.slice t5 t6 t7) vs) (hl:vs.length<=10000) {okn:Nat->Prop}{N:List Nd}(hN:RdNd okn w N (.slice t2 t3 t4))
  (i k:Nat) {o:OnC}(hk:OnB o) {g:Value}(hg:gdV o.2.1=g) {ev tg:ByteArray}(hev:sV o.1=.string ev) (htg:sV o.2.2.1=.string tg) {oks:Nat->Prop}(s1:Option Addr) (ns s3:Nat) (hs:RdK oks w 2 (rSet oks w) o.2.2.2.1 (.slice s1 ns s3)) (y4 y5:Int) :
  Calls Tryz.prog 17 #[.agg #[.string t0,.int .i64 t1,.slice t2 t3 t4,.slice t5 t6 t7,.slice t8 t9 t10,.slice t11 t12 t13],.int .i64 (i:Int),.int .i64 (k:Int),.agg #[.string ev,g,.string tg,.slice s1 ns s3,.int .i64 y4,.int .i64 y5]] w fun e w'=>∃ (ga:Option Addr) (gn gc:Nat) (sa:Option Addr) (sn sc:Nat) (tt sp:Int),e=.returned (.agg #[.int .i64 (i:Int),.int .i64 (k:Int),.string ev,.slice ga gn gc,.int .i64 tt,.int .i64 sp,.slice sa sn sc])/\Hid (rwO N i k o=(i,k,ev,tt,sp))/\Below w.heap.size w w':=by
 have he:(⟨o.1.toArray⟩:ByteArray)=ev:=by
  have:=hev
  unfold sV at this
  exact Value.string.inj this
 have ht:(⟨o.2.2.1.toArray⟩:ByteArray)=tg:=by
  have:=htg
  unfold sV at this
  exact Value.string.inj this
 have hrw:rwO N i k o=(i,k,ev,fdB N tg,mtB N i (fdB N tg)):=by
  unfold rwO
  rw [he,ht]
 have hsk:∀ s∈o.2.2.2.1,ExOk s.2/\cntX s.2<=1000:=fun s hs=>⟨(hk.1.2.2.2 s hs).1.2,(hk.1.2.2.2 s hs).2⟩
 subst hg
 by_cases hb:o.2.1.1=true
 ·obtain ⟨h1,h2,h3⟩:=hk.1.2.2.1 hb
  have hgv:gdV o.2.1=exX o.2.1.2:=by unfold gdV;rw [if_pos hb]
  rcases exX_form o.2.1.2 with hq|⟨u,y,hq⟩
  ·exact absurd hq h3
  ·rw [hgv,hq]
   refine (row_ifc t0 t1 t2 t3 t4 t5 t6 t7 t8 t9 t10 t11 t12 t13 hv hl hN i k ev tg h1 h2 u y hq s1 ns s3 hs hsk hk.2 y4 y5).mono ?_
   rintro e w' ⟨ga,gn,gc,sa,sn,sc,rfl,b⟩
   exact ⟨ga,gn,gc,sa,sn,sc,_,_,rfl,hrw,b⟩
 ·have hgv:gdV o.2.1=.nilIface:=by unfold gdV;rw [if_neg hb]
  rw [hgv]
  refine (row_nil t0 t1 t2 t3 t4 t5 t6 t7 t8 t9 t10 t11 t12 t13 hv hl hN i k ev tg s1 ns s3 hs hsk hk.2 y4 y5).mono ?_
  rintro e w' ⟨ga,gn,gc,sa,sn,sc,rfl,b⟩
  exact ⟨ga,gn,gc,sa,sn,sc,_,_,rfl,hrw,b⟩
theorem flM_onB:∀ (d k:Nat) (l:List (St d)),(∀ t∈l,StOk d t)->(∀ t∈l,StK d t)->∀ y∈flM d k l,∀ o∈onsA y.2,OnB o
 | 0,k,l,_,_,y,hy=>by simp [flM] at hy
 | d+1,k,l,h,h',y,hy=>by
  simp only [flM,List.mem_flatMap,List.mem_cons] at hy
  obtain ⟨t,ht,rfl|hy⟩:=hy
  ·intro o ho
   exact ⟨(h' t ht).1.2.2.2 o ho,((h t ht).1.2.2.2.2 o ho).2.2.2.2⟩
  ·exact flM_onB d (k+1) t.2 (fun x hx=>(h t ht).2.2 x hx) (fun x hx=>(h' t ht).2 x hx) y hy
theorem wpList_makeB {P:Program}(w:World) {ops:Array Oper}{rest:List Oper}{o:Oper}{a:Act}{Q:Exit->Act->World->Prop}
  (hg:o.guard=none) (l c:Operand) (t:TypeId) (hop:o.op=Op.makeSlice t l c)
  (e:TypeId) (i:TypeInfo) (z:Value) (k:Nat) (h1:P.underlying t=some (.slice e)) (h2:P.info? e=some i) (h3:i.zero=some z) (h4:i.size=k)
  (kl kc:IntKind) (Lv:Int) (n:Nat) (hl:a.eval l=.int kl Lv) (hc:a.eval c=.int kc Lv) (hL:Lv=(n:Int)) (b2:i.bytes*n<=281474976710656) (b3:n<=maxLen)
  (hK:∀ (cs:List Value) (w':World),Hid (cs.length=n*k)->Hid (Bn w' w.heap.size cs)->Below w.heap.size w w'->w.heap.size < w'.heap.size->wpList P ops Q rest (a.put o.dst (.slice (some ⟨w.heap.size,0,none⟩) n n)) w') :
  wpList P ops Q (o :: rest) a w:=by
 refine wpList_plain hg fun K hK'=>?_
 have b3':(n:Int)<=9223372036854775807:=by unfold maxLen at b3;omega
 have b2':(i.bytes:Int)*(n:Int)<=281474976710656:=by have h:=Int.ofNat_le.2 b2;rw [Int.natCast_mul] at h;exact h
 have hrun:=run_make (P:=P) w t e i z h1 h2 h3 kl kc (n:Int) (n:Int) (by omega) (by omega) b2' b3'
 subst hL
 subst h4
 rw [Int.toNat_natCast] at hrun
 unfold Oper.wp
 simp [execOp,hop,hl,hc,hrun,Result.andThen]
 have hB:=Bn.new w (madeCells z.cells (n*i.size)).toList e _ rfl
 rw [Array.toArray_toList] at hB
 exact hK' _ _ (hK _ _ (by show (madeCells z.cells (n*i.size)).toList.length=_;rw [Array.length_toList,size_madeCells]) hB ((Below.refl _ _).alloc Nat.le.refl _) (by simp))
