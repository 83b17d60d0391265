import Derived.Test.YtlkdaldfklaicaaGreatDoorWvc23
import Derived.Test.YtlkdaldfklaicaaGreatDoorWvc27
import Derived.Test.YtlkdaldfklaicaaGreatDoorWvc16
import Derived.Test.YtlkdaldfklaicaaGreatDoorRows
import Derived.Lib.LaidU8
import Derived.Lib.LaidTab
import Derived.MakeChecks
import Derived.Test.YtlkdaldfklaicaaGreatDoorWvc01
import Derived.ProofKit
import Derived.OpenShut
import Derived.ShutString
import Derived.ChangeOld
import Derived.SizedLaws
import Derived.Below
set_option maxRecDepth 100000
set_option maxHeartbeats 32000000
namespace Go.Proofs.YtlkdaldfklaicaaGreatDoor
open Go.RowKit Go.Lib
set_option linter.unusedSimpArgs false
set_option linter.unusedVariables false
attribute [local go_sem ↓] Go.wp_at_zero Go.wp_at_succ
theorem six {W W':World}{P:Nat}{c0 c1 c2 c3 c4 c5:Value}(h:Bn W P [c0,c1,c2,c3,c4,c5]) (b:Below W.heap.size W W'):W'.cell? ⟨P,0,none⟩=some c0/\W'.cell? ⟨P,1,none⟩=some c1/\W'.cell? ⟨P,2,none⟩=some c2/\W'.cell? ⟨P,3,none⟩=some c3/\W'.cell? ⟨P,4,none⟩=some c4/\W'.cell? ⟨P,5,none⟩=some c5:=
 ⟨((h.on b) 0 _ rfl).1,((h.on b) 1 _ rfl).1,((h.on b) 2 _ rfl).1,((h.on b) 3 _ rfl).1,((h.on b) 4 _ rfl).1,((h.on b) 5 _ rfl).1⟩
theorem zbj {W:World}{P:Nat}{c0 c1 c2 c3 c4 c5:Value}(h:Bn W P [c0,c1,c2,c3,c4,c5]):(W.cell? ⟨P,0,none⟩=some c0/\W.frozen? ⟨P,0,none⟩=false)/\(W.cell? ⟨P,1,none⟩=some c1/\W.frozen? ⟨P,1,none⟩=false)/\(W.cell? ⟨P,2,none⟩=some c2/\W.frozen? ⟨P,2,none⟩=false)/\(W.cell? ⟨P,3,none⟩=some c3/\W.frozen? ⟨P,3,none⟩=false)/\(W.cell? ⟨P,4,none⟩=some c4/\W.frozen? ⟨P,4,none⟩=false)/\W.cell? ⟨P,5,none⟩=some c5/\W.frozen? ⟨P,5,none⟩=false:=
 ⟨h 0 _ rfl,h 1 _ rfl,h 2 _ rfl,h 3 _ rfl,h 4 _ rfl,h 5 _ rfl⟩
theorem zcv {α:Type}(f:α->α->Bool):∀ (l:List α),(∀ a∈l,f a a=true)->eqL f l l=true
 | [],_=>rfl
 | a :: l,h=>by
  show (f a a && eqL f l l)=true
  rw [h a (by simp),zcv f l (fun x hx=>h x (by simp [hx]))];rfl
theorem zjQ (o:OnC):sqO o o=true:=by
 unfold sqO
 rw [zdE,zfe]
 simp
theorem zgu:∀ (d:Nat) (t:St d),sqT d d t t=true
 | 0,t=>Empty.elim t
 | d+1,t=>by
  show (sqH t.1 t.1 && eqL (sqT d d) t.2 t.2)=true
  rw [zcv _ t.2 (fun a _=>zgu d a)]
  unfold sqH
  rw [zcv _ t.1.2.2.2.2 (fun a _=>zjQ a)]
  simp
theorem zlb {d:Nat}(c:ChG d):sqC d d c c=true:=by
 unfold sqC
 rw [zcv _ c.2.2.2 (fun a _=>zgu d a),zcv _ c.2.2.1 (fun a _=>by unfold sqV;simp)]
 simp
def XY (ws:World) (d de:Nat) (C:ChG d) (C':ChG de) (P Q:Nat) (E J:List Value) (wc:World):Prop:=P≠Q/\ws.heap.size<=P/\ws.heap.size<=Q/\Bn wc P E/\Bn wc Q J/\RdC (fun _=>True) wc d C (.agg E.toArray)/\RdC (fun _=>True) wc de C' (.agg J.toArray)/\Below ws.heap.size ws wc
theorem XY.swap {ws wc:World}{d de:Nat}{C:ChG d}{C':ChG de}{P Q:Nat}{E J:List Value}(h:XY ws d de C C' P Q E J wc):XY ws de d C' C Q P J E wc:=by
 obtain ⟨h1,h2,h3,h4,h5,h6,h7,h8⟩:=h
 exact ⟨h1.symm,h3,h2,h5,h4,h7,h6,h8⟩
section
variable {ws w2:World}{d de:Nat}{C:ChG d}{C':ChG de}{P Q:Nat}{ok1 ok2:Nat->Prop}{a0 a1 a2 a3 a4 a5 b0 b1 b2 b3 b4 b5 z0 z1 z2 z3 z4 z5 y0 y1 y2 y3 y4 y5:Value}
theorem xy1 (bw:Below ws.heap.size ws w2) (hra:RdC ok1 w2 d C (.agg #[a0,a1,a2,a3,a4,a5])) (hrb:RdC ok2 w2 de C' (.agg #[b0,b1,b2,b3,b4,b5])):XY ws d de C C' w2.heap.size (w2.heap.size+1) [a0,a1,a2,a3,a4,a5] [b0,b1,b2,b3,b4,b5] ((w2.alloc (.cells #[a0,a1,a2,a3,a4,a5] 33)).alloc (.cells #[b0,b1,b2,b3,b4,b5] 33)):=by
 have hq1:Below w2.heap.size w2 ((w2.alloc (.cells #[a0,a1,a2,a3,a4,a5] 33)).alloc (.cells #[b0,b1,b2,b3,b4,b5] 33)):=(zn3.alloc zn2 _).alloc (by simp) _
 exact ⟨by omega,bw.size,Nat.le_succ_of_le bw.size,(Bn.new w2 [a0,a1,a2,a3,a4,a5] 33 _ rfl).on (zn3.alloc zn2 _),Bn.new (w2.alloc (.cells #[a0,a1,a2,a3,a4,a5] 33)) [b0,b1,b2,b3,b4,b5] 33 _ (by simp),hra.keep (fun k _ hl=>⟨trivial,hq1.block k hl⟩),hrb.keep (fun k _ hl=>⟨trivial,hq1.block k hl⟩),bw.trans (hq1.mono bw.size)⟩
theorem xy2 (bw:Below ws.heap.size ws w2) (hP0:ws.heap.size<=P) (hP:Bn w2 P [z0,z1,z2,z3,z4,z5]) (hra:RdC ok1 w2 d C (.agg #[a0,a1,a2,a3,a4,a5])) (k1:∀ b,ok1 b->b≠P) (hrb:RdC ok2 w2 de C' (.agg #[b0,b1,b2,b3,b4,b5])) (k2:∀ b,ok2 b->b≠P):XY ws d de C C' P w2.heap.size [a0,a1,a2,a3,a4,a5] [b0,b1,b2,b3,b4,b5] ((zV w2 P 0 [a0,a1,a2,a3,a4,a5]).alloc (.cells #[b0,b1,b2,b3,b4,b5] 33)):=by
 have hlt:=hP.lt
 have hs:(zV w2 P 0 [a0,a1,a2,a3,a4,a5]).heap.size=w2.heap.size:=by simp [zV]
 have hE:Bn (zV w2 P 0 [a0,a1,a2,a3,a4,a5]) P [a0,a1,a2,a3,a4,a5]:=((((((hP.set (i:=0) (by simp) a0).set (i:=1) (by simp) a1).set (i:=2) (by simp) a2).set (i:=3) (by simp) a3).set (i:=4) (by simp) a4).set (i:=5) (by simp) a5)
 have hq1:Below (zV w2 P 0 [a0,a1,a2,a3,a4,a5]).heap.size (zV w2 P 0 [a0,a1,a2,a3,a4,a5]) ((zV w2 P 0 [a0,a1,a2,a3,a4,a5]).alloc (.cells #[b0,b1,b2,b3,b4,b5] 33)):=zn3.alloc zn2 _
 have hq0:=zx [a0,a1,a2,a3,a4,a5] w2 P 0 bw hP0
 exact ⟨by omega,hP0,bw.size,hE.on hq1,Bn.new (zV w2 P 0 [a0,a1,a2,a3,a4,a5]) [b0,b1,b2,b3,b4,b5] 33 _ hs.symm,hra.keep (fun k hk hl=>⟨trivial,(hq1.block k (by rw [hs];exact hl)).trans (zt _ _ _ _ _ (k1 k hk))⟩),hrb.keep (fun k hk hl=>⟨trivial,(hq1.block k (by rw [hs];exact hl)).trans (zt _ _ _ _ _ (k2 k hk))⟩),hq0.trans (hq1.mono hq0.size)⟩
theorem xy3 (bw:Below ws.heap.size ws w2) (hne:P≠Q) (hP0:ws.heap.size<=P) (hQ0:ws.heap.size<=Q) (hP:Bn w2 P [z0,z1,z2,z3,z4,z5]) (hQ:Bn w2 Q [y0,y1,y2,y3,y4,y5]) (hra:RdC ok1 w2 d C (.agg #[a0,a1,a2,a3,a4,a5])) (k1:∀ b,ok1 b->b≠P/\b≠Q) (hrb:RdC ok2 w2 de C' (.agg #[b0,b1,b2,b3,b4,b5])) (k2:∀ b,ok2 b->b≠P/\b≠Q):XY ws d de C C' P Q [a0,a1,a2,a3,a4,a5] [b0,b1,b2,b3,b4,b5] (zV (zV w2 P 0 [a0,a1,a2,a3,a4,a5]) Q 0 [b0,b1,b2,b3,b4,b5]):=by
 have hE:Bn (zV w2 P 0 [a0,a1,a2,a3,a4,a5]) P [a0,a1,a2,a3,a4,a5]:=((((((hP.set (i:=0) (by simp) a0).set (i:=1) (by simp) a1).set (i:=2) (by simp) a2).set (i:=3) (by simp) a3).set (i:=4) (by simp) a4).set (i:=5) (by simp) a5)
 have hE2:Bn (zV (zV w2 P 0 [a0,a1,a2,a3,a4,a5]) Q 0 [b0,b1,b2,b3,b4,b5]) P [a0,a1,a2,a3,a4,a5]:=((((((hE.far (X:=Q) (i:=0) hne.symm b0).far (X:=Q) (i:=1) hne.symm b1).far (X:=Q) (i:=2) hne.symm b2).far (X:=Q) (i:=3) hne.symm b3).far (X:=Q) (i:=4) hne.symm b4).far (X:=Q) (i:=5) hne.symm b5)
 have hJ:Bn (zV w2 P 0 [a0,a1,a2,a3,a4,a5]) Q [y0,y1,y2,y3,y4,y5]:=((((((hQ.far (X:=P) (i:=0) hne a0).far (X:=P) (i:=1) hne a1).far (X:=P) (i:=2) hne a2).far (X:=P) (i:=3) hne a3).far (X:=P) (i:=4) hne a4).far (X:=P) (i:=5) hne a5)
 have hJ2:Bn (zV (zV w2 P 0 [a0,a1,a2,a3,a4,a5]) Q 0 [b0,b1,b2,b3,b4,b5]) Q [b0,b1,b2,b3,b4,b5]:=((((((hJ.set (i:=0) (by simp) b0).set (i:=1) (by simp) b1).set (i:=2) (by simp) b2).set (i:=3) (by simp) b3).set (i:=4) (by simp) b4).set (i:=5) (by simp) b5)
 exact ⟨hne,hP0,hQ0,hE2,hJ2,hra.keep (fun k hk hl=>⟨trivial,(zt _ _ _ _ _ (k1 k hk).2).trans (zt _ _ _ _ _ (k1 k hk).1)⟩),hrb.keep (fun k hk hl=>⟨trivial,(zt _ _ _ _ _ (k2 k hk).2).trans (zt _ _ _ _ _ (k2 k hk).1)⟩),zx [b0,b1,b2,b3,b4,b5] _ Q 0 (zx [a0,a1,a2,a3,a4,a5] w2 P 0 bw hP0) hQ0⟩
end
theorem zeB {w:World}(hE:Esy w) {d de:Nat}{c:ChD d}{c':ChD de}{v v':Value}(hr:RdD (fun _=>True) w d c v) (hwf:WfC d c) (hr':RdD (fun _=>True) w de c' v') (hwf':WfC de c'):Calls Tryz.prog 3 #[v,v'] w fun e w'=>e=.returned (.bool true)/\Below w.heap.size w w':=by
 obtain ⟨g0,g1,g2,g3,g4,g5,g6,g7,g8,g9,rfl⟩:=zcM hr
 obtain ⟨k0,k1,k2,k3,k4,k5,k6,k7,k8,k9,rfl⟩:=zcM hr'
 have h1:=fun w1 (b:Below w.heap.size w w1)=>zny w1 (hE.on b)
 have h2:=fun w1 (b:Below w.heap.size w w1)=>ze8 (hr.keep (ok':=fun _=>True) (fun k hk hl=>⟨trivial,b.block k hl⟩)) hwf (w:=w1)
 have h3:=fun w1 (b:Below w.heap.size w w1)=>ze8 (hr'.keep (ok':=fun _=>True) (fun k hk hl=>⟨trivial,b.block k hl⟩)) hwf' (w:=w1)
 have hal:Below w.heap.size w ((w.alloc (.cells #[.string g0,.int .i64 g1,.int .i64 g2,.int .i64 g3,.slice g4 g5 g6,.slice g7 g8 g9] 27)).alloc (.cells #[.string k0,.int .i64 k1,.int .i64 k2,.int .i64 k3,.slice k4 k5 k6,.slice k7 k8 k9] 27)):=((Below.refl w.heap.size w).alloc zn2 _).alloc (by simp) _
 have hX:Bn ((w.alloc (.cells #[.string g0,.int .i64 g1,.int .i64 g2,.int .i64 g3,.slice g4 g5 g6,.slice g7 g8 g9] 27)).alloc (.cells #[.string k0,.int .i64 k1,.int .i64 k2,.int .i64 k3,.slice k4 k5 k6,.slice k7 k8 k9] 27)) w.heap.size [.string g0,.int .i64 g1,.int .i64 g2,.int .i64 g3,.slice g4 g5 g6,.slice g7 g8 g9]:=(Bn.new w [.string g0,.int .i64 g1,.int .i64 g2,.int .i64 g3,.slice g4 g5 g6,.slice g7 g8 g9] 27 _ rfl).on (zn3.alloc zn2 _)
 have hY:Bn ((w.alloc (.cells #[.string g0,.int .i64 g1,.int .i64 g2,.int .i64 g3,.slice g4 g5 g6,.slice g7 g8 g9] 27)).alloc (.cells #[.string k0,.int .i64 k1,.int .i64 k2,.int .i64 k3,.slice k4 k5 k6,.slice k7 k8 k9] 27)) (w.heap.size+1) [.string k0,.int .i64 k1,.int .i64 k2,.int .i64 k3,.slice k4 k5 k6,.slice k7 k8 k9]:=Bn.new (w.alloc (.cells #[.string g0,.int .i64 g1,.int .i64 g2,.int .i64 g3,.slice g4 g5 g6,.slice g7 g8 g9] 27)) [.string k0,.int .i64 k1,.int .i64 k2,.int .i64 k3,.slice k4 k5 k6,.slice k7 k8 k9] 27 _ (by simp)
 go_enter Tryz.func3,Tryz.ntmps3
 go_upto_region 1 with fail
 generalize ((w.alloc (.cells #[.string g0,.int .i64 g1,.int .i64 g2,.int .i64 g3,.slice g4 g5 g6,.slice g7 g8 g9] 27)).alloc (.cells #[.string k0,.int .i64 k1,.int .i64 k2,.int .i64 k3,.slice k4 k5 k6,.slice k7 k8 k9] 27))=wx at *
 have hAw:=h1 _ hal
 go_wp2_with (first
  | (go_at_call 4;refine hAw.mono ?_;rintro e wa ⟨rfl,ba⟩;have hX1:=hX.on ba;have hY1:=hY.on ba;obtain ⟨x0,x1,x2,x3,x4,x5⟩:=six hX1 zn3;obtain ⟨u0,u1,u2,u3,u4,u5⟩:=six hY1 zn3)
  | fail)
 have hb1:=hal.trans (ba.mono hal.size)
 clear hAw ba hX hY hal
 go_at_call 5
 refine (h2 _ hb1).mono ?_
 rintro e w2 ⟨bb,rfl,hsm,b2⟩
 have hb2:=hb1.trans (b2.mono hb1.size)
 have hX2:=hX1.on b2
 have hY2:=hY1.on b2
 clear x0 u0 x1 u1 x2 u2 x3 u3 x4 u4 x5 u5 hX1 hY1 b2 hb1
 obtain ⟨x0,x1,x2,x3,x4,x5⟩:=six hX2 zn3
 obtain ⟨u0,u1,u2,u3,u4,u5⟩:=six hY2 zn3
 cases bb with
 | false=>
  have hAw:=h1 _ hb2
  go_wp2_with (first
   | (go_at_call 4;refine hAw.mono ?_;rintro e wa ⟨rfl,ba⟩)
   | fail)
  go_ret
  exact ⟨rfl,hb2.trans (ba.mono hb2.size)⟩
 | true=>
 replace hsm:=hsm rfl
 go_wp2_with fail
 go_at_call 5
 refine (h3 _ hb2).mono ?_
 rintro e w3 ⟨bb,rfl,hsm',b3⟩
 have hb3:=hb2.trans (b3.mono hb2.size)
 have hX3:=hX2.on b3
 have hY3:=hY2.on b3
 clear x0 u0 x1 u1 x2 u2 x3 u3 x4 u4 x5 u5 hX2 hY2 b3 hb2
 obtain ⟨x0,x1,x2,x3,x4,x5⟩:=six hX3 zn3
 obtain ⟨u0,u1,u2,u3,u4,u5⟩:=six hY3 zn3
 cases bb with
 | false=>
  have hAw:=h1 _ hb3
  go_wp2_with (first
   | (go_at_call 4;refine hAw.mono ?_;rintro e wa ⟨rfl,ba⟩)
   | fail)
  go_ret
  exact ⟨rfl,hb3.trans (ba.mono hb3.size)⟩
 | true=>
 replace hsm':=hsm' rfl
 clear h1 h2 h3
 have hck:=zh7 hsm hwf
 have hck':=zh7 hsm' hwf'
 obtain ⟨C,hC⟩:∃ C,thC d c=C:=⟨_,rfl⟩
 obtain ⟨C',hC'⟩:∃ C,thC de c'=C:=⟨_,rfl⟩
 have hTa:∀ w1,Below w.heap.size w w1->Calls Tryz.prog 6 #[.agg #[.string g0,.int .i64 g1,.int .i64 g2,.int .i64 g3,.slice g4 g5 g6,.slice g7 g8 g9]] w1 fun e w'=>∃ e0 e1 e2 e3 e4 e5 e6 e7 e8 e9,e=.returned (.agg #[.string e0,.int .i64 e1,.int .i64 e2,.int .i64 e3,.slice e4 e5 e6,.slice e7 e8 e9])/\RdC (fun b=>w1.heap.size<=b/\b < w'.heap.size) w' d C (.agg #[.string e0,.int .i64 e1,.int .i64 e2,.int .i64 e3,.slice e4 e5 e6,.slice e7 e8 e9])/\Below w1.heap.size w1 w':=fun w1 bb=>(zfa (hr.keep (ok':=fun _=>True) (fun k hk hl=>⟨trivial,bb.block k hl⟩)) hsm.2.2.2 hsm.2.2.1 (by have:=hsm.2.1;omega) (w:=w1)).mono (fun e w' hh=>by
  obtain ⟨u,q1,q2,q3⟩:=hh
  rw [hC] at q2
  obtain ⟨e0,e1,e2,e3,e4,e5,e6,e7,e8,e9,rfl⟩:=zdL q2
  exact ⟨e0,e1,e2,e3,e4,e5,e6,e7,e8,e9,q1,q2.keep (fun k hk hl=>⟨⟨hk,hl⟩,rfl⟩),q3⟩)
 have hTb:∀ w1,Below w.heap.size w w1->Calls Tryz.prog 6 #[.agg #[.string k0,.int .i64 k1,.int .i64 k2,.int .i64 k3,.slice k4 k5 k6,.slice k7 k8 k9]] w1 fun e w'=>∃ j0 j1 j2 j3 j4 j5 j6 j7 j8 j9,e=.returned (.agg #[.string j0,.int .i64 j1,.int .i64 j2,.int .i64 j3,.slice j4 j5 j6,.slice j7 j8 j9])/\RdC (fun b=>w1.heap.size<=b/\b < w'.heap.size) w' de C' (.agg #[.string j0,.int .i64 j1,.int .i64 j2,.int .i64 j3,.slice j4 j5 j6,.slice j7 j8 j9])/\Below w1.heap.size w1 w':=fun w1 bb=>(zfa (hr'.keep (ok':=fun _=>True) (fun k hk hl=>⟨trivial,bb.block k hl⟩)) hsm'.2.2.2 hsm'.2.2.1 (by have:=hsm'.2.1;omega) (w:=w1)).mono (fun e w' hh=>by
  obtain ⟨u,q1,q2,q3⟩:=hh
  rw [hC'] at q2
  obtain ⟨j0,j1,j2,j3,j4,j5,j6,j7,j8,j9,rfl⟩:=zdL q2
  exact ⟨j0,j1,j2,j3,j4,j5,j6,j7,j8,j9,q1,q2.keep (fun k hk hl=>⟨⟨hk,hl⟩,rfl⟩),q3⟩)
 clear x0 u0 x1 u1 x2 u2 x3 u3 x4 u4 x5 u5
 go_upto_region 3 with fail
 obtain ⟨ws,hws⟩:∃ x,x=w3:=⟨_,rfl⟩
 subst hws
 obtain ⟨X,hXe⟩:∃ x,w.heap.size=x:=⟨_,rfl⟩
 have HX:Hid (w.heap.size=X):=hXe
 rw [hXe] at hX3 hY3 ⊢
 have hbs:Below w.heap.size w ws:=hb3
 clear hXe hb3
 have hlX:=hX3.lt
 have hlY:=hY3.lt
 go_cut [5,6] (fun a5 a6 wc=>∃ P Q e0 e1 e2 e3 e4 e5 e6 e7 e8 e9 j0 j1 j2 j3 j4 j5 j6 j7 j8 j9,a5=.pointer (some ⟨P,0,none⟩)/\a6=.pointer (some ⟨Q,0,none⟩)/\XY ws d de C C' P Q [.string e0,.int .i64 e1,.int .i64 e2,.int .i64 e3,.slice e4 e5 e6,.slice e7 e8 e9] [.string j0,.int .i64 j1,.int .i64 j2,.int .i64 j3,.slice j4 j5 j6,.slice j7 j8 j9] wc)
 case first=>
  obtain ⟨x0,x1,x2,x3,x4,x5⟩:=six hX3 zn3
  obtain ⟨u0,u1,u2,u3,u4,u5⟩:=six hY3 zn3
  have y0:=x0;have z0:=u0;have y1:=x1;have z1:=u1;have y2:=x2;have z2:=u2;have y3:=x3;have z3:=u3;have y4:=x4;have z4:=u4;have y5:=x5;have z5:=u5
  have bs1:Below ws.heap.size ws (ws.alloc (.cells #[.string ⟨#[]⟩,.int .i64 0,.int .i64 0,.int .i64 0,.slice none 0 0,.slice none 0 0] 33)):=zn3.alloc zn2 _
  have bs2:Below ws.heap.size ws ((ws.alloc (.cells #[.string ⟨#[]⟩,.int .i64 0,.int .i64 0,.int .i64 0,.slice none 0 0,.slice none 0 0] 33)).alloc (.cells #[.string ⟨#[]⟩,.int .i64 0,.int .i64 0,.int .i64 0,.slice none 0 0,.slice none 0 0] 33)):=bs1.alloc bs1.size _
  have hbs1:Below w.heap.size w (ws.alloc (.cells #[.string ⟨#[]⟩,.int .i64 0,.int .i64 0,.int .i64 0,.slice none 0 0,.slice none 0 0] 33)):=hbs.alloc hbs.size _
  have hbs2:Below w.heap.size w ((ws.alloc (.cells #[.string ⟨#[]⟩,.int .i64 0,.int .i64 0,.int .i64 0,.slice none 0 0,.slice none 0 0] 33)).alloc (.cells #[.string ⟨#[]⟩,.int .i64 0,.int .i64 0,.int .i64 0,.slice none 0 0,.slice none 0 0] 33)):=hbs1.alloc hbs1.size _
  have hZ1:Bn (ws.alloc (.cells #[.string ⟨#[]⟩,.int .i64 0,.int .i64 0,.int .i64 0,.slice none 0 0,.slice none 0 0] 33)) ws.heap.size [.string ⟨#[]⟩,.int .i64 0,.int .i64 0,.int .i64 0,.slice none 0 0,.slice none 0 0]:=Bn.new ws [.string ⟨#[]⟩,.int .i64 0,.int .i64 0,.int .i64 0,.slice none 0 0,.slice none 0 0] 33 _ rfl
  have hZ2:Bn ((ws.alloc (.cells #[.string ⟨#[]⟩,.int .i64 0,.int .i64 0,.int .i64 0,.slice none 0 0,.slice none 0 0] 33)).alloc (.cells #[.string ⟨#[]⟩,.int .i64 0,.int .i64 0,.int .i64 0,.slice none 0 0,.slice none 0 0] 33)) ws.heap.size [.string ⟨#[]⟩,.int .i64 0,.int .i64 0,.int .i64 0,.slice none 0 0,.slice none 0 0]:=hZ1.on (zn3.alloc zn2 _)
  have hV2:Bn ((ws.alloc (.cells #[.string ⟨#[]⟩,.int .i64 0,.int .i64 0,.int .i64 0,.slice none 0 0,.slice none 0 0] 33)).alloc (.cells #[.string ⟨#[]⟩,.int .i64 0,.int .i64 0,.int .i64 0,.slice none 0 0,.slice none 0 0] 33)) (ws.heap.size+1) [.string ⟨#[]⟩,.int .i64 0,.int .i64 0,.int .i64 0,.slice none 0 0,.slice none 0 0]:=Bn.new (ws.alloc (.cells #[.string ⟨#[]⟩,.int .i64 0,.int .i64 0,.int .i64 0,.slice none 0 0,.slice none 0 0] 33)) [.string ⟨#[]⟩,.int .i64 0,.int .i64 0,.int .i64 0,.slice none 0 0,.slice none 0 0] 33 _ (by simp)
  have ms1:X≠ws.heap.size:=by omega
  have ms2:X+1≠ws.heap.size:=by omega
  have ms3:X≠ws.heap.size+1:=by omega
  have ms4:X+1≠ws.heap.size+1:=by omega
  clear hr hr' hE hck hck' hC hC' hsm hsm' hwf hwf'
  go_region_held_law (fun w'=>w'.cell? ⟨X,0,none⟩=some (.string g0)/\w'.cell? ⟨X,1,none⟩=some (.int .i64 g1)/\w'.cell? ⟨X,2,none⟩=some (.int .i64 g2)/\w'.cell? ⟨X,3,none⟩=some (.int .i64 g3)/\w'.cell? ⟨X,4,none⟩=some (.slice g4 g5 g6)/\w'.cell? ⟨X,5,none⟩=some (.slice g7 g8 g9)/\w'.cell? ⟨X+1,0,none⟩=some (.string k0)/\w'.cell? ⟨X+1,1,none⟩=some (.int .i64 k1)/\w'.cell? ⟨X+1,2,none⟩=some (.int .i64 k2)/\w'.cell? ⟨X+1,3,none⟩=some (.int .i64 k3)/\w'.cell? ⟨X+1,4,none⟩=some (.slice k4 k5 k6)/\w'.cell? ⟨X+1,5,none⟩=some (.slice k7 k8 k9))
   (((refine ⟨?_,?_,?_,?_,?_,?_,?_,?_,?_,?_,?_,?_⟩<;>(repeat (with_reducible first|exact y0|exact y1|exact y2|exact y3|exact y4|exact y5|exact z0|exact z1|exact z2|exact z3|exact z4|exact z5|refine zj ?_|refine zh ?_|refine za (zg ms1) ?_|refine za (zg ms2) ?_|refine za (zg ms3) ?_|refine za (zg ms4) ?_|refine za (zg mw1) ?_|refine za (zg mw2) ?_|refine za (zg mw3) ?_|refine za (zg mw4) ?_|refine za (zg mv1) ?_|refine za (zg mv2) ?_|refine za (zg mv3) ?_|refine za (zg mv4) ?_))<;>done)))
   (first
    | (go_at_call 6;(with_reducible refine (hTa _ hbs.drew).mono ?_);rintro e w1 ⟨e0,e1,e2,e3,e4,e5,e6,e7,e8,e9,rfl,hra,b1⟩;have bw:Below ws.heap.size ws w1:=((Below.refl _ ws).drew).trans b1;replace hra:RdC (fun b=>ws.heap.size<=b/\b < w1.heap.size) w1 d C _:=hra;obtain ⟨y0,y1,y2,y3,y4,y5⟩:=six hX3 bw;obtain ⟨z0,z1,z2,z3,z4,z5⟩:=six hY3 bw;have mw1:X≠w1.heap.size:=(by have:=bw.size;omega);have mw2:X+1≠w1.heap.size:=(by have:=bw.size;omega);have mw3:X≠w1.heap.size+1:=(by have:=bw.size;omega);have mw4:X+1≠w1.heap.size+1:=(by have:=bw.size;omega))
    | (go_at_call 6;(with_reducible refine (hTa _ hbs1.drew).mono ?_);rintro e w1 ⟨e0,e1,e2,e3,e4,e5,e6,e7,e8,e9,rfl,hra,b1⟩;have bz:Below (ws.alloc (.cells #[.string ⟨#[]⟩,.int .i64 0,.int .i64 0,.int .i64 0,.slice none 0 0,.slice none 0 0] 33)).heap.size (ws.alloc (.cells #[.string ⟨#[]⟩,.int .i64 0,.int .i64 0,.int .i64 0,.slice none 0 0,.slice none 0 0] 33)) w1:=((Below.refl _ (ws.alloc (.cells #[.string ⟨#[]⟩,.int .i64 0,.int .i64 0,.int .i64 0,.slice none 0 0,.slice none 0 0] 33))).drew).trans b1;have bw:Below ws.heap.size ws w1:=bs1.trans (bz.mono bs1.size);have hA1s:(ws.alloc (.cells #[.string ⟨#[]⟩,.int .i64 0,.int .i64 0,.int .i64 0,.slice none 0 0,.slice none 0 0] 33)).drew.heap.size=ws.heap.size+1:=(by simp);rw [hA1s] at hra;obtain ⟨y0,y1,y2,y3,y4,y5⟩:=six hX3 bw;obtain ⟨z0,z1,z2,z3,z4,z5⟩:=six hY3 bw;have mw1:X≠w1.heap.size:=(by have:=bw.size;omega);have mw2:X+1≠w1.heap.size:=(by have:=bw.size;omega);have mw3:X≠w1.heap.size+1:=(by have:=bw.size;omega);have mw4:X+1≠w1.heap.size+1:=(by have:=bw.size;omega);have hZ:=hZ1.on bz;have l1:ws.heap.size < w1.heap.size:=hZ.lt;have n1:¬ ws.heap.size=w1.heap.size:=(by omega);have n2:¬ w1.heap.size=ws.heap.size:=(by omega);obtain ⟨⟨q0,f0⟩,⟨q1,f1⟩,⟨q2,f2⟩,⟨q3,f3⟩,⟨q4,f4⟩,⟨q5,f5⟩⟩:=zbj hZ)
    | (go_at_call 6;(with_reducible refine (hTa _ hbs2.drew).mono ?_);rintro e w1 ⟨e0,e1,e2,e3,e4,e5,e6,e7,e8,e9,rfl,hra,b1⟩;have bz:Below ((ws.alloc (.cells #[.string ⟨#[]⟩,.int .i64 0,.int .i64 0,.int .i64 0,.slice none 0 0,.slice none 0 0] 33)).alloc (.cells #[.string ⟨#[]⟩,.int .i64 0,.int .i64 0,.int .i64 0,.slice none 0 0,.slice none 0 0] 33)).heap.size ((ws.alloc (.cells #[.string ⟨#[]⟩,.int .i64 0,.int .i64 0,.int .i64 0,.slice none 0 0,.slice none 0 0] 33)).alloc (.cells #[.string ⟨#[]⟩,.int .i64 0,.int .i64 0,.int .i64 0,.slice none 0 0,.slice none 0 0] 33)) w1:=((Below.refl _ ((ws.alloc (.cells #[.string ⟨#[]⟩,.int .i64 0,.int .i64 0,.int .i64 0,.slice none 0 0,.slice none 0 0] 33)).alloc (.cells #[.string ⟨#[]⟩,.int .i64 0,.int .i64 0,.int .i64 0,.slice none 0 0,.slice none 0 0] 33))).drew).trans b1;have bw:Below ws.heap.size ws w1:=bs2.trans (bz.mono bs2.size);have hA2s:((ws.alloc (.cells #[.string ⟨#[]⟩,.int .i64 0,.int .i64 0,.int .i64 0,.slice none 0 0,.slice none 0 0] 33)).alloc (.cells #[.string ⟨#[]⟩,.int .i64 0,.int .i64 0,.int .i64 0,.slice none 0 0,.slice none 0 0] 33)).drew.heap.size=ws.heap.size+2:=(by simp);rw [hA2s] at hra;obtain ⟨y0,y1,y2,y3,y4,y5⟩:=six hX3 bw;obtain ⟨z0,z1,z2,z3,z4,z5⟩:=six hY3 bw;have mw1:X≠w1.heap.size:=(by have:=bw.size;omega);have mw2:X+1≠w1.heap.size:=(by have:=bw.size;omega);have mw3:X≠w1.heap.size+1:=(by have:=bw.size;omega);have mw4:X+1≠w1.heap.size+1:=(by have:=bw.size;omega);have hZ:=hZ2.on bz;have hV:=hV2.on bz;obtain ⟨⟨q0,f0⟩,⟨q1,f1⟩,⟨q2,f2⟩,⟨q3,f3⟩,⟨q4,f4⟩,⟨q5,f5⟩⟩:=zbj hZ;obtain ⟨⟨r0,s0⟩,⟨r1,s1⟩,⟨r2,s2⟩,⟨r3,s3⟩,⟨r4,s4⟩,⟨r5,s5⟩⟩:=zbj hV;have l2:=hV.lt)
    | (go_at_call 6;have hb1w:Below w.heap.size w w1:=hbs.trans (bw.mono hbs.size);have b11:Below w1.heap.size w1 (w1.alloc (.cells #[.string ⟨#[]⟩,.int .i64 0,.int .i64 0,.int .i64 0,.slice none 0 0,.slice none 0 0] 33)):=zn3.alloc zn2 _;have b12:Below w1.heap.size w1 ((w1.alloc (.cells #[.string ⟨#[]⟩,.int .i64 0,.int .i64 0,.int .i64 0,.slice none 0 0,.slice none 0 0] 33)).alloc (.cells #[.string ⟨#[]⟩,.int .i64 0,.int .i64 0,.int .i64 0,.slice none 0 0,.slice none 0 0] 33)):=b11.alloc b11.size _;have hb1w1:=hb1w.trans (b11.mono hb1w.size);have hb1w2:=hb1w.trans (b12.mono hb1w.size);(with_reducible refine (hTb _ hb1w).mono ?_);rintro e w2 ⟨j0,j1,j2,j3,j4,j5,j6,j7,j8,j9,rfl,hrb,b2⟩;have b12w:Below w1.heap.size w1 w2:=b2;have hra:=hra.keep (fun k hk hl=>⟨hk,b12w.block k hl⟩);have sz1:=bw.size;have sz2:=b12w.size;have bw:=bw.trans (b12w.mono bw.size);obtain ⟨y0,y1,y2,y3,y4,y5⟩:=six hX3 bw;obtain ⟨z0,z1,z2,z3,z4,z5⟩:=six hY3 bw;have mv1:X≠w2.heap.size:=(by have:=bw.size;omega);have mv2:X+1≠w2.heap.size:=(by have:=bw.size;omega);have mv3:X≠w2.heap.size+1:=(by have:=bw.size;omega);have mv4:X+1≠w2.heap.size+1:=(by have:=bw.size;omega);(first|(have hZ:=hZ.on b12w;obtain ⟨⟨q0,f0⟩,⟨q1,f1⟩,⟨q2,f2⟩,⟨q3,f3⟩,⟨q4,f4⟩,⟨q5,f5⟩⟩:=zbj hZ;have l3:=hZ.lt;have n3:¬ ws.heap.size=w2.heap.size:=(by omega);have n4:¬ w2.heap.size=ws.heap.size:=(by omega))|skip);(first|(have hV:=hV.on b12w;obtain ⟨⟨r0,s0⟩,⟨r1,s1⟩,⟨r2,s2⟩,⟨r3,s3⟩,⟨r4,s4⟩,⟨r5,s5⟩⟩:=zbj hV)|skip))
    | (go_at_call 6;have hb1w:Below w.heap.size w w1:=hbs.trans (bw.mono hbs.size);have b11:Below w1.heap.size w1 (w1.alloc (.cells #[.string ⟨#[]⟩,.int .i64 0,.int .i64 0,.int .i64 0,.slice none 0 0,.slice none 0 0] 33)):=zn3.alloc zn2 _;have b12:Below w1.heap.size w1 ((w1.alloc (.cells #[.string ⟨#[]⟩,.int .i64 0,.int .i64 0,.int .i64 0,.slice none 0 0,.slice none 0 0] 33)).alloc (.cells #[.string ⟨#[]⟩,.int .i64 0,.int .i64 0,.int .i64 0,.slice none 0 0,.slice none 0 0] 33)):=b11.alloc b11.size _;have hb1w1:=hb1w.trans (b11.mono hb1w.size);have hb1w2:=hb1w.trans (b12.mono hb1w.size);(with_reducible refine (hTb _ hb1w1).mono ?_);rintro e w2 ⟨j0,j1,j2,j3,j4,j5,j6,j7,j8,j9,rfl,hrb,b2⟩;have b12w:Below w1.heap.size w1 w2:=b11.trans (b2.mono b11.size);have hra:=hra.keep (fun k hk hl=>⟨hk,b12w.block k hl⟩);have sz1:=bw.size;have sz2:=b12w.size;have bw:=bw.trans (b12w.mono bw.size);obtain ⟨y0,y1,y2,y3,y4,y5⟩:=six hX3 bw;obtain ⟨z0,z1,z2,z3,z4,z5⟩:=six hY3 bw;have mv1:X≠w2.heap.size:=(by have:=bw.size;omega);have mv2:X+1≠w2.heap.size:=(by have:=bw.size;omega);have mv3:X≠w2.heap.size+1:=(by have:=bw.size;omega);have mv4:X+1≠w2.heap.size+1:=(by have:=bw.size;omega);(first|(have hZ:=hZ.on b12w;obtain ⟨⟨q0,f0⟩,⟨q1,f1⟩,⟨q2,f2⟩,⟨q3,f3⟩,⟨q4,f4⟩,⟨q5,f5⟩⟩:=zbj hZ;have l3:=hZ.lt;have n3:¬ ws.heap.size=w2.heap.size:=(by omega);have n4:¬ w2.heap.size=ws.heap.size:=(by omega))|skip);(first|(have hV:=hV.on b12w;obtain ⟨⟨r0,s0⟩,⟨r1,s1⟩,⟨r2,s2⟩,⟨r3,s3⟩,⟨r4,s4⟩,⟨r5,s5⟩⟩:=zbj hV)|skip);have hW1s:(w1.alloc (.cells #[.string ⟨#[]⟩,.int .i64 0,.int .i64 0,.int .i64 0,.slice none 0 0,.slice none 0 0] 33)).heap.size=w1.heap.size+1:=(by simp);rw [hW1s] at hrb;have hU:Bn w2 w1.heap.size [.string ⟨#[]⟩,.int .i64 0,.int .i64 0,.int .i64 0,.slice none 0 0,.slice none 0 0]:=(Bn.new w1 [.string ⟨#[]⟩,.int .i64 0,.int .i64 0,.int .i64 0,.slice none 0 0,.slice none 0 0] 33 _ rfl).on b2;obtain ⟨⟨t0,o0⟩,⟨t1,o1⟩,⟨t2,o2⟩,⟨t3,o3⟩,⟨t4,o4⟩,⟨t5,o5⟩⟩:=zbj hU;have l5:=hU.lt;have n5:¬ w1.heap.size=w2.heap.size:=(by omega);have n6:¬ w2.heap.size=w1.heap.size:=(by omega))
    | (go_at_call 6;have hb1w:Below w.heap.size w w1:=hbs.trans (bw.mono hbs.size);have b11:Below w1.heap.size w1 (w1.alloc (.cells #[.string ⟨#[]⟩,.int .i64 0,.int .i64 0,.int .i64 0,.slice none 0 0,.slice none 0 0] 33)):=zn3.alloc zn2 _;have b12:Below w1.heap.size w1 ((w1.alloc (.cells #[.string ⟨#[]⟩,.int .i64 0,.int .i64 0,.int .i64 0,.slice none 0 0,.slice none 0 0] 33)).alloc (.cells #[.string ⟨#[]⟩,.int .i64 0,.int .i64 0,.int .i64 0,.slice none 0 0,.slice none 0 0] 33)):=b11.alloc b11.size _;have hb1w1:=hb1w.trans (b11.mono hb1w.size);have hb1w2:=hb1w.trans (b12.mono hb1w.size);(with_reducible refine (hTb _ hb1w2).mono ?_);rintro e w2 ⟨j0,j1,j2,j3,j4,j5,j6,j7,j8,j9,rfl,hrb,b2⟩;have b12w:Below w1.heap.size w1 w2:=b12.trans (b2.mono b12.size);have hra:=hra.keep (fun k hk hl=>⟨hk,b12w.block k hl⟩);have sz1:=bw.size;have sz2:=b12w.size;have bw:=bw.trans (b12w.mono bw.size);obtain ⟨y0,y1,y2,y3,y4,y5⟩:=six hX3 bw;obtain ⟨z0,z1,z2,z3,z4,z5⟩:=six hY3 bw;have mv1:X≠w2.heap.size:=(by have:=bw.size;omega);have mv2:X+1≠w2.heap.size:=(by have:=bw.size;omega);have mv3:X≠w2.heap.size+1:=(by have:=bw.size;omega);have mv4:X+1≠w2.heap.size+1:=(by have:=bw.size;omega);(first|(have hZ:=hZ.on b12w;obtain ⟨⟨q0,f0⟩,⟨q1,f1⟩,⟨q2,f2⟩,⟨q3,f3⟩,⟨q4,f4⟩,⟨q5,f5⟩⟩:=zbj hZ;have l3:=hZ.lt;have n3:¬ ws.heap.size=w2.heap.size:=(by omega);have n4:¬ w2.heap.size=ws.heap.size:=(by omega))|skip);(first|(have hV:=hV.on b12w;obtain ⟨⟨r0,s0⟩,⟨r1,s1⟩,⟨r2,s2⟩,⟨r3,s3⟩,⟨r4,s4⟩,⟨r5,s5⟩⟩:=zbj hV)|skip);have hW2s:((w1.alloc (.cells #[.string ⟨#[]⟩,.int .i64 0,.int .i64 0,.int .i64 0,.slice none 0 0,.slice none 0 0] 33)).alloc (.cells #[.string ⟨#[]⟩,.int .i64 0,.int .i64 0,.int .i64 0,.slice none 0 0,.slice none 0 0] 33)).heap.size=w1.heap.size+2:=(by simp);rw [hW2s] at hrb;have hU:Bn w2 w1.heap.size [.string ⟨#[]⟩,.int .i64 0,.int .i64 0,.int .i64 0,.slice none 0 0,.slice none 0 0]:=((Bn.new w1 [.string ⟨#[]⟩,.int .i64 0,.int .i64 0,.int .i64 0,.slice none 0 0,.slice none 0 0] 33 _ rfl).on (zn3.alloc zn2 _)).on b2;obtain ⟨⟨t0,o0⟩,⟨t1,o1⟩,⟨t2,o2⟩,⟨t3,o3⟩,⟨t4,o4⟩,⟨t5,o5⟩⟩:=zbj hU;have hU2:Bn w2 (w1.heap.size+1) [.string ⟨#[]⟩,.int .i64 0,.int .i64 0,.int .i64 0,.slice none 0 0,.slice none 0 0]:=(Bn.new (w1.alloc (.cells #[.string ⟨#[]⟩,.int .i64 0,.int .i64 0,.int .i64 0,.slice none 0 0,.slice none 0 0] 33)) [.string ⟨#[]⟩,.int .i64 0,.int .i64 0,.int .i64 0,.slice none 0 0,.slice none 0 0] 33 _ (by simp)).on b2;obtain ⟨⟨t20,o20⟩,⟨t21,o21⟩,⟨t22,o22⟩,⟨t23,o23⟩,⟨t24,o24⟩,⟨t25,o25⟩⟩:=zbj hU2;have l6:=hU2.lt)
    | fail)
  ·go_wp2
   go_meet
   case rel=>exact ⟨w2.heap.size,w2.heap.size+1,e0,e1,e2,e3,e4,e5,e6,e7,e8,e9,j0,j1,j2,j3,j4,j5,j6,j7,j8,j9,rfl,rfl,xy1 bw hra hrb⟩
  ·go_wp2
   go_meet
   case rel=>exact ⟨w2.heap.size+1,w2.heap.size,e0,e1,e2,e3,e4,e5,e6,e7,e8,e9,j0,j1,j2,j3,j4,j5,j6,j7,j8,j9,rfl,rfl,(xy1 bw hrb hra).swap⟩
  ·go_wp2
   go_meet
   case rel=>exact ⟨w1.heap.size,w2.heap.size,e0,e1,e2,e3,e4,e5,e6,e7,e8,e9,j0,j1,j2,j3,j4,j5,j6,j7,j8,j9,rfl,rfl,xy2 bw (by omega) hU hra (fun b hb=>by have h1:=hb.1;have h2:=hb.2;omega) hrb (fun b hb=>by have h1:=hb.1;have h2:=hb.2;omega)⟩
  ·go_wp2
   go_meet
   case rel=>exact ⟨w1.heap.size,w1.heap.size+1,e0,e1,e2,e3,e4,e5,e6,e7,e8,e9,j0,j1,j2,j3,j4,j5,j6,j7,j8,j9,rfl,rfl,xy3 bw (by omega) (by omega) (by omega) hU hU2 hra (fun b hb=>by have h1:=hb.1;have h2:=hb.2;exact ⟨by omega,by omega⟩) hrb (fun b hb=>by have h1:=hb.1;have h2:=hb.2;exact ⟨by omega,by omega⟩)⟩
  ·go_wp2
   go_meet
   case rel=>exact ⟨w2.heap.size,w1.heap.size,e0,e1,e2,e3,e4,e5,e6,e7,e8,e9,j0,j1,j2,j3,j4,j5,j6,j7,j8,j9,rfl,rfl,(xy2 bw (by omega) hU hrb (fun b hb=>by have h1:=hb.1;have h2:=hb.2;omega) hra (fun b hb=>by have h1:=hb.1;have h2:=hb.2;omega)).swap⟩
  ·go_wp2
   go_meet
   case rel=>exact ⟨w1.heap.size+1,w1.heap.size,e0,e1,e2,e3,e4,e5,e6,e7,e8,e9,j0,j1,j2,j3,j4,j5,j6,j7,j8,j9,rfl,rfl,xy3 bw (by omega) (by omega) (by omega) hU2 hU hra (fun b hb=>by have h1:=hb.1;have h2:=hb.2;exact ⟨by omega,by omega⟩) hrb (fun b hb=>by have h1:=hb.1;have h2:=hb.2;exact ⟨by omega,by omega⟩)⟩
  ·go_wp2
   go_meet
   case rel=>exact ⟨ws.heap.size,w2.heap.size,e0,e1,e2,e3,e4,e5,e6,e7,e8,e9,j0,j1,j2,j3,j4,j5,j6,j7,j8,j9,rfl,rfl,xy2 bw (by omega) hZ hra (fun b hb=>by have h1:=hb.1;have h2:=hb.2;omega) hrb (fun b hb=>by have h1:=hb.1;have h2:=hb.2;omega)⟩
  ·go_wp2
   go_meet
   case rel=>exact ⟨ws.heap.size,w1.heap.size,e0,e1,e2,e3,e4,e5,e6,e7,e8,e9,j0,j1,j2,j3,j4,j5,j6,j7,j8,j9,rfl,rfl,xy3 bw (by omega) (by omega) (by omega) hZ hU hra (fun b hb=>by have h1:=hb.1;have h2:=hb.2;exact ⟨by omega,by omega⟩) hrb (fun b hb=>by have h1:=hb.1;have h2:=hb.2;exact ⟨by omega,by omega⟩)⟩
  ·go_wp2
   go_meet
   case rel=>exact ⟨ws.heap.size,ws.heap.size+1,e0,e1,e2,e3,e4,e5,e6,e7,e8,e9,j0,j1,j2,j3,j4,j5,j6,j7,j8,j9,rfl,rfl,xy3 bw (by omega) (by omega) (by omega) hZ hV hra (fun b hb=>by have h1:=hb.1;have h2:=hb.2;exact ⟨by omega,by omega⟩) hrb (fun b hb=>by have h1:=hb.1;have h2:=hb.2;exact ⟨by omega,by omega⟩)⟩
  ·go_wp2
   go_meet
   case rel=>exact ⟨w2.heap.size,ws.heap.size,e0,e1,e2,e3,e4,e5,e6,e7,e8,e9,j0,j1,j2,j3,j4,j5,j6,j7,j8,j9,rfl,rfl,(xy2 bw (by omega) hZ hrb (fun b hb=>by have h1:=hb.1;have h2:=hb.2;omega) hra (fun b hb=>by have h1:=hb.1;have h2:=hb.2;omega)).swap⟩
  ·go_wp2
   go_meet
   case rel=>exact ⟨w1.heap.size,ws.heap.size,e0,e1,e2,e3,e4,e5,e6,e7,e8,e9,j0,j1,j2,j3,j4,j5,j6,j7,j8,j9,rfl,rfl,xy3 bw (by omega) (by omega) (by omega) hU hZ hra (fun b hb=>by have h1:=hb.1;have h2:=hb.2;exact ⟨by omega,by omega⟩) hrb (fun b hb=>by have h1:=hb.1;have h2:=hb.2;exact ⟨by omega,by omega⟩)⟩
  ·go_wp2
   go_meet
   case rel=>exact ⟨ws.heap.size+1,ws.heap.size,e0,e1,e2,e3,e4,e5,e6,e7,e8,e9,j0,j1,j2,j3,j4,j5,j6,j7,j8,j9,rfl,rfl,xy3 bw (by omega) (by omega) (by omega) hV hZ hra (fun b hb=>by have h1:=hb.1;have h2:=hb.2;exact ⟨by omega,by omega⟩) hrb (fun b hb=>by have h1:=hb.1;have h2:=hb.2;exact ⟨by omega,by omega⟩)⟩
 case rest=>
 obtain ⟨P,Q,e0,e1,e2,e3,e4,e5,e6,e7,e8,e9,j0,j1,j2,j3,j4,j5,j6,j7,j8,j9,rfl,rfl,hpq,hP0,hQ0,hPb,hQb,hrx,hry,hbq⟩:=hcut
 obtain ⟨wk,hwk⟩:∃ x,x=wc:=⟨_,rfl⟩
 subst hwk
 have hbk:Below w.heap.size w wk:=hbs.trans (hbq.mono hbs.size)
 have hXk:=hX3.on hbq
 have hYk:=hY3.on hbq
 clear hTa hTb hlX hlY hX3 hY3
 go_upto_region 4 with fail
 obtain ⟨x0,x1,x2,x3,x4,x5⟩:=six hXk zn3
 obtain ⟨u0,u1,u2,u3,u4,u5⟩:=six hYk zn3
 obtain ⟨p0,p1,p2,p3,p4,p5⟩:=six hPb zn3
 obtain ⟨q0,q1,q2,q3,q4,q5⟩:=six hQb zn3
 have hlX:=hXk.lt
 have hlY:=hYk.lt
 have hlP:=hPb.lt
 have hlQ:=hQb.lt
 rw [hC] at hck
 rw [hC'] at hck'
 obtain ⟨DC,hDC⟩:∃ x,dcC d c=x:=⟨_,rfl⟩
 obtain ⟨DC',hDC'⟩:∃ x,dcC de c'=x:=⟨_,rfl⟩
 obtain ⟨V,hV⟩:∃ x,dqC d de DC DC'=x:=⟨_,rfl⟩
 have eV:sqC d de C C'=V:=by rw [<- hV,<- hDC,<- hDC',<- hC,<- hC',zmv]
 have hst:=zku c
 have hoks:=zk1 hsm
 rw [hC,hDC] at hst hoks
 obtain ⟨NC,hNC⟩:∃ x,zje d (stG d C)=x:=⟨_,rfl⟩
 rw [hNC] at hst hoks
 obtain ⟨o1,o2,o3,o4,o5,o6⟩:=hoks
 have h5b:∀ w1,Below wk.heap.size wk w1->Calls Tryz.prog 9 #[.agg #[.string g0,.int .i64 g1,.int .i64 g2,.int .i64 g3,.slice g4 g5 g6,.slice g7 g8 g9]] w1 fun e w'=>∃ f0 f1 f2 f3 f4 f5 f6 f7 f8 f9,e=.returned (.agg #[.string f0,.int .i64 f1,.int .i64 f2,.int .i64 f3,.slice f4 f5 f6,.slice f7 f8 f9])/\RdD (fun _=>True) w' d DC (.agg #[.string f0,.int .i64 f1,.int .i64 f2,.int .i64 f3,.slice f4 f5 f6,.slice f7 f8 f9])/\Below w1.heap.size w1 w':=fun w1 b0=>(zey d (fun _=>True) w1 c _ (hr.keep (fun k hk hl=>⟨trivial,(hbk.trans (b0.mono hbk.size)).block k hl⟩)) hsm).mono (fun e w' hh=>by
  obtain ⟨u,q1,q2,q3⟩:=hh
  rw [hDC] at q2
  obtain ⟨f0,f1,f2,f3,f4,f5,f6,f7,f8,f9,rfl⟩:=zcM q2
  exact ⟨f0,f1,f2,f3,f4,f5,f6,f7,f8,f9,q1,q2.keep (fun k hk hl=>⟨trivial,rfl⟩),q3⟩)
 have h6b:∀ w1,Below wk.heap.size wk w1->Calls Tryz.prog 9 #[.agg #[.string k0,.int .i64 k1,.int .i64 k2,.int .i64 k3,.slice k4 k5 k6,.slice k7 k8 k9]] w1 fun e w'=>∃ i0 i1 i2 i3 i4 i5 i6 i7 i8 i9,e=.returned (.agg #[.string i0,.int .i64 i1,.int .i64 i2,.int .i64 i3,.slice i4 i5 i6,.slice i7 i8 i9])/\RdD (fun _=>True) w' de DC' (.agg #[.string i0,.int .i64 i1,.int .i64 i2,.int .i64 i3,.slice i4 i5 i6,.slice i7 i8 i9])/\Below w1.heap.size w1 w':=fun w1 b0=>(zey de (fun _=>True) w1 c' _ (hr'.keep (fun k hk hl=>⟨trivial,(hbk.trans (b0.mono hbk.size)).block k hl⟩)) hsm').mono (fun e w' hh=>by
  obtain ⟨u,q1,q2,q3⟩:=hh
  rw [hDC'] at q2
  obtain ⟨i0,i1,i2,i3,i4,i5,i6,i7,i8,i9,rfl⟩:=zcM q2
  exact ⟨i0,i1,i2,i3,i4,i5,i6,i7,i8,i9,q1,q2.keep (fun k hk hl=>⟨trivial,rfl⟩),q3⟩)
 have hS1:∀ w1,RdC (fun _=>True) w1 d C (.agg #[.string e0,.int .i64 e1,.int .i64 e2,.int .i64 e3,.slice e4 e5 e6,.slice e7 e8 e9])->RdC (fun _=>True) w1 de C' (.agg #[.string j0,.int .i64 j1,.int .i64 j2,.int .i64 j3,.slice j4 j5 j6,.slice j7 j8 j9])->Calls Tryz.prog 7 #[.agg #[.string e0,.int .i64 e1,.int .i64 e2,.int .i64 e3,.slice e4 e5 e6,.slice e7 e8 e9],.agg #[.string j0,.int .i64 j1,.int .i64 j2,.int .i64 j3,.slice j4 j5 j6,.slice j7 j8 j9]] w1 fun e w'=>e=.returned (.bool V)/\Below w1.heap.size w1 w':=fun w1 a b=>by
  have:=zff a b hck hck'
  rw [eV] at this
  exact this
 have hS2:∀ w1,RdC (fun _=>True) w1 d C (.agg #[.string e0,.int .i64 e1,.int .i64 e2,.int .i64 e3,.slice e4 e5 e6,.slice e7 e8 e9])->Calls Tryz.prog 7 #[.agg #[.string e0,.int .i64 e1,.int .i64 e2,.int .i64 e3,.slice e4 e5 e6,.slice e7 e8 e9],.agg #[.string e0,.int .i64 e1,.int .i64 e2,.int .i64 e3,.slice e4 e5 e6,.slice e7 e8 e9]] w1 fun e w'=>e=.returned (.bool true)/\Below w1.heap.size w1 w':=fun w1 a=>by
  have:=zff a a hck hck
  rw [zlb] at this
  exact this
 have hSt:∀ w1,RdC (fun _=>True) w1 d C (.agg #[.string e0,.int .i64 e1,.int .i64 e2,.int .i64 e3,.slice e4 e5 e6,.slice e7 e8 e9])->Calls Tryz.prog 11 #[.agg #[.string e0,.int .i64 e1,.int .i64 e2,.int .i64 e3,.slice e4 e5 e6,.slice e7 e8 e9]] w1 fun e w'=>∃ s0 s1 s2 s3 s4 s5 s6 s7 s8 s9,e=.returned (.agg #[.string s0,.int .i64 s1,.int .i64 s2,.int .i64 s3,.slice s4 s5 s6,.slice s7 s8 s9])/\RdC (fun _=>True) w' d NC (.agg #[.string s0,.int .i64 s1,.int .i64 s2,.int .i64 s3,.slice s4 s5 s6,.slice s7 s8 s9])/\Below w1.heap.size w1 w':=fun w1 a=>(zjn a hck).mono (fun e w' hh=>by
  obtain ⟨u,q1,q2,q3⟩:=hh
  obtain ⟨s0,s1,s2,s3,s4,s5,s6,s7,s8,s9,rfl⟩:=zdL q2
  have q4:=zmG q2
  rw [hNC] at q4
  exact ⟨s0,s1,s2,s3,s4,s5,s6,s7,s8,s9,q1,q4.keep (fun k hk hl=>⟨trivial,rfl⟩),q3⟩)
 have hOu:∀ w1 v,RdC (fun _=>True) w1 d NC v->Calls Tryz.prog 10 #[v] w1 fun e w'=>∃ o0 o1 o2 o3 o4 o5 o6 o7 o8 o9,e=.returned (.agg #[.string o0,.int .i64 o1,.int .i64 o2,.int .i64 o3,.slice o4 o5 o6,.slice o7 o8 o9])/\RdD (fun _=>True) w' d NC (.agg #[.string o0,.int .i64 o1,.int .i64 o2,.int .i64 o3,.slice o4 o5 o6,.slice o7 o8 o9])/\Below w1.heap.size w1 w':=fun w1 v a=>(zl6 a o1 o2 o3).mono (fun e w' hh=>by
  obtain ⟨u,q1,q2,q3⟩:=hh
  obtain ⟨o0,o1,o2,o3,o4,o5,o6,o7,o8,o9,rfl⟩:=zcM q2
  exact ⟨o0,o1,o2,o3,o4,o5,o6,o7,o8,o9,q1,q2.keep (fun k hk hl=>⟨trivial,rfl⟩),q3⟩)
 have hSd:∀ w1 v,RdD (fun _=>True) w1 d DC v->Calls Tryz.prog 12 #[v] w1 fun e w'=>∃ t0 t1 t2 t3 t4 t5 t6 t7 t8 t9,e=.returned (.agg #[.string t0,.int .i64 t1,.int .i64 t2,.int .i64 t3,.slice t4 t5 t6,.slice t7 t8 t9])/\RdD (fun _=>True) w' d (dtC d DC) (.agg #[.string t0,.int .i64 t1,.int .i64 t2,.int .i64 t3,.slice t4 t5 t6,.slice t7 t8 t9])/\Below w1.heap.size w1 w':=fun w1 v a=>(zhj a o4 o5 o6).mono (fun e w' hh=>by
  obtain ⟨u,q1,q2,q3⟩:=hh
  obtain ⟨t0,t1,t2,t3,t4,t5,t6,t7,t8,t9,rfl⟩:=zcM q2
  exact ⟨t0,t1,t2,t3,t4,t5,t6,t7,t8,t9,q1,q2,q3⟩)
 have hD1:∀ w1 v v',RdD (fun _=>True) w1 d DC v->RdD (fun _=>True) w1 de DC' v'->Calls Tryz.prog 8 #[v,v'] w1 fun e w'=>e=.returned (.bool V)/\Below w1.heap.size w1 w':=fun w1 v v' a b=>by
  have:=zeb a b
  rw [hV] at this
  exact this
 have hD2:∀ w1 v v',RdD (fun _=>True) w1 d NC v->RdD (fun _=>True) w1 d (dtC d DC) v'->Calls Tryz.prog 8 #[v,v'] w1 fun e w'=>e=.returned (.bool true)/\Below w1.heap.size w1 w':=fun w1 v v' a b=>by
  have:=zeb a b
  rw [hst] at this
  exact this
 have hrxd:RdC (fun _=>True) wk.drew d C (.agg #[.string e0,.int .i64 e1,.int .i64 e2,.int .i64 e3,.slice e4 e5 e6,.slice e7 e8 e9]):=hrx.keep (fun k hk hl=>⟨trivial,rfl⟩)
 have hryd:RdC (fun _=>True) wk.drew de C' (.agg #[.string j0,.int .i64 j1,.int .i64 j2,.int .i64 j3,.slice j4 j5 j6,.slice j7 j8 j9]):=hry.keep (fun k hk hl=>⟨trivial,rfl⟩)
 have y0:=x0;have z0:=u0;have pp0:=p0;have qq0:=q0;have y1:=x1;have z1:=u1;have pp1:=p1;have qq1:=q1;have y2:=x2;have z2:=u2;have pp2:=p2;have qq2:=q2;have y3:=x3;have z3:=u3;have pp3:=p3;have qq3:=q3;have y4:=x4;have z4:=u4;have pp4:=p4;have qq4:=q4;have y5:=x5;have z5:=u5;have pp5:=p5;have qq5:=q5
 have hB:Below wk.heap.size wk wk:=Below.refl _ _
 have t1:(V == V)=true:=by simp
 clear hr hr' hE hck hck' hC hC' hsm hsm' hwf hwf' eV hst hDC hDC' hV hNC o1 o2 o3 o4 o5 o6 hbs hbq
 go_region_held_law (fun w'=>w'.cell? ⟨X,0,none⟩=some (.string g0)/\w'.cell? ⟨X,1,none⟩=some (.int .i64 g1)/\w'.cell? ⟨X,2,none⟩=some (.int .i64 g2)/\w'.cell? ⟨X,3,none⟩=some (.int .i64 g3)/\w'.cell? ⟨X,4,none⟩=some (.slice g4 g5 g6)/\w'.cell? ⟨X,5,none⟩=some (.slice g7 g8 g9)/\w'.cell? ⟨X+1,0,none⟩=some (.string k0)/\w'.cell? ⟨X+1,1,none⟩=some (.int .i64 k1)/\w'.cell? ⟨X+1,2,none⟩=some (.int .i64 k2)/\w'.cell? ⟨X+1,3,none⟩=some (.int .i64 k3)/\w'.cell? ⟨X+1,4,none⟩=some (.slice k4 k5 k6)/\w'.cell? ⟨X+1,5,none⟩=some (.slice k7 k8 k9)/\w'.cell? ⟨P,0,none⟩=some (.string e0)/\w'.cell? ⟨P,1,none⟩=some (.int .i64 e1)/\w'.cell? ⟨P,2,none⟩=some (.int .i64 e2)/\w'.cell? ⟨P,3,none⟩=some (.int .i64 e3)/\w'.cell? ⟨P,4,none⟩=some (.slice e4 e5 e6)/\w'.cell? ⟨P,5,none⟩=some (.slice e7 e8 e9)/\w'.cell? ⟨Q,0,none⟩=some (.string j0)/\w'.cell? ⟨Q,1,none⟩=some (.int .i64 j1)/\w'.cell? ⟨Q,2,none⟩=some (.int .i64 j2)/\w'.cell? ⟨Q,3,none⟩=some (.int .i64 j3)/\w'.cell? ⟨Q,4,none⟩=some (.slice j4 j5 j6)/\w'.cell? ⟨Q,5,none⟩=some (.slice j7 j8 j9))
  (((refine ⟨?_,?_,?_,?_,?_,?_,?_,?_,?_,?_,?_,?_,?_,?_,?_,?_,?_,?_,?_,?_,?_,?_,?_,?_⟩<;>(repeat (with_reducible first|exact y0|exact y1|exact y2|exact y3|exact y4|exact y5|exact z0|exact z1|exact z2|exact z3|exact z4|exact z5|exact pp0|exact pp1|exact pp2|exact pp3|exact pp4|exact pp5|exact qq0|exact qq1|exact qq2|exact qq3|exact qq4|exact qq5|refine zh ?_))<;>done)))
  (first
   | (go_at_call 7;(with_reducible refine (hS1 _ hrxd hryd).mono ?_);rintro e wq ⟨rfl,bq⟩;have hrx:=RdC.nxtd hrx bq;have hB:=Below.nxd hB bq;obtain ⟨y0,y1,y2,y3,y4,y5⟩:=six hXk hB;obtain ⟨z0,z1,z2,z3,z4,z5⟩:=six hYk hB;obtain ⟨pp0,pp1,pp2,pp3,pp4,pp5⟩:=six hPb hB;obtain ⟨qq0,qq1,qq2,qq3,qq4,qq5⟩:=six hQb hB)
   | (go_at_call 7;(with_reducible refine (hS2 _ hrx).mono ?_);rintro e wq ⟨rfl,bq⟩;(first|have hrx:=RdC.nxt hrx bq|skip);(first|have hry:=RdC.nxt hry bq|skip);(first|have hrf:=RdD.nxt hrf bq|skip);(first|have hri:=RdD.nxt hri bq|skip);(first|have hrs:=RdC.nxt hrs bq|skip);(first|have hro:=RdD.nxt hro bq|skip);(first|have hrt:=RdD.nxt hrt bq|skip);have hB:=Below.nx hB bq;obtain ⟨y0,y1,y2,y3,y4,y5⟩:=six hXk hB;obtain ⟨z0,z1,z2,z3,z4,z5⟩:=six hYk hB;obtain ⟨pp0,pp1,pp2,pp3,pp4,pp5⟩:=six hPb hB;obtain ⟨qq0,qq1,qq2,qq3,qq4,qq5⟩:=six hQb hB)
   | (go_at_call 9;(with_reducible refine (h5b _ hB).mono ?_);rintro e wq ⟨f0,f1,f2,f3,f4,f5,f6,f7,f8,f9,rfl,hrf0,bq⟩;(first|have hrx:=RdC.nxt hrx bq|skip);(first|have hry:=RdC.nxt hry bq|skip);(first|have hrf:=RdD.nxt hrf bq|skip);(first|have hri:=RdD.nxt hri bq|skip);(first|have hrs:=RdC.nxt hrs bq|skip);(first|have hro:=RdD.nxt hro bq|skip);(first|have hrt:=RdD.nxt hrt bq|skip);have hB:=Below.nx hB bq;obtain ⟨y0,y1,y2,y3,y4,y5⟩:=six hXk hB;obtain ⟨z0,z1,z2,z3,z4,z5⟩:=six hYk hB;obtain ⟨pp0,pp1,pp2,pp3,pp4,pp5⟩:=six hPb hB;obtain ⟨qq0,qq1,qq2,qq3,qq4,qq5⟩:=six hQb hB;have hrf:=hrf0;clear hrf0)
   | (go_at_call 9;(with_reducible refine (h6b _ hB).mono ?_);rintro e wq ⟨i0,i1,i2,i3,i4,i5,i6,i7,i8,i9,rfl,hri0,bq⟩;(first|have hrx:=RdC.nxt hrx bq|skip);(first|have hry:=RdC.nxt hry bq|skip);(first|have hrf:=RdD.nxt hrf bq|skip);(first|have hri:=RdD.nxt hri bq|skip);(first|have hrs:=RdC.nxt hrs bq|skip);(first|have hro:=RdD.nxt hro bq|skip);(first|have hrt:=RdD.nxt hrt bq|skip);have hB:=Below.nx hB bq;obtain ⟨y0,y1,y2,y3,y4,y5⟩:=six hXk hB;obtain ⟨z0,z1,z2,z3,z4,z5⟩:=six hYk hB;obtain ⟨pp0,pp1,pp2,pp3,pp4,pp5⟩:=six hPb hB;obtain ⟨qq0,qq1,qq2,qq3,qq4,qq5⟩:=six hQb hB;have hri:=hri0;clear hri0)
   | (go_at_call 8;(with_reducible refine (hD1 _ _ _ hrf hri).mono ?_);rintro e wq ⟨rfl,bq⟩;(first|have hrx:=RdC.nxt hrx bq|skip);(first|have hry:=RdC.nxt hry bq|skip);(first|have hrf:=RdD.nxt hrf bq|skip);(first|have hri:=RdD.nxt hri bq|skip);(first|have hrs:=RdC.nxt hrs bq|skip);(first|have hro:=RdD.nxt hro bq|skip);(first|have hrt:=RdD.nxt hrt bq|skip);have hB:=Below.nx hB bq;obtain ⟨y0,y1,y2,y3,y4,y5⟩:=six hXk hB;obtain ⟨z0,z1,z2,z3,z4,z5⟩:=six hYk hB;obtain ⟨pp0,pp1,pp2,pp3,pp4,pp5⟩:=six hPb hB;obtain ⟨qq0,qq1,qq2,qq3,qq4,qq5⟩:=six hQb hB)
   | (go_at_call 8;(with_reducible refine (hD2 _ _ _ hro hrt).mono ?_);rintro e wq ⟨rfl,bq⟩;(first|have hrx:=RdC.nxt hrx bq|skip);(first|have hry:=RdC.nxt hry bq|skip);(first|have hrf:=RdD.nxt hrf bq|skip);(first|have hri:=RdD.nxt hri bq|skip);(first|have hrs:=RdC.nxt hrs bq|skip);(first|have hro:=RdD.nxt hro bq|skip);(first|have hrt:=RdD.nxt hrt bq|skip);have hB:=Below.nx hB bq;obtain ⟨y0,y1,y2,y3,y4,y5⟩:=six hXk hB;obtain ⟨z0,z1,z2,z3,z4,z5⟩:=six hYk hB;obtain ⟨pp0,pp1,pp2,pp3,pp4,pp5⟩:=six hPb hB;obtain ⟨qq0,qq1,qq2,qq3,qq4,qq5⟩:=six hQb hB)
   | (go_at_call 11;(with_reducible refine (hSt _ hrx).mono ?_);rintro e wq ⟨s0,s1,s2,s3,s4,s5,s6,s7,s8,s9,rfl,hrs0,bq⟩;(first|have hrx:=RdC.nxt hrx bq|skip);(first|have hry:=RdC.nxt hry bq|skip);(first|have hrf:=RdD.nxt hrf bq|skip);(first|have hri:=RdD.nxt hri bq|skip);(first|have hrs:=RdC.nxt hrs bq|skip);(first|have hro:=RdD.nxt hro bq|skip);(first|have hrt:=RdD.nxt hrt bq|skip);have hB:=Below.nx hB bq;obtain ⟨y0,y1,y2,y3,y4,y5⟩:=six hXk hB;obtain ⟨z0,z1,z2,z3,z4,z5⟩:=six hYk hB;obtain ⟨pp0,pp1,pp2,pp3,pp4,pp5⟩:=six hPb hB;obtain ⟨qq0,qq1,qq2,qq3,qq4,qq5⟩:=six hQb hB;have hrs:=hrs0;clear hrs0)
   | (go_at_call 10;(with_reducible refine (hOu _ _ hrs).mono ?_);rintro e wq ⟨o0,o1,o2,o3,o4,o5,o6,o7,o8,o9,rfl,hro0,bq⟩;(first|have hrx:=RdC.nxt hrx bq|skip);(first|have hry:=RdC.nxt hry bq|skip);(first|have hrf:=RdD.nxt hrf bq|skip);(first|have hri:=RdD.nxt hri bq|skip);(first|have hrs:=RdC.nxt hrs bq|skip);(first|have hro:=RdD.nxt hro bq|skip);(first|have hrt:=RdD.nxt hrt bq|skip);have hB:=Below.nx hB bq;obtain ⟨y0,y1,y2,y3,y4,y5⟩:=six hXk hB;obtain ⟨z0,z1,z2,z3,z4,z5⟩:=six hYk hB;obtain ⟨pp0,pp1,pp2,pp3,pp4,pp5⟩:=six hPb hB;obtain ⟨qq0,qq1,qq2,qq3,qq4,qq5⟩:=six hQb hB;have hro:=hro0;clear hro0)
   | (go_at_call 12;(with_reducible refine (hSd _ _ hrf).mono ?_);rintro e wq ⟨t0,t1,t2,t3,t4,t5,t6,t7,t8,t9,rfl,hrt0,bq⟩;(first|have hrx:=RdC.nxt hrx bq|skip);(first|have hry:=RdC.nxt hry bq|skip);(first|have hrf:=RdD.nxt hrf bq|skip);(first|have hri:=RdD.nxt hri bq|skip);(first|have hrs:=RdC.nxt hrs bq|skip);(first|have hro:=RdD.nxt hro bq|skip);(first|have hrt:=RdD.nxt hrt bq|skip);have hB:=Below.nx hB bq;obtain ⟨y0,y1,y2,y3,y4,y5⟩:=six hXk hB;obtain ⟨z0,z1,z2,z3,z4,z5⟩:=six hYk hB;obtain ⟨pp0,pp1,pp2,pp3,pp4,pp5⟩:=six hPb hB;obtain ⟨qq0,qq1,qq2,qq3,qq4,qq5⟩:=six hQb hB;have hrt:=hrt0;clear hrt0)
   | fail)
 all_goals (
  have hbz:=hbk.trans (hB.mono hbk.size)
  go_wp2
  go_ret
  exact ⟨rfl,hbz⟩)
theorem zkt {P:Program}{w:World}{t:TypeId}{fuel:Nat}{cs:List Value}{name:String}{d:DataW Unit}{p:List MemPlace}(ht:(P.underlying t).map (fun u=>match u with | .interface _=>true|_=>false)=some true) (h:DataW.trod (fun _=>()) P w 0 (fun _=>true) false fuel t cs=some (.iface name d,p)):∃ u v,cs=[.iface u v]:=by
 cases fuel with
 | zero=>simp [DataW.trod] at h
 | succ fuel=>
  unfold DataW.trod at h
  cases hu:P.underlying t with
  | none=>rw [hu] at ht;simp at ht
  | some u=>
   rw [hu] at ht h
   cases u<;>simp at ht
   split at h<;>simp_all
theorem zm0 {w:World}{L:List (String × DataW Unit)}(h:laidMetH Tryz.prog L w) (hp:(L.all fun x=>x.2.handleName?.isNone)=true) (m:("strconv.ErrSyntax",Rows.laid_strconv_ErrSyntax)∈L):Esy w:=by
 rw [MakeChecks.laidMetH_plain _ _ _ hp] at h
 obtain ⟨g,t,cs,fuel,p,hg,ht,hvar,hd⟩:=Lib.laidMet.reads h m
 have hg2:Tryz.prog.globalNamed "strconv.ErrSyntax" = some (zdd.g 15):=by kernel_rfl
 rw [hg] at hg2
 obtain rfl:=Option.some.inj hg2
 have ht2:((Tryz.prog.globals[zdd.g 15]?).map (·.type)).bind (fun t=>(Tryz.prog.underlying t).map (fun u=>match u with | .interface _=>true|_=>false))=some true:=by kernel_rfl
 rw [ht,Option.bind_some] at ht2
 obtain ⟨u,v,hcs⟩:=zkt ht2 hd
 have:cs=#[.iface u v]:=by cases cs;simp at hcs;rw [hcs]
 subst this
 unfold World.var? at hvar
 rw [hg,Option.bind_some] at hvar
 refine ⟨.iface u v,?_,.inr ⟨u,v,rfl⟩⟩
 cases hh:w.heap[zdd.g 15]? with
 | none=>rw [hh] at hvar;simp at hvar
 | some o=>
  rw [hh] at hvar
  cases o with
  | cells cs e f=>
   simp only [Option.some.injEq] at hvar
   subst hvar
   exact (cell_of_row w _ 0 _ _ _ hh).trans rfl
  | _=>simp at hvar
end Go.Proofs.YtlkdaldfklaicaaGreatDoor
namespace Go.Proofs.YtlkdaldfklaicaaGreatDoor
open Go.ChangeShapes Go.WideShapes Go.ChangeAt Go.RowKit
