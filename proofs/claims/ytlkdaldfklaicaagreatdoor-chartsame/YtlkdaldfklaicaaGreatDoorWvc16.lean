import Derived.Test.YtlkdaldfklaicaaGreatDoorWvc15
import Derived.Test.YtlkdaldfklaicaaGreatDoorWvc05
import Derived.Test.YtlkdaldfklaicaaGreatDoorWvc06
import Derived.Test.YtlkdaldfklaicaaGreatDoorWvc12
import Derived.Test.YtlkdaldfklaicaaGreatDoorWvc08
import Derived.Test.YtlkdaldfklaicaaGreatDoorRows
import Derived.Test.YtlkdaldfklaicaaGreatDoorWvc01
import Derived.Test.YtlkdaldfklaicaaGreatDoorWvc04
import Derived.Deep.RegionHeld
import Derived.Deep.DrawnRows
import Derived.Test.YtlkdaldfklaicaaGreatDoorWvc03
set_option maxRecDepth 100000
set_option maxHeartbeats 32000000
namespace Go.Proofs.YtlkdaldfklaicaaGreatDoor
open Go.RowKit Go.Lib
set_option linter.unusedSimpArgs false
set_option linter.unusedVariables false
attribute [local go_sem ↓] Go.wp_at_zero Go.wp_at_succ
theorem zep:∀ (rs:List Ru) (a b:Int),zj6 rs a b=zdj rs a b
 | [],a,b=>rfl
 | u :: r,a,b=>by
  unfold zj6 zdj
  rw [zep r (a+1) 1,zep r a (b+1)]
def Esy (w:World):Prop:=∃ ev,w.cell? ⟨zdd.g 15,0,none⟩=some ev/\(ev=.nilIface∨∃ te pe,ev=.iface te pe)
theorem Esy.lt {w:World}(h:Esy w):zdd.g 15 < w.heap.size:=by
 obtain ⟨ev,h1,_⟩:=h
 exact World.block_lt_of_cell? w _ h1
theorem Esy.on {w w':World}(h:Esy w) (hb:Below w.heap.size w w'):Esy w':=by
 have hl:=h.lt
 obtain ⟨ev,h1,h2⟩:=h
 exact ⟨ev,(hb.cell (p:=⟨zdd.g 15,0,none⟩) hl).trans h1,h2⟩
theorem Esy.ey {w w':World}(h:Esy w) (hb:Below w.heap.size w w') {X:Nat}(hX:w.heap.size<=X):Ey w' X:=by
 have hl:=h.lt
 exact ⟨h.on hb,by omega⟩
theorem Fx.bel {X B:Nat}{u a b:World}(h:Fx X a b) (hb:Below B u a) (hX:B<=X) (hB:B<=u.heap.size):Below B u b:=
 ⟨h.os.trans hb.os,h.tape.trans hb.tape,h.output.trans hb.output,zn5 hb.size h.size,fun k hk=>(h.block k (zn4 hk (zn5 hB hb.size)) (fun e=>by have:k=X:=Option.some.inj e;omega)).trans (hb.block k hk)⟩
theorem zf {B:Nat}{u w:World}(h:Below B u w) (X i:Nat) (v:Value) (hX:B<=X):Below B u (w.setCell ⟨X,i,none⟩ v):=h.setCell hX v
theorem zdr {w4:World}{R P:Nat}{a b c d e f p q n:Value}{tmps:Array Value}(hR:Bn w4 R [a,b,c,d,e,f]) (hP:Bn w4 P [p,q]) (ht:tmps.getD 2 undef=.pointer (some ⟨R,0,none⟩)) (ht3:tmps.getD 3 undef=.pointer (some ⟨P,0,none⟩)) (ht4:tmps.getD 4 undef=n):(results Tryz.f13 tmps).run Tryz.prog w4=.ok (.tuple #[.agg #[a,b,c,d,e,f],.agg #[p,q],n]) w4:=by
 have ht':tmps[2]?.getD undef=.pointer (some ⟨R,0,none⟩):=by simpa using ht
 have ht3':tmps[3]?.getD undef=.pointer (some ⟨P,0,none⟩):=by simpa using ht3
 have ht4':tmps[4]?.getD undef=n:=by simpa using ht4
 have c0:=(hR 0 _ rfl).1
 have c1:=(hR 1 _ rfl).1
 have c2:=(hR 2 _ rfl).1
 have c3:=(hR 3 _ rfl).1
 have c4:=(hR 4 _ rfl).1
 have c5:=(hR 5 _ rfl).1
 have d0:=(hP 0 _ rfl).1
 have d1:=(hP 1 _ rfl).1
 simp [results,Tryz.results13,go_sem,ht',ht3',ht4',c0,c1,c2,c3,c4,c5,d0,d1]
abbrev zPl:List Value:=[.int .i64 0,.int .i64 0]
theorem zi2 (s:ByteArray) (w:World) (hE:Esy w) (hs:s.size<=140737488351232) :
  Calls Tryz.prog 13 #[.string s] w fun e w'=>∃ v,e=.returned (.tuple #[v,.agg #[.int .i64 (zc5 (bl s)).2.1.1,.int .i64 (zc5 (bl s)).2.1.2],.int .i64 (zc5 (bl s)).2.2])/\RdC (fun b=>w.heap.size<=b) w' 7 (zc5 (bl s)).1 v/\Below w.heap.size w w':=by
 have hb0:Below w.heap.size w ((w.alloc zC6).alloc zP):=(zn3.alloc zn2 _).alloc (by simp) _
 have hA0:Bn ((w.alloc zC6).alloc zP) w.heap.size zCl:=(Bn.new w zCl 33 _ rfl).on (zn3.alloc zn2 _)
 have hP0:Bn ((w.alloc zC6).alloc zP) (w.heap.size+1) zPl:=Bn.new (w.alloc zC6) zPl 23 _ (by simp)
 have hs0:w.heap.size+2<=((w.alloc zC6).alloc zP).heap.size:=by simp
 have hW:=zec s ((w.alloc zC6).alloc zP) hs
 have hEn:=fun w1=>zkk s w1 hs
 obtain ⟨RES,hRES⟩:∃ x,zc5 (bl s)=x:=⟨_,rfl⟩
 rw [hRES]
 unfold zc5 at hRES
 have h1:=fun h=>zjE (l:=bl s) h
 obtain ⟨⟨ws,⟨pl,pc⟩,er⟩,hR⟩:∃ r,zaj (bl s)=r:=⟨_,rfl⟩
 rw [hR] at hW hRES h1
 simp only at hW hRES h1
 rw [zep] at hRES
 obtain ⟨⟨eL,eC⟩,hEE⟩:∃ x,zdj (runes (bl s)) 1 1=x:=⟨_,rfl⟩
 simp only [hEE] at hEn hRES
 by_cases he:er≠0
 ·rw [if_pos he] at hRES
  subst hRES
  have i1:(er != 0)=true:=by simpa using he
  clear h1 hR he hEE hEn
  go_enter Tryz.func13,Tryz.ntmps13
  go_upto_region 1 with fail
  generalize (w.alloc zC6).alloc zP=w0 at *
  go_upto_region 3 with (first
   | (go_at_call 28;refine hW.mono ?_;rintro e w1 ⟨u,rfl,hown,b1⟩;obtain ⟨a,cap,rfl,_⟩:=zbH hown))
  have hal:=(Below.refl w1.heap.size w1).alloc zn2 (.cells #[.int .i64 pl,.int .i64 pc] 23)
  have hA2:=(hA0.on b1).on hal
  have hP2:=(hP0.on b1).on hal
  have hb2:=(hb0.trans (b1.mono hb0.size)).trans (hal.mono (zn5 hb0.size b1.size))
  have hQ2:Bn (w1.alloc (.cells #[.int .i64 pl,.int .i64 pc] 23)) w1.heap.size [.int .i64 pl,.int .i64 pc]:=Bn.new w1 [.int .i64 pl,.int .i64 pc] 23 _ rfl
  have hs2:w.heap.size+2<=w1.heap.size:=zn5 hs0 b1.size
  obtain ⟨N,hN⟩:∃ N,w1.heap.size=N:=⟨_,rfl⟩
  rw [hN] at hQ2 hs2 ⊢
  clear hA0 hP0 hb0 b1 hal hW hown hs0 hN
  generalize w1.alloc (.cells #[.int .i64 pl,.int .i64 pc] 23)=w2 at *
  obtain ⟨a0,k0⟩:=hA2 0 _ rfl
  obtain ⟨a1,k1⟩:=hA2 1 _ rfl
  obtain ⟨a2,k2⟩:=hA2 2 _ rfl
  obtain ⟨a3,k3⟩:=hA2 3 _ rfl
  obtain ⟨a4,k4⟩:=hA2 4 _ rfl
  obtain ⟨a5,k5⟩:=hA2 5 _ rfl
  obtain ⟨p0,o0⟩:=hP2 0 _ rfl
  obtain ⟨p1,o1⟩:=hP2 1 _ rfl
  obtain ⟨q0,r0⟩:=hQ2 0 _ rfl
  obtain ⟨q1,r1⟩:=hQ2 1 _ rfl
  go_region
  go_wp2
  exact bodyPost_ret (zdr (((((((((hA2.set (i:=0) (by simp) (.string ⟨#[]⟩)).set (i:=1) (by simp) (.int .i64 0)).set (i:=2) (by simp) (.int .i64 0)).set (i:=3) (by simp) (.int .i64 0)).set (i:=4) (by simp) (.slice none 0 0)).set (i:=5) (by simp) (.slice none 0 0)).far (X:=w.heap.size+1) (i:=0) (by omega) (.int .i64 pl)).far (X:=w.heap.size+1) (i:=1) (by omega) (.int .i64 pc)).drew) (((((((((hP2.far (X:=w.heap.size) (i:=0) (by omega) (.string ⟨#[]⟩)).far (X:=w.heap.size) (i:=1) (by omega) (.int .i64 0)).far (X:=w.heap.size) (i:=2) (by omega) (.int .i64 0)).far (X:=w.heap.size) (i:=3) (by omega) (.int .i64 0)).far (X:=w.heap.size) (i:=4) (by omega) (.slice none 0 0)).far (X:=w.heap.size) (i:=5) (by omega) (.slice none 0 0)).set (i:=0) (by simp) (.int .i64 pl)).set (i:=1) (by simp) (.int .i64 pc)).drew) rfl rfl rfl) rfl ⟨_,rfl,zhL _ _,(zf (zf (zf (zf (zf (zf (zf (zf hb2 w.heap.size 0 (.string ⟨#[]⟩) zn2) w.heap.size 1 (.int .i64 0) zn2) w.heap.size 2 (.int .i64 0) zn2) w.heap.size 3 (.int .i64 0) zn2) w.heap.size 4 (.slice none 0 0) zn2) w.heap.size 5 (.slice none 0 0) zn2) (w.heap.size+1) 0 (.int .i64 pl) (by omega)) (w.heap.size+1) 1 (.int .i64 pc) (by omega)).drew⟩
 ·rw [if_neg he,znD,znQ] at hRES
  have he0:er=0:=by simpa using he
  subst he0
  obtain ⟨h2,h3⟩:=h1 rfl
  clear h1 he hR hEE
  have hCh:=fun w1 X a cap (hp:Pr w1 X a cap ws (eL,eC) (ws,(0,0),0)) (hk:Wk ws cap) (he:Ey w1 X)=>zjy hp hk he
  unfold chZ at hRES
  obtain ⟨⟨CC,r1⟩,hC⟩:∃ x,zi3 (eL,eC) (ws,(0,0),0)=x:=⟨_,rfl⟩
  simp only [hC] at hCh hRES
  have hLa:=fun w1 X a cap (hp:Pr w1 X a cap ws (eL,eC) r1) (hk:Wk ws cap)=>znh hp hk
  obtain ⟨r2,hr2⟩:∃ r2,zbm (eL,eC) r1=r2:=⟨_,rfl⟩
  simp only [hr2] at hLa hRES
  have HRES:Hid ((if r2.2.2=0 then (CC,(0,0),0) else (noC,r2.2.1,r2.2.2))=RES):=hRES
  clear hC hr2 hRES
  go_enter Tryz.func13,Tryz.ntmps13
  go_upto_region 1 with fail
  generalize (w.alloc zC6).alloc zP=w0 at *
  go_upto_region 5 with (first
   | (go_at_call 28;refine hW.mono ?_;rintro e w1 ⟨u,rfl,hown,b1⟩;obtain ⟨a,cap,rfl,hwc,hwm,hwr⟩:=zmq hown))
  have hal:=(Below.refl w1.heap.size w1).alloc zn2 (.cells #[.int .i64 pl,.int .i64 pc] 23)
  have hal2:=(Below.refl (w1.alloc (.cells #[.int .i64 pl,.int .i64 pc] 23)).heap.size (w1.alloc (.cells #[.int .i64 pl,.int .i64 pc] 23))).alloc zn2 (.cells #[.slice a ws.length cap,.int .i64 0,.int .i64 0] 69)
  have hal3:Below w1.heap.size w1 _:=hal.trans (hal2.mono hal.size)
  have hA2:=(hA0.on b1).on hal3
  have hP2:=(hP0.on b1).on hal3
  have hb2:=(hb0.trans (b1.mono hb0.size)).trans (hal3.mono (zn5 hb0.size b1.size))
  have hE2:=hE.ey hb2 (X:=w1.heap.size+1) (by have:=hb0.size;have:=b1.size;omega)
  have hs2:w.heap.size+2<=w1.heap.size:=zn5 hs0 b1.size
  have hX2:Bn ((w1.alloc (.cells #[.int .i64 pl,.int .i64 pc] 23)).alloc (.cells #[.slice a ws.length cap,.int .i64 0,.int .i64 0] 69)) (w1.heap.size+1) [.slice a ws.length cap,.int .i64 0,.int .i64 0]:=Bn.new _ [.slice a ws.length cap,.int .i64 0,.int .i64 0] 69 _ (by simp)
  have hp2:Pr ((w1.alloc (.cells #[.int .i64 pl,.int .i64 pc] 23)).alloc (.cells #[.slice a ws.length cap,.int .i64 0,.int .i64 0] 69)) (w1.heap.size+1) a cap ws (eL,eC) (ws,(0,0),0):=by
   refine ⟨0,⟨(hX2 0 _ rfl).1,(hX2 1 _ rfl).1,(hX2 2 _ rfl).1,(hX2 1 _ rfl).2,(hX2 2 _ rfl).2,fun i hi=>?_⟩,rfl,Nat.zero_le _,fun e=>absurd rfl e⟩
   obtain ⟨g,q1,q2,c0,c1,c2,c3⟩:=hwr i hi
   refine ⟨g,0,q1,by omega,?_,?_,?_,?_⟩<;>rw [Nat.zero_add]
   ·exact (hal3.cell (p:=⟨g,i*4,none⟩) q2).trans c0
   ·exact (hal3.cell (p:=⟨g,i*4+1,none⟩) q2).trans c1
   ·exact (hal3.cell (p:=⟨g,i*4+2,none⟩) q2).trans c2
   ·exact (hal3.cell (p:=⟨g,i*4+3,none⟩) q2).trans c3
  have hk:Wk ws cap:=⟨h3,hwc,hwm,h2⟩
  have hga:∀ g off,a=some ⟨g,off,none⟩->w.heap.size+2<=g:=fun g off e=>zn5 hs0 (zC hown g (by rw [e];rfl)).1
  obtain ⟨X,hX⟩:∃ X,w1.heap.size+1=X:=⟨_,rfl⟩
  have hsX:w.heap.size+2 < X:=by omega
  rw [hX] at hp2 hE2 ⊢
  clear hX2 hA0 hP0 hb0 b1 hal hal2 hal3 hwr hown hs0 hW hs2 hX
  generalize (w1.alloc (.cells #[.int .i64 pl,.int .i64 pc] 23)).alloc (.cells #[.slice a ws.length cap,.int .i64 0,.int .i64 0] 69)=w2 at *
  obtain ⟨nv,hnv⟩:∃ nv,sV CC.1.1=.string nv:=⟨_,rfl⟩
  obtain ⟨cvn,hcvn⟩:∃ x,CC.2.1=x:=⟨_,rfl⟩
  obtain ⟨cln,hcln⟩:∃ x,CC.1.2.1=x:=⟨_,rfl⟩
  obtain ⟨cco,hcco⟩:∃ x,CC.1.2.2=x:=⟨_,rfl⟩
  have hCh2:Calls Tryz.prog 29 #[.pointer (some ⟨X,0,none⟩)] w2 fun e w'=>(∃ va vc sa sc,e=.returned (.agg #[.string nv,.int .i64 cvn,.int .i64 cln,.int .i64 cco,.slice va CC.2.2.1.length vc,.slice sa CC.2.2.2.length sc])/\RdK (fun b=>w2.heap.size<=b) w' 4 (zbo (fun b=>w2.heap.size<=b) w') CC.2.2.1 (.slice va CC.2.2.1.length vc)/\RdK (fun b=>w2.heap.size<=b) w' 11 (rSt 7 (fun b=>w2.heap.size<=b) w') CC.2.2.2 (.slice sa CC.2.2.2.length sc))/\Pr w' X a cap ws (eL,eC) r1/\Fx X w2 w':=(hCh w2 X a cap hp2 hk hE2).mono (fun e w' hh=>by
   obtain ⟨⟨v,rfl,cv,cs,rfl,hcv,hcs⟩,h5,h6⟩:=hh
   obtain ⟨va,vc,rfl,_⟩:=hcv.form
   obtain ⟨sa,sc,rfl,_⟩:=hcs.form
   exact ⟨⟨va,vc,sa,sc,by rw [hnv,hcvn,hcln,hcco],hcv,hcs⟩,h5,h6⟩)
  go_upto_region 6 with (first
   | (go_at_call 29;refine hCh2.mono ?_;rintro e w3 ⟨⟨va,vc,sa,sc,rfl,hcv,hcs⟩,hp3,hf3⟩))
  have hsz3:=hf3.size
  have hA3:=hA2.fx hf3 (by omega)
  have hP3:=hP2.fx hf3 (by omega)
  have hb3:=hf3.bel hb2 (by omega) zn2
  have hal:=(Below.refl w3.heap.size w3).alloc zn2 (.cells #[.string nv,.int .i64 cvn,.int .i64 cln,.int .i64 cco,.slice va CC.2.2.1.length vc,.slice sa CC.2.2.2.length sc] 33)
  have hA4:=hA3.on hal
  have hP4:=hP3.on hal
  have hC4:Bn (w3.alloc (.cells #[.string nv,.int .i64 cvn,.int .i64 cln,.int .i64 cco,.slice va CC.2.2.1.length vc,.slice sa CC.2.2.2.length sc] 33)) w3.heap.size [.string nv,.int .i64 cvn,.int .i64 cln,.int .i64 cco,.slice va CC.2.2.1.length vc,.slice sa CC.2.2.2.length sc]:=Bn.new w3 [.string nv,.int .i64 cvn,.int .i64 cln,.int .i64 cco,.slice va CC.2.2.1.length vc,.slice sa CC.2.2.2.length sc] 33 _ rfl
  have hp4:=hp3.on hal
  have hb4:=hb3.trans (hal.mono hb3.size)
  have hX3:=hp3.lt
  have hR4:RdC (fun b=>w.heap.size+2<=b/\b≠X) (w3.alloc (.cells #[.string nv,.int .i64 cvn,.int .i64 cln,.int .i64 cco,.slice va CC.2.2.1.length vc,.slice sa CC.2.2.2.length sc] 33)) 7 CC (.agg #[.string nv,.int .i64 cvn,.int .i64 cln,.int .i64 cco,.slice va CC.2.2.1.length vc,.slice sa CC.2.2.2.length sc]):=by
   refine ⟨_,_,by rw [hnv,hcvn,hcln,hcco],hcv.stay zI (fun b hb hl=>⟨⟨?_,?_⟩,hal.block b hl⟩),hcs.stay (zp _) (fun b hb hl=>⟨⟨?_,?_⟩,hal.block b hl⟩)⟩
   ·have:=hp2.lt;omega
   ·have:=hp2.lt;omega
   ·have:=hp2.lt;omega
   ·have:=hp2.lt;omega
  obtain ⟨N,hN⟩:∃ N,w3.heap.size=N:=⟨_,rfl⟩
  obtain ⟨vn,hvn⟩:∃ n,CC.2.2.1.length=n:=⟨_,rfl⟩
  obtain ⟨sn,hsn⟩:∃ n,CC.2.2.2.length=n:=⟨_,rfl⟩
  rw [hvn,hsn] at hA4 hP4 hC4 hp4 hb4 hR4 ⊢
  rw [hN] at hC4 ⊢
  have hNX:X < N:=by omega
  clear hA2 hP2 hb2 hp2 hE2 hf3 hA3 hP3 hb3 hal hp3 hX3 hnv hcvn hcln hcco hN hCh hCh2 hcv hcs hvn hsn
  generalize w3.alloc (.cells #[.string nv,.int .i64 cvn,.int .i64 cln,.int .i64 cco,.slice va vn vc,.slice sa sn sc] 33)=w4 at *
  have hLa4:=hLa w4 X a cap hp4 hk
  go_upto_region 7 with (first
   | (go_at_call 30;refine hLa4.mono ?_;rintro e w5 ⟨⟨u,rfl⟩,hp5,hf5⟩))
  have hA5:=hA4.fx hf5 (by omega)
  have hP5:=hP4.fx hf5 (by omega)
  have hC5:=hC4.fx hf5 (by omega)
  have hb5:=hf5.bel hb4 (by omega) zn2
  have hR5:RdC (fun b=>w.heap.size+2<=b) w5 7 CC (.agg #[.string nv,.int .i64 cvn,.int .i64 cln,.int .i64 cco,.slice va vn vc,.slice sa sn sc]):=hR4.keep (fun b hb hl=>⟨hb.1,hf5.block b hl (fun e=>hb.2 (Option.some.inj e))⟩)
  clear hA4 hP4 hC4 hb4 hR4 hf5 hp4 hLa hLa4
  obtain ⟨n,⟨c0,c1,c2,f1,f2,hL⟩,h5,h6,h7⟩:=id hp5
  obtain ⟨b,hb⟩:∃ b,r2.2.2=b:=⟨_,rfl⟩
  rw [hb] at c2
  have hlen:=hk.l
  have hcap:=hk.c
  obtain ⟨a0,k0⟩:=hA5 0 _ rfl
  obtain ⟨a1,k1⟩:=hA5 1 _ rfl
  obtain ⟨a2,k2⟩:=hA5 2 _ rfl
  obtain ⟨a3,k3⟩:=hA5 3 _ rfl
  obtain ⟨a4,k4⟩:=hA5 4 _ rfl
  obtain ⟨a5,k5⟩:=hA5 5 _ rfl
  obtain ⟨p0,o0⟩:=hP5 0 _ rfl
  obtain ⟨p1,o1⟩:=hP5 1 _ rfl
  by_cases hz:b=0
  ·subst hz
   have hv:=HRES.out
   rw [if_pos hb] at hv
   subst hv
   obtain ⟨y0,z0⟩:=hC5 0 _ rfl
   obtain ⟨y1,z1⟩:=hC5 1 _ rfl
   obtain ⟨y2,z2⟩:=hC5 2 _ rfl
   obtain ⟨y3,z3⟩:=hC5 3 _ rfl
   obtain ⟨y4,z4⟩:=hC5 4 _ rfl
   obtain ⟨y5,z5⟩:=hC5 5 _ rfl
   clear hL h5 h7 hb HRES
   go_wp2
   exact bodyPost_ret (zdr ((((((((hA5.set (i:=0) (by simp) (.string nv)).set (i:=1) (by simp) (.int .i64 cvn)).set (i:=2) (by simp) (.int .i64 cln)).set (i:=3) (by simp) (.int .i64 cco)).set (i:=4) (by simp) (.slice va vn vc)).set (i:=5) (by simp) (.slice sa sn sc)).far (X:=w.heap.size+1) (i:=0) (by omega) (.int .i64 0)).far (X:=w.heap.size+1) (i:=1) (by omega) (.int .i64 0)) ((((((((hP5.far (X:=w.heap.size) (i:=0) (by omega) (.string nv)).far (X:=w.heap.size) (i:=1) (by omega) (.int .i64 cvn)).far (X:=w.heap.size) (i:=2) (by omega) (.int .i64 cln)).far (X:=w.heap.size) (i:=3) (by omega) (.int .i64 cco)).far (X:=w.heap.size) (i:=4) (by omega) (.slice va vn vc)).far (X:=w.heap.size) (i:=5) (by omega) (.slice sa sn sc)).set (i:=0) (by simp) (.int .i64 0)).set (i:=1) (by simp) (.int .i64 0)) rfl rfl rfl) rfl ⟨_,rfl,hR5.keep (fun b hb hl=>⟨by omega,by rw [Below.heap_setCell _ _ _ _ (fun e=>by have e':b=w.heap.size+1:=e;omega),Below.heap_setCell _ _ _ _ (fun e=>by have e':b=w.heap.size+1:=e;omega),Below.heap_setCell _ _ _ _ (fun e=>by have e':b=w.heap.size:=e;omega),Below.heap_setCell _ _ _ _ (fun e=>by have e':b=w.heap.size:=e;omega),Below.heap_setCell _ _ _ _ (fun e=>by have e':b=w.heap.size:=e;omega),Below.heap_setCell _ _ _ _ (fun e=>by have e':b=w.heap.size:=e;omega),Below.heap_setCell _ _ _ _ (fun e=>by have e':b=w.heap.size:=e;omega),Below.heap_setCell _ _ _ _ (fun e=>by have e':b=w.heap.size:=e;omega)]⟩),(zf (zf (zf (zf (zf (zf (zf (zf hb5 w.heap.size 0 (.string nv) zn2) w.heap.size 1 (.int .i64 cvn) zn2) w.heap.size 2 (.int .i64 cln) zn2) w.heap.size 3 (.int .i64 cco) zn2) w.heap.size 4 (.slice va vn vc) zn2) w.heap.size 5 (.slice sa sn sc) zn2) (w.heap.size+1) 0 (.int .i64 0) (by omega)) (w.heap.size+1) 1 (.int .i64 0) (by omega))⟩
  ·have hv:=HRES.out
   rw [if_neg (by rw [hb];exact hz),h7 (by rw [hb];exact hz),hb] at hv
   have i1:(b == 0)=false:=by simpa using hz
   unfold zak at hv
   cases hr:r2.1 with
   | nil=>
    rw [hr] at h5 hv
    have hn:=drop_nil h5 h6
    have HV:Hid ((noC,(eL,eC),b)=RES):=hv
    have i2:(n == ws.length)=true:=by simpa using hn
    have i3:((n:Int) == (ws.length:Int))=true:=by simp [hn]
    clear hL h5 h6 h7 hr HRES hz hv hn
    go_upto_region 10 with fail
    go_region_law (first
     | (go_simp;(with_reducible refine (hEn _).mono ?_);rintro e w6 ⟨rfl,b6⟩;have b6':=((Below.refl w5.heap.size w5).drew).trans b6;have hA6:=hA5.on b6';have hP6:=hP5.on b6';have hb6:=hb5.trans (b6'.mono hb5.size);have c2':w6.cell? ⟨X,2,none⟩=some (.int .i64 b):=((b6'.cell (p:=⟨X,2,none⟩) hp5.lt).trans c2);obtain ⟨u0,x0⟩:=hA6 0 _ rfl;obtain ⟨u1,x1⟩:=hA6 1 _ rfl;obtain ⟨u2,x2⟩:=hA6 2 _ rfl;obtain ⟨u3,x3⟩:=hA6 3 _ rfl;obtain ⟨u4,x4⟩:=hA6 4 _ rfl;obtain ⟨u5,x5⟩:=hA6 5 _ rfl;obtain ⟨y0,z0⟩:=hP6 0 _ rfl;obtain ⟨y1,z1⟩:=hP6 1 _ rfl)
     | fail)
    all_goals (
     go_wp2
     have hvv:=HV.out
     subst hvv
     exact bodyPost_ret (zdr ((((((((hA6.set (i:=0) (by simp) (.string ⟨#[]⟩)).set (i:=1) (by simp) (.int .i64 0)).set (i:=2) (by simp) (.int .i64 0)).set (i:=3) (by simp) (.int .i64 0)).set (i:=4) (by simp) (.slice none 0 0)).set (i:=5) (by simp) (.slice none 0 0)).far (X:=w.heap.size+1) (i:=0) (by omega) (.int .i64 eL)).far (X:=w.heap.size+1) (i:=1) (by omega) (.int .i64 eC)) ((((((((hP6.far (X:=w.heap.size) (i:=0) (by omega) (.string ⟨#[]⟩)).far (X:=w.heap.size) (i:=1) (by omega) (.int .i64 0)).far (X:=w.heap.size) (i:=2) (by omega) (.int .i64 0)).far (X:=w.heap.size) (i:=3) (by omega) (.int .i64 0)).far (X:=w.heap.size) (i:=4) (by omega) (.slice none 0 0)).far (X:=w.heap.size) (i:=5) (by omega) (.slice none 0 0)).set (i:=0) (by simp) (.int .i64 eL)).set (i:=1) (by simp) (.int .i64 eC)) rfl rfl rfl) rfl ⟨_,rfl,zhL _ _,(zf (zf (zf (zf (zf (zf (zf (zf hb6 w.heap.size 0 (.string ⟨#[]⟩) zn2) w.heap.size 1 (.int .i64 0) zn2) w.heap.size 2 (.int .i64 0) zn2) w.heap.size 3 (.int .i64 0) zn2) w.heap.size 4 (.slice none 0 0) zn2) w.heap.size 5 (.slice none 0 0) zn2) (w.heap.size+1) 0 (.int .i64 eL) (by omega)) (w.heap.size+1) 1 (.int .i64 eC) (by omega))⟩)
   | cons x l=>
    rw [hr] at h5 hv
    obtain ⟨hn,_,hx⟩:=zbv h5
    obtain ⟨g,off,rfl,hg,d0,d1,d2,d3⟩:=hL n hn
    have hg2:=hga g off rfl
    have hg3:¬ g=w.heap.size:=by omega
    have hg4:¬ w.heap.size=g:=by omega
    have hg5:¬ g=w.heap.size+1:=by omega
    have hg6:¬ w.heap.size+1=g:=by omega
    have hg7:¬ X=w.heap.size:=by omega
    have hg8:¬ w.heap.size=X:=by omega
    have hg9:¬ X=w.heap.size+1:=by omega
    have hg10:¬ w.heap.size+1=X:=by omega
    rw [hx hn] at d0 d1 d2 d3
    obtain ⟨K,seg,xl,xc⟩:=x
    simp only at d0 d1 d2 d3
    have HV:Hid ((noC,(xl,xc),b)=RES):=hv
    have i2:((n:Int) == (ws.length:Int))=false:=by simp;omega
    have i3:(n:Int) < (ws.length:Int):=by omega
    have i4:(0:Int)<=(n:Int):=by omega
    clear hL h5 h6 h7 hr HRES hz hv hx
    go_upto_region 11 with fail
    go_region
    go_wp2
    have hvv:=HV.out
    subst hvv
    exact bodyPost_ret (zdr (((((((((hA5.set (i:=0) (by simp) (.string ⟨#[]⟩)).set (i:=1) (by simp) (.int .i64 0)).set (i:=2) (by simp) (.int .i64 0)).set (i:=3) (by simp) (.int .i64 0)).set (i:=4) (by simp) (.slice none 0 0)).set (i:=5) (by simp) (.slice none 0 0)).far (X:=w.heap.size+1) (i:=0) (by omega) (.int .i64 xl)).far (X:=w.heap.size+1) (i:=1) (by omega) (.int .i64 xc)).drew) (((((((((hP5.far (X:=w.heap.size) (i:=0) (by omega) (.string ⟨#[]⟩)).far (X:=w.heap.size) (i:=1) (by omega) (.int .i64 0)).far (X:=w.heap.size) (i:=2) (by omega) (.int .i64 0)).far (X:=w.heap.size) (i:=3) (by omega) (.int .i64 0)).far (X:=w.heap.size) (i:=4) (by omega) (.slice none 0 0)).far (X:=w.heap.size) (i:=5) (by omega) (.slice none 0 0)).set (i:=0) (by simp) (.int .i64 xl)).set (i:=1) (by simp) (.int .i64 xc)).drew) rfl rfl rfl) rfl ⟨_,rfl,zhL _ _,(zf (zf (zf (zf (zf (zf (zf (zf hb5 w.heap.size 0 (.string ⟨#[]⟩) zn2) w.heap.size 1 (.int .i64 0) zn2) w.heap.size 2 (.int .i64 0) zn2) w.heap.size 3 (.int .i64 0) zn2) w.heap.size 4 (.slice none 0 0) zn2) w.heap.size 5 (.slice none 0 0) zn2) (w.heap.size+1) 0 (.int .i64 xl) (by omega)) (w.heap.size+1) 1 (.int .i64 xc) (by omega)).drew⟩
theorem Tryz.infoVarD:(Tryz.prog.info? 50).map (fun i=>(i.zero,i.size,i.bytes))=some (some (.agg #[.string ⟨#[]⟩,.int .i64 0,.int .i64 0,.int .i64 0]),4,40):=by kernel_rfl
def zah:(d:Nat)->List (St d)->Nat
 | 0,_=>0
 | d+1,l=>(l.map (fun t=>1+zah d t.2)).sum
def SmX (x:Sx):Prop:=0<=sml x.1 x.2 0 200
def OnS (o:OnC):Prop:=o.1.length<=20050/\o.2.2.1.length<=20050/\SmX o.2.1.2/\o.2.2.2.1.length<=400/\∀ s∈o.2.2.2.1,s.1.length<=1000/\SmX s.2
def HdS (h:HdC):Prop:=h.1.1.length<=20050/\h.2.2.1.1.length<=20050/\h.2.2.1.2.length<=20050/\h.2.2.2.2.length<=400/\∀ o∈h.2.2.2.2,OnS o
def SmS:(d:Nat)->St d->Prop
 | 0,t=>Empty.elim t
 | d+1,t=>HdS t.1/\∀ x∈t.2,SmS d x
theorem zkl {d:Nat}(l:List (St (d+1))) (t:St (d+1)):zah (d+1) (l++[t])=zah (d+1) l+(1+zah d t.2):=by
 show ((l++[t]).map (fun t:St (d+1)=>1+zah d t.2)).sum=_
 rw [List.map_append,List.sum_append];simp;rfl
theorem zfW {ok:Nat->Prop}{w:World}{l:List OnC}{a:Option Addr}{n cap:Nat}(h:RdK ok w 10 (zba ok w) l (.slice a n cap)) (j:Nat) (hj:j < l.length):∃ b off c0 c1 c2 c3 s1 s3,a=some ⟨b,off,none⟩/\ok b/\b < w.heap.size/\RdX ok w l[j].2.1.2 (.agg #[c0,c1,c2,c3])/\RdK ok w 5 (zbf ok w) l[j].2.2.2.1 (.slice s1 l[j].2.2.2.1.length s3)/\∀ i u,[sD l[j].1,.bool l[j].2.1.1,c0,c1,c2,c3,sD l[j].2.2.1,.slice s1 l[j].2.2.2.1.length s3,.int .i64 l[j].2.2.2.2.1,.int .i64 l[j].2.2.2.2.2][i]?=some u->w.cell? ⟨b,off+j*10+i,none⟩=some u:=by
 obtain ⟨a1,cap1,he,h1,h2,h3⟩:=h
 simp only [Value.slice.injEq] at he
 obtain ⟨rfl,rfl,rfl⟩:=he
 obtain ⟨b,off,cs,ha,ho,hb,hl,⟨c0,c1,c2,c3,sl,rfl,hx,hs⟩,hc⟩:=h3 j hj
 obtain ⟨s1,s3,rfl,_⟩:=hs.form
 exact ⟨b,off,c0,c1,c2,c3,s1,s3,ha,ho,hb,hx,hs,hc⟩
theorem zfC {ok:Nat->Prop}{w:World}{l:List (List UInt8 × Sx)}{a:Option Addr}{n cap:Nat}(h:RdK ok w 5 (zbf ok w) l (.slice a n cap)) (j:Nat) (hj:j < l.length):∃ b off c0 c1 c2 c3,a=some ⟨b,off,none⟩/\ok b/\b < w.heap.size/\RdX ok w l[j].2 (.agg #[c0,c1,c2,c3])/\∀ i u,[sD l[j].1,c0,c1,c2,c3][i]?=some u->w.cell? ⟨b,off+j*5+i,none⟩=some u:=by
 obtain ⟨a1,cap1,he,h1,h2,h3⟩:=h
 simp only [Value.slice.injEq] at he
 obtain ⟨rfl,rfl,rfl⟩:=he
 obtain ⟨b,off,cs,ha,ho,hb,hl,⟨c0,c1,c2,c3,rfl,hx⟩,hc⟩:=h3 j hj
 exact ⟨b,off,c0,c1,c2,c3,ha,ho,hb,hx,hc⟩
theorem zfz {ok:Nat->Prop}{w:World}{d:Nat}{l:List (St (d+1))}{a:Option Addr}{n cap:Nat}(h:RdK ok w 11 (zad (d+1) ok w) l (.slice a n cap)) (j:Nat) (hj:j < l.length):∃ b off p1 p3 p4 p6,a=some ⟨b,off,none⟩/\ok b/\b < w.heap.size/\RdK ok w 10 (zba ok w) l[j].1.2.2.2.2 (.slice p1 l[j].1.2.2.2.2.length p3)/\RdK ok w 11 (zad d ok w) l[j].2 (.slice p4 l[j].2.length p6)/\∀ i u,(hdD l[j].1 (.slice p1 l[j].1.2.2.2.2.length p3) (.slice p4 l[j].2.length p6))[i]?=some u->w.cell? ⟨b,off+j*11+i,none⟩=some u:=by
 obtain ⟨a1,cap1,he,h1,h2,h3⟩:=h
 simp only [Value.slice.injEq] at he
 obtain ⟨rfl,rfl,rfl⟩:=he
 obtain ⟨b,off,cs,ha,ho,hb,hl,⟨so,si,rfl,hs,hi⟩,hc⟩:=h3 j hj
 obtain ⟨s1,s3,rfl,_⟩:=hs.form
 obtain ⟨s4,s6,rfl,_⟩:=hi.form
 exact ⟨b,off,s1,s3,s4,s6,ha,ho,hb,hs,hi,hc⟩
theorem zlA (h:HdC):∃ (sn:ByteArray) (sl sc:Int) (sb se:Bool) (sd su:ByteArray) (sw sr:Int),hdD h=(fun so si=>[.string sn,.int .i64 sl,.int .i64 sc,.bool sb,.bool se,.string sd,.string su,.int .i64 sw,.int .i64 sr,so,si])/\sn.size=h.1.1.length/\sd.size=h.2.2.1.1.length/\su.size=h.2.2.1.2.length:=
 ⟨⟨h.1.1.toArray⟩,h.1.2.1,h.1.2.2,h.2.1.1,h.2.1.2,⟨h.2.2.1.1.toArray⟩,⟨h.2.2.1.2.toArray⟩,h.2.2.2.1.1,h.2.2.2.1.2,rfl,(by show h.1.1.toArray.size=_;simp),(by show h.2.2.1.1.toArray.size=_;simp),(by show h.2.2.1.2.toArray.size=_;simp)⟩
theorem zcn {ok:Nat->Prop}{w:World}{x:Sx}{c0 c1 c2 c3:Value}(h:RdX ok w x (.agg #[c0,c1,c2,c3])):∃ (x1 x2:Int) (x3:ByteArray) (x4:Option Addr) (x5 x6:Nat),c0=.int .i64 x1/\c1=.int .i64 x2/\c2=.string x3/\c3=.slice x4 x5 x6:=by
 obtain ⟨d,t⟩:=x
 cases d with
 | zero=>exact Empty.elim t
 | succ d=>
  obtain ⟨sl,e,hp⟩:=h
  obtain ⟨a,cap,rfl,_⟩:=hp
  simp only [Value.agg.injEq,Array.mk.injEq,List.cons.injEq,and_true] at e
  exact ⟨_,_,_,_,_,_,e.1,e.2.1,e.2.2.1,e.2.2.2⟩
def SmC (d:Nat):Prop:=∀ (ok:Nat->Prop) (w:World) (l:List (St d)) (v:Value) (dep:Nat) (left:Int),RdK ok w 11 (zad d ok w) l v->l.length<=140737488351232->(∀ t∈l,WfS d t)->dep<=16->0<=left->left<=400->
 Calls Tryz.prog 14 #[v,.int .i64 (dep:Int),.int .i64 left] w fun e w'=>∃ r:Int,e=.returned (.int .i64 r)/\(r = -1∨(0<=r/\r+(zah d l:Nat)<=left/\∀ t∈l,SmS d t))/\Below w.heap.size w w'
theorem zl4 (d:Nat) (IH:SmC d):SmC (d+1):=by
 intro ok w l v dep left h hln hwf hdep hl0 hl4
 obtain ⟨a,cap,rfl,hlc,hcm⟩:=h.form
 unfold maxLen at hcm
 have HC:=zm h
 have HWF:=zm hwf
 obtain ⟨n,hn⟩:∃ n,l.length=n:=⟨_,rfl⟩
 rw [hn] at hlc hln ⊢
 have HN:Hid (l.length=n):=hn
 clear h hwf hn
 by_cases hd15:15 < dep
 ·have i0:(15:Int) < (dep:Int):=by omega
  go_enter Tryz.func14,Tryz.ntmps14
  go_wp2
  go_ret
  exact ⟨-1,rfl,.inl rfl,Below.refl _ _⟩
 have i0:¬ (15:Int) < (dep:Int):=by omega
 go_enter Tryz.func14,Tryz.ntmps14
 go_wp2
 go_loopw [2,15] (fun t2 ix wr=>∃ (j:Nat) (lf:Int),j<=n/\ix=.int .i64 (j:Int)/\t2=.int .i64 lf/\0<=lf/\lf<=400/\Hid (lf+(zah (d+1) (l.take j):Nat)<=left/\∀ t∈l.take j,SmS (d+1) t)/\Below w.heap.size w wr) (fun _ ix _=>n - (RowKit.intOf ix).toNat)
 case atStart=>exact ⟨0,left,Nat.zero_le _,rfl,rfl,hl0,hl4,⟨by simp [zah],fun t ht=>by simp at ht⟩,Below.refl _ _⟩
 case round=>
  obtain ⟨j,lf,hj,rfl,rfl,hf0,hf4,HI,hb⟩:=hrel
  by_cases hlt:j < n
  ·have hjl:j < l.length:=by rw [HN.out];exact hlt
   obtain ⟨b,off,p1,p3,p4,p6,rfl,_,hbl,hOn,hIn,hc⟩:=zfz HC.out j hjl
   have hwt:=HWF.out _ (List.getElem_mem hjl)
   obtain ⟨t,ht⟩:∃ t,l[j]=t:=⟨_,rfl⟩
   rw [ht] at hOn hIn hc hwt
   have HT:=zm ht
   obtain ⟨_,_,⟨wn,wd,wu,wo,wO⟩,wi,wI⟩:=hwt
   obtain ⟨sn,sl,sc,sb,se,sd,su,sw,sr,hsv,hz1,hz2,hz3⟩:=zlA t.1
   rw [hsv] at hc
   obtain ⟨m,hm⟩:∃ m,t.1.2.2.2.2.length=m:=⟨_,rfl⟩
   obtain ⟨i,hi⟩:∃ m,t.2.length=m:=⟨_,rfl⟩
   rw [hm] at hOn hc wo
   rw [hi] at hIn hc wi
   rw [<- hz1] at wn
   rw [<- hz2] at wd
   rw [<- hz3] at wu
   have C0:=(hb.cell (p:=⟨b,off+j*11+0,none⟩) hbl).trans (hc 0 _ rfl)
   have C5:=(hb.cell (p:=⟨b,off+j*11+5,none⟩) hbl).trans (hc 5 _ rfl)
   have C6:=(hb.cell (p:=⟨b,off+j*11+6,none⟩) hbl).trans (hc 6 _ rfl)
   have C9:=(hb.cell (p:=⟨b,off+j*11+9,none⟩) hbl).trans (hc 9 _ rfl)
   have C10:=(hb.cell (p:=⟨b,off+j*11+10,none⟩) hbl).trans (hc 10 _ rfl)
   rw [Nat.add_zero] at C0
   have HZ:Hid (sn.size=t.1.1.1.length/\sd.size=t.1.2.2.1.1.length/\su.size=t.1.2.2.1.2.length):=⟨hz1,hz2,hz3⟩
   have HM:Hid (t.1.2.2.2.2.length=m):=hm
   have HOn:=zm hOn
   have HWO:=zm wO
   have hcall:=fun (x:Int) (hx0:0<=x) (hx4:x<=400) w1 (b1:Below w.heap.size w w1)=>IH ok w1 t.2 (.slice p4 i p6) (dep+1) x (hIn.stay (zy d) (fun k hk hl=>⟨hk,b1.block k hl⟩)) (by rw [hi];exact wi) wI (by omega) hx0 hx4
   simp only [Int.natCast_add] at hcall
   obtain ⟨_,_,heo,hco,hmo⟩:=hOn.form
   simp only [Value.slice.injEq] at heo
   obtain ⟨rfl,hx0,rfl⟩:=heo
   clear hx0
   rw [hm] at hco
   unfold maxLen at hmo
   have HC9:Hid (w.cell? ⟨b,off+j*11+9,none⟩=some (.slice p1 m p3)):=hc 9 _ rfl
   have HC10:Hid (w.cell? ⟨b,off+j*11+10,none⟩=some (.slice p4 i p6)):=hc 10 _ rfl
   clear hz1 hz2 hz3 hm hOn hIn hi hsv hc ht wO wI
   have i1:(j:Int) < (n:Int):=by omega
   have i2:(0:Int)<=(j:Int):=by omega
   go_upto_region 6 with fail
   go_quiet (fail)
   have hbn:Below w.heap.size w (wr.drewN nq):=hb.trans ⟨rfl,rfl,rfl,Nat.le_refl _,fun _ _=>rfl⟩
   have C9:(wr.drewN nq).cell? ⟨b,off+j*11+9,none⟩=some (.slice p1 m p3):=C9
   have C10:(wr.drewN nq).cell? ⟨b,off+j*11+10,none⟩=some (.slice p4 i p6):=C10
   clear C0 C5 C6 hb
   generalize wr.drewN nq=wq at *
   generalize hl2:lf - 1 - (m:Int) - (sn.size:Int) / 50 - (sd.size:Int) / 50 - (su.size:Int) / 50=lf2
   by_cases hneg:lf2 < 0
   ·clear hl2
    go_wp2
    go_ret
    exact ⟨-1,rfl,.inl rfl,hbn⟩
   have hl24:lf2<=400:=by omega
   have HL2:=zm hl2
   have HBS:Hid (sn.size<=20050/\sd.size<=20050/\su.size<=20050/\m<=400):=by
    show _/\_
    omega
   have hlf2:lf2+1<=lf:=by omega
   have hm4:m<=400:=HBS.out.2.2.2
   clear hl2 wn wd wu
   go_wp2
   go_loopw [2,59] (fun t2 ix wr=>∃ (g:Nat) (lf3:Int),g<=m/\ix=.int .i64 (g:Int)/\t2=.int .i64 lf3/\0<=lf3/\lf3<=lf2/\Hid (∀ o∈t.1.2.2.2.2.take g,OnS o)/\Below w.heap.size w wr) (fun _ ix _=>m - (RowKit.intOf ix).toNat)
   case atStart=>exact ⟨0,lf2,Nat.zero_le _,rfl,rfl,by omega,Int.le_refl _,(show Hid _ from fun o ho=>by simp at ho),hbn⟩
   case round=>
    clear C9 C10 hbn
    obtain ⟨g,lf3,hg,rfl,rfl,hf30,hf3,HO,hb2⟩:=hrel
    by_cases hgl:g < m
    ·have hgt:g < t.1.2.2.2.2.length:=by rw [HM.out];exact hgl
     obtain ⟨bo,oo,c0,c1,c2,c3,s1,s3,rfl,_,hbo,hXr,hSe,hco⟩:=zfW HOn.out g hgt
     have hwo:=HWO.out _ (List.getElem_mem hgt)
     obtain ⟨o,ho⟩:∃ o,t.1.2.2.2.2[g]=o:=⟨_,rfl⟩
     rw [ho] at hXr hSe hco hwo
     have HOO:=zm ho
     obtain ⟨x1,x2,x3,x4,x5,x6,rfl,rfl,rfl,rfl⟩:=zcn hXr
     obtain ⟨ns,hns⟩:∃ m,o.2.2.2.1.length=m:=⟨_,rfl⟩
     obtain ⟨ev,he1,_,he2⟩:∃ e:ByteArray,sD o.1=.string e/\True/\e.size=o.1.length:=⟨⟨o.1.toArray⟩,rfl,trivial,(by show o.1.toArray.size=_;simp)⟩
     obtain ⟨tg,hg1,_,hg2⟩:∃ e:ByteArray,sD o.2.2.1=.string e/\True/\e.size=o.2.2.1.length:=⟨⟨o.2.2.1.toArray⟩,rfl,trivial,(by show o.2.2.1.toArray.size=_;simp)⟩
     obtain ⟨gb,hgb⟩:∃ x,o.2.1.1=x:=⟨_,rfl⟩
     obtain ⟨ol,hol⟩:∃ x,o.2.2.2.2.1=x:=⟨_,rfl⟩
     obtain ⟨oc,hoc⟩:∃ x,o.2.2.2.2.2=x:=⟨_,rfl⟩
     obtain ⟨v1,v2,v3,v4⟩:=hwo
     rw [hns] at hSe hco v3
     rw [he1,hg1,hgb,hol,hoc] at hco
     rw [<- he2] at v1
     rw [<- hg2] at v2
     have C9:=(hb2.cell (p:=⟨b,off+j*11+9,none⟩) hbl).trans HC9.out
     have O0:=(hb2.cell (p:=⟨bo,oo+g*10+0,none⟩) hbo).trans (hco 0 _ rfl)
     have O1:=(hb2.cell (p:=⟨bo,oo+g*10+1,none⟩) hbo).trans (hco 1 _ rfl)
     have O2:=(hb2.cell (p:=⟨bo,oo+g*10+2,none⟩) hbo).trans (hco 2 _ rfl)
     have O3:=(hb2.cell (p:=⟨bo,oo+g*10+3,none⟩) hbo).trans (hco 3 _ rfl)
     have O4:=(hb2.cell (p:=⟨bo,oo+g*10+4,none⟩) hbo).trans (hco 4 _ rfl)
     have O5:=(hb2.cell (p:=⟨bo,oo+g*10+5,none⟩) hbo).trans (hco 5 _ rfl)
     have O6:=(hb2.cell (p:=⟨bo,oo+g*10+6,none⟩) hbo).trans (hco 6 _ rfl)
     have O7:=(hb2.cell (p:=⟨bo,oo+g*10+7,none⟩) hbo).trans (hco 7 _ rfl)
     have O8:=(hb2.cell (p:=⟨bo,oo+g*10+8,none⟩) hbo).trans (hco 8 _ rfl)
     have O9:=(hb2.cell (p:=⟨bo,oo+g*10+9,none⟩) hbo).trans (hco 9 _ rfl)
     rw [Nat.add_zero] at O0
     have HEV:Hid (ev.size=o.1.length/\tg.size=o.2.2.1.length):=⟨he2,hg2⟩
     have HNS:Hid (o.2.2.2.1.length=ns):=hns
     have HSE:=zm hSe
     have hsm:=fun w1 (b1:Below w.heap.size w w1)=>zcs (hXr.keep (ok':=ok) (fun k hk hl=>⟨hk,b1.block k hl⟩):RdX ok w1 o.2.1.2 _)
     obtain ⟨gs,hgs⟩:∃ x,decide (0<=sml o.2.1.2.1 o.2.1.2.2 0 200)=x:=⟨_,rfl⟩
     rw [hgs] at hsm
     have HGS:=zm hgs
     obtain ⟨_,_,hes,hcs,hms⟩:=hSe.form
     simp only [Value.slice.injEq] at hes
     obtain ⟨rfl,hx0,rfl⟩:=hes
     clear hx0
     rw [hns] at hcs
     unfold maxLen at hms
     clear he1 he2 hg1 hg2 hgb hol hoc hns ho hSe hco hXr hgs v4
     have i3:(g:Int) < (m:Int):=by omega
     have i4:(0:Int)<=(g:Int):=by omega
     have hal:Below wr.heap.size wr (wr.alloc (.cells #[.string ev,.bool gb,.int .i64 x1,.int .i64 x2,.string x3,.slice x4 x5 x6,.string tg,.slice s1 ns s3,.int .i64 ol,.int .i64 oc] 82)):=zn3.alloc zn2 _
     have hX:Bn (wr.alloc (.cells #[.string ev,.bool gb,.int .i64 x1,.int .i64 x2,.string x3,.slice x4 x5 x6,.string tg,.slice s1 ns s3,.int .i64 ol,.int .i64 oc] 82)) wr.heap.size [.string ev,.bool gb,.int .i64 x1,.int .i64 x2,.string x3,.slice x4 x5 x6,.string tg,.slice s1 ns s3,.int .i64 ol,.int .i64 oc]:=Bn.new wr [.string ev,.bool gb,.int .i64 x1,.int .i64 x2,.string x3,.slice x4 x5 x6,.string tg,.slice s1 ns s3,.int .i64 ol,.int .i64 oc] 82 _ rfl
     have hb3:=hb2.trans (hal.mono hb2.size)
     have hsm1:=hsm _ hb3
     clear hcall
     go_upto_region 13 with fail
     clear C9 O0 O1 O2 O3 O4 O5 O6 O7 O8 O9
     generalize (wr.alloc (.cells #[.string ev,.bool gb,.int .i64 x1,.int .i64 x2,.string x3,.slice x4 x5 x6,.string tg,.slice s1 ns s3,.int .i64 ol,.int .i64 oc] 82))=wx at *
     have z0:=(hX 0 _ rfl).1
     have z1:=(hX 1 _ rfl).1
     have z2:=(hX 2 _ rfl).1
     have z3:=(hX 3 _ rfl).1
     have z4:=(hX 4 _ rfl).1
     have z5:=(hX 5 _ rfl).1
     have z6:=(hX 6 _ rfl).1
     have z7:=(hX 7 _ rfl).1
     have z8:=(hX 8 _ rfl).1
     have z9:=(hX 9 _ rfl).1
     have hXl:=hX.lt
     obtain ⟨XO,hXO⟩:∃ x,wr.heap.size=x:=⟨_,rfl⟩
     rw [hXO] at hX hXl z0 z1 z2 z3 z4 z5 z6 z7 z8 z9 ⊢
     clear hal hXO hb2
     by_cases hneg4:lf3 - (ns:Int) - (ev.size:Int) / 50 - (tg.size:Int) / 50 < 0
     ·go_wp2
      go_ret
      exact ⟨-1,rfl,.inl rfl,hb3⟩
     have hneg5:0<=lf3 - (ns:Int) - (ev.size:Int) / 50 - (tg.size:Int) / 50:=by omega
     have HB5:Hid (ns<=400/\ev.size<=20050/\tg.size<=20050):=by show _/\_;omega
     have hns4:ns<=400:=HB5.out.1
     cases gs with
     | false=>
      go_wp2_with (first
       | (go_at_call 32;refine hsm1.mono ?_;rintro e w5 ⟨rfl,b5⟩)
       | fail)
      go_ret
      exact ⟨-1,rfl,.inl rfl,hb3.trans (b5.mono hb3.size)⟩
     | true=>
      go_upto_region 16 with (first
       | (go_at_call 32;refine hsm1.mono ?_;rintro e w5 ⟨rfl,b5⟩)
       | fail)
      clear z0 z1 z2 z3 z4 z5 z6 z7 z8 z9 hsm1 hsm
      have hb5:=hb3.trans (b5.mono hb3.size)
      have hX5:=hX.on b5
      have z7:=(hX5 7 _ rfl).1
      clear hX hb3 b5
      go_wp2
      obtain ⟨lf4,hlf4⟩:∃ x,lf3 - (ns:Int) - (ev.size:Int) / 50 - (tg.size:Int) / 50=x:=⟨_,rfl⟩
      have h43:lf4<=lf3:=by omega
      rw [hlf4] at hneg5 ⊢
      clear hlf4 hneg4 v1 v2
      go_loopw [96] (fun ix wr=>∃ (h:Nat),h<=ns/\ix=.int .i64 (h:Int)/\Hid (∀ s∈o.2.2.2.1.take h,s.1.length<=1000/\SmX s.2)/\Below w5.heap.size w5 wr) (fun ix _=>ns - (RowKit.intOf ix).toNat)
      case atStart=>exact ⟨0,Nat.zero_le _,rfl,(show Hid _ from fun s hs=>by simp at hs),Below.refl _ _⟩
      case round=>
       clear z7
       obtain ⟨h,hh,rfl,HSS,hb6⟩:=hrel
       have hbr:=hb5.trans (hb6.mono hb5.size)
       obtain ⟨z7,_⟩:=(hX5.on hb6) 7 _ rfl
       by_cases hhl:h < ns
       ·have hht:h < o.2.2.2.1.length:=by rw [HNS.out];exact hhl
        obtain ⟨bs,os,c0,c1,c2,c3,rfl,_,hbs,hXr,hcs2⟩:=zfC HSE.out h hht
        obtain ⟨q,hq⟩:∃ q,o.2.2.2.1[h]=q:=⟨_,rfl⟩
        rw [hq] at hXr hcs2
        have HQ:=zm hq
        obtain ⟨y1,y2,y3,y4,y5,y6,rfl,rfl,rfl,rfl⟩:=zcn hXr
        obtain ⟨nm,he1,_,he2⟩:∃ e:ByteArray,sD q.1=.string e/\True/\e.size=q.1.length:=⟨⟨q.1.toArray⟩,rfl,trivial,(by show q.1.toArray.size=_;simp)⟩
        rw [he1] at hcs2
        have HNM:=zm he2
        have S0:=(hbr.cell (p:=⟨bs,os+h*5+0,none⟩) hbs).trans (hcs2 0 _ rfl)
        have S1:=(hbr.cell (p:=⟨bs,os+h*5+1,none⟩) hbs).trans (hcs2 1 _ rfl)
        have S2:=(hbr.cell (p:=⟨bs,os+h*5+2,none⟩) hbs).trans (hcs2 2 _ rfl)
        have S3:=(hbr.cell (p:=⟨bs,os+h*5+3,none⟩) hbs).trans (hcs2 3 _ rfl)
        have S4:=(hbr.cell (p:=⟨bs,os+h*5+4,none⟩) hbs).trans (hcs2 4 _ rfl)
        rw [Nat.add_zero] at S0
        have hsm2:=zcs (hXr.keep (ok':=ok) (fun k hk hl=>⟨hk,hbr.block k hl⟩):RdX ok wr q.2 _)
        obtain ⟨ss,hss⟩:∃ x,decide (0<=sml q.2.1 q.2.2 0 200)=x:=⟨_,rfl⟩
        rw [hss] at hsm2
        have HS2:=zm hss
        clear hss he1 he2 hq hXr hcs2
        have i5:(h:Int) < (ns:Int):=by omega
        have i6:(0:Int)<=(h:Int):=by omega
        cases ss with
        | false=>
         go_wp2_with (first
          | (go_at_call 32;refine hsm2.mono ?_;rintro e w7 ⟨rfl,b7⟩)
          | fail)
         go_ret
         exact ⟨-1,rfl,.inl rfl,hbr.trans (b7.mono hbr.size)⟩
        | true=>
         by_cases h1000:1000 < nm.size
         ·have i7:(1000:Int) < (nm.size:Int):=by omega
          go_wp2_with (first
           | (go_at_call 32;refine hsm2.mono ?_;rintro e w7 ⟨rfl,b7⟩;have z7:=(b7.cell (p:=⟨XO,7,none⟩) (hX5.on hb6).lt).trans z7;have S0:=(b7.cell (p:=⟨bs,os+h*5,none⟩) (zn4 hbs hbr.size)).trans S0)
           | fail)
          go_ret
          exact ⟨-1,rfl,.inl rfl,hbr.trans (b7.mono hbr.size)⟩
         ·have i7:¬ (1000:Int) < (nm.size:Int):=by omega
          go_wp2_with (first
           | (go_at_call 32;refine hsm2.mono ?_;rintro e w7 ⟨rfl,b7⟩;have z7:=(b7.cell (p:=⟨XO,7,none⟩) (hX5.on hb6).lt).trans z7;have S0:=(b7.cell (p:=⟨bs,os+h*5,none⟩) (zn4 hbs hbr.size)).trans S0)
           | fail)
          go_roundw
          case rel=>
           refine ⟨h+1,hhl,by go_num,?_,hb6.trans (b7.mono hb6.size)⟩
           show ∀ s∈o.2.2.2.1.take (h+1),_
           rw [List.take_succ_eq_append_getElem hht,HQ.out]
           intro s hs
           rcases List.mem_append.1 hs with hs|hs
           ·exact HSS.out s hs
           ·rw [List.mem_singleton.1 hs]
            exact ⟨by rw [<- HNM.out];omega,(show 0<=sml q.2.1 q.2.2 0 200 from of_decide_eq_true HS2.out)⟩
          case measure=>simp [RowKit.intOf];omega
       ·have i5:¬ (h:Int) < (ns:Int):=by omega
        have hfull:o.2.2.2.1.take h=o.2.2.2.1:=List.take_of_length_le (by rw [HNS.out];omega)
        have hS:=HSS.out
        rw [hfull] at hS
        have hoS:OnS o:=⟨by rw [<- HEV.out.1];exact HB5.out.2.1,by rw [<- HEV.out.2];exact HB5.out.2.2,(show 0<=sml o.2.1.2.1 o.2.1.2.2 0 200 from of_decide_eq_true HGS.out),by rw [HNS.out];exact hns4,hS⟩
        go_wp2
        go_roundw
        case rel=>
         refine ⟨g+1,lf4,hgl,by go_num,rfl,hneg5,by omega,?_,hbr⟩
         show ∀ s∈t.1.2.2.2.2.take (g+1),_
         rw [List.take_succ_eq_append_getElem hgt,HOO.out]
         intro s hs
         rcases List.mem_append.1 hs with hs|hs
         ·exact HO.out s hs
         ·rw [List.mem_singleton.1 hs];exact hoS
        case measure=>simp [RowKit.intOf];omega
    ·have i3:¬ (g:Int) < (m:Int):=by omega
     have hfull:t.1.2.2.2.2.take g=t.1.2.2.2.2:=List.take_of_length_le (by rw [HM.out];omega)
     have hO:=HO.out
     rw [hfull] at hO
     have HHD:Hid (HdS t.1):=⟨by rw [<- HZ.out.1];exact HBS.out.1,by rw [<- HZ.out.2.1];exact HBS.out.2.1,by rw [<- HZ.out.2.2];exact HBS.out.2.2.1,by rw [HM.out];exact hm4,hO⟩
     have C10:=(hb2.cell (p:=⟨b,off+j*11+10,none⟩) hbl).trans HC10.out
     have hc1:=hcall lf3 hf30 (by omega) wr hb2
     clear hcall hO hfull
     go_upto_region 24 with (first
      | (go_at_call 14;refine hc1.mono ?_;rintro e w5 ⟨r,rfl,hr,b5⟩)
      | fail)
     have hb5:=hb2.trans (b5.mono hb2.size)
     rcases hr with rfl|⟨hr0,hr1,hr2⟩
     ·go_wp2
      go_ret
      exact ⟨-1,rfl,.inl rfl,hb5⟩
     ·have hr3:¬ r < 0:=by omega
      have HR:=zm hr1
      have hr4:r<=lf3:=by omega
      clear hr1
      go_wp2
      go_roundw
      case rel=>
       refine ⟨j+1,r,hlt,by go_num,rfl,hr0,by omega,?_,hb5⟩
       show _/\∀ s∈l.take (j+1),_
       rw [List.take_succ_eq_append_getElem hjl,HT.out,zkl]
       have q1:=HI.out.1
       have q2:=HR.out
       refine ⟨by omega,fun s hs=>?_⟩
       rcases List.mem_append.1 hs with hs|hs
       ·exact HI.out.2 s hs
       ·rw [List.mem_singleton.1 hs]
        exact ⟨HHD.out,hr2⟩
      case measure=>simp [RowKit.intOf];omega
  ·have i1:¬ (j:Int) < (n:Int):=by omega
   have hjn:l.take j=l:=List.take_of_length_le (by rw [HN.out];omega)
   have hI:=HI.out
   rw [hjn] at hI
   go_wp2
   go_ret
   exact ⟨lf,rfl,.inr ⟨hf0,hI.1,hI.2⟩,hb⟩
theorem zlE:SmC 0:=by
 intro ok w l v dep left h hln hwf hdep hl0 hl4
 cases l with
 | cons x _=>exact Empty.elim x
 | nil=>
  obtain ⟨a,cap,rfl,_⟩:=h.form
  simp only [List.length_nil]
  clear h
  by_cases hd15:15 < dep
  ·have i0:(15:Int) < (dep:Int):=by omega
   go_enter Tryz.func14,Tryz.ntmps14
   go_wp2
   go_ret
   exact ⟨-1,rfl,.inl rfl,Below.refl _ _⟩
  have i0:¬ (15:Int) < (dep:Int):=by omega
  go_enter Tryz.func14,Tryz.ntmps14
  go_wp2
  go_loopw [2,15] (fun t2 i wr=>t2=.int .i64 left/\i=.int .i64 0/\Below w.heap.size w wr) (fun _ _ _=>0)
  case atStart=>exact ⟨rfl,rfl,Below.refl _ _⟩
  case round=>
   obtain ⟨rfl,rfl,hb⟩:=hrel
   go_wp2
   go_ret
   exact ⟨left,rfl,.inr ⟨hl0,by simp [zah],fun t ht=>by cases ht⟩,hb⟩
theorem zki:∀ d,SmC d
 | 0=>zlE
 | d+1=>zl4 d (zki d)
def zms (d:Nat) (c:ChD d):Prop:=c.1.1.length<=1000/\c.2.2.1.length<=200/\zah d c.2.2.2<=400/\∀ t∈c.2.2.2,SmS d t
theorem ze8 {ok:Nat->Prop}{w:World}{d:Nat}{c:ChD d}{v:Value}(h:RdD ok w d c v) (hwf:WfC d c):Calls Tryz.prog 5 #[v] w fun e w'=>∃ b:Bool,e=.returned (.bool b)/\(b=true->zms d c)/\Below w.heap.size w w':=by
 obtain ⟨sv,ss,rfl,hv,hs⟩:=h
 obtain ⟨p1,p3,rfl,hp1,hp2⟩:=hv.form
 obtain ⟨p4,p6,rfl,_⟩:=hs.form
 unfold maxLen at hp2
 obtain ⟨s0,he1,he2⟩:∃ e:ByteArray,sD c.1.1=.string e/\e.size=c.1.1.length:=⟨⟨c.1.1.toArray⟩,rfl,(by show c.1.1.toArray.size=_;simp)⟩
 rw [he1]
 have hcall:=fun w1 (b1:Below w.heap.size w w1)=>zki d ok w1 c.2.2.2 _ 0 400 (hs.stay (zy d) (fun k hk hl=>⟨hk,b1.block k hl⟩)) hwf.2.2.1 hwf.2.2.2 (by omega) (by omega) (by omega)
 obtain ⟨nv,hnv⟩:∃ n,c.2.2.1.length=n:=⟨_,rfl⟩
 obtain ⟨ni,hni⟩:∃ n,c.2.2.2.length=n:=⟨_,rfl⟩
 obtain ⟨vn,hvn⟩:∃ x,c.2.1=x:=⟨_,rfl⟩
 obtain ⟨pl,hpl⟩:∃ x,c.1.2.1=x:=⟨_,rfl⟩
 obtain ⟨pc,hpc⟩:∃ x,c.1.2.2=x:=⟨_,rfl⟩
 rw [hnv] at hp1
 rw [hnv,hni,hvn,hpl,hpc]
 simp only [hni] at hcall
 have HE:Hid (s0.size=c.1.1.length/\c.2.2.1.length=nv):=⟨he2,hnv⟩
 clear he1 he2 hnv hni hvn hpl hpc hv hs
 have hal:Below w.heap.size w (w.alloc (.cells #[.string s0,.int .i64 vn,.int .i64 pl,.int .i64 pc,.slice p1 nv p3,.slice p4 ni p6] 27)):=(Below.refl w.heap.size w).alloc zn2 _
 have hX:Bn (w.alloc (.cells #[.string s0,.int .i64 vn,.int .i64 pl,.int .i64 pc,.slice p1 nv p3,.slice p4 ni p6] 27)) w.heap.size [.string s0,.int .i64 vn,.int .i64 pl,.int .i64 pc,.slice p1 nv p3,.slice p4 ni p6]:=Bn.new w [.string s0,.int .i64 vn,.int .i64 pl,.int .i64 pc,.slice p1 nv p3,.slice p4 ni p6] 27 _ rfl
 have hc1:=hcall _ hal
 clear hcall
 go_enter Tryz.func5,Tryz.ntmps5
 go_upto_region 1 with fail
 generalize (w.alloc (.cells #[.string s0,.int .i64 vn,.int .i64 pl,.int .i64 pc,.slice p1 nv p3,.slice p4 ni p6] 27))=wx at *
 have x0:=(hX 0 _ rfl).1
 have x4:=(hX 4 _ rfl).1
 have x5:=(hX 5 _ rfl).1
 clear hX
 by_cases h1:nv<=200
 ·by_cases h2:s0.size<=1000
  ·have i1:(nv:Int)<=200:=by omega
   have i2:(s0.size:Int)<=1000:=by omega
   go_wp2_with (first
    | (go_at_call 14;refine hc1.mono ?_;rintro e w5 ⟨r,rfl,hr,b5⟩;have hb5:=hal.trans (b5.mono hal.size);obtain ⟨rb,hrb⟩:∃ b,decide (0<=r)=b:=⟨_,rfl⟩)
    | fail)
   go_ret
   refine ⟨_,rfl,fun hb=>?_,hb5⟩
   rcases hr with rfl|⟨hr0,hr1,hr2⟩
   ·rw [<- hrb] at hb
    exact absurd hb (by decide)
   ·exact ⟨by rw [<- HE.out.1];exact h2,by rw [HE.out.2];exact h1,by omega,hr2⟩
  ·have i1:(nv:Int)<=200:=by omega
   have i2:¬ (s0.size:Int)<=1000:=by omega
   go_wp2
   go_ret
   exact .inl ⟨rfl,hal⟩
 ·have i1:¬ (nv:Int)<=200:=by omega
  go_wp2
  go_ret
  exact .inl ⟨rfl,hal⟩
end Go.Proofs.YtlkdaldfklaicaaGreatDoor
namespace Go.Proofs.YtlkdaldfklaicaaGreatDoor
open Go.RowKit
set_option linter.unusedSimpArgs false
set_option linter.unusedVariables false
attribute [local go_sem ↓] Go.wp_at_zero Go.wp_at_succ
def zd0 (d:Nat):Prop:=∀ (ok:Nat->Prop) (t:T d) (v:Value) (w:World),RdT ok w d t v->Calls Tryz.prog 33 #[v] w fun e w'=>e=.returned (exV d t)/\Below w.heap.size w w'
theorem zeI {ok:Nat->Prop}{d:Nat}(IH:zd0 d) (X i:Nat) (k n:Int) (s:ByteArray) (sl:Value) (ps:List (T d)) (w:World) (hA:At4 w X (.int .i64 k) (.int .i64 n) (.string s) sl) (hp:RdP ok w (RdT ok w d) ps sl) :
  Calls Tryz.prog 54 #[.int .i64 (i:Int),.pointer (some ⟨X,0,none⟩)] w fun e w'=>e=.returned (exP ps i)/\Below w.heap.size w w':=by
 obtain ⟨a,cap,rfl,hlc,hcm,hcell⟩:=hp.form
 obtain ⟨y0,y1,y2,y3⟩:=id hA
 by_cases hlt:i < ps.length
 ·obtain ⟨b,off,c0,c1,c2,c3,rfl,hbl,hr,k0,k1,k2,k3⟩:=hcell i hlt
  have hcall:=IH ok ps[i] _ w hr
  have he:exP ps i=exV d ps[i]:=by unfold exP;rw [List.getD_eq_getElem?_getD,List.getElem?_map,List.getElem?_eq_getElem hlt];rfl
  rw [he]
  have i1:(i:Int) < (ps.length:Int):=by omega
  have i2:(0:Int)<=(i:Int):=by omega
  clear he hcell hr hp
  go_enter Tryz.func54,Tryz.ntmps54
  go_wp2_with (first
   | (go_at_call 33;refine hcall.mono ?_;rintro e w1 ⟨rfl,b1⟩))
  go_ret
  exact ⟨rfl,b1⟩
 ·have he:exP ps i=.nilIface:=by unfold exP;rw [List.getD_eq_getElem?_getD,List.getElem?_eq_none (by simp;omega)];rfl
  rw [he]
  have i1:¬ (i:Int) < (ps.length:Int):=by omega
  clear he hcell hp
  go_enter Tryz.func54,Tryz.ntmps54
  go_wp2
  go_ret
  exact ⟨rfl,Below.refl _ _⟩
theorem zgg (d:Nat) (IH:zd0 d):zd0 (d+1):=by
 intro ok t v w h
 obtain ⟨k,n,s,ps,rfl⟩:=T.open t
 obtain ⟨sl,rfl,hp⟩:=zaT.1 h
 rw [zc2]
 have hb0:=(Below.refl w.heap.size w).alloc zn2 (.cells #[.int .i64 k,.int .i64 n,.string s,sl] 79)
 have hA:=At4.new w (.int .i64 k) (.int .i64 n) (.string s) sl 79
 have hp0:RdP ok (w.alloc (.cells #[.int .i64 k,.int .i64 n,.string s,sl] 79)) (RdT ok (w.alloc (.cells #[.int .i64 k,.int .i64 n,.string s,sl] 79)) d) ps sl:=hp.below hb0 zn2
 have h0:=zeI IH w.heap.size 0 k n s sl ps _ hA hp0
 have h1:=fun w1 (b1:Below (w.alloc (.cells #[.int .i64 k,.int .i64 n,.string s,sl] 79)).heap.size (w.alloc (.cells #[.int .i64 k,.int .i64 n,.string s,sl] 79)) w1)=>
  zeI IH w.heap.size 1 k n s sl ps w1 (hA.keepB b1 (by simp)) (hp0.below b1 zn2)
 have hmf:∀ (fn:Fn) (first cap:Array Value) (w:World),(Instr.makeFunc fn first cap).run Tryz.prog w=.ok (.func fn first cap) w:=fun _ _ _ _=>rfl
 by_cases k1:k=1
 ·subst k1
  rw [if_pos rfl]
  clear h0 h1 hp0 hA hp h
  go_enter Tryz.func33,Tryz.ntmps33
  go_wp2
  go_ret
  exact ⟨rfl,hb0⟩
 rw [if_neg k1]
 have e1:(k == 1)=false:=beq_eq_false_iff_ne.2 k1
 by_cases k2:k=2
 ·subst k2
  rw [if_pos rfl]
  clear h0 h1 hp0 hA hp h k1 e1
  go_enter Tryz.func33,Tryz.ntmps33
  go_wp2
  go_ret
  exact ⟨rfl,hb0⟩
 rw [if_neg k2]
 have e2:(k == 2)=false:=beq_eq_false_iff_ne.2 k2
 by_cases k3:k=3
 ·subst k3
  rw [if_pos rfl]
  have hf:=zde ps 0
  obtain ⟨x0,hx0⟩:∃ x,exP ps 0=x:=⟨_,rfl⟩
  rw [hx0] at h0 hf ⊢
  clear h1 hp0 hA hp h k1 k2 e1 e2 hx0
  rcases hf with rfl|⟨u,x,rfl⟩
  ·go_enter Tryz.func33,Tryz.ntmps33
   go_wp2_with (first
    | (go_at_call 54;refine h0.mono ?_;rintro e w1 ⟨rfl,b1⟩))
   go_ret
   exact ⟨rfl,hb0.trans (b1.mono hb0.size)⟩
  ·go_enter Tryz.func33,Tryz.ntmps33
   go_wp2_with (first
    | (go_at_call 54;refine h0.mono ?_;rintro e w1 ⟨rfl,b1⟩))
   go_ret
   exact ⟨rfl,hb0.trans (b1.mono hb0.size)⟩
 rw [if_neg k3]
 have e3:(k == 3)=false:=beq_eq_false_iff_ne.2 k3
 by_cases k4:k=4
 ·subst k4
  rw [if_pos rfl]
  have hf:=zde ps 0
  obtain ⟨x0,hx0⟩:∃ x,exP ps 0=x:=⟨_,rfl⟩
  rw [hx0] at h0 hf ⊢
  clear h1 hp0 hA hp h k1 k2 k3 e1 e2 e3 hx0
  rcases hf with rfl|⟨u,x,rfl⟩
  ·go_enter Tryz.func33,Tryz.ntmps33
   go_wp2_with (first
    | (go_at_call 54;refine h0.mono ?_;rintro e w1 ⟨rfl,b1⟩))
   go_ret
   exact ⟨rfl,hb0.trans (b1.mono hb0.size)⟩
  ·go_enter Tryz.func33,Tryz.ntmps33
   go_wp2_with (first
    | (go_at_call 54;refine h0.mono ?_;rintro e w1 ⟨rfl,b1⟩))
   go_ret
   exact ⟨rfl,hb0.trans (b1.mono hb0.size)⟩
 rw [if_neg k4]
 have e4:(k == 4)=false:=beq_eq_false_iff_ne.2 k4
 by_cases k5:k=5
 ·subst k5
  rw [if_pos rfl]
  have hf:=zde ps 0
  have hg:=zde ps 1
  have bd:Below (w.alloc (.cells #[.int .i64 5,.int .i64 n,.string s,sl] 79)).heap.size (w.alloc (.cells #[.int .i64 5,.int .i64 n,.string s,sl] 79)) (w.alloc (.cells #[.int .i64 5,.int .i64 n,.string s,sl] 79)).drew:=zn3.drew
  have hA':=hA.keepB bd (by simp)
  have h0':=zeI IH w.heap.size 0 5 n s sl ps _ hA' (hp0.below bd zn2)
  have c2:=hA'.2.2.1
  obtain ⟨x0,hx0⟩:∃ x,exP ps 0=x:=⟨_,rfl⟩
  obtain ⟨x1,hx1⟩:∃ x,exP ps 1=x:=⟨_,rfl⟩
  rw [hx0] at h0' hf ⊢
  rw [hx1] at hg ⊢
  simp only [hx1] at h1
  clear h0 hp0 hp h k1 k2 k3 k4 hx0 hx1 e1 e2 e3 e4
  rcases hf with rfl|⟨u,x,rfl⟩
  ·rcases hg with rfl|⟨u',x',rfl⟩
   ·
    go_enter Tryz.func33,Tryz.ntmps33
    go_wp2
    go_region_held (fun w'=>w'.cell? ⟨w.heap.size,2,none⟩=some (.string s)) (first|exact c2|exact d2|exact f2|go_keep)
     (first
      | (go_at_call 54;refine h1'.mono ?_;rintro e w2 ⟨rfl,b2⟩;have bb:=bx.trans (b2.mono bx.size);have f2:=(hA1.keepB b2 (World.block_lt_of_cell? w1 _ hA1.1)).2.2.1;clear h1')
      | (go_at_call 54;refine h0'.mono ?_;rintro e w1 ⟨rfl,b1⟩;have bx:=(hb0.drew).trans (b1.mono (by simp));have hA1:=hA'.keepB b1 (World.block_lt_of_cell? _ _ hA'.1);have d2:=hA1.2.2.1;have h1':=h1 w1 (bd.trans b1);clear h0'))
    go_wp2
    go_ret
    exact ⟨rfl,bb⟩
   ·
    go_enter Tryz.func33,Tryz.ntmps33
    go_wp2
    go_region_held (fun w'=>w'.cell? ⟨w.heap.size,2,none⟩=some (.string s)) (first|exact c2|exact d2|exact f2|go_keep)
     (first
      | (go_at_call 54;refine h1'.mono ?_;rintro e w2 ⟨rfl,b2⟩;have bb:=bx.trans (b2.mono bx.size);have f2:=(hA1.keepB b2 (World.block_lt_of_cell? w1 _ hA1.1)).2.2.1;clear h1')
      | (go_at_call 54;refine h0'.mono ?_;rintro e w1 ⟨rfl,b1⟩;have bx:=(hb0.drew).trans (b1.mono (by simp));have hA1:=hA'.keepB b1 (World.block_lt_of_cell? _ _ hA'.1);have d2:=hA1.2.2.1;have h1':=h1 w1 (bd.trans b1);clear h0'))
    go_wp2
    go_ret
    exact ⟨rfl,bb⟩
  ·rcases hg with rfl|⟨u',x',rfl⟩
   ·
    go_enter Tryz.func33,Tryz.ntmps33
    go_wp2
    go_region_held (fun w'=>w'.cell? ⟨w.heap.size,2,none⟩=some (.string s)) (first|exact c2|exact d2|exact f2|go_keep)
     (first
      | (go_at_call 54;refine h1'.mono ?_;rintro e w2 ⟨rfl,b2⟩;have bb:=bx.trans (b2.mono bx.size);have f2:=(hA1.keepB b2 (World.block_lt_of_cell? w1 _ hA1.1)).2.2.1;clear h1')
      | (go_at_call 54;refine h0'.mono ?_;rintro e w1 ⟨rfl,b1⟩;have bx:=(hb0.drew).trans (b1.mono (by simp));have hA1:=hA'.keepB b1 (World.block_lt_of_cell? _ _ hA'.1);have d2:=hA1.2.2.1;have h1':=h1 w1 (bd.trans b1);clear h0'))
    go_wp2
    go_ret
    exact ⟨rfl,bb⟩
   ·
    go_enter Tryz.func33,Tryz.ntmps33
    go_wp2
    go_region_held (fun w'=>w'.cell? ⟨w.heap.size,2,none⟩=some (.string s)) (first|exact c2|exact d2|exact f2|go_keep)
     (first
      | (go_at_call 54;refine h1'.mono ?_;rintro e w2 ⟨rfl,b2⟩;have bb:=bx.trans (b2.mono bx.size);have f2:=(hA1.keepB b2 (World.block_lt_of_cell? w1 _ hA1.1)).2.2.1;clear h1')
      | (go_at_call 54;refine h0'.mono ?_;rintro e w1 ⟨rfl,b1⟩;have bx:=(hb0.drew).trans (b1.mono (by simp));have hA1:=hA'.keepB b1 (World.block_lt_of_cell? _ _ hA'.1);have d2:=hA1.2.2.1;have h1':=h1 w1 (bd.trans b1);clear h0'))
    go_wp2
    go_ret
    exact ⟨rfl,bb⟩
 rw [if_neg k5]
 have e5:(k == 5)=false:=beq_eq_false_iff_ne.2 k5
 clear h0 h1 hp0 hA hp h
 go_enter Tryz.func33,Tryz.ntmps33
 go_wp2
 go_ret
 exact ⟨rfl,hb0⟩
theorem zc1:∀ (d:Nat),zd0 d
 | 0=>fun _ t=>Empty.elim t
 | d+1=>zgg d (zc1 d)
theorem zh2:∀ (d:Nat) (t:T d),exV (d+1) (cln d t)=exV d t
 | 0,t=>Empty.elim t
 | d+1,t=>by
  obtain ⟨k,n,s,ps,rfl⟩:=T.open t
  have hp:∀ i,exV (d+1) (prt ps i)=exP ps i:=fun i=>by
   unfold prt exP
   rw [List.getD_eq_getElem?_getD,List.getElem?_map]
   cases ps[i]? with
   | none=>rfl
   | some p=>exact zh2 d p
  rw [zet,zc2]
  by_cases k1:k=1
  ·rw [if_pos k1,if_pos k1];rfl
  rw [if_neg k1,if_neg k1]
  by_cases k2:k=2
  ·rw [if_pos k2,if_pos k2];rfl
  rw [if_neg k2,if_neg k2]
  by_cases k3:k=3
  ·rw [if_pos k3,if_pos k3,zc2,<- hp];rfl
  rw [if_neg k3,if_neg k3]
  by_cases k4:k=4
  ·rw [if_pos k4,if_pos k4,zc2,<- hp];rfl
  rw [if_neg k4,if_neg k4]
  by_cases k5:k=5
  ·rw [if_pos k5,if_pos k5,zc2,<- hp,<- hp];rfl
  rw [if_neg k5,if_neg k5]
  rfl
end Go.Proofs.YtlkdaldfklaicaaGreatDoor
namespace Go.Proofs.YtlkdaldfklaicaaGreatDoor
open Go.RowKit Go.Lib
set_option linter.unusedSimpArgs false
set_option linter.unusedVariables false
attribute [local go_sem ↓] Go.wp_at_zero Go.wp_at_succ
def awT:List UInt8:=[99,104,97,114,116,32,97,32,49,32,123,32,115,116,97,116,101,32,98,32,123,32,101,110,100,32,125,32,125]
theorem znS:(zc5 awT).2=((0,0),0):=by kernel_rfl
theorem zmW:(zc5 awT).1.2.2.2.map (fun s=>s.1.2.1.2)=[true]:=by kernel_rfl
theorem RdC.lit {ok:Nat->Prop}{w:World}{d:Nat}{c:ChG d}{v:Value}(h:RdC ok w d c v):∃ nv vn ln co va vc sa sc,v=.agg #[.string nv,.int .i64 vn,.int .i64 ln,.int .i64 co,.slice va c.2.2.1.length vc,.slice sa c.2.2.2.length sc]/\RdK ok w 4 (zbo ok w) c.2.2.1 (.slice va c.2.2.1.length vc)/\RdK ok w 11 (rSt d ok w) c.2.2.2 (.slice sa c.2.2.2.length sc):=by
 obtain ⟨sv,ss,rfl,h1,h2⟩:=h
 obtain ⟨va,vc,rfl,_⟩:=h1.form
 obtain ⟨sa,sc,rfl,_⟩:=h2.form
 exact ⟨_,_,_,_,va,vc,sa,sc,rfl,h1,h2⟩
theorem zh8 {ok:Nat->Prop}{w:World}{d:Nat}{l:List (St (d+1))}{a:Option Addr}{n c:Nat}(h:RdK ok w 11 (rSt (d+1) ok w) l (.slice a n c)) (i:Nat) (hi:i < l.length):∃ b off so si,a=some ⟨b,off,none⟩/\ok b/\b < w.heap.size/\RdK ok w 6 (rOn ok w) (l[i]).1.2.2.2.2 so/\RdK ok w 11 (rSt d ok w) (l[i]).2 si/\∀ j u,(hdV (l[i]).1 so si)[j]?=some u->w.cell? ⟨b,off+i*11+j,none⟩=some u:=by
 obtain ⟨a',c',e,_,_,hc⟩:=h
 simp only [Value.slice.injEq] at e
 obtain ⟨rfl,_,_⟩:=e
 obtain ⟨b,off,cs,h1,h2,h3,_,⟨so,si,rfl,h4,h5⟩,h6⟩:=hc i hi
 exact ⟨b,off,so,si,h1,h2,h3,h4,h5,h6⟩
theorem zny (w:World) (hE:Esy w):Calls Tryz.prog 4 #[] w fun e w'=>e=.returned (.bool true)/\Below w.heap.size w w':=by
 have h1:=zi2 ⟨awT.toArray⟩ w hE (by decide)
 have e1:bl ⟨awT.toArray⟩=awT:=rfl
 rw [e1] at h1
 obtain ⟨⟨CC,PP⟩,hR⟩:∃ x,zc5 awT=x:=⟨_,rfl⟩
 have h2:=znS
 have h3:=zmW
 rw [hR] at h1 h2 h3
 simp only at h2 h3
 subst h2
 simp only at h1
 have hl:CC.2.2.2.length=1:=by
  have:=congrArg List.length h3
  rwa [List.length_map] at this
 have he:∀ (hh:0 < CC.2.2.2.length),(CC.2.2.2[0]).1.2.1.2=true:=fun hh=>by
  have:=congrArg (fun l=>l[0]?) h3
  simp only [List.getElem?_map,List.getElem?_eq_getElem hh,Option.map_some,List.getElem?_cons_zero,Option.some.injEq] at this
  exact this
 have h4:Calls Tryz.prog 13 #[.string ⟨#[99,104,97,114,116,32,97,32,49,32,123,32,115,116,97,116,101,32,98,32,123,32,101,110,100,32,125,32,125]⟩] w fun e w'=>(∃ nv vn ln co va vl vc b off sc,e=.returned (.tuple #[.agg #[.string nv,.int .i64 vn,.int .i64 ln,.int .i64 co,.slice va vl vc,.slice (some ⟨b,off,none⟩) 1 sc],.agg #[.int .i64 0,.int .i64 0],.int .i64 0])/\b < w'.heap.size/\w'.cell? ⟨b,off+4,none⟩=some (.bool true))/\Below w.heap.size w w':=h1.mono (fun e w' hh=>by
  obtain ⟨v,rfl,hv,hb⟩:=hh
  obtain ⟨nv,vn,ln,co,va,vc,sa,sc,rfl,q1,q2⟩:=hv.lit
  obtain ⟨b,off,so,si,rfl,_,hbl,_,_,hc⟩:=zh8 q2 0 (by omega)
  refine ⟨⟨nv,vn,ln,co,va,_,vc,b,off,sc,by rw [hl],hbl,?_⟩,hb⟩
  have:=hc 4 _ rfl
  rw [he (by omega),Nat.zero_mul,Nat.add_zero] at this
  exact this)
 clear h1 he hl h3 hR e1
 go_enter Tryz.func4,Tryz.ntmps4
 go_upto_region 2 with (first
  | (go_at_call 13;refine h4.mono ?_;rintro e w1 ⟨⟨nv,vn,ln,co,va,vl,vc,b,off,sc,rfl,hbl,hc⟩,b1⟩))
 have hal:=(Below.refl w1.heap.size w1).alloc zn2 (.cells #[.string nv,.int .i64 vn,.int .i64 ln,.int .i64 co,.slice va vl vc,.slice (some ⟨b,off,none⟩) 1 sc] 33)
 have hal2:=hal.alloc hal.size (.cells #[.int .i64 0,.int .i64 0] 23)
 have hA:Bn ((w1.alloc (.cells #[.string nv,.int .i64 vn,.int .i64 ln,.int .i64 co,.slice va vl vc,.slice (some ⟨b,off,none⟩) 1 sc] 33)).alloc (.cells #[.int .i64 0,.int .i64 0] 23)) w1.heap.size [.string nv,.int .i64 vn,.int .i64 ln,.int .i64 co,.slice va vl vc,.slice (some ⟨b,off,none⟩) 1 sc]:=(Bn.new w1 [.string nv,.int .i64 vn,.int .i64 ln,.int .i64 co,.slice va vl vc,.slice (some ⟨b,off,none⟩) 1 sc] 33 _ rfl).on (zn3.alloc zn2 _)
 have hc2:=(hal2.cell (p:=⟨b,off+4,none⟩) hbl).trans hc
 have hb2:=b1.trans (hal2.mono b1.size)
 have a5:=(hA 5 _ rfl).1
 clear hc hA hal hal2 h4 b1
 generalize (w1.alloc (.cells #[.string nv,.int .i64 vn,.int .i64 ln,.int .i64 co,.slice va vl vc,.slice (some ⟨b,off,none⟩) 1 sc] 33)).alloc (.cells #[.int .i64 0,.int .i64 0] 23)=w2 at *
 go_wp2
 go_ret
 exact ⟨rfl,hb2⟩
