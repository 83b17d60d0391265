import Derived.Test.YtfjdceknbdmhpaaGreatDoorWxc18
import Derived.Test.YtfjdceknbdmhpaaGreatDoorWxc04
import Derived.Test.YtfjdceknbdmhpaaGreatDoorWxc12
import Derived.Test.YtfjdceknbdmhpaaGreatDoorWxc06
import Derived.Test.YtfjdceknbdmhpaaGreatDoorWxc14
import Derived.Test.YtfjdceknbdmhpaaGreatDoorWxc11
import Derived.Test.YtfjdceknbdmhpaaGreatDoorWxc01
import Derived.Test.YtfjdceknbdmhpaaGreatDoorWxc03
import Derived.Test.YtfjdceknbdmhpaaGreatDoorRows
import Derived.Deep.Slices
import Derived.ProofKit
import Derived.OpenShut
import Derived.ShutString
import Derived.ChangeOld
import Derived.SizedLaws
import Derived.Below
import Derived.BigQuiet
import Derived.Deep.QuietTactic
import Derived.BigRegion
import Derived.Shelf.Unicode.DecodeAny
import Derived.Lib.LaidU8
import Derived.PinnedBridge
import Derived.Lay
import Derived.LaidMore
import Derived.MakeChecks
import Derived.Deep.RegionHeldLaw
import Derived.Deep.DeepCutAuto
import Derived.Test.YtfjdceknbdmhpaaGreatDoorWxc16
import Derived.Test.YtfjdceknbdmhpaaGreatDoorWxc07
set_option maxRecDepth 100000
set_option maxHeartbeats 32000000
namespace Go.Proofs.YtfjdceknbdmhpaaGreatDoor
open Go.RowKit Go.Lib
set_option linter.unusedSimpArgs false
set_option linter.unusedVariables false
attribute [local go_sem ↓] Go.wp_at_zero Go.wp_at_succ
theorem end_same:∀ (rs:List Ru) (a b:Int),endP rs a b=endR rs a b
 | [],a,b=>rfl
 | u :: r,a,b=>by
  unfold endP endR
  rw [end_same r (a+1) 1,end_same r a (b+1)]
def Esy (w:World):Prop:=∃ ev,w.cell? ⟨renA.g 15,0,none⟩=some ev/\(ev=.nilIface∨∃ te pe,ev=.iface te pe)
theorem Esy.lt {w:World}(h:Esy w):renA.g 15 < w.heap.size:=by
 obtain ⟨ev,h1,_⟩:=h
 exact World.block_lt_of_cell? w _ h1
theorem Esy.on {w w':World}(h:Esy w) (hb:Below w.heap.size w w'):Esy w':=by
 have hl:=h.lt
 obtain ⟨ev,h1,h2⟩:=h
 exact ⟨ev,(hb.cell (p:=⟨renA.g 15,0,none⟩) hl).trans h1,h2⟩
theorem Esy.ey {w w':World}(h:Esy w) (hb:Below w.heap.size w w') {X:Nat}(hX:w.heap.size<=X):Ey w' X:=by
 have hl:=h.lt
 exact ⟨h.on hb,by omega⟩
theorem Fx.bel {X B:Nat}{u a b:World}(h:Fx X a b) (hb:Below B u a) (hX:B<=X) (hB:B<=u.heap.size):Below B u b:=
 ⟨h.os.trans hb.os,h.tape.trans hb.tape,h.output.trans hb.output,Nat.le_trans hb.size h.size,fun k hk=>(h.block k (Nat.lt_of_lt_of_le hk (Nat.le_trans hB hb.size)) (fun e=>by have:k=X:=Option.some.inj e;omega)).trans (hb.block k hk)⟩
theorem below_st {B:Nat}{u w:World}(h:Below B u w) (X i:Nat) (v:Value) (hX:B<=X):Below B u (w.setCell ⟨X,i,none⟩ v):=h.setCell hX v
theorem read_res {w4:World}{R P:Nat}{a b c d e f p q n:Value}{tmps:Array Value}(hR:Bn w4 R [a,b,c,d,e,f]) (hP:Bn w4 P [p,q]) (ht:tmps.getD 2 undef=.pointer (some ⟨R,0,none⟩)) (ht3:tmps.getD 3 undef=.pointer (some ⟨P,0,none⟩)) (ht4:tmps.getD 4 undef=n):(results Tryz.f23 tmps).run Tryz.prog w4=.ok (.tuple #[.agg #[a,b,c,d,e,f],.agg #[p,q],n]) w4:=by
 have ht':tmps[2]?.getD undef=.pointer (some ⟨R,0,none⟩):=by simpa using ht
 have ht3':tmps[3]?.getD undef=.pointer (some ⟨P,0,none⟩):=by simpa using ht3
 have ht4':tmps[4]?.getD undef=n:=by simpa using ht4
 have c0:=(hR 0 _ rfl).1
 have c1:=(hR 1 _ rfl).1
 have c2:=(hR 2 _ rfl).1
 have c3:=(hR 3 _ rfl).1
 have c4:=(hR 4 _ rfl).1
 have c5:=(hR 5 _ rfl).1
 have d0:=(hP 0 _ rfl).1
 have d1:=(hP 1 _ rfl).1
 simp [results,Tryz.results23,go_sem,ht',ht3',ht4',c0,c1,c2,c3,c4,c5,d0,d1]
abbrev zPl:List Value:=[.int .i64 0,.int .i64 0]
theorem readP_any (s:ByteArray) (w:World) (hE:Esy w) (hs:s.size<=140737488351232) :
  Calls Tryz.prog 23 #[.string s] w fun e w'=>∃ v,e=.returned (.tuple #[v,.agg #[.int .i64 (readC (bl s)).2.1.1,.int .i64 (readC (bl s)).2.1.2],.int .i64 (readC (bl s)).2.2])/\RdC (fun b=>w.heap.size<=b) w' 7 (readC (bl s)).1 v/\Below w.heap.size w w':=by
 have hb0:Below w.heap.size w ((w.alloc zC6).alloc zP):=((Below.refl _ _).alloc Nat.le.refl _).alloc (by simp) _
 have hA0:Bn ((w.alloc zC6).alloc zP) w.heap.size zCl:=(Bn.new w zCl 33 _ rfl).on ((Below.refl _ _).alloc Nat.le.refl _)
 have hP0:Bn ((w.alloc zC6).alloc zP) (w.heap.size+1) zPl:=Bn.new (w.alloc zC6) zPl 23 _ (by simp)
 have hs0:w.heap.size+2<=((w.alloc zC6).alloc zP).heap.size:=by simp
 have hW:=pWords_any s ((w.alloc zC6).alloc zP) hs
 have hEn:=fun w1=>pEnd_any s w1 hs
 obtain ⟨RES,hRES⟩:∃ x,readC (bl s)=x:=⟨_,rfl⟩
 rw [hRES]
 unfold readC at hRES
 have h1:=fun h=>words_one (l:=bl s) h
 obtain ⟨⟨ws,⟨pl,pc⟩,er⟩,hR⟩:∃ r,wordsS (bl s)=r:=⟨_,rfl⟩
 rw [hR] at hW hRES h1
 simp only at hW hRES h1
 rw [end_same] at hRES
 obtain ⟨⟨eL,eC⟩,hEE⟩:∃ x,endR (runes (bl s)) 1 1=x:=⟨_,rfl⟩
 simp only [hEE] at hEn hRES
 by_cases he:er≠0
 ·rw [if_pos he] at hRES
  subst hRES
  have i1:(er != 0)=true:=by simpa using he
  clear h1 hR he hEE hEn
  go_enter Tryz.func23,Tryz.ntmps23
  go_upto_region 1 with fail
  generalize (w.alloc zC6).alloc zP=w0 at *
  go_upto_region 3 with (first
   | (go_at_call 46;refine hW.mono ?_;rintro e w1 ⟨u,rfl,hown,b1⟩;obtain ⟨a,cap,rfl,_⟩:=own_form hown))
  have hal:=(Below.refl w1.heap.size w1).alloc Nat.le.refl (.cells #[.int .i64 pl,.int .i64 pc] 23)
  have hA2:=(hA0.on b1).on hal
  have hP2:=(hP0.on b1).on hal
  have hb2:=(hb0.trans (b1.mono hb0.size)).trans (hal.mono (Nat.le_trans hb0.size b1.size))
  have hQ2:Bn (w1.alloc (.cells #[.int .i64 pl,.int .i64 pc] 23)) w1.heap.size [.int .i64 pl,.int .i64 pc]:=Bn.new w1 [.int .i64 pl,.int .i64 pc] 23 _ rfl
  have hs2:w.heap.size+2<=w1.heap.size:=Nat.le_trans hs0 b1.size
  obtain ⟨N,hN⟩:∃ N,w1.heap.size=N:=⟨_,rfl⟩
  rw [hN] at hQ2 hs2 ⊢
  clear hA0 hP0 hb0 b1 hal hW hown hs0 hN
  generalize w1.alloc (.cells #[.int .i64 pl,.int .i64 pc] 23)=w2 at *
  obtain ⟨a0,k0⟩:=hA2 0 _ rfl
  obtain ⟨a1,k1⟩:=hA2 1 _ rfl
  obtain ⟨a2,k2⟩:=hA2 2 _ rfl
  obtain ⟨a3,k3⟩:=hA2 3 _ rfl
  obtain ⟨a4,k4⟩:=hA2 4 _ rfl
  obtain ⟨a5,k5⟩:=hA2 5 _ rfl
  obtain ⟨p0,o0⟩:=hP2 0 _ rfl
  obtain ⟨p1,o1⟩:=hP2 1 _ rfl
  obtain ⟨q0,r0⟩:=hQ2 0 _ rfl
  obtain ⟨q1,r1⟩:=hQ2 1 _ rfl
  go_region
  go_wp2
  exact bodyPost_ret (read_res (((((((((hA2.set (i:=0) (by simp) (.string ⟨#[]⟩)).set (i:=1) (by simp) (.int .i64 0)).set (i:=2) (by simp) (.int .i64 0)).set (i:=3) (by simp) (.int .i64 0)).set (i:=4) (by simp) (.slice none 0 0)).set (i:=5) (by simp) (.slice none 0 0)).far (X:=w.heap.size+1) (i:=0) (by omega) (.int .i64 pl)).far (X:=w.heap.size+1) (i:=1) (by omega) (.int .i64 pc)).drew) (((((((((hP2.far (X:=w.heap.size) (i:=0) (by omega) (.string ⟨#[]⟩)).far (X:=w.heap.size) (i:=1) (by omega) (.int .i64 0)).far (X:=w.heap.size) (i:=2) (by omega) (.int .i64 0)).far (X:=w.heap.size) (i:=3) (by omega) (.int .i64 0)).far (X:=w.heap.size) (i:=4) (by omega) (.slice none 0 0)).far (X:=w.heap.size) (i:=5) (by omega) (.slice none 0 0)).set (i:=0) (by simp) (.int .i64 pl)).set (i:=1) (by simp) (.int .i64 pc)).drew) rfl rfl rfl) rfl ⟨_,rfl,rdC_no _ _,(below_st (below_st (below_st (below_st (below_st (below_st (below_st (below_st hb2 w.heap.size 0 (.string ⟨#[]⟩) Nat.le.refl) w.heap.size 1 (.int .i64 0) Nat.le.refl) w.heap.size 2 (.int .i64 0) Nat.le.refl) w.heap.size 3 (.int .i64 0) Nat.le.refl) w.heap.size 4 (.slice none 0 0) Nat.le.refl) w.heap.size 5 (.slice none 0 0) Nat.le.refl) (w.heap.size+1) 0 (.int .i64 pl) (by omega)) (w.heap.size+1) 1 (.int .i64 pc) (by omega)).drew⟩
 ·rw [if_neg he,ch_eq,chP_1] at hRES
  have he0:er=0:=by simpa using he
  subst he0
  obtain ⟨h2,h3⟩:=h1 rfl
  clear h1 he hR hEE
  have hCh:=fun w1 X a cap (hp:Pr w1 X a cap ws (eL,eC) (ws,(0,0),0)) (hk:Wk ws cap) (he:Ey w1 X)=>chart_any hp hk he
  unfold chZ at hRES
  obtain ⟨⟨CC,r1⟩,hC⟩:∃ x,chP1 (eL,eC) (ws,(0,0),0)=x:=⟨_,rfl⟩
  simp only [hC] at hCh hRES
  have hLa:=fun w1 X a cap (hp:Pr w1 X a cap ws (eL,eC) r1) (hk:Wk ws cap)=>last_p hp hk
  obtain ⟨r2,hr2⟩:∃ r2,lastR (eL,eC) r1=r2:=⟨_,rfl⟩
  simp only [hr2] at hLa hRES
  have HRES:Hid ((if r2.2.2=0 then (CC,(0,0),0) else (noC,r2.2.1,r2.2.2))=RES):=hRES
  clear hC hr2 hRES
  go_enter Tryz.func23,Tryz.ntmps23
  go_upto_region 1 with fail
  generalize (w.alloc zC6).alloc zP=w0 at *
  go_upto_region 5 with (first
   | (go_at_call 46;refine hW.mono ?_;rintro e w1 ⟨u,rfl,hown,b1⟩;obtain ⟨a,cap,rfl,hwc,hwm,hwr⟩:=ownW_rd hown))
  have hal:=(Below.refl w1.heap.size w1).alloc Nat.le.refl (.cells #[.int .i64 pl,.int .i64 pc] 23)
  have hal2:=(Below.refl (w1.alloc (.cells #[.int .i64 pl,.int .i64 pc] 23)).heap.size (w1.alloc (.cells #[.int .i64 pl,.int .i64 pc] 23))).alloc Nat.le.refl (.cells #[.slice a ws.length cap,.int .i64 0,.int .i64 0] 102)
  have hal3:Below w1.heap.size w1 _:=hal.trans (hal2.mono hal.size)
  have hA2:=(hA0.on b1).on hal3
  have hP2:=(hP0.on b1).on hal3
  have hb2:=(hb0.trans (b1.mono hb0.size)).trans (hal3.mono (Nat.le_trans hb0.size b1.size))
  have hE2:=hE.ey hb2 (X:=w1.heap.size+1) (by have:=hb0.size;have:=b1.size;omega)
  have hs2:w.heap.size+2<=w1.heap.size:=Nat.le_trans hs0 b1.size
  have hX2:Bn ((w1.alloc (.cells #[.int .i64 pl,.int .i64 pc] 23)).alloc (.cells #[.slice a ws.length cap,.int .i64 0,.int .i64 0] 102)) (w1.heap.size+1) [.slice a ws.length cap,.int .i64 0,.int .i64 0]:=Bn.new _ [.slice a ws.length cap,.int .i64 0,.int .i64 0] 102 _ (by simp)
  have hp2:Pr ((w1.alloc (.cells #[.int .i64 pl,.int .i64 pc] 23)).alloc (.cells #[.slice a ws.length cap,.int .i64 0,.int .i64 0] 102)) (w1.heap.size+1) a cap ws (eL,eC) (ws,(0,0),0):=by
   refine ⟨0,⟨(hX2 0 _ rfl).1,(hX2 1 _ rfl).1,(hX2 2 _ rfl).1,(hX2 1 _ rfl).2,(hX2 2 _ rfl).2,fun i hi=>?_⟩,rfl,Nat.zero_le _,fun e=>absurd rfl e⟩
   obtain ⟨g,q1,q2,c0,c1,c2,c3⟩:=hwr i hi
   refine ⟨g,0,q1,by omega,?_,?_,?_,?_⟩<;>rw [Nat.zero_add]
   ·exact (hal3.cell (p:=⟨g,i*4,none⟩) q2).trans c0
   ·exact (hal3.cell (p:=⟨g,i*4+1,none⟩) q2).trans c1
   ·exact (hal3.cell (p:=⟨g,i*4+2,none⟩) q2).trans c2
   ·exact (hal3.cell (p:=⟨g,i*4+3,none⟩) q2).trans c3
  have hk:Wk ws cap:=⟨h3,hwc,hwm,h2⟩
  have hga:∀ g off,a=some ⟨g,off,none⟩->w.heap.size+2<=g:=fun g off e=>Nat.le_trans hs0 (ownsRow_lt hown g (by rw [e];rfl)).1
  obtain ⟨X,hX⟩:∃ X,w1.heap.size+1=X:=⟨_,rfl⟩
  have hsX:w.heap.size+2 < X:=by omega
  rw [hX] at hp2 hE2 ⊢
  clear hX2 hA0 hP0 hb0 b1 hal hal2 hal3 hwr hown hs0 hW hs2 hX
  generalize (w1.alloc (.cells #[.int .i64 pl,.int .i64 pc] 23)).alloc (.cells #[.slice a ws.length cap,.int .i64 0,.int .i64 0] 102)=w2 at *
  obtain ⟨nv,hnv⟩:∃ nv,sV CC.1.1=.string nv:=⟨_,rfl⟩
  obtain ⟨cvn,hcvn⟩:∃ x,CC.2.1=x:=⟨_,rfl⟩
  obtain ⟨cln,hcln⟩:∃ x,CC.1.2.1=x:=⟨_,rfl⟩
  obtain ⟨cco,hcco⟩:∃ x,CC.1.2.2=x:=⟨_,rfl⟩
  have hCh2:Calls Tryz.prog 59 #[.pointer (some ⟨X,0,none⟩)] w2 fun e w'=>(∃ va vc sa sc,e=.returned (.agg #[.string nv,.int .i64 cvn,.int .i64 cln,.int .i64 cco,.slice va CC.2.2.1.length vc,.slice sa CC.2.2.2.length sc])/\RdK (fun b=>w2.heap.size<=b) w' 4 (rVar (fun b=>w2.heap.size<=b) w') CC.2.2.1 (.slice va CC.2.2.1.length vc)/\RdK (fun b=>w2.heap.size<=b) w' 11 (rSt 7 (fun b=>w2.heap.size<=b) w') CC.2.2.2 (.slice sa CC.2.2.2.length sc))/\Pr w' X a cap ws (eL,eC) r1/\Fx X w2 w':=(hCh w2 X a cap hp2 hk hE2).mono (fun e w' hh=>by
   obtain ⟨⟨v,rfl,cv,cs,rfl,hcv,hcs⟩,h5,h6⟩:=hh
   obtain ⟨va,vc,rfl,_⟩:=hcv.form
   obtain ⟨sa,sc,rfl,_⟩:=hcs.form
   exact ⟨⟨va,vc,sa,sc,by rw [hnv,hcvn,hcln,hcco],hcv,hcs⟩,h5,h6⟩)
  go_upto_region 6 with (first
   | (go_at_call 59;refine hCh2.mono ?_;rintro e w3 ⟨⟨va,vc,sa,sc,rfl,hcv,hcs⟩,hp3,hf3⟩))
  have hsz3:=hf3.size
  have hA3:=hA2.fx hf3 (by omega)
  have hP3:=hP2.fx hf3 (by omega)
  have hb3:=hf3.bel hb2 (by omega) Nat.le.refl
  have hal:=(Below.refl w3.heap.size w3).alloc Nat.le.refl (.cells #[.string nv,.int .i64 cvn,.int .i64 cln,.int .i64 cco,.slice va CC.2.2.1.length vc,.slice sa CC.2.2.2.length sc] 33)
  have hA4:=hA3.on hal
  have hP4:=hP3.on hal
  have hC4:Bn (w3.alloc (.cells #[.string nv,.int .i64 cvn,.int .i64 cln,.int .i64 cco,.slice va CC.2.2.1.length vc,.slice sa CC.2.2.2.length sc] 33)) w3.heap.size [.string nv,.int .i64 cvn,.int .i64 cln,.int .i64 cco,.slice va CC.2.2.1.length vc,.slice sa CC.2.2.2.length sc]:=Bn.new w3 [.string nv,.int .i64 cvn,.int .i64 cln,.int .i64 cco,.slice va CC.2.2.1.length vc,.slice sa CC.2.2.2.length sc] 33 _ rfl
  have hp4:=hp3.on hal
  have hb4:=hb3.trans (hal.mono hb3.size)
  have hX3:=hp3.lt
  have hR4:RdC (fun b=>w.heap.size+2<=b/\b≠X) (w3.alloc (.cells #[.string nv,.int .i64 cvn,.int .i64 cln,.int .i64 cco,.slice va CC.2.2.1.length vc,.slice sa CC.2.2.2.length sc] 33)) 7 CC (.agg #[.string nv,.int .i64 cvn,.int .i64 cln,.int .i64 cco,.slice va CC.2.2.1.length vc,.slice sa CC.2.2.2.length sc]):=by
   refine ⟨_,_,by rw [hnv,hcvn,hcln,hcco],hcv.stay kp_var (fun b hb hl=>⟨⟨?_,?_⟩,hal.block b hl⟩),hcs.stay (kp_st _) (fun b hb hl=>⟨⟨?_,?_⟩,hal.block b hl⟩)⟩
   ·have:=hp2.lt;omega
   ·have:=hp2.lt;omega
   ·have:=hp2.lt;omega
   ·have:=hp2.lt;omega
  obtain ⟨N,hN⟩:∃ N,w3.heap.size=N:=⟨_,rfl⟩
  obtain ⟨vn,hvn⟩:∃ n,CC.2.2.1.length=n:=⟨_,rfl⟩
  obtain ⟨sn,hsn⟩:∃ n,CC.2.2.2.length=n:=⟨_,rfl⟩
  rw [hvn,hsn] at hA4 hP4 hC4 hp4 hb4 hR4 ⊢
  rw [hN] at hC4 ⊢
  have hNX:X < N:=by omega
  clear hA2 hP2 hb2 hp2 hE2 hf3 hA3 hP3 hb3 hal hp3 hX3 hnv hcvn hcln hcco hN hCh hCh2 hcv hcs hvn hsn
  generalize w3.alloc (.cells #[.string nv,.int .i64 cvn,.int .i64 cln,.int .i64 cco,.slice va vn vc,.slice sa sn sc] 33)=w4 at *
  have hLa4:=hLa w4 X a cap hp4 hk
  go_upto_region 7 with (first
   | (go_at_call 60;refine hLa4.mono ?_;rintro e w5 ⟨⟨u,rfl⟩,hp5,hf5⟩))
  have hA5:=hA4.fx hf5 (by omega)
  have hP5:=hP4.fx hf5 (by omega)
  have hC5:=hC4.fx hf5 (by omega)
  have hb5:=hf5.bel hb4 (by omega) Nat.le.refl
  have hR5:RdC (fun b=>w.heap.size+2<=b) w5 7 CC (.agg #[.string nv,.int .i64 cvn,.int .i64 cln,.int .i64 cco,.slice va vn vc,.slice sa sn sc]):=hR4.keep (fun b hb hl=>⟨hb.1,hf5.block b hl (fun e=>hb.2 (Option.some.inj e))⟩)
  clear hA4 hP4 hC4 hb4 hR4 hf5 hp4 hLa hLa4
  obtain ⟨n,⟨c0,c1,c2,f1,f2,hL⟩,h5,h6,h7⟩:=id hp5
  obtain ⟨b,hb⟩:∃ b,r2.2.2=b:=⟨_,rfl⟩
  rw [hb] at c2
  have hlen:=hk.l
  have hcap:=hk.c
  obtain ⟨a0,k0⟩:=hA5 0 _ rfl
  obtain ⟨a1,k1⟩:=hA5 1 _ rfl
  obtain ⟨a2,k2⟩:=hA5 2 _ rfl
  obtain ⟨a3,k3⟩:=hA5 3 _ rfl
  obtain ⟨a4,k4⟩:=hA5 4 _ rfl
  obtain ⟨a5,k5⟩:=hA5 5 _ rfl
  obtain ⟨p0,o0⟩:=hP5 0 _ rfl
  obtain ⟨p1,o1⟩:=hP5 1 _ rfl
  by_cases hz:b=0
  ·subst hz
   have hv:=HRES.out
   rw [if_pos hb] at hv
   subst hv
   obtain ⟨y0,z0⟩:=hC5 0 _ rfl
   obtain ⟨y1,z1⟩:=hC5 1 _ rfl
   obtain ⟨y2,z2⟩:=hC5 2 _ rfl
   obtain ⟨y3,z3⟩:=hC5 3 _ rfl
   obtain ⟨y4,z4⟩:=hC5 4 _ rfl
   obtain ⟨y5,z5⟩:=hC5 5 _ rfl
   clear hL h5 h7 hb HRES
   go_wp2
   exact bodyPost_ret (read_res ((((((((hA5.set (i:=0) (by simp) (.string nv)).set (i:=1) (by simp) (.int .i64 cvn)).set (i:=2) (by simp) (.int .i64 cln)).set (i:=3) (by simp) (.int .i64 cco)).set (i:=4) (by simp) (.slice va vn vc)).set (i:=5) (by simp) (.slice sa sn sc)).far (X:=w.heap.size+1) (i:=0) (by omega) (.int .i64 0)).far (X:=w.heap.size+1) (i:=1) (by omega) (.int .i64 0)) ((((((((hP5.far (X:=w.heap.size) (i:=0) (by omega) (.string nv)).far (X:=w.heap.size) (i:=1) (by omega) (.int .i64 cvn)).far (X:=w.heap.size) (i:=2) (by omega) (.int .i64 cln)).far (X:=w.heap.size) (i:=3) (by omega) (.int .i64 cco)).far (X:=w.heap.size) (i:=4) (by omega) (.slice va vn vc)).far (X:=w.heap.size) (i:=5) (by omega) (.slice sa sn sc)).set (i:=0) (by simp) (.int .i64 0)).set (i:=1) (by simp) (.int .i64 0)) rfl rfl rfl) rfl ⟨_,rfl,hR5.keep (fun b hb hl=>⟨by omega,by rw [Below.heap_setCell _ _ _ _ (fun e=>by have e':b=w.heap.size+1:=e;omega),Below.heap_setCell _ _ _ _ (fun e=>by have e':b=w.heap.size+1:=e;omega),Below.heap_setCell _ _ _ _ (fun e=>by have e':b=w.heap.size:=e;omega),Below.heap_setCell _ _ _ _ (fun e=>by have e':b=w.heap.size:=e;omega),Below.heap_setCell _ _ _ _ (fun e=>by have e':b=w.heap.size:=e;omega),Below.heap_setCell _ _ _ _ (fun e=>by have e':b=w.heap.size:=e;omega),Below.heap_setCell _ _ _ _ (fun e=>by have e':b=w.heap.size:=e;omega),Below.heap_setCell _ _ _ _ (fun e=>by have e':b=w.heap.size:=e;omega)]⟩),(below_st (below_st (below_st (below_st (below_st (below_st (below_st (below_st hb5 w.heap.size 0 (.string nv) Nat.le.refl) w.heap.size 1 (.int .i64 cvn) Nat.le.refl) w.heap.size 2 (.int .i64 cln) Nat.le.refl) w.heap.size 3 (.int .i64 cco) Nat.le.refl) w.heap.size 4 (.slice va vn vc) Nat.le.refl) w.heap.size 5 (.slice sa sn sc) Nat.le.refl) (w.heap.size+1) 0 (.int .i64 0) (by omega)) (w.heap.size+1) 1 (.int .i64 0) (by omega))⟩
  ·have hv:=HRES.out
   rw [if_neg (by rw [hb];exact hz),h7 (by rw [hb];exact hz),hb] at hv
   have i1:(b == 0)=false:=by simpa using hz
   unfold hereR at hv
   cases hr:r2.1 with
   | nil=>
    rw [hr] at h5 hv
    have hn:=drop_nil h5 h6
    have HV:Hid ((noC,(eL,eC),b)=RES):=hv
    have i2:(n == ws.length)=true:=by simpa using hn
    have i3:((n:Int) == (ws.length:Int))=true:=by simp [hn]
    clear hL h5 h6 h7 hr HRES hz hv hn
    go_upto_region 10 with fail
    go_region_law (first
     | (go_simp;(with_reducible refine (hEn _).mono ?_);rintro e w6 ⟨rfl,b6⟩;have b6':=((Below.refl w5.heap.size w5).drew).trans b6;have hA6:=hA5.on b6';have hP6:=hP5.on b6';have hb6:=hb5.trans (b6'.mono hb5.size);have c2':w6.cell? ⟨X,2,none⟩=some (.int .i64 b):=((b6'.cell (p:=⟨X,2,none⟩) hp5.lt).trans c2);obtain ⟨u0,x0⟩:=hA6 0 _ rfl;obtain ⟨u1,x1⟩:=hA6 1 _ rfl;obtain ⟨u2,x2⟩:=hA6 2 _ rfl;obtain ⟨u3,x3⟩:=hA6 3 _ rfl;obtain ⟨u4,x4⟩:=hA6 4 _ rfl;obtain ⟨u5,x5⟩:=hA6 5 _ rfl;obtain ⟨y0,z0⟩:=hP6 0 _ rfl;obtain ⟨y1,z1⟩:=hP6 1 _ rfl)
     | fail)
    all_goals (
     go_wp2
     have hvv:=HV.out
     subst hvv
     exact bodyPost_ret (read_res ((((((((hA6.set (i:=0) (by simp) (.string ⟨#[]⟩)).set (i:=1) (by simp) (.int .i64 0)).set (i:=2) (by simp) (.int .i64 0)).set (i:=3) (by simp) (.int .i64 0)).set (i:=4) (by simp) (.slice none 0 0)).set (i:=5) (by simp) (.slice none 0 0)).far (X:=w.heap.size+1) (i:=0) (by omega) (.int .i64 eL)).far (X:=w.heap.size+1) (i:=1) (by omega) (.int .i64 eC)) ((((((((hP6.far (X:=w.heap.size) (i:=0) (by omega) (.string ⟨#[]⟩)).far (X:=w.heap.size) (i:=1) (by omega) (.int .i64 0)).far (X:=w.heap.size) (i:=2) (by omega) (.int .i64 0)).far (X:=w.heap.size) (i:=3) (by omega) (.int .i64 0)).far (X:=w.heap.size) (i:=4) (by omega) (.slice none 0 0)).far (X:=w.heap.size) (i:=5) (by omega) (.slice none 0 0)).set (i:=0) (by simp) (.int .i64 eL)).set (i:=1) (by simp) (.int .i64 eC)) rfl rfl rfl) rfl ⟨_,rfl,rdC_no _ _,(below_st (below_st (below_st (below_st (below_st (below_st (below_st (below_st hb6 w.heap.size 0 (.string ⟨#[]⟩) Nat.le.refl) w.heap.size 1 (.int .i64 0) Nat.le.refl) w.heap.size 2 (.int .i64 0) Nat.le.refl) w.heap.size 3 (.int .i64 0) Nat.le.refl) w.heap.size 4 (.slice none 0 0) Nat.le.refl) w.heap.size 5 (.slice none 0 0) Nat.le.refl) (w.heap.size+1) 0 (.int .i64 eL) (by omega)) (w.heap.size+1) 1 (.int .i64 eC) (by omega))⟩)
   | cons x l=>
    rw [hr] at h5 hv
    obtain ⟨hn,_,hx⟩:=drop_cons h5
    obtain ⟨g,off,rfl,hg,d0,d1,d2,d3⟩:=hL n hn
    have hg2:=hga g off rfl
    have hg3:¬ g=w.heap.size:=by omega
    have hg4:¬ w.heap.size=g:=by omega
    have hg5:¬ g=w.heap.size+1:=by omega
    have hg6:¬ w.heap.size+1=g:=by omega
    have hg7:¬ X=w.heap.size:=by omega
    have hg8:¬ w.heap.size=X:=by omega
    have hg9:¬ X=w.heap.size+1:=by omega
    have hg10:¬ w.heap.size+1=X:=by omega
    rw [hx hn] at d0 d1 d2 d3
    obtain ⟨K,seg,xl,xc⟩:=x
    simp only at d0 d1 d2 d3
    have HV:Hid ((noC,(xl,xc),b)=RES):=hv
    have i2:((n:Int) == (ws.length:Int))=false:=by simp;omega
    have i3:(n:Int) < (ws.length:Int):=by omega
    have i4:(0:Int)<=(n:Int):=by omega
    clear hL h5 h6 h7 hr HRES hz hv hx
    go_upto_region 11 with fail
    go_region
    go_wp2
    have hvv:=HV.out
    subst hvv
    exact bodyPost_ret (read_res (((((((((hA5.set (i:=0) (by simp) (.string ⟨#[]⟩)).set (i:=1) (by simp) (.int .i64 0)).set (i:=2) (by simp) (.int .i64 0)).set (i:=3) (by simp) (.int .i64 0)).set (i:=4) (by simp) (.slice none 0 0)).set (i:=5) (by simp) (.slice none 0 0)).far (X:=w.heap.size+1) (i:=0) (by omega) (.int .i64 xl)).far (X:=w.heap.size+1) (i:=1) (by omega) (.int .i64 xc)).drew) (((((((((hP5.far (X:=w.heap.size) (i:=0) (by omega) (.string ⟨#[]⟩)).far (X:=w.heap.size) (i:=1) (by omega) (.int .i64 0)).far (X:=w.heap.size) (i:=2) (by omega) (.int .i64 0)).far (X:=w.heap.size) (i:=3) (by omega) (.int .i64 0)).far (X:=w.heap.size) (i:=4) (by omega) (.slice none 0 0)).far (X:=w.heap.size) (i:=5) (by omega) (.slice none 0 0)).set (i:=0) (by simp) (.int .i64 xl)).set (i:=1) (by simp) (.int .i64 xc)).drew) rfl rfl rfl) rfl ⟨_,rfl,rdC_no _ _,(below_st (below_st (below_st (below_st (below_st (below_st (below_st (below_st hb5 w.heap.size 0 (.string ⟨#[]⟩) Nat.le.refl) w.heap.size 1 (.int .i64 0) Nat.le.refl) w.heap.size 2 (.int .i64 0) Nat.le.refl) w.heap.size 3 (.int .i64 0) Nat.le.refl) w.heap.size 4 (.slice none 0 0) Nat.le.refl) w.heap.size 5 (.slice none 0 0) Nat.le.refl) (w.heap.size+1) 0 (.int .i64 xl) (by omega)) (w.heap.size+1) 1 (.int .i64 xc) (by omega)).drew⟩
theorem RdC.lit {ok:Nat->Prop}{w:World}{d:Nat}{c:ChG d}{v:Value}(h:RdC ok w d c v):∃ nv vn ln co va vc sa sc,v=.agg #[.string nv,.int .i64 vn,.int .i64 ln,.int .i64 co,.slice va c.2.2.1.length vc,.slice sa c.2.2.2.length sc]/\RdK ok w 4 (rVar ok w) c.2.2.1 (.slice va c.2.2.1.length vc)/\RdK ok w 11 (rSt d ok w) c.2.2.2 (.slice sa c.2.2.2.length sc):=by
 obtain ⟨sv,ss,rfl,h1,h2⟩:=h
 obtain ⟨va,vc,rfl,_⟩:=h1.form
 obtain ⟨sa,sc,rfl,_⟩:=h2.form
 exact ⟨_,_,_,_,va,vc,sa,sc,rfl,h1,h2⟩
theorem rdC_formB {ok:Nat->Prop}{w:World}{d:Nat}{c:ChG d}{v:Value}(h:RdC ok w d c v):∃ a b e f g h' i j k l,v=.agg #[.string a,.int .i64 b,.int .i64 e,.int .i64 f,.slice g h' i,.slice j k l]:=by
 obtain ⟨sv,ss,rfl,h1,h2⟩:=h
 obtain ⟨a,cap,rfl,_⟩:=h1.form
 obtain ⟨a',cap',rfl,_⟩:=h2.form
 exact ⟨_,_,_,_,_,_,_,_,_,_,rfl⟩
abbrev Vr:=ByteArray × Int
def RdV (w:World) (v:Value) (vs:List Vr):Prop:=
 ∃ a cap,v=.slice a vs.length cap/\vs.length<=cap/\cap<=maxLen/\(a=none->vs=[])/\
  ∀ x,a=some x->∀ (i:Nat) (h:i < vs.length),w.cell? (x.add (i*2))=some (.string (vs[i]).1)/\w.cell? (x.add (i*2+1))=some (.int .i64 (vs[i]).2)
theorem RdV.below {w w':World}{v:Value}{vs:List Vr}{B:Nat}(h:RdV w v vs) (hb:Below B w w') (hB:w.heap.size<=B):RdV w' v vs:=by
 obtain ⟨a,cap,rfl,hc,hm,hn,hcell⟩:=h
 refine ⟨a,cap,rfl,hc,hm,hn,fun x hx i hi=>?_⟩
 obtain ⟨h1,h2⟩:=hcell x hx i hi
 have hk:∀ p u,w.cell? p=some u->w'.cell? p=some u:=fun p u hp=>by rw [hb.cell (Nat.lt_of_lt_of_le (World.block_lt_of_cell? w _ hp) hB)];exact hp
 exact ⟨hk _ _ h1,hk _ _ h2⟩
theorem RdV.form {w:World}{v:Value}{vs:List Vr}(h:RdV w v vs):∃ a cap,v=.slice a vs.length cap/\vs.length<=cap/\cap<=9223372036854775807/\
  ∀ (i:Nat) (hi:i < vs.length),∃ b off,a=some ⟨b,off,none⟩/\b < w.heap.size/\w.cell? ⟨b,off+i*2,none⟩=some (.string (vs[i]).1)/\w.cell? ⟨b,off+i*2+1,none⟩=some (.int .i64 (vs[i]).2):=by
 obtain ⟨a,cap,rfl,hc,hm,hn,hcell⟩:=h
 refine ⟨a,cap,rfl,hc,by unfold maxLen at hm;omega,fun i hi=>?_⟩
 cases a with
 | none=>have:=hn rfl;subst this;simp at hi
 | some x=>
  obtain ⟨b,off,spot⟩:=x
  obtain ⟨h1,h2⟩:=hcell _ rfl i hi
  obtain ⟨z1,_⟩:=hcell _ rfl 0 (by omega)
  have hspot:spot=none:=by simpa [Addr.add] using World.cell?_spot z1
  subst hspot
  rw [add_plain] at h1 h2
  exact ⟨b,off,rfl,World.block_lt_of_cell? w _ h1,h1,h2⟩
end Go.Proofs.YtfjdceknbdmhpaaGreatDoor
namespace Go.Proofs.YtfjdceknbdmhpaaGreatDoor
open Go.ChangeShapes Go.WideShapes Go.ChangeAt Go.RowKit
set_option linter.unusedSimpArgs false
set_option linter.unusedVariables false
theorem half2 (g:Nat):(g+2) / 2=g / 2+1:=by omega
theorem pick {α:Type}{p:Nat->α->Prop}:∀ (n:Nat),(∀ i,i < n->∃ a,p i a)->∃ l:List α,l.length=n/\∀ (i:Nat) (h:i < l.length),p i l[i]
 | 0,_=>⟨[],rfl,fun i h=>absurd h (by simp)⟩
 | n+1,H=>by
  obtain ⟨l,hl,hp⟩:=pick n (fun i hi=>H i (by omega))
  obtain ⟨a,ha⟩:=H n (by omega)
  refine ⟨l++[a],by simp [hl],fun i h=>?_⟩
  rcases Nat.lt_or_ge i l.length with hi|hi
  ·rw [List.getElem_append_left hi];exact hp i hi
  ·have:i=n:=by simp at h;omega
   subst this
   have e:(l++[a])[i]'h=a:=by simp [<- hl]
   rw [e];exact ha
theorem open_node {H:Type}{enc:TypeId × Value->H}{W:World}:∀ (m fuel:Nat),fuel<=m->∀ {cs:List Value}{x:DataW H × List MemPlace},DataW.trod enc Tryz.prog W 0 (fun _=>true) true fuel 122 cs=some x->
  ∃ (d:Nat) (t:T d) (c0 c1 c2 c3:Value),d=fuel / 2/\cs=[c0,c1,c2,c3]/\RdT (fun _=>True) W d t (.agg #[c0,c1,c2,c3])
 | 0,fuel,hf,cs,x,h=>by
  obtain rfl:fuel=0:=by omega
  simp [DataW.trod] at h
 | m+1,fuel,hf,cs,x,h=>by
  obtain ⟨xs,n,rfl,rfl,hl,hlen,hfd⟩:=DataW.trod_struct Tryz.underlying122 h
  have hc:Tryz.prog.cellsOf 122=4:=by kernel_rfl
  have cI:Tryz.prog.cellsOf 3=1:=by kernel_rfl
  have cL:Tryz.prog.cellsOf 2=1:=by kernel_rfl
  have c9:Tryz.prog.cellsOf 9=1:=by kernel_rfl
  have cP:Tryz.prog.cellsOf 120=1:=by kernel_rfl
  rw [hc] at hl
  have f0:DataW.trod enc Tryz.prog W 0 (fun _=>true) true n 3 ((cs.drop 0).take (Tryz.prog.cellsOf 3))=xs[0]?:=hfd 0 _ rfl
  have f1:DataW.trod enc Tryz.prog W 0 (fun _=>true) true n 2 ((cs.drop 1).take (Tryz.prog.cellsOf 2))=xs[1]?:=hfd 1 _ rfl
  have f2:DataW.trod enc Tryz.prog W 0 (fun _=>true) true n 9 ((cs.drop 2).take (Tryz.prog.cellsOf 9))=xs[2]?:=hfd 2 _ rfl
  have f3:DataW.trod enc Tryz.prog W 0 (fun _=>true) true n 120 ((cs.drop 3).take (Tryz.prog.cellsOf 120))=xs[3]?:=hfd 3 _ rfl
  rw [cI] at f0
  rw [cL] at f1
  rw [c9] at f2
  rw [cP] at f3
  match cs,hl,xs,hlen with
  | [a,b,c,e],_,[y0,y1,y2,y3],_=>
   simp only [List.drop_zero,List.take_succ_cons,List.take_zero,List.drop_succ_cons,List.getElem?_cons_zero,List.getElem?_cons_succ] at f0 f1 f2 f3
   obtain ⟨k,e0,rfl,_⟩:=DataW.trod_int Tryz.underlying3 f0
   obtain ⟨nn,e1,rfl,_⟩:=DataW.trod_int Tryz.underlying2 f1
   obtain ⟨s,e2,rfl,_⟩:=DataW.trod_string Tryz.underlying9 f2
   simp only [List.cons.injEq,and_true] at e0 e1 e2
   subst e0 e1 e2
   obtain ⟨g,rfl⟩:∃ g,n=g+1:=by
    cases n with
    | zero=>simp [DataW.trod] at f3
    | succ g=>exact ⟨g,rfl⟩
   rcases DataW.trod_slice Tryz.underlying120 f3 with ⟨hcs,_⟩|⟨ad,len,cap,elems,rest,n',hn',hcs,_,_,hlc,hcm,hel,helt,_,_⟩
   ·simp only [List.cons.injEq,and_true] at hcs
    subst hcs
    refine ⟨g / 2+1,mkT k nn s [],_,_,_,_,(half2 g).symm,rfl,rdT_mk.2 ⟨_,rfl,none,0,rfl,by simp,by simp [maxLen],fun _=>rfl,fun x hx=>by cases hx⟩⟩
   ·obtain rfl:n'=g:=by omega
    simp only [List.cons.injEq,and_true] at hcs
    subst hcs
    rw [hc] at helt
    have hall:∀ i,i < len->∃ q:T (n' / 2) × Value × Value × Value × Value,W.cells? 0 (ad.add (i*4)) 4=some [q.2.1,q.2.2.1,q.2.2.2.1,q.2.2.2.2]/\RdT (fun _=>True) W (n' / 2) q.1 (.agg #[q.2.1,q.2.2.1,q.2.2.2.1,q.2.2.2.2]):=by
     intro i hi
     have h1:=helt i hi
     rw [List.getElem?_eq_getElem (by omega)] at h1
     obtain ⟨cs',h2,h3⟩:=Option.bind_eq_some_iff.1 h1
     obtain ⟨d,t,c0,c1,c2,c3,rfl,rfl,hr⟩:=open_node m n' (by omega) h3
     exact ⟨(t,c0,c1,c2,c3),h2,hr⟩
    obtain ⟨l,hll,hfy⟩:=pick len hall
    refine ⟨n' / 2+1,mkT k nn s (l.map (fun q=>q.1)),_,_,_,_,(half2 n').symm,rfl,rdT_mk.2 ⟨_,rfl,some ad,cap,by simp [hll],by simpa [hll] using hlc,hcm,by simp,?_⟩⟩
    intro z hz i hi
    obtain rfl:=Option.some.inj hz
    have hi':i < l.length:=by simpa using hi
    obtain ⟨g1,g2⟩:=hfy i hi'
    obtain ⟨_,_,hcell⟩:=World.cells?_some g1
    have k0:=hcell 0 (by omega)
    have k1:=hcell 1 (by omega)
    have k2:=hcell 2 (by omega)
    have k3:=hcell 3 (by omega)
    rw [Go.Deep.add_add] at k0 k1 k2 k3
    simp only [Nat.add_zero] at k0
    refine ⟨trivial,(l[i]).2.1,(l[i]).2.2.1,(l[i]).2.2.2.1,(l[i]).2.2.2.2,?_,by simpa using k0,by simpa using k1,by simpa using k2,by simpa using k3⟩
    simp only [List.getElem_map]
    exact g2
end Go.Proofs.YtfjdceknbdmhpaaGreatDoor
namespace Go.Proofs.YtfjdceknbdmhpaaGreatDoor
open Go.RowKit Go.Lib
set_option linter.unusedSimpArgs false
set_option linter.unusedVariables false
attribute [local go_sem ↓] Go.wp_at_zero Go.wp_at_succ
end Go.Proofs.YtfjdceknbdmhpaaGreatDoor
namespace Go.Proofs.YtfjdceknbdmhpaaGreatDoor
open Go.RowKit
set_option linter.unusedSimpArgs false
set_option linter.unusedVariables false
def OwnN (w:World) (base:Nat) (v:Value) {d:Nat}(l:List (T d)):Prop:=
 ∃ qs:List Q4,w.ownsRow base 122 4 v l.length (celsQ qs)/\qs.length=l.length/\∀ (i:Nat) (h:i < l.length) (h':i < qs.length),RdT (fun b=>base<=b/\v.ownBlock≠some b) w d l[i] (.agg #[(qs[i]).1,(qs[i]).2.1,(qs[i]).2.2.1,(qs[i]).2.2.2])
theorem OwnN.keep {w w':World}{base:Nat}{v:Value}{d:Nat}{l:List (T d)}(h:OwnN w base v l) (hk:∀ b,base<=b->b < w.heap.size->w'.heap[b]?=w.heap[b]?):OwnN w' base v l:=by
 obtain ⟨qs,ho,hl,hr⟩:=h
 refine ⟨qs,ownsRow_keep ho (fun g hg=>?_),hl,fun i h h'=>RdT.keep (fun b hb hlt=>⟨hb,hk b hb.1 hlt⟩) (hr i h h')⟩
 obtain ⟨a,b⟩:=ownsRow_lt ho g hg
 exact hk g a b
theorem OwnN.below {w w':World}{base:Nat}{v:Value}{d:Nat}{l:List (T d)}(h:OwnN w base v l) (hb:Below w.heap.size w w'):OwnN w' base v l:=h.keep (fun b _ hlt=>hb.block b hlt)
theorem OwnN.set {w:World}{base:Nat}{v:Value}{d:Nat}{l:List (T d)}(h:OwnN w base v l) {X i:Nat}(hX:X < base) (u:Value):OwnN (w.setCell ⟨X,i,none⟩ u) base v l:=
 h.keep (fun b hb _=>Below.heap_setCell _ _ _ _ (fun e=>by have:b=X:=e;omega))
theorem OwnN.snoc {w w':World}{base g cap lo n:Nat}{v:Value}{d:Nat}{l:List (T d)}{p:T d}{c0 c1 c2 c3:Value}{qs:List Q4}
  (hn:l.length=n) (ho:w.ownsRow base 122 4 v n (celsQ qs)) (hl:qs.length=l.length) (hr:∀ (i:Nat) (h:i < l.length) (h':i < qs.length),RdT (fun b=>base<=b/\v.ownBlock≠some b) w d l[i] (.agg #[(qs[i]).1,(qs[i]).2.1,(qs[i]).2.2.1,(qs[i]).2.2.2]))
  (ho':w'.ownsRow base 122 4 (.slice (some ⟨g,0,none⟩) (n+1) cap) (n+1) (celsQ qs++[c0,c1,c2,c3])) (hg:w.grownBy w' v.ownBlock) (hat:v.ownBlock=some g∨g=w.heap.size)
  (hp:RdT (fun b=>lo<=b) w d p (.agg #[c0,c1,c2,c3])) (hlo:base<=lo) (hv:∀ x,v.ownBlock=some x->x < lo):OwnN w' base (.slice (some ⟨g,0,none⟩) (n+1) cap) (l++[p]):=by
 subst hn
 have key:∀ b,base<=b/\v.ownBlock≠some b->b < w.heap.size->(base<=b/\(Value.slice (some ⟨g,0,none⟩) (l.length+1) cap).ownBlock≠some b)/\w'.heap[b]?=w.heap[b]?:=fun b hb hlt=>by
  refine ⟨⟨hb.1,?_⟩,hg.block b hlt (fun e=>hb.2 e.symm)⟩
  simp only [Value.ownBlock,ne_eq,Option.some.injEq]
  rintro rfl
  rcases hat with h|h
  ·exact hb.2 h
  ·omega
 refine ⟨qs++[(c0,c1,c2,c3)],?_,by simp [hl],fun i h h'=>?_⟩
 ·rw [celsQ_snoc,List.length_append]
  exact ho'
 ·rcases Nat.lt_or_ge i l.length with hi|hi
  ·rw [List.getElem_append_left hi,List.getElem_append_left (by omega)]
   exact RdT.keep key (hr i hi (by omega))
  ·have:i=l.length:=by simp at h;omega
   subst this
   have e1:(l++[p])[l.length]=p:=by simp
   have e2:(qs++[(c0,c1,c2,c3)])[l.length]'h'=(c0,c1,c2,c3):=by simp [<- hl]
   rw [e1,e2]
   exact RdT.keep (fun b hb hlt=>key b ⟨by omega,fun e=>by have:=hv b e;omega⟩ hlt) hp
theorem OwnN.form {w:World}{base:Nat}{v:Value}{d:Nat}{l:List (T d)}(h:OwnN w base v l):∃ a cap,v=.slice a l.length cap:=by
 obtain ⟨qs,ho,_⟩:=h
 rcases ho.2 with ⟨h1,h2⟩|⟨g,cap,cur,h1,_⟩
 ·exact ⟨none,0,by rw [h1,h2]⟩
 ·exact ⟨_,_,h1⟩
theorem OwnN.rd {w:World}{base:Nat}{v:Value}{d:Nat}{l:List (T d)}(h:OwnN w base v l):RdP (fun b=>base<=b) w (RdT (fun b=>base<=b) w d) l v:=by
 obtain ⟨qs,ho,hl,hr⟩:=h
 have hc:=fun g=>World.ownsRow.cells ho (g:=g)
 rcases ho.2 with ⟨rfl,hn⟩|⟨g,cap,cur,rfl,hb,hg,hnc,hcm,hcs,htake⟩
 ·have hx:l=[]:=List.eq_nil_of_length_eq_zero hn
  subst hx
  exact ⟨none,0,rfl,by simp,by simp [maxLen],by simp,fun x hx=>by cases hx⟩
 ·refine ⟨some ⟨g,0,none⟩,cap,rfl,hnc,hcm,by simp,?_⟩
  intro x hx i hi
  obtain rfl:=Option.some.inj hx
  obtain ⟨h0,h1,h2,h3⟩:=celsQ_at qs i (by omega)
  exact ⟨hb,_,_,_,_,RdT.keep (fun b hb _=>⟨hb.1,rfl⟩) (hr i hi (by omega)),hc g rfl _ _ h0,hc g rfl _ _ h1,hc g rfl _ _ h2,hc g rfl _ _ h3⟩
theorem OwnN.base {w:World}{base lo:Nat}{d:Nat}{l:List (T d)}{v:Value}(h:RdP (fun b=>base<=b) w (RdT (fun b=>base<=b) w d) l v) (hlo:lo<=base):RdP (fun b=>lo<=b) w (RdT (fun b=>lo<=b) w d) l v:=
 h.keep (fun x _ u hu=>RdT.keep (fun b hb _=>⟨by omega,rfl⟩) hu) (fun b hb _=>⟨by omega,rfl⟩)
end Go.Proofs.YtfjdceknbdmhpaaGreatDoor
namespace Go.Proofs.YtfjdceknbdmhpaaGreatDoor
open Go.RowKit Go.Lib
set_option linter.unusedSimpArgs false
set_option linter.unusedVariables false
attribute [local go_sem ↓] Go.wp_at_zero Go.wp_at_succ
def RdX (ok:Nat->Prop) (w:World) (x:Sx) (v:Value):Prop:=RdT ok w x.1 x.2 v
theorem RdX.keep {ok ok':Nat->Prop}{w w':World}{x:Sx}{v:Value}(h:RdX ok w x v) (hk:∀ b,ok b->b < w.heap.size->ok' b/\w'.heap[b]?=w.heap[b]?):RdX ok' w' x v:=RdT.keep hk h
theorem RdX.form {ok:Nat->Prop}{w:World}{x:Sx}{v:Value}(h:RdX ok w x v):∃ k n s a m c,v=.agg #[.int .i64 k,.int .i64 n,.string s,.slice a m c]:=by
 obtain ⟨d,t⟩:=x
 match d,t,h with
 | 0,t,_=>exact Empty.elim t
 | d+1,t,h=>
  obtain ⟨k,n,s,ps,rfl⟩:=T.open t
  obtain ⟨sl,rfl,a,cap,rfl,_⟩:=rdT_mk.1 h
  exact ⟨k,n,s,a,_,cap,rfl⟩
end Go.Proofs.YtfjdceknbdmhpaaGreatDoor
namespace Go.Proofs.YtfjdceknbdmhpaaGreatDoor
open Go.Shelf Go.RowKit
set_option linter.unusedVariables false
def Tabs (w:World):Prop:=Lib.Utf8Tabs 1 2 w
theorem Tabs.below {w w':World}{B:Nat}(h:Tabs w) (hb:Below B w w') (hB:w.heap.size<=B):Tabs w':=by
 have k:∀ {p:Addr}{v:Value},w.cell? p=some v->w'.cell? p=some v:=fun {p v} hc=>by
  have hlt:=World.block_lt_of_cell? w _ hc
  rw [hb.cell (by omega)]
  exact hc
 exact ⟨fun c hc=>k (h.1 c hc),fun i hi=>⟨k (h.2 i hi).1,k (h.2 i hi).2⟩⟩
end Go.Proofs.YtfjdceknbdmhpaaGreatDoor
namespace Go.Proofs.YtfjdceknbdmhpaaGreatDoor
open Go.RowKit Go.Lib
set_option linter.unusedSimpArgs false
set_option linter.unusedVariables false
attribute [local go_sem ↓] Go.wp_at_zero Go.wp_at_succ
theorem B4.fx {X N:Nat}{w w':World}{a b c e:Value}(h:B4 w N a b c e) (hf:Fx X w w') (hN:N≠X):B4 w' N a b c e:=by
 have hb:w'.heap[N]?=w.heap[N]?:=hf.block N h.lt (fun q=>hN (Option.some.inj q))
 have hc:∀ i,w'.cell? ⟨N,i,none⟩=w.cell? ⟨N,i,none⟩:=fun i=>World.cell?_of_block (w:=w) (a:=⟨N,i,none⟩) hb
 have hz:∀ i,w'.frozen? ⟨N,i,none⟩=w.frozen? ⟨N,i,none⟩:=fun i=>World.frozen?_of_block (w:=w) (a:=⟨N,i,none⟩) hb
 exact ⟨(hc 0).trans h.c0,(hc 1).trans h.c1,(hc 2).trans h.c2,(hc 3).trans h.c3,(hz 0).trans h.f0,(hz 1).trans h.f1,(hz 2).trans h.f2,(hz 3).trans h.f3⟩
theorem Fx.put4 {X N:Nat}{a b:World}(h:Fx X a b) (hN:a.heap.size<=N) (c0 c1 c2 c3:Value):Fx X a (put4 b N c0 c1 c2 c3):=(((h.setN hN c0).setN hN c1).setN hN c2).setN hN c3
def rat (X L:Nat) (w:World):Nat:=match w.cell? ⟨X,1,none⟩,w.cell? ⟨X,2,none⟩ with|some (.int _ z),some (.int _ b)=>if b < 0 then L - z.toNat+1 else 0|_,_=>0
theorem Rr.rat {w:World}{X:Nat}{a:Option Addr}{cap:Nat}{ws:List Wd}{n:Nat}{b:Int}(h:Rr w X a cap ws n b) (L:Nat):rat X L w=if b < 0 then L - n+1 else 0:=by
 unfold Go.Proofs.YtfjdceknbdmhpaaGreatDoor.rat
 rw [h.c1,h.c2]
 simp only [Int.toNat_natCast]
end Go.Proofs.YtfjdceknbdmhpaaGreatDoor
namespace Go.Proofs.YtfjdceknbdmhpaaGreatDoor
open Go.RowKit
set_option linter.unusedSimpArgs false
set_option linter.unusedVariables false
end Go.Proofs.YtfjdceknbdmhpaaGreatDoor
namespace Go.Proofs.YtfjdceknbdmhpaaGreatDoor
open Go.RowKit Go.Lib
set_option linter.unusedSimpArgs false
set_option linter.unusedVariables false
attribute [local go_sem ↓] Go.wp_at_zero Go.wp_at_succ
def drV (a:Option Addr) (cap:Nat) (fin:Pl) (r:RsC):List Value:=[.slice a r.1.length cap,.int .i64 fin.1,.int .i64 fin.2,.int .i64 r.2.1.1,.int .i64 r.2.1.2,.int .i64 r.2.2]
structure Dr (w:World) (X:Nat) (fin:Pl) (r:RsC) (a:Option Addr) (cap:Nat):Prop where
 b:Bn w X (drV a cap fin r)
 l:RdL w X a r.1
 c:r.1.length<=cap
 m:cap<=maxLen
 n:r.1.length<=3000
 o:∀ x∈r.1,OneW x.1 x.2.1
theorem Dr.lt {w:World}{X:Nat}{fin:Pl}{r:RsC}{a:Option Addr}{cap:Nat}(h:Dr w X fin r a cap):X < w.heap.size:=World.block_lt_of_cell? w _ (h.b 0 _ rfl).1
theorem RdL.keepB {w w':World}{X B:Nat}{a:Option Addr}{ws:List Wd}(h:RdL w X a ws) (hb:Below B w w') (hX:X<=B):RdL w' X a ws:=fun i hi=>by
 obtain ⟨g,off,h1,h2,d0,d1,d2,d3⟩:=h i hi
 have hg:g < B:=Nat.lt_of_lt_of_le h2 hX
 exact ⟨g,off,h1,h2,(hb.cell (p:=⟨g,off+i*4,none⟩) hg).trans d0,(hb.cell (p:=⟨g,off+i*4+1,none⟩) hg).trans d1,(hb.cell (p:=⟨g,off+i*4+2,none⟩) hg).trans d2,(hb.cell (p:=⟨g,off+i*4+3,none⟩) hg).trans d3⟩
theorem Dr.belowB {w w':World}{X B:Nat}{fin:Pl}{r:RsC}{a:Option Addr}{cap:Nat}(h:Dr w X fin r a cap) (hb:Below B w w') (hX:X < B):Dr w' X fin r a cap:=
 ⟨h.b.blk (hb.block X hX),h.l.keepB hb (by omega),h.c,h.m,h.n,h.o⟩
theorem Dr.on {w w':World}{X:Nat}{fin:Pl}{r:RsC}{a:Option Addr}{cap:Nat}(h:Dr w X fin r a cap) (hb:Below w.heap.size w w'):Dr w' X fin r a cap:=h.belowB hb h.lt
theorem RdL.far {w:World}{X Y i:Nat}{a:Option Addr}{ws:List Wd}(h:RdL w X a ws) (hY:X<=Y) (u:Value):RdL (w.setCell ⟨Y,i,none⟩ u) X a ws:=fun j hj=>by
 obtain ⟨g,off,h1,h3,d0,d1,d2,d3⟩:=h j hj
 exact ⟨g,off,h1,h3,cell_far4 (by omega) d0,cell_far4 (by omega) d1,cell_far4 (by omega) d2,cell_far4 (by omega) d3⟩
theorem Dr.far {w:World}{X Y i:Nat}{fin:Pl}{r:RsC}{a:Option Addr}{cap:Nat}(h:Dr w X fin r a cap) (hY:X < Y) (u:Value):Dr (w.setCell ⟨Y,i,none⟩ u) X fin r a cap:=
 ⟨h.b.far (by omega) u,h.l.far (by omega) u,h.c,h.m,h.n,h.o⟩
def DR (w:World) (X:Nat) (fin:Pl) (r:RsC):Prop:=∃ a cap,Dr w X fin r a cap
theorem DR.lt {w:World}{X:Nat}{fin:Pl}{r:RsC}(h:DR w X fin r):X < w.heap.size:=by obtain ⟨a,cap,h⟩:=h;exact h.lt
theorem DR.on {w w':World}{X:Nat}{fin:Pl}{r:RsC}(h:DR w X fin r) (hb:Below w.heap.size w w'):DR w' X fin r:=by obtain ⟨a,cap,h⟩:=h;exact ⟨a,cap,h.on hb⟩
theorem DR.belowB {w w':World}{X B:Nat}{fin:Pl}{r:RsC}(h:DR w X fin r) (hb:Below B w w') (hX:X < B):DR w' X fin r:=by obtain ⟨a,cap,h⟩:=h;exact ⟨a,cap,h.belowB hb hX⟩
theorem DR.far {w:World}{X Y i:Nat}{fin:Pl}{r:RsC}(h:DR w X fin r) (hY:X < Y) (u:Value):DR (w.setCell ⟨Y,i,none⟩ u) X fin r:=by obtain ⟨a,cap,h⟩:=h;exact ⟨a,cap,h.far hY u⟩
def Ty (w:World) (X:Nat):Prop:=∃ w0,Tabs w0/\w0.heap.size<=X/\Below w0.heap.size w0 w
theorem Ty.fx {w w':World}{X:Nat}(h:Ty w X) (hf:Fx X w w'):Ty w' X:=by
 obtain ⟨w0,h1,h2,h3⟩:=h
 exact ⟨w0,h1,h2,⟨hf.os.trans h3.os,hf.tape.trans h3.tape,hf.output.trans h3.output,Nat.le_trans h3.size hf.size,fun k hk=>(hf.block k (Nat.lt_of_lt_of_le hk h3.size) (fun e=>by have:k=X:=Option.some.inj e;omega)).trans (h3.block k hk)⟩⟩
theorem Ty.on {w w':World}{X:Nat}(h:Ty w X) (hb:Below w.heap.size w w'):Ty w' X:=h.fx (Fx.of hb Nat.le.refl)
theorem Ty.far {w:World}{X Y i:Nat}(h:Ty w X) (hY:X<=Y) (u:Value):Ty (w.setCell ⟨Y,i,none⟩ u) X:=by
 obtain ⟨w0,h1,h2,h3⟩:=h
 exact ⟨w0,h1,h2,h3.setCell (by show w0.heap.size<=Y;omega) u⟩
theorem Ty.bel {w w':World}{X B:Nat}(h:Ty w X) (hb:Below B w w') (hX:X < B):Ty w' X:=by
 obtain ⟨w0,h1,h2,h3⟩:=h
 exact ⟨w0,h1,h2,h3.trans (hb.mono (by omega))⟩
theorem Dr.word {w:World}{X:Nat}{fin:Pl}{r:RsC}{a:Option Addr}{cap:Nat}(h:Dr w X fin r a cap) {x:Wd}{l:List Wd}(hr:r.1=x :: l):∃ g off,a=some ⟨g,off,none⟩/\g < X/\w.cell? ⟨g,off,none⟩=some (.int .i64 (x.1:Int))/\w.cell? ⟨g,off+1,none⟩=some (.string (txt x.2.1))/\w.cell? ⟨g,off+2,none⟩=some (.int .i64 x.2.2.1)/\w.cell? ⟨g,off+3,none⟩=some (.int .i64 x.2.2.2)/\OneW x.1 x.2.1:=by
 have hL:=h.l
 have ho:=h.o x (by rw [hr];exact List.mem_cons_self ..)
 rw [hr] at hL
 obtain ⟨g,off,h1,h2,d0,d1,d2,d3⟩:=hL 0 (by simp)
 rw [Nat.zero_mul] at d0 d1 d2 d3
 simp only [Nat.add_zero,List.getElem_cons_zero] at d0 d1 d2 d3
 exact ⟨g,off,h1,h2,d0,d1,d2,d3,ho⟩
theorem Dr.put4 {w:World}{X N:Nat}{fin:Pl}{r:RsC}{a:Option Addr}{cap:Nat}(h:Dr w X fin r a cap) (hN:X < N) (c0 c1 c2 c3:Value):Dr (Go.Proofs.YtfjdceknbdmhpaaGreatDoor.put4 w N c0 c1 c2 c3) X fin r a cap:=(((h.far hN c0).far hN c1).far hN c2).far hN c3
theorem wpList_pushB {α:Type}{P:Program}(w:World) {ops:Array Oper}{rest:List Oper}{o:Oper}{a:Act}{Q:Exit->Act->World->Prop}(hgd:o.guard=none) (s x:Operand) (t:TypeId)
  (ho:o.op=.call { callee:=.builtin .append,args:=#[s,x],argTypes:=#[t,t] })
  (base:Nat) (bad:Nat->Prop) (e:TypeId) (i:TypeInfo) (z:Value) (k bytes:Nat) (ht:P.underlying t=some (.slice e)) (hi:P.info? e=some i) (hz:i.zero=some z)
  (hsize:i.size=k) (hby:i.bytes=bytes) (hzs:z.cells.size=k) {R:(Nat->Prop)->World->α->List Value->Prop}(hR:Kp R)
  (v:Value) (l:List α) (p:α) (cs:List Value) (lo:Nat) (hs:a.eval s=v) (hx:a.eval x=.slice (some ⟨w.heap.size,0,none⟩) 1 1) (hk:cs.length=k) (h1:∀ u∈cs,u.oneCell'=true)
  (hown:OwnB w base bad e k R v l) (hp:R (fun b=>lo<=b) w p cs) (hlo:base<=lo) (hv:∀ x,v.ownBlock=some x->x < lo) (hbad:∀ b,bad b->b < lo/\b < w.heap.size) (hroom:(l.length+1+(l.length+1) / 4+192)*bytes<=281474976710656)
  (h63:l.length+1<=maxLen) (hbase:base<=w.heap.size)
  (h:∀ v' w',OwnB w' base bad e k R v' (l++[p])->(w.alloc (.cells cs.toArray e)).grownBy w' v.ownBlock->Below base w w'->(v'.ownBlock=v.ownBlock∨v'.ownBlock=some (w.alloc (.cells cs.toArray e)).heap.size)->wpList P ops Q rest (a.put o.dst v') w') :
  wpList P ops Q (o :: rest) a (w.alloc (.cells cs.toArray e)):=by
 have hal:Below w.heap.size w (w.alloc (.cells cs.toArray e)):=(Below.refl _ _).alloc Nat.le.refl _
 obtain ⟨qs,ho1,hl1,hr1,hg1⟩:=hown.on hR hal
 refine wpList_append_at _ hgd s x t t ho base e i z k bytes ht hi hz hsize hby hzs v l.length qs.flatten hs ho1 _ 1 cs hx (src_row ht w cs hk h1) 1 (.inr hroom) Nat.le.refl h63 (Nat.le_trans hbase hal.size) ?_
 intro v' w' hown' hg hat
 refine h v' w' (OwnB.snoc hR hk rfl ho1 hl1 hr1 hown' hg hat (hR hp (fun b hb hlt=>⟨hb,hal.block b hlt⟩)) hlo hv (fun b q=>⟨(hbad b q).1,Nat.lt_of_lt_of_le (hbad b q).2 hal.size⟩) hg1) hg ?_ hat
 exact ((Below.refl base w).alloc hbase _).grown hg (Nat.le_trans hbase hal.size) (fun k hk=>(World.ownsRow.lt ho1 k hk).1)
def sD (l:List UInt8):Value:=.string ⟨l.toArray⟩
def rSetD (ok:Nat->Prop) (w:World) (x:List UInt8 × Sx) (cs:List Value):Prop:=∃ c0 c1 c2 c3,cs=[sD x.1,c0,c1,c2,c3]/\RdX ok w x.2 (.agg #[c0,c1,c2,c3])
theorem kp_setD:Kp rSetD:=fun _ _ _ _ _ _ ⟨c0,c1,c2,c3,h,hr⟩ hk=>⟨c0,c1,c2,c3,h,hr.keep hk⟩
def rOnD (ok:Nat->Prop) (w:World) (o:OnC) (cs:List Value):Prop:=∃ c0 c1 c2 c3 sl,cs=[sD o.1,.bool o.2.1.1,c0,c1,c2,c3,sD o.2.2.1,sl,.int .i64 o.2.2.2.2.1,.int .i64 o.2.2.2.2.2]/\RdX ok w o.2.1.2 (.agg #[c0,c1,c2,c3])/\RdK ok w 5 (rSetD ok w) o.2.2.2.1 sl
theorem kp_onD:Kp rOnD:=fun _ _ _ _ _ _ ⟨c0,c1,c2,c3,sl,h,hr,hs⟩ hk=>⟨c0,c1,c2,c3,sl,h,hr.keep hk,hs.stay kp_setD hk⟩
def hdD (h:HdC) (so si:Value):List Value:=[sD h.1.1,.int .i64 h.1.2.1,.int .i64 h.1.2.2,.bool h.2.1.1,.bool h.2.1.2,sD h.2.2.1.1,sD h.2.2.1.2,.int .i64 h.2.2.2.1.1,.int .i64 h.2.2.2.1.2,so,si]
def rStD:(d:Nat)->(Nat->Prop)->World->St d->List Value->Prop
 | 0,_,_,t,_=>Empty.elim t
 | d+1,ok,w,t,cs=>∃ so si,cs=hdD t.1 so si/\RdK ok w 10 (rOnD ok w) t.1.2.2.2.2 so/\RdK ok w 11 (rStD d ok w) t.2 si
theorem kp_stD:∀ d,Kp (rStD d)
 | 0=>fun _ _ _ _ x _ _ _=>Empty.elim x
 | d+1=>fun _ _ _ _ _ _ ⟨so,si,h,h1,h2⟩ hk=>⟨so,si,h,h1.stay kp_onD hk,h2.stay (kp_stD d) hk⟩
def varD (x:List UInt8 × Int × Pl):List Value:=[sD x.1,.int .i64 x.2.1,.int .i64 x.2.2.1,.int .i64 x.2.2.2]
def rVarD (ok:Nat->Prop) (w:World) (x:List UInt8 × Int × Pl) (cs:List Value):Prop:=cs=varD x
theorem kp_varD:Kp rVarD:=fun _ _ _ _ _ _ h _=>h
abbrev ChD (d:Nat):=(List UInt8 × Pl) × Int × List (List UInt8 × Int × Pl) × List (St d)
def RdD (ok:Nat->Prop) (w:World) (d:Nat) (c:ChD d) (v:Value):Prop:=
 ∃ sv ss,v=.agg #[sD c.1.1,.int .i64 c.2.1,.int .i64 c.1.2.1,.int .i64 c.1.2.2,sv,ss]/\RdK ok w 4 (rVarD ok w) c.2.2.1 sv/\RdK ok w 11 (rStD d ok w) c.2.2.2 ss
theorem RdD.keep {ok ok':Nat->Prop}{w w':World}{d:Nat}{c:ChD d}{v:Value}(h:RdD ok w d c v) (hk:∀ b,ok b->b < w.heap.size->ok' b/\w'.heap[b]?=w.heap[b]?):RdD ok' w' d c v:=by
 obtain ⟨sv,ss,h1,h2,h3⟩:=h
 exact ⟨sv,ss,h1,h2.stay kp_varD hk,h3.stay (kp_stD d) hk⟩
def ln0 (w:World) (X:Nat):Nat:=match w.cell? ⟨X,0,none⟩ with|some (.slice _ n _)=>n|_=>0
theorem DR.left {w:World}{X:Nat}{fin:Pl}{r:RsC}(h:DR w X fin r):ln0 w X=r.1.length:=by
 obtain ⟨a,cap,h⟩:=h
 unfold ln0
 rw [(h.b 0 _ rfl).1]
theorem DR.len {w:World}{X:Nat}{fin:Pl}{r:RsC}(h:DR w X fin r):r.1.length<=3000:=by
 obtain ⟨a,cap,h⟩:=h
 exact h.n
theorem Fx.andD {X B:Nat}{a b c:World}(h:Fx X a b) (k:Below B b c) (hB:a.heap.size<=B):Fx X a c:=
 ⟨k.os.trans h.os,k.tape.trans h.tape,k.output.trans h.output,Nat.le_trans h.size k.size,fun j hj h1=>(k.block j (by omega)).trans (h.block j hj h1)⟩
end Go.Proofs.YtfjdceknbdmhpaaGreatDoor
namespace Go.Proofs.YtfjdceknbdmhpaaGreatDoor
open Go.ChangeShapes Go.WideShapes Go.ChangeAt Go.RowKit
set_option linter.unusedSimpArgs false
set_option linter.unusedVariables false
theorem weights_all {H:Type}{P:Program}{e:TypeId}:∀ {l:List (DataW H)}{d:DataW H},d∈l->∀ n∈d.weights P e,n∈DataW.weightsAll P e l
 | x :: r,d,h,n,hn=>by
  simp only [DataW.weightsAll,List.mem_append]
  rcases List.mem_cons.1 h with rfl|h
  ·exact .inl hn
  ·exact .inr (weights_all h n hn)
def Wt {H:Type}(t:TypeId) (d:DataW H):Prop:=∀ n∈d.weights Tryz.prog t,n<=reachBytes
theorem Wt.field {H:Type}{t u:TypeId}{fs:Array Field}{f:Field}{xs:List (DataW H × List MemPlace)}{y:DataW H × List MemPlace}(hu:Tryz.prog.underlying t=some (.struct fs)) (h:Wt t (.agg (xs.map (·.1)))) (j:Nat) (hf:fs[j]?=some f) (hy:xs[j]?=some y) (ht:f.type=u):Wt u y.1:=fun n hn=>by
 refine h n ?_
 simp only [DataW.weights,hu]
 refine DataW.weights_mem_each (j:=j) (t:=u) (d:=y.1) ?_ (by simp [hy]) n hn
 simp [hf,ht]
theorem spot_none {w:World}{a:Addr}{v:Value}(h:w.cell? (a.add 0)=some v):a=⟨a.block,a.off,none⟩:=by
 rw [show a.add 0=a from by simp [Addr.add]] at h
 unfold World.cell? at h
 split at h
 ·obtain ⟨b,o,s⟩:=a
  cases s with
  | none=>rfl
  | some x=>simp at h
 ·cases h
theorem RdK.both {α:Type}{ok:Nat->Prop}{w:World}{k:Nat}{R:α->List Value->Prop}{Q:α->Prop}{l:List α}{v:Value}(h:RdK ok w k (fun x cs=>R x cs/\Q x) l v):RdK ok w k R l v/\∀ x∈l,Q x:=by
 obtain ⟨a,cap,h1,h2,h3,h4⟩:=h
 refine ⟨⟨a,cap,h1,h2,h3,fun i hi=>?_⟩,fun x hx=>?_⟩
 ·obtain ⟨b,off,cs,q1,q2,q3,q4,q5,q6⟩:=h4 i hi
  exact ⟨b,off,cs,q1,q2,q3,q4,q5.1,q6⟩
 ·obtain ⟨i,hi,rfl⟩:=List.getElem_of_mem hx
  obtain ⟨b,off,cs,q1,q2,q3,q4,q5,q6⟩:=h4 i hi
  exact q5.2
section
variable {H:Type}{enc:TypeId × Value->H}{W:World}
theorem open_row {α:Type}{k:Nat}{R:α->List Value->Prop}{sl el:TypeId}(hu:Tryz.prog.underlying sl=some (.slice el)) (hc:Tryz.prog.cellsOf el=k) (hk:0 < k) (hby:decide (1<=Tryz.prog.bytesOf el)=true) {fuel:Nat}{cs:List Value}{x:DataW H × List MemPlace}
  (h:DataW.trod enc Tryz.prog W 0 (fun _=>true) true fuel sl cs=some x) (hw:Wt sl x.1) (hel:∀ n' cs' y,fuel=n'+1->DataW.trod enc Tryz.prog W 0 (fun _=>true) true n' el cs'=some y->Wt el y.1->∃ a,R a cs') :
  ∃ (l:List α) (v:Value),cs=[v]/\RdK (fun _=>True) W k R l v/\l.length<=140737488351232:=by
 rcases DataW.trod_slice hu h with ⟨rfl,_⟩|⟨ad,len,cap,elems,rest,n',hn',rfl,rfl,_,hlc,hcm,hel',helt,_,_⟩
 ·exact ⟨[],_,rfl,rdK_none _ _ _ _,by simp⟩
 ·have hlw:len<=140737488351232:=by
   have h0:=hw ((elems.length+rest.length)*Tryz.prog.bytesOf el) (by simp [DataW.weights,hu])
   have h1:(elems.length+rest.length)*1<=(elems.length+rest.length)*Tryz.prog.bytesOf el:=Nat.mul_le_mul_left _ (of_decide_eq_true hby)
   have h2:reachBytes=140737488351232:=rfl
   omega
  rw [hc] at helt
  have hall:∀ i,i < len->∃ q:α × List Value,W.cells? 0 (ad.add (i*k)) k=some q.2/\R q.1 q.2:=by
   intro i hi
   have h1:=helt i hi
   have hie:i < elems.length:=by omega
   rw [List.getElem?_eq_getElem hie] at h1
   obtain ⟨cs',h2,h3⟩:=Option.bind_eq_some_iff.1 h1
   obtain ⟨a,ha⟩:=hel n' cs' _ hn' h3 (fun n hn=>by
    refine hw n ?_
    simp only [DataW.weights,hu]
    exact List.mem_cons_of_mem _ (List.mem_append_left _ (weights_all (List.mem_map_of_mem (List.getElem_mem hie)) n hn)))
   exact ⟨(a,cs'),h2,ha⟩
  obtain ⟨l,hll,hfy⟩:=pick len hall
  refine ⟨l.map (·.1),_,rfl,⟨some ad,cap,by simp [hll],by simpa [hll] using hlc,hcm,fun i hi=>?_⟩,by simpa [hll] using hlw⟩
  have hi':i < l.length:=by simpa using hi
  obtain ⟨_,q2,q3⟩:=World.cells?_some (hfy 0 (by omega)).1
  obtain ⟨_,g2,g3⟩:=World.cells?_some (hfy i hi').1
  have hs:ad=⟨ad.block,ad.off,none⟩:=by
   have:=q3 0 hk
   rw [Nat.zero_mul,show (ad.add 0).add 0=ad.add 0 from by simp [Addr.add],List.getElem?_eq_getElem (by omega)] at this
   exact spot_none this
  generalize ad.block=b at hs
  generalize ad.off=off at hs
  subst hs
  have g4:∀ j u,(l[i]).2[j]?=some u->W.cell? ⟨b,off+i*k+j,none⟩=some u:=fun j u hj=>by
   have hjl:=(List.getElem?_eq_some_iff.1 hj).1
   have:=g3 j (by omega)
   rw [add_plain,add_plain,hj] at this
   exact this
  refine ⟨b,off,(l[i]).2,rfl,trivial,?_,g2,?_,g4⟩
  ·exact World.block_lt_of_cell? W _ (g4 0 _ (List.getElem?_eq_getElem (by omega)))
  ·rw [List.getElem_map]
   exact (hfy i hi').2
theorem open_node1 {fuel:Nat}{cs:List Value}{x:DataW H × List MemPlace}(h:DataW.trod enc Tryz.prog W 0 (fun _=>true) true fuel 122 cs=some x) :
  ∃ (x:Sx) (c0 c1 c2 c3:Value),cs=[c0,c1,c2,c3]/\RdX (fun _=>True) W x (.agg #[c0,c1,c2,c3]):=by
 obtain ⟨d,t,c0,c1,c2,c3,_,hcs,hr⟩:=open_node fuel fuel Nat.le.refl h
 exact ⟨⟨d,t⟩,c0,c1,c2,c3,hcs,hr⟩
theorem open_pos {fuel:Nat}{cs:List Value}{x:DataW H × List MemPlace}(h:DataW.trod enc Tryz.prog W 0 (fun _=>true) true fuel 23 cs=some x):∃ p:Pl,cs=[.int .i64 p.1,.int .i64 p.2]:=by
 obtain ⟨xs,n,_,rfl,hl,hlen,hf⟩:=DataW.trod_struct Tryz.underlying23 h
 have hc:Tryz.prog.cellsOf 23=2:=by kernel_rfl
 have cI:Tryz.prog.cellsOf 3=1:=by kernel_rfl
 rw [hc] at hl
 have f0:DataW.trod enc Tryz.prog W 0 (fun _=>true) true n 3 ((cs.drop 0).take (Tryz.prog.cellsOf 3))=xs[0]?:=hf 0 _ rfl
 have f1:DataW.trod enc Tryz.prog W 0 (fun _=>true) true n 3 ((cs.drop 1).take (Tryz.prog.cellsOf 3))=xs[1]?:=hf 1 _ rfl
 rw [cI] at f0 f1
 match cs,hl,xs,hlen with
 | [a,b],_,[y0,y1],_=>
  simp only [List.drop_zero,List.take_succ_cons,List.take_zero,List.drop_succ_cons,List.getElem?_cons_zero,List.getElem?_cons_succ] at f0 f1
  obtain ⟨k,e0,_,_⟩:=DataW.trod_int Tryz.underlying3 f0
  obtain ⟨m,e1,_,_⟩:=DataW.trod_int Tryz.underlying3 f1
  simp only [List.cons.injEq,and_true] at e0 e1
  subst e0 e1
  exact ⟨(k,m),rfl⟩
theorem str_wt {s:ByteArray}(h:Wt (H:=H) 9 (.lit (.string s.data.toList))):s.size<=140737488351232:=by
 have:=h s.data.toList.length (by simp [DataW.weights])
 simpa [reachBytes] using this
theorem sD_of (s:ByteArray):Value.string s=sD s.data.toList:=by unfold sD;simp
def WfI (n:Int):Prop:=(Lit.int .i64 n).wf=true
def WfV (v:List UInt8 × Int × Pl):Prop:=v.1.length<=140737488351232
theorem open_varD {fuel:Nat}{cs:List Value}{x:DataW H × List MemPlace}(h:DataW.trod enc Tryz.prog W 0 (fun _=>true) true fuel 60 cs=some x) (hw:Wt 60 x.1):∃ v,rVarD (fun _=>True) W v cs/\WfV v:=by
 obtain ⟨xs,n,_,rfl,hl,hlen,hf⟩:=DataW.trod_struct Tryz.underlying60 h
 have hc:Tryz.prog.cellsOf 60=4:=by kernel_rfl
 have cL:Tryz.prog.cellsOf 2=1:=by kernel_rfl
 have c9:Tryz.prog.cellsOf 9=1:=by kernel_rfl
 have cp:Tryz.prog.cellsOf 23=2:=by kernel_rfl
 rw [hc] at hl
 have f0:DataW.trod enc Tryz.prog W 0 (fun _=>true) true n 9 ((cs.drop 0).take (Tryz.prog.cellsOf 9))=xs[0]?:=hf 0 _ rfl
 have f1:DataW.trod enc Tryz.prog W 0 (fun _=>true) true n 2 ((cs.drop 1).take (Tryz.prog.cellsOf 2))=xs[1]?:=hf 1 _ rfl
 have f2:DataW.trod enc Tryz.prog W 0 (fun _=>true) true n 23 ((cs.drop 2).take (Tryz.prog.cellsOf 23))=xs[2]?:=hf 2 _ rfl
 rw [c9] at f0
 rw [cL] at f1
 rw [cp] at f2
 match cs,hl,xs,hlen with
 | [a,b,c,e],_,[y0,y1,y2],_=>
  have w0:=hw.field Tryz.underlying60 0 rfl rfl rfl
  simp only [List.drop_zero,List.take_succ_cons,List.take_zero,List.drop_succ_cons,List.getElem?_cons_zero,List.getElem?_cons_succ] at f0 f1 f2
  obtain ⟨s,e0,rfl,_⟩:=DataW.trod_string Tryz.underlying9 f0
  obtain ⟨m,e1,_,_⟩:=DataW.trod_int Tryz.underlying2 f1
  obtain ⟨p,e2⟩:=open_pos f2
  simp only [List.cons.injEq,and_true] at e0 e1 e2
  obtain ⟨e2,e3⟩:=e2
  subst e0 e1 e2 e3
  refine ⟨(s.data.toList,m,p),?_,?_⟩
  ·show [_,_,_,_]=[sD s.data.toList,_,_,_]
   rw [sD_of]
  ·have:=str_wt w0
   simpa [WfV] using this
def WfT (s:List UInt8 × Sx):Prop:=s.1.length<=140737488351232
def WfO (o:OnC):Prop:=o.1.length<=140737488351232/\o.2.2.1.length<=140737488351232/\o.2.2.2.1.length<=140737488351232/\∀ s∈o.2.2.2.1,WfT s
theorem open_setD {fuel:Nat}{cs:List Value}{x:DataW H × List MemPlace}(h:DataW.trod enc Tryz.prog W 0 (fun _=>true) true fuel 128 cs=some x) (hw:Wt 128 x.1):∃ s,rSetD (fun _=>True) W s cs/\WfT s:=by
 obtain ⟨xs,n,_,rfl,hl,hlen,hf⟩:=DataW.trod_struct Tryz.underlying128 h
 have hc:Tryz.prog.cellsOf 128=5:=by kernel_rfl
 have c9:Tryz.prog.cellsOf 9=1:=by kernel_rfl
 have cn:Tryz.prog.cellsOf 122=4:=by kernel_rfl
 rw [hc] at hl
 have f0:DataW.trod enc Tryz.prog W 0 (fun _=>true) true n 9 ((cs.drop 0).take (Tryz.prog.cellsOf 9))=xs[0]?:=hf 0 _ rfl
 have f1:DataW.trod enc Tryz.prog W 0 (fun _=>true) true n 122 ((cs.drop 1).take (Tryz.prog.cellsOf 122))=xs[1]?:=hf 1 _ rfl
 rw [c9] at f0
 rw [cn] at f1
 match cs,hl,xs,hlen with
 | [a,b,c,e,g],_,[y0,y1],_=>
  have w0:=hw.field Tryz.underlying128 0 rfl rfl rfl
  simp only [List.drop_zero,List.take_succ_cons,List.take_zero,List.drop_succ_cons,List.getElem?_cons_zero,List.getElem?_cons_succ] at f0 f1
  obtain ⟨s,e0,rfl,_⟩:=DataW.trod_string Tryz.underlying9 f0
  obtain ⟨x,c0,c1,c2,c3,e1,hr⟩:=open_node1 f1
  simp only [List.cons.injEq,and_true] at e0 e1
  obtain ⟨q0,q1,q2,q3⟩:=e1
  subst e0 q0 q1 q2 q3
  refine ⟨(s.data.toList,x),⟨_,_,_,_,?_,hr⟩,?_⟩
  ·rw [<- sD_of]
  ·have:=str_wt w0
   simpa [WfT] using this
theorem open_onD {fuel:Nat}{cs:List Value}{x:DataW H × List MemPlace}(h:DataW.trod enc Tryz.prog W 0 (fun _=>true) true fuel 125 cs=some x) (hw:Wt 125 x.1):∃ o,rOnD (fun _=>True) W o cs/\WfO o:=by
 obtain ⟨xs,n,_,rfl,hl,hlen,hf⟩:=DataW.trod_struct Tryz.underlying125 h
 have hc:Tryz.prog.cellsOf 125=10:=by kernel_rfl
 have c9:Tryz.prog.cellsOf 9=1:=by kernel_rfl
 have c4:Tryz.prog.cellsOf 4=1:=by kernel_rfl
 have cn:Tryz.prog.cellsOf 122=4:=by kernel_rfl
 have cs1:Tryz.prog.cellsOf 123=1:=by kernel_rfl
 have cp:Tryz.prog.cellsOf 23=2:=by kernel_rfl
 have c5:Tryz.prog.cellsOf 128=5:=by kernel_rfl
 rw [hc] at hl
 have f0:DataW.trod enc Tryz.prog W 0 (fun _=>true) true n 9 ((cs.drop 0).take (Tryz.prog.cellsOf 9))=xs[0]?:=hf 0 _ rfl
 have f1:DataW.trod enc Tryz.prog W 0 (fun _=>true) true n 4 ((cs.drop 1).take (Tryz.prog.cellsOf 4))=xs[1]?:=hf 1 _ rfl
 have f2:DataW.trod enc Tryz.prog W 0 (fun _=>true) true n 122 ((cs.drop 2).take (Tryz.prog.cellsOf 122))=xs[2]?:=hf 2 _ rfl
 have f3:DataW.trod enc Tryz.prog W 0 (fun _=>true) true n 9 ((cs.drop 6).take (Tryz.prog.cellsOf 9))=xs[3]?:=hf 3 _ rfl
 have f4:DataW.trod enc Tryz.prog W 0 (fun _=>true) true n 123 ((cs.drop 7).take (Tryz.prog.cellsOf 123))=xs[4]?:=hf 4 _ rfl
 have f5:DataW.trod enc Tryz.prog W 0 (fun _=>true) true n 23 ((cs.drop 8).take (Tryz.prog.cellsOf 23))=xs[5]?:=hf 5 _ rfl
 rw [c9] at f0 f3
 rw [c4] at f1
 rw [cn] at f2
 rw [cs1] at f4
 rw [cp] at f5
 match cs,hl,xs,hlen with
 | [a0,a1,a2,a3,a4,a5,a6,a7,a8,a9],_,[y0,y1,y2,y3,y4,y5],_=>
  have w0:=hw.field Tryz.underlying125 0 rfl rfl rfl
  have w3:=hw.field Tryz.underlying125 3 rfl rfl rfl
  have w4:=hw.field Tryz.underlying125 4 rfl rfl rfl
  simp only [List.drop_zero,List.take_succ_cons,List.take_zero,List.drop_succ_cons,List.getElem?_cons_zero,List.getElem?_cons_succ] at f0 f1 f2 f3 f4 f5
  obtain ⟨ev,e0,rfl,_⟩:=DataW.trod_string Tryz.underlying9 f0
  obtain ⟨hs,e1,_⟩:=DataW.trod_bool Tryz.underlying4 f1
  obtain ⟨gx,c0,c1,c2,c3,e2,hr⟩:=open_node1 f2
  obtain ⟨tg,e3,rfl,_⟩:=DataW.trod_string Tryz.underlying9 f3
  obtain ⟨l,sl,e4,hsl,hsn⟩:=open_row (k:=5) (R:=fun s cs=>rSetD (fun _=>True) W s cs/\WfT s) Tryz.underlying123 c5 (by decide) (by kernel_rfl) f4 w4 (fun n' cs' y _ hy hwy=>open_setD hy hwy)
  obtain ⟨p,e5⟩:=open_pos f5
  simp only [List.cons.injEq,and_true] at e0 e1 e2 e3 e4 e5
  obtain ⟨q0,q1,q2,q3⟩:=e2
  obtain ⟨q4,q5⟩:=e5
  subst e0 e1 q0 q1 q2 q3 e3 e4 q4 q5
  obtain ⟨hsl,hwt⟩:=hsl.both
  refine ⟨(ev.data.toList,(hs,gx),tg.data.toList,l,p),⟨_,_,_,_,_,?_,hr,hsl⟩,?_,?_,hsn,hwt⟩
  ·rw [<- sD_of,<- sD_of]
  ·have:=str_wt w0
   simpa using this
  ·have:=str_wt w3
   simpa using this
def WfS:(d:Nat)->St d->Prop
 | 0,t=>Empty.elim t
 | d+1,t=>WfI t.1.2.2.2.1.1/\WfI t.1.2.2.2.1.2/\(t.1.1.1.length<=140737488351232/\t.1.2.2.1.1.length<=140737488351232/\t.1.2.2.1.2.length<=140737488351232/\t.1.2.2.2.2.length<=140737488351232/\∀ o∈t.1.2.2.2.2,WfO o)/\t.2.length<=140737488351232/\∀ x∈t.2,WfS d x
theorem open_stD:∀ (m fuel:Nat),fuel<=m->∀ {cs:List Value}{x:DataW H × List MemPlace},DataW.trod enc Tryz.prog W 0 (fun _=>true) true fuel 91 cs=some x->Wt 91 x.1->∃ t,rStD (fuel / 2) (fun _=>True) W t cs/\WfS (fuel / 2) t
 | 0,fuel,hf,cs,x,h,_=>by
  obtain rfl:fuel=0:=by omega
  simp [DataW.trod] at h
 | m+1,fuel,hf,cs,x,h,hw=>by
  obtain ⟨xs,n,rfl,rfl,hl,hlen,hf'⟩:=DataW.trod_struct Tryz.underlying91 h
  have hc:Tryz.prog.cellsOf 91=11:=by kernel_rfl
  have c9:Tryz.prog.cellsOf 9=1:=by kernel_rfl
  have c4:Tryz.prog.cellsOf 4=1:=by kernel_rfl
  have c3:Tryz.prog.cellsOf 3=1:=by kernel_rfl
  have cp:Tryz.prog.cellsOf 23=2:=by kernel_rfl
  have co:Tryz.prog.cellsOf 89=1:=by kernel_rfl
  have cst:Tryz.prog.cellsOf 25=1:=by kernel_rfl
  have c10:Tryz.prog.cellsOf 125=10:=by kernel_rfl
  rw [hc] at hl
  have f0:DataW.trod enc Tryz.prog W 0 (fun _=>true) true n 9 ((cs.drop 0).take (Tryz.prog.cellsOf 9))=xs[0]?:=hf' 0 _ rfl
  have f1:DataW.trod enc Tryz.prog W 0 (fun _=>true) true n 23 ((cs.drop 1).take (Tryz.prog.cellsOf 23))=xs[1]?:=hf' 1 _ rfl
  have f2:DataW.trod enc Tryz.prog W 0 (fun _=>true) true n 4 ((cs.drop 3).take (Tryz.prog.cellsOf 4))=xs[2]?:=hf' 2 _ rfl
  have f3:DataW.trod enc Tryz.prog W 0 (fun _=>true) true n 4 ((cs.drop 4).take (Tryz.prog.cellsOf 4))=xs[3]?:=hf' 3 _ rfl
  have f4:DataW.trod enc Tryz.prog W 0 (fun _=>true) true n 9 ((cs.drop 5).take (Tryz.prog.cellsOf 9))=xs[4]?:=hf' 4 _ rfl
  have f5:DataW.trod enc Tryz.prog W 0 (fun _=>true) true n 9 ((cs.drop 6).take (Tryz.prog.cellsOf 9))=xs[5]?:=hf' 5 _ rfl
  have f6:DataW.trod enc Tryz.prog W 0 (fun _=>true) true n 3 ((cs.drop 7).take (Tryz.prog.cellsOf 3))=xs[6]?:=hf' 6 _ rfl
  have f7:DataW.trod enc Tryz.prog W 0 (fun _=>true) true n 3 ((cs.drop 8).take (Tryz.prog.cellsOf 3))=xs[7]?:=hf' 7 _ rfl
  have f8:DataW.trod enc Tryz.prog W 0 (fun _=>true) true n 89 ((cs.drop 9).take (Tryz.prog.cellsOf 89))=xs[8]?:=hf' 8 _ rfl
  have f9:DataW.trod enc Tryz.prog W 0 (fun _=>true) true n 25 ((cs.drop 10).take (Tryz.prog.cellsOf 25))=xs[9]?:=hf' 9 _ rfl
  rw [c9] at f0 f4 f5
  rw [c4] at f2 f3
  rw [c3] at f6 f7
  rw [cp] at f1
  rw [co] at f8
  rw [cst] at f9
  match cs,hl,xs,hlen with
  | [a0,a1,a2,a3,a4,a5,a6,a7,a8,a9,a10],_,[y0,y1,y2,y3,y4,y5,y6,y7,y8,y9],_=>
   have w0:=hw.field Tryz.underlying91 0 rfl rfl rfl
   have w4:=hw.field Tryz.underlying91 4 rfl rfl rfl
   have w5:=hw.field Tryz.underlying91 5 rfl rfl rfl
   have w8:=hw.field Tryz.underlying91 8 rfl rfl rfl
   have w9:=hw.field Tryz.underlying91 9 rfl rfl rfl
   simp only [List.drop_zero,List.take_succ_cons,List.take_zero,List.drop_succ_cons,List.getElem?_cons_zero,List.getElem?_cons_succ] at f0 f1 f2 f3 f4 f5 f6 f7 f8 f9
   obtain ⟨nm,e0,rfl,_⟩:=DataW.trod_string Tryz.underlying9 f0
   obtain ⟨p,e1⟩:=open_pos f1
   obtain ⟨al,e2,_⟩:=DataW.trod_bool Tryz.underlying4 f2
   obtain ⟨en,e3,_⟩:=DataW.trod_bool Tryz.underlying4 f3
   obtain ⟨dd,e4,rfl,_⟩:=DataW.trod_string Tryz.underlying9 f4
   obtain ⟨ud,e5,rfl,_⟩:=DataW.trod_string Tryz.underlying9 f5
   obtain ⟨wh,e6,_,g6⟩:=DataW.trod_int Tryz.underlying3 f6
   obtain ⟨rt,e7,_,g7⟩:=DataW.trod_int Tryz.underlying3 f7
   obtain ⟨ol,so,e8,hso,hon⟩:=open_row (k:=10) (R:=fun o cs=>rOnD (fun _=>True) W o cs/\WfO o) Tryz.underlying89 c10 (by decide) (by kernel_rfl) f8 w8 (fun n' cs' y _ hy hwy=>open_onD hy hwy)
   obtain ⟨g,rfl⟩:∃ g,n=g+1:=by
    cases n with
    | zero=>simp [DataW.trod] at f9
    | succ g=>exact ⟨g,rfl⟩
   obtain ⟨il,si,e9,hsi,hin⟩:=open_row (k:=11) (R:=fun t cs=>rStD (g / 2) (fun _=>True) W t cs/\WfS (g / 2) t) Tryz.underlying25 hc (by decide) (by kernel_rfl) f9 w9 (fun n' cs' y hn' hy hwy=>by
    obtain rfl:n'=g:=by omega
    exact open_stD m n' (by omega) hy hwy)
   simp only [List.cons.injEq,and_true] at e0 e1 e2 e3 e4 e5 e6 e7 e8 e9
   obtain ⟨q0,q1⟩:=e1
   subst e0 q0 q1 e2 e3 e4 e5 e6 e7 e8 e9
   obtain ⟨hsi,hwf⟩:=hsi.both
   obtain ⟨hso,hwo⟩:=hso.both
   rw [half2 g]
   refine ⟨(((nm.data.toList,p),(al,en),(dd.data.toList,ud.data.toList),(wh,rt),ol),il),⟨_,_,?_,hso,hsi⟩,g6,g7,⟨?_,?_,?_,hon,hwo⟩,hin,hwf⟩
   ·show _=[sD nm.data.toList,_,_,_,_,sD dd.data.toList,sD ud.data.toList,_,_,_,_]
    rw [<- sD_of,<- sD_of,<- sD_of]
   ·have:=str_wt w0
    simpa using this
   ·have:=str_wt w4
    simpa using this
   ·have:=str_wt w5
    simpa using this
def WfC (d:Nat) (c:ChD d):Prop:=WfI c.2.1/\(∀ x∈c.2.2.1,WfV x)/\c.2.2.2.length<=140737488351232/\∀ t∈c.2.2.2,WfS d t
theorem open_chD {fuel:Nat}{cs:List Value}{x:DataW H × List MemPlace}(h:DataW.trod enc Tryz.prog W 0 (fun _=>true) true fuel 27 cs=some x) (hw:Wt 27 x.1):∃ (d:Nat) (c:ChD d) (v0 v1 v2 v3 v4 v5:Value),cs=[v0,v1,v2,v3,v4,v5]/\RdD (fun _=>True) W d c (.agg #[v0,v1,v2,v3,v4,v5])/\WfC d c:=by
 obtain ⟨xs,n,_,rfl,hl,hlen,hf'⟩:=DataW.trod_struct Tryz.underlying27 h
 have hc:Tryz.prog.cellsOf 27=6:=by kernel_rfl
 have c9:Tryz.prog.cellsOf 9=1:=by kernel_rfl
 have c3:Tryz.prog.cellsOf 3=1:=by kernel_rfl
 have cp:Tryz.prog.cellsOf 23=2:=by kernel_rfl
 have cv:Tryz.prog.cellsOf 24=1:=by kernel_rfl
 have cst:Tryz.prog.cellsOf 25=1:=by kernel_rfl
 have c4:Tryz.prog.cellsOf 60=4:=by kernel_rfl
 have c11:Tryz.prog.cellsOf 91=11:=by kernel_rfl
 rw [hc] at hl
 have f0:DataW.trod enc Tryz.prog W 0 (fun _=>true) true n 9 ((cs.drop 0).take (Tryz.prog.cellsOf 9))=xs[0]?:=hf' 0 _ rfl
 have f1:DataW.trod enc Tryz.prog W 0 (fun _=>true) true n 3 ((cs.drop 1).take (Tryz.prog.cellsOf 3))=xs[1]?:=hf' 1 _ rfl
 have f2:DataW.trod enc Tryz.prog W 0 (fun _=>true) true n 23 ((cs.drop 2).take (Tryz.prog.cellsOf 23))=xs[2]?:=hf' 2 _ rfl
 have f3:DataW.trod enc Tryz.prog W 0 (fun _=>true) true n 24 ((cs.drop 4).take (Tryz.prog.cellsOf 24))=xs[3]?:=hf' 3 _ rfl
 have f4:DataW.trod enc Tryz.prog W 0 (fun _=>true) true n 25 ((cs.drop 5).take (Tryz.prog.cellsOf 25))=xs[4]?:=hf' 4 _ rfl
 rw [c9] at f0
 rw [c3] at f1
 rw [cp] at f2
 rw [cv] at f3
 rw [cst] at f4
 match cs,hl,xs,hlen with
 | [a0,a1,a2,a3,a4,a5],_,[y0,y1,y2,y3,y4],_=>
  have w3:=hw.field Tryz.underlying27 3 rfl rfl rfl
  have w4:=hw.field Tryz.underlying27 4 rfl rfl rfl
  simp only [List.drop_zero,List.take_succ_cons,List.take_zero,List.drop_succ_cons,List.getElem?_cons_zero,List.getElem?_cons_succ] at f0 f1 f2 f3 f4
  obtain ⟨nm,e0,_,_⟩:=DataW.trod_string Tryz.underlying9 f0
  obtain ⟨vn,e1,_,g1⟩:=DataW.trod_int Tryz.underlying3 f1
  obtain ⟨p,e2⟩:=open_pos f2
  obtain ⟨vl,sv,e3,hsv,hvn⟩:=open_row (k:=4) (R:=fun v cs=>rVarD (fun _=>True) W v cs/\WfV v) Tryz.underlying24 c4 (by decide) (by kernel_rfl) f3 w3 (fun n' cs' y _ hy hwy=>open_varD hy hwy)
  obtain ⟨g,rfl⟩:∃ g,n=g+1:=by
   cases n with
   | zero=>simp [DataW.trod] at f4
   | succ g=>exact ⟨g,rfl⟩
  obtain ⟨il,si,e4,hsi,hin⟩:=open_row (k:=11) (R:=fun t cs=>rStD (g / 2) (fun _=>True) W t cs/\WfS (g / 2) t) Tryz.underlying25 c11 (by decide) (by kernel_rfl) f4 w4 (fun n' cs' y hn' hy hwy=>by
   obtain rfl:n'=g:=by omega
   exact open_stD n' n' Nat.le.refl hy hwy)
  simp only [List.cons.injEq,and_true] at e0 e1 e2 e3 e4
  obtain ⟨q0,q1⟩:=e2
  subst e0 e1 q0 q1 e3 e4
  obtain ⟨hsv,hwv⟩:=hsv.both
  obtain ⟨hsi,hwf⟩:=hsi.both
  refine ⟨g / 2,((nm.data.toList,p),vn,vl,il),_,_,_,_,_,_,rfl,⟨_,_,?_,hsv,hsi⟩,g1,hwv,hin,hwf⟩
  rw [<- sD_of]
end
theorem open_chart {H:Type}{enc:TypeId × Value->H}{W:World}{v:Value}{x:DataW H}{p:List MemPlace}(hv:∃ cs,v=.agg cs)
  (h:DataW.Trod enc Tryz.prog W 0 (fun _=>true) true 27 v x p) (hw:Wt 27 x):∃ (d:Nat) (c:ChD d),RdD (fun _=>True) W d c v/\WfC d c:=by
 obtain ⟨cs,rfl⟩:=hv
 obtain ⟨fuel,hf⟩:=h
 obtain ⟨d,c,c0,c1,c2,c3,c4,c5,hcs,hr,hwf⟩:=open_chD hf hw
 refine ⟨d,c,?_,hwf⟩
 have e:cs=#[c0,c1,c2,c3,c4,c5]:=by
  have:cs.toList=[c0,c1,c2,c3,c4,c5]:=hcs
  exact Array.toList_inj.1 (by rw [this])
 rw [e]
 exact hr
end Go.Proofs.YtfjdceknbdmhpaaGreatDoor
namespace Go.Proofs.YtfjdceknbdmhpaaGreatDoor
open Go.RowKit
set_option linter.unusedSimpArgs false
set_option linter.unusedVariables false
theorem thru_cons {α:Type}(g:α->Int->Int) (p:α) (r:List α) (x:Int):thru g (p :: r) x=if g p x < 0 then -1 else thru g r (g p x):=rfl
def SmallC (d:Nat):Prop:=∀ (ok:Nat->Prop) (t:T d) (v:Value) (w:World) (dep:Nat) (left:Int),RdT ok w d t v->dep<=61->-1<=left->left<=200->
  Calls Tryz.prog 128 #[v,.int .i64 (dep:Int),.int .i64 left] w fun e w'=>e=.returned (.int .i64 (sml d t dep left))/\Below w.heap.size w w'
theorem refSmall_step (d:Nat) (IH:SmallC d):SmallC (d+1):=by
 intro ok t v w dep left h hdep hl0 hl1
 obtain ⟨k,n,s,ps,rfl⟩:=T.open t
 obtain ⟨sl,rfl,hp⟩:=rdT_mk.1 h
 obtain ⟨a,cap,rfl,hlc,hcm,hcell⟩:=hp.form
 rw [sml_mk]
 by_cases c1:60 < dep
 ·rw [if_pos (.inl c1)]
  have e1:(dep:Int) > 60:=by omega
  clear IH hcell h hp
  go_enter Tryz.func128,Tryz.ntmps128
  go_wp2
  go_ret
  exact ⟨rfl,(Below.refl _ _).alloc Nat.le.refl _⟩
 have e1:¬ (dep:Int) > 60:=by omega
 by_cases c2:left - 1 < 0
 ·rw [if_pos (.inr (.inl c2))]
  clear IH hcell h hp
  go_enter Tryz.func128,Tryz.ntmps128
  go_wp2
  go_ret
  exact ⟨rfl,(Below.refl _ _).alloc Nat.le.refl _⟩
 by_cases c3:1000 < s.size
 ·rw [if_pos (.inr (.inr c3))]
  have e3:(s.size:Int) > 1000:=by omega
  clear IH hcell h hp
  go_enter Tryz.func128,Tryz.ntmps128
  go_wp2
  go_ret
  exact ⟨rfl,(Below.refl _ _).alloc Nat.le.refl _⟩
 rw [if_neg (by omega)]
 have e3:¬ (s.size:Int) > 1000:=by omega
 obtain ⟨V,hV⟩:∃ V,thru (fun p x=>sml d p (dep+1) x) ps (left - 1)=V:=⟨_,rfl⟩
 rw [hV]
 have HV:Hid (thru (fun p x=>sml d p (dep+1) x) (ps.drop 0) (left - 1)=V):=hV
 have HC:Hid (∀ (i:Nat) (hi:i < ps.length),∃ b off c0 c1 c2 c3,a=some ⟨b,off,none⟩/\b < w.heap.size/\RdT ok w d ps[i] (.agg #[c0,c1,c2,c3])/\w.cell? ⟨b,off+i*4,none⟩=some c0/\w.cell? ⟨b,off+i*4+1,none⟩=some c1/\w.cell? ⟨b,off+i*4+2,none⟩=some c2/\w.cell? ⟨b,off+i*4+3,none⟩=some c3):=hcell
 clear hV hcell h hp
 go_enter Tryz.func128,Tryz.ntmps128
 go_wp2
 go_loopw [2,25] (fun l i wr=>∃ (j:Nat) (L:Int),j<=ps.length/\i=.int .i64 (j:Int)/\l=.int .i64 L/\0<=L/\L<=199/\Hid (thru (fun p x=>sml d p (dep+1) x) (ps.drop j) L=V)/\At4 wr w.heap.size (.int .i64 k) (.int .i64 n) (.string s) (.slice a ps.length cap)/\Below w.heap.size w wr) (fun _ i _=>ps.length - (RowKit.intOf i).toNat)
 case atStart=>exact ⟨0,left - 1,Nat.zero_le _,rfl,rfl,by omega,by omega,HV,At4.new _ _ _ _ _ _,(Below.refl _ _).alloc Nat.le.refl _⟩
 case round=>
  obtain ⟨j,L,hj,rfl,rfl,hL0,hL1,hT,hA,hb⟩:=hrel
  obtain ⟨y0,y1,y2,y3⟩:=id hA
  by_cases hlt:j < ps.length
  ·obtain ⟨b,off,c0,c1,c2,c3,rfl,hbl,hr,k0,k1,k2,k3⟩:=HC.out j hlt
   have C0:=(hb.cell (p:=⟨b,off+j*4,none⟩) hbl).trans k0
   have C1:=(hb.cell (p:=⟨b,off+j*4+1,none⟩) hbl).trans k1
   have C2:=(hb.cell (p:=⟨b,off+j*4+2,none⟩) hbl).trans k2
   have C3:=(hb.cell (p:=⟨b,off+j*4+3,none⟩) hbl).trans k3
   have hcall:=IH ok ps[j] _ wr (dep+1) L (RdT.below hb Nat.le.refl hr) (by omega) (by omega) (by omega)
   have hTT:=hT.out
   rw [List.drop_eq_getElem_cons hlt,thru_cons] at hTT
   have hok:=sml_ok d ps[j] (dep+1) L
   have hcp:=cnt_pos d ps[j]
   obtain ⟨z,hz⟩:∃ z,sml d ps[j] (dep+1) L=z:=⟨_,rfl⟩
   rw [hz] at hcall hTT hok
   have i1:(j:Int) < (ps.length:Int):=by omega
   have i2:(0:Int)<=(j:Int):=by omega
   have hd1:((dep+1:Nat):Int)=(dep:Int)+1:=by omega
   rw [hd1] at hcall
   clear k0 k1 k2 k3 hr hbl
   by_cases hzn:z < 0
   ·rw [if_pos hzn] at hTT
    subst hTT
    clear hok hz hd1
    go_wp2_with (first
     | (go_at_call 128;refine hcall.mono ?_;rintro e w1 ⟨rfl,b1⟩))
    go_ret
    exact ⟨rfl,hb.trans (b1.mono hb.size)⟩
   ·rw [if_neg hzn] at hTT
    have hzL:z<=L:=by have:=(hok (by omega)).1;omega
    have hN:Hid (thru (fun p x=>sml d p (dep+1) x) (ps.drop (j+1)) z=V):=hTT
    clear hok hz hTT hd1 hcp
    go_wp2_with (first
     | (go_at_call 128;refine hcall.mono ?_;rintro e w1 ⟨rfl,b1⟩))
    go_roundw
    case rel=>exact ⟨j+1,z,hlt,by go_num,rfl,by omega,by omega,hN,hA.keepB b1 (World.block_lt_of_cell? wr _ y0),hb.trans (b1.mono hb.size)⟩
    case measure=>simp [RowKit.intOf];omega
  ·have i1:¬ (j:Int) < (ps.length:Int):=by omega
   have hTT:=hT.out
   rw [List.drop_eq_nil_of_le (by omega)] at hTT
   have hTe:L=V:=hTT
   subst hTe
   clear hTT
   go_wp2
   go_ret
   exact ⟨rfl,hb⟩
theorem refSmall_any:∀ (d:Nat),SmallC d
 | 0=>fun _ t=>Empty.elim t
 | d+1=>refSmall_step d (refSmall_any d)
theorem refSmallTop_any {ok:Nat->Prop}{d:Nat}{t:T d}{v:Value}{w:World}(h:RdT ok w d t v) :
  Calls Tryz.prog 69 #[v] w fun e w'=>e=.returned (.bool (decide (0<=sml d t 0 200)))/\Below w.heap.size w w':=by
 match d,t,h with
 | 0,t,h=>exact Empty.elim t
 | d+1,t,h=>
  obtain ⟨k,n,s,ps,rfl⟩:=T.open t
  have h0:=h
  obtain ⟨sl,rfl,hp⟩:=rdT_mk.1 h
  have hb0:=(Below.refl w.heap.size w).alloc Nat.le.refl (.cells #[.int .i64 k,.int .i64 n,.string s,sl] 122)
  have hcall:=refSmall_any (d+1) ok (mkT k n s ps) _ _ 0 200 (RdT.below hb0 Nat.le.refl h0) (by omega) (by omega) (by omega)
  obtain ⟨z,hz⟩:∃ z,sml (d+1) (mkT k n s ps) 0 200=z:=⟨_,rfl⟩
  rw [hz] at hcall ⊢
  clear hz h0 hp
  go_enter Tryz.func69,Tryz.ntmps69
  go_wp2_with (first
   | (go_at_call 128;refine hcall.mono ?_;rintro e w1 ⟨rfl,b1⟩))
  all_goals go_ret
  all_goals exact ⟨by simp [*],hb0.trans (b1.mono hb0.size)⟩
