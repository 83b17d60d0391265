import Derived.Test.YtlgnahpfggagoaaGreatDoorWzc17
import Derived.Test.YtlgnahpfggagoaaGreatDoorWzc05
import Derived.Test.YtlgnahpfggagoaaGreatDoorWzc13
import Derived.Test.YtlgnahpfggagoaaGreatDoorWzc09
import Derived.Test.YtlgnahpfggagoaaGreatDoorWzc12
import Derived.Test.YtlgnahpfggagoaaGreatDoorWzc03
import Derived.Test.YtlgnahpfggagoaaGreatDoorWzc04
import Derived.Test.YtlgnahpfggagoaaGreatDoorWzc11
/- What the program's Read does. -/
namespace Go.Proofs.YtlgnahpfggagoaaGreatDoor
open Go.RowKit Go.Lib
set_option linter.unusedSimpArgs false
set_option linter.unusedVariables false
attribute [local go_sem ↓] Go.wp_at_zero Go.wp_at_succ
theorem end_same:∀ (rs:List Ru) (a b:Int),endP rs a b=endR rs a b
 | [],a,b=>rfl
 | u :: r,a,b=>by
  unfold endP endR
  rw [end_same r (a+1) 1,end_same r a (b+1)]
/-- What strconv.ErrSyntax holds, where the call begins. -/
def Esy (w:World):Prop:=∃ ev,w.cell? ⟨renA.g 15,0,none⟩=some ev∧(ev=.nilIface∨∃ te pe,ev=.iface te pe)
theorem Esy.lt {w:World}(h:Esy w):renA.g 15 < w.heap.size:=by
 obtain ⟨ev,h1,_⟩:=h
 exact World.block_lt_of_cell? w _ h1
theorem Esy.on {w w':World}(h:Esy w) (hb:Below w.heap.size w w'):Esy w':=by
 have hl:=h.lt
 obtain ⟨ev,h1,h2⟩:=h
 exact ⟨ev,(hb.cell (p:=⟨renA.g 15,0,none⟩) hl).trans h1,h2⟩
theorem Esy.ey {w w':World}(h:Esy w) (hb:Below w.heap.size w w') {X:Nat}(hX:w.heap.size≤X):Ey w' X:=by
 have hl:=h.lt
 exact ⟨h.on hb,by omega⟩
theorem Fx.bel {X B:Nat}{u a b:World}(h:Fx X a b) (hb:Below B u a) (hX:B≤X) (hB:B≤u.heap.size):Below B u b:=
 ⟨h.os.trans hb.os,h.tape.trans hb.tape,h.output.trans hb.output,Nat.le_trans hb.size h.size,fun k hk=>(h.block k (Nat.lt_of_lt_of_le hk (Nat.le_trans hB hb.size)) (fun e=>by have:k=X:=Option.some.inj e;omega)).trans (hb.block k hk)⟩
theorem below_st {B:Nat}{u w:World}(h:Below B u w) (X i:Nat) (v:Value) (hX:B≤X):Below B u (w.setCell ⟨X,i,none⟩ v):=h.setCell hX v
theorem read_res {w4:World}{R P:Nat}{a b c d e f p q n:Value}{tmps:Array Value}(hR:Bn w4 R [a,b,c,d,e,f]) (hP:Bn w4 P [p,q]) (ht:tmps.getD 2 undef=.pointer (some ⟨R,0,none⟩)) (ht3:tmps.getD 3 undef=.pointer (some ⟨P,0,none⟩)) (ht4:tmps.getD 4 undef=n):(results Tryz.f18 tmps).run Tryz.prog w4=.ok (.tuple #[.agg #[a,b,c,d,e,f],.agg #[p,q],n]) w4:=by
 have ht':tmps[2]?.getD undef=.pointer (some ⟨R,0,none⟩):=by simpa using ht
 have ht3':tmps[3]?.getD undef=.pointer (some ⟨P,0,none⟩):=by simpa using ht3
 have ht4':tmps[4]?.getD undef=n:=by simpa using ht4
 have c0:=(hR 0 _ rfl).1
 have c1:=(hR 1 _ rfl).1
 have c2:=(hR 2 _ rfl).1
 have c3:=(hR 3 _ rfl).1
 have c4:=(hR 4 _ rfl).1
 have c5:=(hR 5 _ rfl).1
 have d0:=(hP 0 _ rfl).1
 have d1:=(hP 1 _ rfl).1
 simp [results,Tryz.results18,go_sem,ht',ht3',ht4',c0,c1,c2,c3,c4,c5,d0,d1]
abbrev zPl:List Value:=[.int .i64 0,.int .i64 0]
set_option maxRecDepth 100000 in
set_option maxHeartbeats 8000000 in
theorem readP_any (s:ByteArray) (w:World) (hE:Esy w) (hs:s.size≤140737488351232) :
  Calls Tryz.prog 18 #[.string s] w fun e w'=>∃ v,e=.returned (.tuple #[v,.agg #[.int .i64 (readC (bl s)).2.1.1,.int .i64 (readC (bl s)).2.1.2],.int .i64 (readC (bl s)).2.2])∧RdC (fun b=>w.heap.size≤b) w' 7 (readC (bl s)).1 v∧Below w.heap.size w w':=by
 have hb0:Below w.heap.size w ((w.alloc zC6).alloc zP):=((Below.refl _ _).alloc (Nat.le_refl _) _).alloc (by simp) _
 have hA0:Bn ((w.alloc zC6).alloc zP) w.heap.size zCl:=(Bn.new w zCl 34 _ rfl).on ((Below.refl _ _).alloc (Nat.le_refl _) _)
 have hP0:Bn ((w.alloc zC6).alloc zP) (w.heap.size+1) zPl:=Bn.new (w.alloc zC6) zPl 23 _ (by simp)
 have hs0:w.heap.size+2≤((w.alloc zC6).alloc zP).heap.size:=by simp
 have hW:=pWords_any s ((w.alloc zC6).alloc zP) hs
 have hEn:=fun w1=>pEnd_any s w1 hs
 obtain ⟨RES,hRES⟩:∃ x,readC (bl s)=x:=⟨_,rfl⟩
 rw [hRES]
 unfold readC at hRES
 have h1:=fun h=>words_one (l:=bl s) h
 obtain ⟨⟨ws,⟨pl,pc⟩,er⟩,hR⟩:∃ r,wordsS (bl s)=r:=⟨_,rfl⟩
 rw [hR] at hW hRES h1
 simp only at hW hRES h1
 rw [end_same] at hRES
 obtain ⟨⟨eL,eC⟩,hEE⟩:∃ x,endR (runes (bl s)) 1 1=x:=⟨_,rfl⟩
 simp only [hEE] at hEn hRES
 by_cases he:er≠0
 ·rw [if_pos he] at hRES
  subst hRES
  have i1:(er != 0)=true:=by simpa using he
  clear h1 hR he hEE hEn
  go_enter Tryz.func18,Tryz.ntmps18
  go_upto_region 1 with fail
  generalize (w.alloc zC6).alloc zP=w0 at *
  go_upto_region 3 with (first
   | (go_at_call 34;refine hW.mono ?_;rintro e w1 ⟨u,rfl,hown,b1⟩;obtain ⟨a,cap,rfl,_⟩:=own_form hown))
  have hal:=(Below.refl w1.heap.size w1).alloc (Nat.le_refl _) (.cells #[.int .i64 pl,.int .i64 pc] 23)
  have hA2:=(hA0.on b1).on hal
  have hP2:=(hP0.on b1).on hal
  have hb2:=(hb0.trans (b1.mono hb0.size)).trans (hal.mono (Nat.le_trans hb0.size b1.size))
  have hQ2:Bn (w1.alloc (.cells #[.int .i64 pl,.int .i64 pc] 23)) w1.heap.size [.int .i64 pl,.int .i64 pc]:=Bn.new w1 [.int .i64 pl,.int .i64 pc] 23 _ rfl
  have hs2:w.heap.size+2≤w1.heap.size:=Nat.le_trans hs0 b1.size
  obtain ⟨N,hN⟩:∃ N,w1.heap.size=N:=⟨_,rfl⟩
  rw [hN] at hQ2 hs2 ⊢
  clear hA0 hP0 hb0 b1 hal hW hown hs0 hN
  generalize w1.alloc (.cells #[.int .i64 pl,.int .i64 pc] 23)=w2 at *
  obtain ⟨a0,k0⟩:=hA2 0 _ rfl
  obtain ⟨a1,k1⟩:=hA2 1 _ rfl
  obtain ⟨a2,k2⟩:=hA2 2 _ rfl
  obtain ⟨a3,k3⟩:=hA2 3 _ rfl
  obtain ⟨a4,k4⟩:=hA2 4 _ rfl
  obtain ⟨a5,k5⟩:=hA2 5 _ rfl
  obtain ⟨p0,o0⟩:=hP2 0 _ rfl
  obtain ⟨p1,o1⟩:=hP2 1 _ rfl
  obtain ⟨q0,r0⟩:=hQ2 0 _ rfl
  obtain ⟨q1,r1⟩:=hQ2 1 _ rfl
  go_region
  go_wp2
  exact bodyPost_ret (read_res (((((((((hA2.set (i:=0) (by simp) (.string ⟨#[]⟩)).set (i:=1) (by simp) (.int .i64 0)).set (i:=2) (by simp) (.int .i64 0)).set (i:=3) (by simp) (.int .i64 0)).set (i:=4) (by simp) (.slice none 0 0)).set (i:=5) (by simp) (.slice none 0 0)).far (X:=w.heap.size+1) (i:=0) (by omega) (.int .i64 pl)).far (X:=w.heap.size+1) (i:=1) (by omega) (.int .i64 pc)).drew) (((((((((hP2.far (X:=w.heap.size) (i:=0) (by omega) (.string ⟨#[]⟩)).far (X:=w.heap.size) (i:=1) (by omega) (.int .i64 0)).far (X:=w.heap.size) (i:=2) (by omega) (.int .i64 0)).far (X:=w.heap.size) (i:=3) (by omega) (.int .i64 0)).far (X:=w.heap.size) (i:=4) (by omega) (.slice none 0 0)).far (X:=w.heap.size) (i:=5) (by omega) (.slice none 0 0)).set (i:=0) (by simp) (.int .i64 pl)).set (i:=1) (by simp) (.int .i64 pc)).drew) rfl rfl rfl) rfl ⟨_,rfl,rdC_no _ _,(below_st (below_st (below_st (below_st (below_st (below_st (below_st (below_st hb2 w.heap.size 0 (.string ⟨#[]⟩) (Nat.le_refl _)) w.heap.size 1 (.int .i64 0) (Nat.le_refl _)) w.heap.size 2 (.int .i64 0) (Nat.le_refl _)) w.heap.size 3 (.int .i64 0) (Nat.le_refl _)) w.heap.size 4 (.slice none 0 0) (Nat.le_refl _)) w.heap.size 5 (.slice none 0 0) (Nat.le_refl _)) (w.heap.size+1) 0 (.int .i64 pl) (by omega)) (w.heap.size+1) 1 (.int .i64 pc) (by omega)).drew⟩
 ·rw [if_neg he,ch_eq,chP_1] at hRES
  have he0:er=0:=by simpa using he
  subst he0
  obtain ⟨h2,h3⟩:=h1 rfl
  clear h1 he hR hEE
  have hCh:=fun w1 X a cap (hp:Pr w1 X a cap ws (eL,eC) (ws,(0,0),0)) (hk:Wk ws cap) (he:Ey w1 X)=>chart_any hp hk he
  unfold chZ at hRES
  obtain ⟨⟨CC,r1⟩,hC⟩:∃ x,chP1 (eL,eC) (ws,(0,0),0)=x:=⟨_,rfl⟩
  simp only [hC] at hCh hRES
  have hLa:=fun w1 X a cap (hp:Pr w1 X a cap ws (eL,eC) r1) (hk:Wk ws cap)=>last_p hp hk
  obtain ⟨r2,hr2⟩:∃ r2,lastR (eL,eC) r1=r2:=⟨_,rfl⟩
  simp only [hr2] at hLa hRES
  have HRES:Hid ((if r2.2.2=0 then (CC,(0,0),0) else (noC,r2.2.1,r2.2.2))=RES):=hRES
  clear hC hr2 hRES
  go_enter Tryz.func18,Tryz.ntmps18
  go_upto_region 1 with fail
  generalize (w.alloc zC6).alloc zP=w0 at *
  go_upto_region 5 with (first
   | (go_at_call 34;refine hW.mono ?_;rintro e w1 ⟨u,rfl,hown,b1⟩;obtain ⟨a,cap,rfl,hwc,hwm,hwr⟩:=ownW_rd hown))
  have hal:=(Below.refl w1.heap.size w1).alloc (Nat.le_refl _) (.cells #[.int .i64 pl,.int .i64 pc] 23)
  have hal2:=(Below.refl (w1.alloc (.cells #[.int .i64 pl,.int .i64 pc] 23)).heap.size (w1.alloc (.cells #[.int .i64 pl,.int .i64 pc] 23))).alloc (Nat.le_refl _) (.cells #[.slice a ws.length cap,.int .i64 0,.int .i64 0] 96)
  have hal3:Below w1.heap.size w1 _:=hal.trans (hal2.mono hal.size)
  have hA2:=(hA0.on b1).on hal3
  have hP2:=(hP0.on b1).on hal3
  have hb2:=(hb0.trans (b1.mono hb0.size)).trans (hal3.mono (Nat.le_trans hb0.size b1.size))
  have hE2:=hE.ey hb2 (X:=w1.heap.size+1) (by have:=hb0.size;have:=b1.size;omega)
  have hs2:w.heap.size+2≤w1.heap.size:=Nat.le_trans hs0 b1.size
  have hX2:Bn ((w1.alloc (.cells #[.int .i64 pl,.int .i64 pc] 23)).alloc (.cells #[.slice a ws.length cap,.int .i64 0,.int .i64 0] 96)) (w1.heap.size+1) [.slice a ws.length cap,.int .i64 0,.int .i64 0]:=Bn.new _ [.slice a ws.length cap,.int .i64 0,.int .i64 0] 96 _ (by simp)
  have hp2:Pr ((w1.alloc (.cells #[.int .i64 pl,.int .i64 pc] 23)).alloc (.cells #[.slice a ws.length cap,.int .i64 0,.int .i64 0] 96)) (w1.heap.size+1) a cap ws (eL,eC) (ws,(0,0),0):=by
   refine ⟨0,⟨(hX2 0 _ rfl).1,(hX2 1 _ rfl).1,(hX2 2 _ rfl).1,(hX2 1 _ rfl).2,(hX2 2 _ rfl).2,fun i hi=>?_⟩,rfl,Nat.zero_le _,fun e=>absurd rfl e⟩
   obtain ⟨g,q1,q2,c0,c1,c2,c3⟩:=hwr i hi
   refine ⟨g,0,q1,by omega,?_,?_,?_,?_⟩ <;> rw [Nat.zero_add]
   ·exact (hal3.cell (p:=⟨g,i*4,none⟩) q2).trans c0
   ·exact (hal3.cell (p:=⟨g,i*4+1,none⟩) q2).trans c1
   ·exact (hal3.cell (p:=⟨g,i*4+2,none⟩) q2).trans c2
   ·exact (hal3.cell (p:=⟨g,i*4+3,none⟩) q2).trans c3
  have hk:Wk ws cap:=⟨h3,hwc,hwm,h2⟩
  have hga:∀ g off,a=some ⟨g,off,none⟩→w.heap.size+2≤g:=fun g off e=>Nat.le_trans hs0 (ownsRow_lt hown g (by rw [e];rfl)).1
  obtain ⟨X,hX⟩:∃ X,w1.heap.size+1=X:=⟨_,rfl⟩
  have hsX:w.heap.size+2 < X:=by omega
  rw [hX] at hp2 hE2 ⊢
  clear hX2 hA0 hP0 hb0 b1 hal hal2 hal3 hwr hown hs0 hW hs2 hX
  generalize (w1.alloc (.cells #[.int .i64 pl,.int .i64 pc] 23)).alloc (.cells #[.slice a ws.length cap,.int .i64 0,.int .i64 0] 96)=w2 at *
  obtain ⟨nv,hnv⟩:∃ nv,sV CC.1.1=.string nv:=⟨_,rfl⟩
  obtain ⟨cvn,hcvn⟩:∃ x,CC.2.1=x:=⟨_,rfl⟩
  obtain ⟨cln,hcln⟩:∃ x,CC.1.2.1=x:=⟨_,rfl⟩
  obtain ⟨cco,hcco⟩:∃ x,CC.1.2.2=x:=⟨_,rfl⟩
  have hCh2:Calls Tryz.prog 35 #[.pointer (some ⟨X,0,none⟩)] w2 fun e w'=>(∃ va vc sa sc,e=.returned (.agg #[.string nv,.int .i64 cvn,.int .i64 cln,.int .i64 cco,.slice va CC.2.2.1.length vc,.slice sa CC.2.2.2.length sc])∧RdK (fun b=>w2.heap.size≤b) w' 4 (rVar (fun b=>w2.heap.size≤b) w') CC.2.2.1 (.slice va CC.2.2.1.length vc)∧RdK (fun b=>w2.heap.size≤b) w' 11 (rSt 7 (fun b=>w2.heap.size≤b) w') CC.2.2.2 (.slice sa CC.2.2.2.length sc))∧Pr w' X a cap ws (eL,eC) r1∧Fx X w2 w':=(hCh w2 X a cap hp2 hk hE2).mono (fun e w' hh=>by
   obtain ⟨⟨v,rfl,cv,cs,rfl,hcv,hcs⟩,h5,h6⟩:=hh
   obtain ⟨va,vc,rfl,_⟩:=hcv.form
   obtain ⟨sa,sc,rfl,_⟩:=hcs.form
   exact ⟨⟨va,vc,sa,sc,by rw [hnv,hcvn,hcln,hcco],hcv,hcs⟩,h5,h6⟩)
  go_upto_region 6 with (first
   | (go_at_call 35;refine hCh2.mono ?_;rintro e w3 ⟨⟨va,vc,sa,sc,rfl,hcv,hcs⟩,hp3,hf3⟩))
  have hsz3:=hf3.size
  have hA3:=hA2.fx hf3 (by omega)
  have hP3:=hP2.fx hf3 (by omega)
  have hb3:=hf3.bel hb2 (by omega) (Nat.le_refl _)
  have hal:=(Below.refl w3.heap.size w3).alloc (Nat.le_refl _) (.cells #[.string nv,.int .i64 cvn,.int .i64 cln,.int .i64 cco,.slice va CC.2.2.1.length vc,.slice sa CC.2.2.2.length sc] 34)
  have hA4:=hA3.on hal
  have hP4:=hP3.on hal
  have hC4:Bn (w3.alloc (.cells #[.string nv,.int .i64 cvn,.int .i64 cln,.int .i64 cco,.slice va CC.2.2.1.length vc,.slice sa CC.2.2.2.length sc] 34)) w3.heap.size [.string nv,.int .i64 cvn,.int .i64 cln,.int .i64 cco,.slice va CC.2.2.1.length vc,.slice sa CC.2.2.2.length sc]:=Bn.new w3 [.string nv,.int .i64 cvn,.int .i64 cln,.int .i64 cco,.slice va CC.2.2.1.length vc,.slice sa CC.2.2.2.length sc] 34 _ rfl
  have hp4:=hp3.on hal
  have hb4:=hb3.trans (hal.mono hb3.size)
  have hX3:=hp3.lt
  have hR4:RdC (fun b=>w.heap.size+2≤b∧b≠X) (w3.alloc (.cells #[.string nv,.int .i64 cvn,.int .i64 cln,.int .i64 cco,.slice va CC.2.2.1.length vc,.slice sa CC.2.2.2.length sc] 34)) 7 CC (.agg #[.string nv,.int .i64 cvn,.int .i64 cln,.int .i64 cco,.slice va CC.2.2.1.length vc,.slice sa CC.2.2.2.length sc]):=by
   refine ⟨_,_,by rw [hnv,hcvn,hcln,hcco],hcv.stay kp_var (fun b hb hl=>⟨⟨?_,?_⟩,hal.block b hl⟩),hcs.stay (kp_st _) (fun b hb hl=>⟨⟨?_,?_⟩,hal.block b hl⟩)⟩
   ·have:=hp2.lt;omega
   ·have:=hp2.lt;omega
   ·have:=hp2.lt;omega
   ·have:=hp2.lt;omega
  obtain ⟨N,hN⟩:∃ N,w3.heap.size=N:=⟨_,rfl⟩
  obtain ⟨vn,hvn⟩:∃ n,CC.2.2.1.length=n:=⟨_,rfl⟩
  obtain ⟨sn,hsn⟩:∃ n,CC.2.2.2.length=n:=⟨_,rfl⟩
  rw [hvn,hsn] at hA4 hP4 hC4 hp4 hb4 hR4 ⊢
  rw [hN] at hC4 ⊢
  have hNX:X < N:=by omega
  clear hA2 hP2 hb2 hp2 hE2 hf3 hA3 hP3 hb3 hal hp3 hX3 hnv hcvn hcln hcco hN hCh hCh2 hcv hcs hvn hsn
  generalize w3.alloc (.cells #[.string nv,.int .i64 cvn,.int .i64 cln,.int .i64 cco,.slice va vn vc,.slice sa sn sc] 34)=w4 at *
  have hLa4:=hLa w4 X a cap hp4 hk
  go_upto_region 7 with (first
   | (go_at_call 36;refine hLa4.mono ?_;rintro e w5 ⟨⟨u,rfl⟩,hp5,hf5⟩))
  have hA5:=hA4.fx hf5 (by omega)
  have hP5:=hP4.fx hf5 (by omega)
  have hC5:=hC4.fx hf5 (by omega)
  have hb5:=hf5.bel hb4 (by omega) (Nat.le_refl _)
  have hR5:RdC (fun b=>w.heap.size+2≤b) w5 7 CC (.agg #[.string nv,.int .i64 cvn,.int .i64 cln,.int .i64 cco,.slice va vn vc,.slice sa sn sc]):=hR4.keep (fun b hb hl=>⟨hb.1,hf5.block b hl (fun e=>hb.2 (Option.some.inj e))⟩)
  clear hA4 hP4 hC4 hb4 hR4 hf5 hp4 hLa hLa4
  obtain ⟨n,⟨c0,c1,c2,f1,f2,hL⟩,h5,h6,h7⟩:=id hp5
  obtain ⟨b,hb⟩:∃ b,r2.2.2=b:=⟨_,rfl⟩
  rw [hb] at c2
  have hlen:=hk.l
  have hcap:=hk.c
  obtain ⟨a0,k0⟩:=hA5 0 _ rfl
  obtain ⟨a1,k1⟩:=hA5 1 _ rfl
  obtain ⟨a2,k2⟩:=hA5 2 _ rfl
  obtain ⟨a3,k3⟩:=hA5 3 _ rfl
  obtain ⟨a4,k4⟩:=hA5 4 _ rfl
  obtain ⟨a5,k5⟩:=hA5 5 _ rfl
  obtain ⟨p0,o0⟩:=hP5 0 _ rfl
  obtain ⟨p1,o1⟩:=hP5 1 _ rfl
  by_cases hz:b=0
  ·subst hz
   have hv:=HRES.out
   rw [if_pos hb] at hv
   subst hv
   obtain ⟨y0,z0⟩:=hC5 0 _ rfl
   obtain ⟨y1,z1⟩:=hC5 1 _ rfl
   obtain ⟨y2,z2⟩:=hC5 2 _ rfl
   obtain ⟨y3,z3⟩:=hC5 3 _ rfl
   obtain ⟨y4,z4⟩:=hC5 4 _ rfl
   obtain ⟨y5,z5⟩:=hC5 5 _ rfl
   clear hL h5 h7 hb HRES
   go_wp2
   exact bodyPost_ret (read_res ((((((((hA5.set (i:=0) (by simp) (.string nv)).set (i:=1) (by simp) (.int .i64 cvn)).set (i:=2) (by simp) (.int .i64 cln)).set (i:=3) (by simp) (.int .i64 cco)).set (i:=4) (by simp) (.slice va vn vc)).set (i:=5) (by simp) (.slice sa sn sc)).far (X:=w.heap.size+1) (i:=0) (by omega) (.int .i64 0)).far (X:=w.heap.size+1) (i:=1) (by omega) (.int .i64 0)) ((((((((hP5.far (X:=w.heap.size) (i:=0) (by omega) (.string nv)).far (X:=w.heap.size) (i:=1) (by omega) (.int .i64 cvn)).far (X:=w.heap.size) (i:=2) (by omega) (.int .i64 cln)).far (X:=w.heap.size) (i:=3) (by omega) (.int .i64 cco)).far (X:=w.heap.size) (i:=4) (by omega) (.slice va vn vc)).far (X:=w.heap.size) (i:=5) (by omega) (.slice sa sn sc)).set (i:=0) (by simp) (.int .i64 0)).set (i:=1) (by simp) (.int .i64 0)) rfl rfl rfl) rfl ⟨_,rfl,hR5.keep (fun b hb hl=>⟨by omega,by rw [Below.heap_setCell _ _ _ _ (fun e=>by have e':b=w.heap.size+1:=e;omega),Below.heap_setCell _ _ _ _ (fun e=>by have e':b=w.heap.size+1:=e;omega),Below.heap_setCell _ _ _ _ (fun e=>by have e':b=w.heap.size:=e;omega),Below.heap_setCell _ _ _ _ (fun e=>by have e':b=w.heap.size:=e;omega),Below.heap_setCell _ _ _ _ (fun e=>by have e':b=w.heap.size:=e;omega),Below.heap_setCell _ _ _ _ (fun e=>by have e':b=w.heap.size:=e;omega),Below.heap_setCell _ _ _ _ (fun e=>by have e':b=w.heap.size:=e;omega),Below.heap_setCell _ _ _ _ (fun e=>by have e':b=w.heap.size:=e;omega)]⟩),(below_st (below_st (below_st (below_st (below_st (below_st (below_st (below_st hb5 w.heap.size 0 (.string nv) (Nat.le_refl _)) w.heap.size 1 (.int .i64 cvn) (Nat.le_refl _)) w.heap.size 2 (.int .i64 cln) (Nat.le_refl _)) w.heap.size 3 (.int .i64 cco) (Nat.le_refl _)) w.heap.size 4 (.slice va vn vc) (Nat.le_refl _)) w.heap.size 5 (.slice sa sn sc) (Nat.le_refl _)) (w.heap.size+1) 0 (.int .i64 0) (by omega)) (w.heap.size+1) 1 (.int .i64 0) (by omega))⟩
  ·have hv:=HRES.out
   rw [if_neg (by rw [hb];exact hz),h7 (by rw [hb];exact hz),hb] at hv
   have i1:(b == 0)=false:=by simpa using hz
   unfold hereR at hv
   cases hr:r2.1 with
   | nil=>
    rw [hr] at h5 hv
    have hn:=drop_nil h5 h6
    have HV:Hid ((noC,(eL,eC),b)=RES):=hv
    have i2:(n == ws.length)=true:=by simpa using hn
    have i3:((n:Int) == (ws.length:Int))=true:=by simp [hn]
    clear hL h5 h6 h7 hr HRES hz hv hn
    go_upto_region 10 with fail
    go_region_law (first
     | (go_simp;(with_reducible refine (hEn _).mono ?_);rintro e w6 ⟨rfl,b6⟩;have b6':=((Below.refl w5.heap.size w5).drew).trans b6;have hA6:=hA5.on b6';have hP6:=hP5.on b6';have hb6:=hb5.trans (b6'.mono hb5.size);have c2':w6.cell? ⟨X,2,none⟩=some (.int .i64 b):=((b6'.cell (p:=⟨X,2,none⟩) hp5.lt).trans c2);obtain ⟨u0,x0⟩:=hA6 0 _ rfl;obtain ⟨u1,x1⟩:=hA6 1 _ rfl;obtain ⟨u2,x2⟩:=hA6 2 _ rfl;obtain ⟨u3,x3⟩:=hA6 3 _ rfl;obtain ⟨u4,x4⟩:=hA6 4 _ rfl;obtain ⟨u5,x5⟩:=hA6 5 _ rfl;obtain ⟨y0,z0⟩:=hP6 0 _ rfl;obtain ⟨y1,z1⟩:=hP6 1 _ rfl)
     | fail)
    all_goals (
     go_wp2
     have hvv:=HV.out
     subst hvv
     exact bodyPost_ret (read_res ((((((((hA6.set (i:=0) (by simp) (.string ⟨#[]⟩)).set (i:=1) (by simp) (.int .i64 0)).set (i:=2) (by simp) (.int .i64 0)).set (i:=3) (by simp) (.int .i64 0)).set (i:=4) (by simp) (.slice none 0 0)).set (i:=5) (by simp) (.slice none 0 0)).far (X:=w.heap.size+1) (i:=0) (by omega) (.int .i64 eL)).far (X:=w.heap.size+1) (i:=1) (by omega) (.int .i64 eC)) ((((((((hP6.far (X:=w.heap.size) (i:=0) (by omega) (.string ⟨#[]⟩)).far (X:=w.heap.size) (i:=1) (by omega) (.int .i64 0)).far (X:=w.heap.size) (i:=2) (by omega) (.int .i64 0)).far (X:=w.heap.size) (i:=3) (by omega) (.int .i64 0)).far (X:=w.heap.size) (i:=4) (by omega) (.slice none 0 0)).far (X:=w.heap.size) (i:=5) (by omega) (.slice none 0 0)).set (i:=0) (by simp) (.int .i64 eL)).set (i:=1) (by simp) (.int .i64 eC)) rfl rfl rfl) rfl ⟨_,rfl,rdC_no _ _,(below_st (below_st (below_st (below_st (below_st (below_st (below_st (below_st hb6 w.heap.size 0 (.string ⟨#[]⟩) (Nat.le_refl _)) w.heap.size 1 (.int .i64 0) (Nat.le_refl _)) w.heap.size 2 (.int .i64 0) (Nat.le_refl _)) w.heap.size 3 (.int .i64 0) (Nat.le_refl _)) w.heap.size 4 (.slice none 0 0) (Nat.le_refl _)) w.heap.size 5 (.slice none 0 0) (Nat.le_refl _)) (w.heap.size+1) 0 (.int .i64 eL) (by omega)) (w.heap.size+1) 1 (.int .i64 eC) (by omega))⟩)
   | cons x l=>
    rw [hr] at h5 hv
    obtain ⟨hn,_,hx⟩:=drop_cons h5
    obtain ⟨g,off,rfl,hg,d0,d1,d2,d3⟩:=hL n hn
    have hg2:=hga g off rfl
    have hg3:¬ g=w.heap.size:=by omega
    have hg4:¬ w.heap.size=g:=by omega
    have hg5:¬ g=w.heap.size+1:=by omega
    have hg6:¬ w.heap.size+1=g:=by omega
    have hg7:¬ X=w.heap.size:=by omega
    have hg8:¬ w.heap.size=X:=by omega
    have hg9:¬ X=w.heap.size+1:=by omega
    have hg10:¬ w.heap.size+1=X:=by omega
    rw [hx hn] at d0 d1 d2 d3
    obtain ⟨K,seg,xl,xc⟩:=x
    simp only at d0 d1 d2 d3
    have HV:Hid ((noC,(xl,xc),b)=RES):=hv
    have i2:((n:Int) == (ws.length:Int))=false:=by simp;omega
    have i3:(n:Int) < (ws.length:Int):=by omega
    have i4:(0:Int)≤(n:Int):=by omega
    clear hL h5 h6 h7 hr HRES hz hv hx
    go_upto_region 11 with fail
    go_region
    go_wp2
    have hvv:=HV.out
    subst hvv
    exact bodyPost_ret (read_res (((((((((hA5.set (i:=0) (by simp) (.string ⟨#[]⟩)).set (i:=1) (by simp) (.int .i64 0)).set (i:=2) (by simp) (.int .i64 0)).set (i:=3) (by simp) (.int .i64 0)).set (i:=4) (by simp) (.slice none 0 0)).set (i:=5) (by simp) (.slice none 0 0)).far (X:=w.heap.size+1) (i:=0) (by omega) (.int .i64 xl)).far (X:=w.heap.size+1) (i:=1) (by omega) (.int .i64 xc)).drew) (((((((((hP5.far (X:=w.heap.size) (i:=0) (by omega) (.string ⟨#[]⟩)).far (X:=w.heap.size) (i:=1) (by omega) (.int .i64 0)).far (X:=w.heap.size) (i:=2) (by omega) (.int .i64 0)).far (X:=w.heap.size) (i:=3) (by omega) (.int .i64 0)).far (X:=w.heap.size) (i:=4) (by omega) (.slice none 0 0)).far (X:=w.heap.size) (i:=5) (by omega) (.slice none 0 0)).set (i:=0) (by simp) (.int .i64 xl)).set (i:=1) (by simp) (.int .i64 xc)).drew) rfl rfl rfl) rfl ⟨_,rfl,rdC_no _ _,(below_st (below_st (below_st (below_st (below_st (below_st (below_st (below_st hb5 w.heap.size 0 (.string ⟨#[]⟩) (Nat.le_refl _)) w.heap.size 1 (.int .i64 0) (Nat.le_refl _)) w.heap.size 2 (.int .i64 0) (Nat.le_refl _)) w.heap.size 3 (.int .i64 0) (Nat.le_refl _)) w.heap.size 4 (.slice none 0 0) (Nat.le_refl _)) w.heap.size 5 (.slice none 0 0) (Nat.le_refl _)) (w.heap.size+1) 0 (.int .i64 xl) (by omega)) (w.heap.size+1) 1 (.int .i64 xc) (by omega)).drew⟩
end Go.Proofs.YtlgnahpfggagoaaGreatDoor
/- A formed chart's pieces fit. Math alone. -/
namespace Go.Proofs.YtlgnahpfggagoaaGreatDoor
open Go.RowKit Go.Lib
set_option linter.unusedSimpArgs false
set_option linter.unusedVariables false
theorem onF_parts {o:OnC}(h:onF o=true):plainB o.1=true∧(o.2.1.1=true→exF o.2.1.2=true)∧plainB o.2.2.1=true∧o.2.2.2.1.all setF=true:=by
 unfold onF at h
 simp only [Bool.and_eq_true,Bool.or_eq_true,Bool.not_eq_true'] at h
 exact ⟨h.1,fun e=>h.2.1.elim (fun q=>by rw [e] at q;cases q) id,h.2.2.1,h.2.2.2⟩
theorem kndF_step {h:HdC}(hf:kndF h=true) (hs:stepB h=true):h.2.1.1=false∧h.2.1.2=false∧plainB h.2.2.1.1=true∧plainB h.2.2.1.2=true∧nbB h.2.2.2.1.1=true∧nbB h.2.2.2.1.2=true:=by
 unfold kndF at hf
 rw [if_pos hs] at hf
 simp only [Bool.and_eq_true,Bool.not_eq_true'] at hf
 exact ⟨hf.1.1.1.1.1,hf.1.1.1.1.2,hf.1.1.1.2,hf.1.1.2,hf.1.2,hf.2⟩
theorem step_do {h:HdC}(hd:h.2.2.1.1≠[]):stepB h=true:=by
 unfold stepB
 rw [decide_eq_false hd];rfl
theorem nb_of {n:Int}(h:nbB n=true):0≤n∧n≤1000000000:=by
 unfold nbB at h
 rwa [decide_eq_true_eq] at h
theorem stF_parts {d:Nat}{n:Nat}{t:St (d+1)}(h:stF (d+1) n t=true):n≤6∧plainB t.1.1.1=true∧kndF t.1=true∧t.1.2.2.2.2.all onF=true∧t.2.all (stF d (n+1))=true:=by
 have h':(decide (n≤6) && plainB t.1.1.1 && kndF t.1 && t.1.2.2.2.2.all onF && t.2.all (stF d (n+1)))=true:=h
 simp only [Bool.and_eq_true,decide_eq_true_eq] at h'
 exact ⟨h'.1.1.1.1,h'.1.1.1.2,h'.1.1.2,h'.1.2,h'.2⟩
theorem chF_parts {d:Nat}{c:ChX d}(h:chF d c=true):plainB c.1.1=true∧nbB c.2.1=true∧c.2.2.1.all varF=true∧c.2.2.2.all (stF d 1)=true:=by
 unfold chF at h
 simp only [Bool.and_eq_true] at h
 exact ⟨h.1.1.1,h.1.1.2,h.1.2,h.2⟩
/-- The reader's words are words. -/
def WdG (r:RsC):Prop:=∀ x∈r.1,OneW x.1 x.2.1
theorem wdG_sub {r r':RsC}(h:WdG r) (hs:∀ x∈r'.1,x∈r.1):WdG r':=fun x hx=>h x (hs x hx)
theorem wdG_fail {r:RsC}(h:WdG r) (e:Int) (p:Pl):WdG (failC e p r):=wdG_sub h (by rw [failC_len];exact fun _=>id)
theorem wdG_take {r:RsC}(h:WdG r) (fin:Pl) (s:List UInt8):WdG (takeR fin s r):=by
 unfold takeR
 split
 ·exact wdG_sub h (fun x hx=>List.mem_of_mem_tail hx)
 ·exact wdG_fail h _ _
theorem name_fm {r:RsC}(h:WdG r) (fin:Pl):WdG (nameR fin r).2∧((nameR fin r).2.2.2=0→plainB (nameR fin r).1.1=true):=by
 obtain ⟨r1,r2⟩:=r
 cases r1 with
 | nil=>exact ⟨wdG_fail h _ _,fun he=>absurd he (failC_bad (by decide) _ _)⟩
 | cons w l=>
  have e:nameR fin (w :: l,r2)=if r2.2=0∧plainB (tkW w).2=true then (((tkW w).2,wPl w),(l,r2)) else (([],(0,0)),failC 12 (hereR fin (w :: l,r2)) (w :: l,r2)):=rfl
  rw [e]
  split
  ·next hq=>exact ⟨wdG_sub h (fun x hx=>List.mem_cons_of_mem _ hx),fun _=>hq.2⟩
  ·exact ⟨wdG_fail h _ _,fun he=>absurd he (failC_bad (by decide) _ _)⟩
theorem num_fm {r:RsC}(h:WdG r) (fin:Pl):WdG (numR fin r).2∧((numR fin r).2.2.2=0→nbB (numR fin r).1=true):=by
 obtain ⟨r1,r2⟩:=r
 cases r1 with
 | nil=>exact ⟨wdG_fail h _ _,fun he=>absurd he (failC_bad (by decide) _ _)⟩
 | cons w l=>
  have e:numR fin (w :: l,r2)=if r2.2=0∧w.1=2 then (valB 0 (tkW w).2,(l,r2)) else (0,failC 12 (hereR fin (w :: l,r2)) (w :: l,r2)):=rfl
  rw [e]
  split
  ·next hq=>
   refine ⟨wdG_sub h (fun x hx=>List.mem_cons_of_mem _ hx),fun _=>?_⟩
   have hn:numB (byt w.2.1)=true:=by
    rcases (h w List.mem_cons_self).kind with ⟨a,_⟩ | ⟨_,b⟩ | ⟨a,_⟩
    ·omega
    ·exact b
    ·omega
   exact decide_eq_true (num_small hn)
  ·exact ⟨wdG_fail h _ _,fun he=>absurd he (failC_bad (by decide) _ _)⟩
theorem take_fm {ws:List Wd}(h:∀ x∈ws,OneW x.1 x.2.1) (h0:(takeC (ws.map tkW)).2.2=0):exF (takeC (ws.map tkW)).1=true∧ClX (takeC (ws.map tkW)).1:=by
 have hb:BadOr _ 0 (rdC (ws.map tkW)):=fine_read h _ 1 0 (by omega) (by omega)
 unfold takeC at h0 ⊢
 rcases hb with ⟨e1,e2⟩ | e1
 ·rw [if_neg (by omega)] at h0 ⊢
  by_cases hq:fmX (rdC (ws.map tkW)).1=true
  ·rw [if_pos hq]
   refine ⟨?_,e2.1.cl⟩
   unfold exF
   rw [Bool.and_eq_true]
   exact ⟨hq,e2.1.pl⟩
  ·rw [if_neg hq] at h0;exact absurd (show (13:Int)=0 from h0) (by decide)
 ·rw [if_pos e1] at h0;exact absurd (show (12:Int)=0 from h0) (by decide)
theorem expr_fm {r:RsC}(h:WdG r) (fin:Pl):WdG (exprR fin r).2∧((exprR fin r).2.2.2=0→exF (exprR fin r).1=true∧ClX (exprR fin r).1):=by
 have hd:WdG (r.1.drop (takeC (r.1.map tkW)).2.1,r.2):=wdG_sub h (fun x hx=>List.mem_of_mem_drop hx)
 unfold exprR
 split
 ·next h1=>exact ⟨h,fun he=>absurd he h1⟩
 ·split
  ·next h2=>exact ⟨hd,fun _=>take_fm h h2⟩
  ·split
   ·exact ⟨wdG_fail h _ _,fun he=>absurd he (failC_bad (by decide) _ _)⟩
   ·next h2 _=>exact ⟨wdG_fail hd _ _,fun he=>absurd he (failC_bad h2 _ _)⟩
theorem sets_fm (fin:Pl):∀ (g:Nat) (acc:List (List UInt8 × Sx)) (r:RsC),WdG r→WdG (setsR fin g acc r).2∧((∀ s∈acc,setF s=true∧ClX s.2)→(setsR fin g acc r).2.2.2=0→∀ s∈(setsR fin g acc r).1,setF s=true∧ClX s.2)
 | 0,acc,r,h=>⟨h,fun ha _=>ha⟩
 | g+1,acc,r,h=>by
  unfold setsR
  split
  ·simp only
   obtain ⟨w1,n1⟩:=name_fm (wdG_take h fin wSet) fin
   have w2:=wdG_take w1 fin [61]
   obtain ⟨w3,n3⟩:=expr_fm w2 fin
   have gn:=goes_name fin (takeR fin wSet r)
   have gt:=goes_take fin [61] (nameR fin (takeR fin wSet r)).2
   have ge:=goes_expr fin (takeR fin [61] (nameR fin (takeR fin wSet r)).2)
   generalize exprR fin (takeR fin [61] (nameR fin (takeR fin wSet r)).2)=E at *
   generalize nameR fin (takeR fin wSet r)=N at *
   obtain ⟨i1,i2⟩:=sets_fm fin g (acc++[(N.1.1,E.1)]) E.2 w3
   refine ⟨i1,fun ha he=>i2 (fun s hs=>?_) he⟩
   have hE:=(goes_sets fin g _ _).2 he
   rcases List.mem_append.1 hs with hs | hs
   ·exact ha s hs
   ·rw [List.mem_singleton.1 hs]
    have hN:=gt.2 (ge.2 hE)
    refine ⟨?_,(n3 hE).2⟩
    show (plainB N.1.1 && exF E.1)=true
    rw [Bool.and_eq_true]
    exact ⟨n1 hN,(n3 hE).1⟩
  ·exact ⟨h,fun ha _=>ha⟩
theorem on_fm {r:RsC}(h:WdG r) (fin:Pl):WdG (onR fin r).2∧((onR fin r).2.2.2=0→onF (onR fin r).1=true∧OnCl (onR fin r).1):=by
 obtain ⟨w1,n1⟩:=name_fm (wdG_take h fin wOn) fin
 unfold onR
 simp only
 generalize nameR fin (takeR fin wOn r)=A at *
 obtain ⟨G,hG⟩:∃ g:(Bool × Sx) × RsC,(if isC wIf A.2=true then ((fun x=>((true,x.1),x.2)) (exprR fin (takeR fin wIf A.2))) else ((false,noX),A.2))=g:=⟨_,rfl⟩
 rw [hG]
 have hg:WdG G.2∧(G.2.2.2=0→(G.1.1=true→exF G.1.2=true∧ClX G.1.2)∧A.2.2.2=0):=by
  split at hG
  ·obtain ⟨w2,n2⟩:=expr_fm (wdG_take w1 fin wIf) fin
   have ge:=goes_expr fin (takeR fin wIf A.2)
   have gt:=goes_take fin wIf A.2
   rw [← hG]
   exact ⟨w2,fun he=>⟨fun _=>n2 he,gt.2 (ge.2 he)⟩⟩
  ·rw [← hG]
   exact ⟨w1,fun he=>⟨fun q=>(by cases q),he⟩⟩
 clear hG
 obtain ⟨w4,n4⟩:=name_fm (wdG_take hg.1 fin wGo) fin
 have gn:=(goes_take fin wGo G.2).trans (goes_name fin (takeR fin wGo G.2))
 generalize nameR fin (takeR fin wGo G.2)=N at *
 obtain ⟨w5,n5⟩:=sets_fm fin (N.2.1.length+1) [] N.2 w4
 have gs:=goes_sets fin (N.2.1.length+1) [] N.2
 generalize setsR fin (N.2.1.length+1) [] N.2=S at *
 refine ⟨w5,fun he=>?_⟩
 have hN:=gs.2 he
 obtain ⟨g1,g2⟩:=hg.2 (gn.2 hN)
 have hS:=n5 (fun s hs=>by simp at hs) he
 refine ⟨?_,fun hb=>(g1 hb).2,fun s hs=>(hS s hs).2⟩
 show (plainB A.1.1 && ((!G.1.1 || exF G.1.2) && (plainB N.1.1 && S.1.all setF)))=true
 rw [n1 g2,n4 hN,List.all_eq_true.2 (fun s hs=>(hS s hs).1)]
 cases hb:G.1.1 with
 | true=>rw [(g1 hb).1];rfl
 | false=>rfl
theorem kind_fm {r:RsC}(h:WdG r) (fin:Pl) (nm:List UInt8 × Pl) (os:List OnC):WdG (kindR fin r).2∧((kindR fin r).2.2.2=0→kndF (nm,(kindR fin r).1.1,(kindR fin r).1.2.1,(kindR fin r).1.2.2,os)=true):=by
 unfold kindR
 split
 ·exact ⟨wdG_take h fin _,fun _=>rfl⟩
 ·split
  ·exact ⟨wdG_take h fin _,fun _=>rfl⟩
  ·split
   ·simp only
    obtain ⟨w1,n1⟩:=name_fm (wdG_take h fin wDo) fin
    generalize nameR fin (takeR fin wDo r)=A at *
    obtain ⟨w2,n2⟩:=name_fm (wdG_take w1 fin wUndo) fin
    have g2:=(goes_take fin wUndo A.2).trans (goes_name fin (takeR fin wUndo A.2))
    generalize nameR fin (takeR fin wUndo A.2)=B at *
    obtain ⟨w3,n3⟩:=num_fm (wdG_take w2 fin wAt) fin
    have g3:=(goes_take fin wAt B.2).trans (goes_num fin (takeR fin wAt B.2))
    generalize numR fin (takeR fin wAt B.2)=C at *
    obtain ⟨w4,n4⟩:=num_fm (wdG_take w3 fin wRetries) fin
    have g4:=(goes_take fin wRetries C.2).trans (goes_num fin (takeR fin wRetries C.2))
    generalize numR fin (takeR fin wRetries C.2)=E at *
    refine ⟨w4,fun he=>?_⟩
    have hC:=g4.2 he
    have hB:=g3.2 hC
    have hA:=g2.2 hB
    have hd:A.1.1≠[]:=fun q=>by
     have:=plain_name (n1 hA)
     rw [q] at this
     revert this;decide
    unfold kndF
    rw [if_pos (step_do (h:=(nm,(false,false),(A.1.1,B.1.1),(C.1,E.1),os)) hd)]
    show (!false && !false && plainB A.1.1 && plainB B.1.1 && nbB C.1 && nbB E.1)=true
    rw [n1 hA,n2 hB,n3 hC,n4 he];rfl
   ·exact ⟨h,fun _=>rfl⟩
theorem in_fm {α:Type}(fin:Pl) (inner:RsC→α × RsC) (Q:α→Prop) (hw:∀ r,WdG r→WdG (inner r).2∧((inner r).2.2.2=0→Q (inner r).1)) (hg:∀ r,Goes r (inner r).2) :
  ∀ (g:Nat) (os:List OnC) (ss:List α) (r:RsC),WdG r→(∀ o∈os,onF o=true∧OnCl o)→(∀ x∈ss,Q x)→WdG (inR fin inner g os ss r).2∧((inR fin inner g os ss r).2.2.2=0→(∀ o∈(inR fin inner g os ss r).1.1,onF o=true∧OnCl o)∧(∀ x∈(inR fin inner g os ss r).1.2,Q x)):=by
 have key:∀ (g:Nat) (os:List OnC) (ss:List α) (r:RsC),WdG r→WdG (inR fin inner g os ss r).2:=by
  intro g
  induction g with
  | zero=>exact fun os ss r h=>h
  | succ g ih=>
   intro os ss r h
   unfold inR
   split
   ·split
    ·exact ih _ _ _ (on_fm h fin).1
    ·exact ih _ _ _ (hw r h).1
   ·exact h
 intro g
 induction g with
 | zero=>exact fun os ss r h ho hs=>⟨h,fun _=>⟨ho,hs⟩⟩
 | succ g ih=>
  intro os ss r h ho hs
  refine ⟨key _ _ _ _ h,?_⟩
  unfold inR
  split
  ·split
   ·intro he
    have h0:=(goes_in fin inner hg g _ _ _).2 he
    have hk:=(on_fm h fin).2 h0
    exact (ih (os++[(onR fin r).1]) ss (onR fin r).2 (on_fm h fin).1 (fun o hx=>by
     rcases List.mem_append.1 hx with hx | hx
     ·exact ho o hx
     ·rw [List.mem_singleton.1 hx];exact hk) hs).2 he
   ·intro he
    have h0:=(goes_in fin inner hg g _ _ _).2 he
    exact (ih os (ss++[(inner r).1]) (inner r).2 (hw r h).1 ho (fun o hx=>by
     rcases List.mem_append.1 hx with hx | hx
     ·exact hs o hx
     ·rw [List.mem_singleton.1 hx];exact (hw r h).2 h0)).2 he
  ·exact fun _=>⟨ho,hs⟩
theorem st_fm (fin:Pl):∀ (k:Nat) (r:RsC),WdG r→k≤6→WdG (stR fin k r).2∧((stR fin k r).2.2.2=0→stF (k+1) (7 - k) (stR fin k r).1=true∧StCl (k+1) (stR fin k r).1)
 | 0,r,h,_=>⟨wdG_fail h _ _,fun he=>absurd he (failC_bad (by split <;> decide) _ r)⟩
 | k+1,r,h,hk=>by
  obtain ⟨w1,n1⟩:=name_fm (wdG_take h fin wState) fin
  have e:stR fin (k+1) r=((((nameR fin (takeR fin wState r)).1,(kindR fin (takeR fin [123] (nameR fin (takeR fin wState r)).2)).1.1,(kindR fin (takeR fin [123] (nameR fin (takeR fin wState r)).2)).1.2.1,(kindR fin (takeR fin [123] (nameR fin (takeR fin wState r)).2)).1.2.2,(inR fin (stR fin k) ((kindR fin (takeR fin [123] (nameR fin (takeR fin wState r)).2)).2.1.length+1) [] [] (kindR fin (takeR fin [123] (nameR fin (takeR fin wState r)).2)).2).1.1),(inR fin (stR fin k) ((kindR fin (takeR fin [123] (nameR fin (takeR fin wState r)).2)).2.1.length+1) [] [] (kindR fin (takeR fin [123] (nameR fin (takeR fin wState r)).2)).2).1.2),takeR fin [125] (inR fin (stR fin k) ((kindR fin (takeR fin [123] (nameR fin (takeR fin wState r)).2)).2.1.length+1) [] [] (kindR fin (takeR fin [123] (nameR fin (takeR fin wState r)).2)).2).2):=rfl
  rw [e]
  clear e
  generalize nameR fin (takeR fin wState r)=A at *
  have g2:=goes_take fin [123] A.2
  have hk2:=fun os=>kind_fm (wdG_take w1 fin [123]) fin A.1 os
  have g3:=goes_kind fin (takeR fin [123] A.2)
  generalize kindR fin (takeR fin [123] A.2)=K at *
  obtain ⟨i1,i2⟩:=in_fm fin (stR fin k) (fun x=>stF (k+1) (7 - k) x=true∧StCl (k+1) x) (fun r h=>st_fm fin k r h (by omega)) (fun r=>(goes_st fin k r).1) (K.2.1.length+1) [] [] K.2 (hk2 []).1 (fun x hx=>by simp at hx) (fun x hx=>by simp at hx)
  have g4:=goes_in fin (stR fin k) (fun r=>(goes_st fin k r).1) (K.2.1.length+1) [] [] K.2
  generalize inR fin (stR fin k) (K.2.1.length+1) [] [] K.2=I at *
  refine ⟨wdG_take i1 fin [125],fun he=>?_⟩
  have hI:=(goes_take fin [125] I.2).2 he
  obtain ⟨j1,j2⟩:=i2 hI
  have hK:=g4.2 hI
  have hA:=g2.2 (g3.2 hK)
  refine ⟨?_,fun o ho=>(j1 o ho).2,fun x hx=>(j2 x hx).2⟩
  show (decide (7 - (k+1)≤6) && plainB A.1.1 && kndF (A.1,K.1.1,K.1.2.1,K.1.2.2,I.1.1) && I.1.1.all onF && I.1.2.all (stF (k+1) (7 - (k+1)+1)))=true
  have hk7:7 - (k+1)+1=7 - k:=by omega
  rw [hk7,decide_eq_true (by omega),n1 hA,(hk2 I.1.1).2 hK,List.all_eq_true.2 (fun o ho=>(j1 o ho).1),List.all_eq_true.2 (fun o ho=>(j2 o ho).1)]
  rfl
theorem sts_fm (fin:Pl):∀ (g:Nat) (acc:List (St 7)) (r:RsC),WdG r→(∀ x∈acc,stF 7 1 x=true∧StCl 7 x)→(stsR fin g acc r).2.2.2=0→∀ x∈(stsR fin g acc r).1,stF 7 1 x=true∧StCl 7 x
 | 0,acc,r,h,ha,_=>ha
 | g+1,acc,r,h,ha,he=>by
  unfold stsR at he ⊢
  split at he
  ·rename_i h1
   rw [if_pos h1]
   have h0:(stR fin 6 r).2.2.2=0:=by
    by_cases hz:(stR fin 6 r).2.2.2=0
    ·exact hz
    ·have ee:∀ g acc,stsR fin g acc (stR fin 6 r).2=(acc,(stR fin 6 r).2):=fun g acc=>by
      cases g with
      | zero=>rfl
      | succ g=>unfold stsR;rw [if_neg (fun q=>hz q.1)]
     rw [ee] at he;exact absurd he hz
   exact sts_fm fin g (acc++[(stR fin 6 r).1]) (stR fin 6 r).2 (st_fm fin 6 r h (by omega)).1 (fun x hx=>by
    rcases List.mem_append.1 hx with hx | hx
    ·exact ha x hx
    ·rw [List.mem_singleton.1 hx];exact (st_fm fin 6 r h (by omega)).2 h0) he
  ·rename_i h1
   rw [if_neg h1]
   exact ha
theorem vars_fm (fin:Pl):∀ (g:Nat) (acc:List (List UInt8 × Int × Pl)) (r:RsC),WdG r→WdG (varsR fin g acc r).2∧((∀ x∈acc,varF x=true)→(varsR fin g acc r).2.2.2=0→∀ x∈(varsR fin g acc r).1,varF x=true)
 | 0,acc,r,h=>⟨h,fun ha _=>ha⟩
 | g+1,acc,r,h=>by
  unfold varsR
  split
  ·simp only
   obtain ⟨w1,n1⟩:=name_fm (wdG_take h fin wVar) fin
   generalize nameR fin (takeR fin wVar r)=A at *
   have w2:=wdG_take w1 fin [61]
   have g2:=goes_take fin [61] A.2
   generalize takeR fin [61] A.2=B at *
   obtain ⟨N,hN⟩:∃ x:Int × RsC,(if isC [45] B=true then (fun x=>(-x.1,x.2)) (numR fin (takeR fin [45] B)) else numR fin B)=x:=⟨_,rfl⟩
   rw [hN]
   have hp:WdG N.2∧(N.2.2.2=0→(-1000000000≤N.1∧N.1≤1000000000)∧B.2.2=0):=by
    split at hN
    ·obtain ⟨w3,n3⟩:=num_fm (wdG_take w2 fin [45]) fin
     have g3:=(goes_take fin [45] B).trans (goes_num fin (takeR fin [45] B))
     rw [← hN]
     refine ⟨w3,fun he=>⟨?_,g3.2 he⟩⟩
     have:=nb_of (n3 he)
     show -1000000000≤-(numR fin (takeR fin [45] B)).1∧-(numR fin (takeR fin [45] B)).1≤1000000000
     omega
    ·obtain ⟨w3,n3⟩:=num_fm w2 fin
     have g3:=goes_num fin B
     rw [← hN]
     refine ⟨w3,fun he=>⟨?_,g3.2 he⟩⟩
     have:=nb_of (n3 he)
     omega
   clear hN
   obtain ⟨i1,i2⟩:=vars_fm fin g (acc++[(A.1.1,N.1,A.1.2)]) N.2 hp.1
   refine ⟨i1,fun ha he=>i2 (fun x hx=>?_) he⟩
   have h0:=(goes_vars fin g _ _).2 he
   obtain ⟨p1,p2⟩:=hp.2 h0
   rcases List.mem_append.1 hx with hx | hx
   ·exact ha x hx
   ·rw [List.mem_singleton.1 hx]
    show (plainB A.1.1 && decide (-1000000000≤N.1∧N.1≤1000000000))=true
    rw [n1 (g2.2 p2),decide_eq_true p1];rfl
  ·exact ⟨h,fun ha _=>ha⟩
/-- What is read of any text is formed. -/
theorem read_formed {s:List UInt8}(h0:(readC s).2.2=0):chF 7 (readC s).1=true∧∀ t∈(readC s).1.2.2.2,StCl 7 t:=by
 unfold readC at h0 ⊢
 split at h0
 ·rename_i h;exact absurd h0 h
 ·rename_i h
  rw [if_neg h]
  obtain ⟨h2,h3⟩:=words_one (l:=s) (by simpa using h)
  generalize (wordsS s).1=ws at *
  generalize endP (runes s) 1 1=fin at *
  have w0:WdG (ws,(0,0),0):=h2
  obtain ⟨w1,n1⟩:=name_fm (wdG_take w0 fin wChart) fin
  unfold chR at h0 ⊢
  simp only at h0 ⊢
  generalize nameR fin (takeR fin wChart (ws,(0,0),0))=A at *
  obtain ⟨w2,n2⟩:=num_fm w1 fin
  have g2:=goes_num fin A.2
  generalize numR fin A.2=N at *
  have w3:=wdG_take w2 fin [123]
  have g3:=goes_take fin [123] N.2
  generalize takeR fin [123] N.2=B at *
  obtain ⟨v1,v2⟩:=vars_fm fin (B.1.length+1) [] B w3
  have g4:=goes_vars fin (B.1.length+1) [] B
  generalize varsR fin (B.1.length+1) [] B=V at *
  have hs:=sts_fm fin (V.2.1.length+1) [] V.2 v1 (fun x hx=>by simp at hx)
  have g5:(stsR fin (V.2.1.length+1) [] V.2).2.2.2=0→V.2.2.2=0:=fun he=>by
   by_cases hz:V.2.2.2=0
   ·exact hz
   ·unfold stsR at he
    rw [if_neg (fun q=>hz q.1)] at he
    exact absurd he hz
  generalize stsR fin (V.2.1.length+1) [] V.2=S at *
  have ge:=(goes_take fin [125] S.2).2
  generalize takeR fin [125] S.2=E at *
  obtain ⟨z,hz⟩:∃ z,(if E.2.2=0∧E.1≠[] then failC 12 (hereR fin E) E else E)=z:=⟨_,rfl⟩
  rw [hz] at h0 ⊢
  by_cases hzz:z.2.2=0
  ·rw [if_pos hzz]
   have hE:E.2.2=0:=by
    by_cases hc:E.2.2=0∧E.1≠[]
    ·exact hc.1
    ·rw [if_neg hc] at hz;rw [hz];exact hzz
   have hS:=ge hE
   have hV:=g5 hS
   have hB:=g4.2 hV
   have hN:=g3.2 hB
   have hA:=g2.2 hN
   have j1:=hs hS
   refine ⟨?_,fun t ht=>(j1 t ht).2⟩
   show (plainB A.1.1 && nbB N.1 && V.1.all varF && S.1.all (stF 7 1))=true
   rw [n1 hA,n2 hN,List.all_eq_true.2 (v2 (fun x hx=>by simp at hx) hV),List.all_eq_true.2 (fun x hx=>(j1 x hx).1)]
   rfl
  ·rw [if_neg hzz] at h0;exact absurd h0 hzz
theorem step_no {h:HdC}(hs:stepB h=false):h.2.2.1=([],[])∧h.2.2.2.1=(0,0):=by
 unfold stepB at hs
 simp only [Bool.not_eq_false',Bool.and_eq_true,decide_eq_true_eq] at hs
 obtain ⟨⟨⟨a,b⟩,c⟩,d⟩:=hs
 exact ⟨Prod.ext a b,Prod.ext c d⟩
section
variable {α β:Type}(fin:Pl) (inner:RsC→α × RsC) (f:β→List Tk) (R:β→α→Prop)
end
theorem cl_no:ClX noX:=cl_none (d:=0)
theorem take_cl {ws:List Wd}(h:∀ x∈ws,OneW x.1 x.2.1):ClX (takeC (ws.map tkW)).1∧cntX (takeC (ws.map tkW)).1≤2000:=by
 have hb:BadOr _ 0 (rdC (ws.map tkW)):=fine_read h _ 1 0 (by omega) (by omega)
 unfold takeC
 rcases hb with ⟨e1,e2⟩ | e1
 ·rw [if_neg (by omega)]
  by_cases hq:fmX (rdC (ws.map tkW)).1=true
  ·rw [if_pos hq]
   have:=(fm_parts hq).1
   exact ⟨e2.1.cl,by show cnt _ _≤2000;simp only;omega⟩
  ·rw [if_neg hq];exact ⟨cl_no,(show cntX noX≤2000 by decide)⟩
 ·rw [if_pos e1];exact ⟨cl_no,(show cntX noX≤2000 by decide)⟩
/-- The words that are left are words, and few. -/
def Wds (r:RsC):Prop:=(∀ x∈r.1,OneW x.1 x.2.1)∧r.1.length≤3000
theorem wds_sub {r r':RsC}(h:Wds r) (hs:∀ x∈r'.1,x∈r.1) (hl:r'.1.length≤r.1.length):Wds r':=⟨fun x hx=>h.1 x (hs x hx),Nat.le_trans hl h.2⟩
theorem wds_fail {r:RsC}(h:Wds r) (e:Int) (p:Pl):Wds (failC e p r):=wds_sub h (by rw [failC_len];exact fun _=>id) (by rw [failC_len];exact Nat.le_refl _)
theorem wds_take {r:RsC}(h:Wds r) (fin:Pl) (s:List UInt8):Wds (takeR fin s r):=by
 refine wds_sub h ?_ (takeR_len fin s r)
 unfold takeR
 split
 ·exact fun x hx=>List.mem_of_mem_tail hx
 ·rw [failC_len];exact fun _=>id
theorem wds_name {r:RsC}(h:Wds r) (fin:Pl):Wds (nameR fin r).2:=by
 refine wds_sub h ?_ (nameR_len fin r)
 unfold nameR
 cases hr:r.1 with
 | nil=>simp only;rw [failC_len,hr];exact fun _=>id
 | cons w l=>
  simp only
  split
  ·exact fun x hx=>List.mem_cons_of_mem _ hx
  ·rw [failC_len,hr];exact fun _=>id
theorem wds_num {r:RsC}(h:Wds r) (fin:Pl):Wds (numR fin r).2:=by
 refine wds_sub h ?_ (numR_len fin r)
 unfold numR
 cases hr:r.1 with
 | nil=>simp only;rw [failC_len,hr];exact fun _=>id
 | cons w l=>
  simp only
  split
  ·exact fun x hx=>List.mem_cons_of_mem _ hx
  ·rw [failC_len,hr];exact fun _=>id
theorem wds_expr {r:RsC}(h:Wds r) (fin:Pl):Wds (exprR fin r).2:=by
 refine wds_sub h ?_ (exprR_len fin r)
 unfold exprR
 split
 ·exact fun _=>id
 ·split
  ·exact fun x hx=>List.mem_of_mem_drop hx
  ·split
   ·rw [failC_len];exact fun _=>id
   ·rw [failC_len];exact fun x hx=>List.mem_of_mem_drop hx
theorem expr_cl {r:RsC}(h:Wds r) (fin:Pl):ClX (exprR fin r).1:=by
 unfold exprR
 split
 ·exact cl_no
 ·split
  ·exact (take_cl h.1).1
  ·split
   ·exact (take_cl h.1).1
   ·exact (take_cl h.1).1
/-- A form is no nil. -/
theorem fm_iface {x:Sx}(h:ClX x) (hf:fmX x=true):∃ u y,exX x=.iface u y:=by
 obtain ⟨d,t⟩:=x
 cases d with
 | zero=>exact Empty.elim t
 | succ d=>
  rcases Cl.cases h with ⟨n,rfl⟩ | ⟨s,rfl⟩ | ⟨k,p,hk,rfl,_⟩ | ⟨s,p,q,rfl,_,_⟩ | rfl
  ·exact ⟨_,_,rfl⟩
  ·exact ⟨_,_,rfl⟩
  ·rcases hk with rfl | rfl <;> exact ⟨_,_,rfl⟩
  ·exact ⟨_,_,rfl⟩
  ·exact absurd hf (by rw [show fmX (⟨d+1,none0⟩:Sx)=false from rfl];decide)
theorem expr_some {r:RsC}(h:Wds r) (fin:Pl) (he:(exprR fin r).2.2.2=0):∃ u y,exX (exprR fin r).1=.iface u y:=by
 have hc:=take_cl h.1
 unfold exprR at he ⊢
 split at he
 ·rename_i h1;exact absurd he h1
 ·rename_i h1
  rw [if_neg h1]
  split at he
  ·rename_i h2
   rw [if_pos h2]
   refine fm_iface hc.1 ?_
   unfold takeC at h2 ⊢
   split at h2
   ·exact absurd (show (12:Int)=0 from h2) (by decide)
   ·rename_i h3
    rw [if_neg h3]
    split at h2
    ·rename_i h4;rw [if_pos h4];exact h4
    ·exact absurd (show (13:Int)=0 from h2) (by decide)
  ·split at he
   ·exact absurd he (failC_bad (by decide) _ _)
   ·rename_i h2 h3;exact absurd he (failC_bad h2 _ _)
theorem sets_ok (fin:Pl):∀ (g:Nat) (acc:List (List UInt8 × Sx)) (r:RsC),Wds r→(∀ x∈acc,ClX x.2)→(∀ x∈(setsR fin g acc r).1,ClX x.2)∧(setsR fin g acc r).1.length≤acc.length+r.1.length∧Wds (setsR fin g acc r).2
 | 0,acc,r,h,ha=>⟨ha,Nat.le_add_right _ _,h⟩
 | g+1,acc,r,h,ha=>by
  unfold setsR
  split
  ·rename_i hi
   have hl:=takeR_less fin hi
   have w1:=wds_name (wds_take h fin wSet) fin
   have w2:=wds_take w1 fin [61]
   obtain ⟨i1,i2,i3⟩:=sets_ok fin g (acc++[((nameR fin (takeR fin wSet r)).1.1,(exprR fin (takeR fin [61] (nameR fin (takeR fin wSet r)).2)).1)]) (exprR fin (takeR fin [61] (nameR fin (takeR fin wSet r)).2)).2 (wds_expr w2 fin) (fun x hx=>by
    rcases List.mem_append.1 hx with hx | hx
    ·exact ha x hx
    ·rw [List.mem_singleton.1 hx];exact expr_cl w2 fin)
   refine ⟨i1,?_,i3⟩
   have g1:=((goes_name fin (takeR fin wSet r)).trans ((goes_take fin [61] _).trans (goes_expr fin _))).1
   rw [List.length_append,List.length_singleton] at i2
   simp only
   omega
  ·exact ⟨ha,Nat.le_add_right _ _,h⟩
/-- What an on holds. -/
def OkO (o:OnC):Prop:=ClX o.2.1.2∧(o.2.1.1=false→o.2.1.2=noX)∧(o.2.1.1=true→∃ u y,exX o.2.1.2=.iface u y)∧(∀ x∈o.2.2.2.1,ClX x.2)∧o.2.2.2.1.length≤3001
theorem wds_on {r:RsC}(h:Wds r) (fin:Pl):Wds (onR fin r).2∧((onR fin r).2.2.2=0→OkO (onR fin r).1):=by
 have w1:=wds_name (wds_take h fin wOn) fin
 unfold onR
 simp only
 generalize nameR fin (takeR fin wOn r)=A at *
 by_cases hi:isC wIf A.2=true
 ·rw [if_pos hi]
  have w2:=wds_take w1 fin wIf
  have c2:=expr_cl w2 fin
  have s2:=expr_some w2 fin
  have w3:=wds_expr w2 fin
  generalize exprR fin (takeR fin wIf A.2)=E at *
  simp only
  have w4:=wds_name (wds_take w3 fin wGo) fin
  have g4:=(goes_take fin wGo E.2).trans (goes_name fin (takeR fin wGo E.2))
  generalize nameR fin (takeR fin wGo E.2)=N at *
  obtain ⟨i1,i2,i3⟩:=sets_ok fin (N.2.1.length+1) [] N.2 w4 (fun x hx=>by simp at hx)
  refine ⟨i3,fun he=>⟨c2,fun e=>Bool.noConfusion e,fun _=>s2 (g4.2 ((goes_sets fin _ _ _).2 he)),i1,?_⟩⟩
  have:=w4.2
  rw [List.length_nil] at i2
  simp only
  omega
 ·rw [if_neg hi]
  simp only
  have w4:=wds_name (wds_take w1 fin wGo) fin
  generalize nameR fin (takeR fin wGo A.2)=N at *
  obtain ⟨i1,i2,i3⟩:=sets_ok fin (N.2.1.length+1) [] N.2 w4 (fun x hx=>by simp at hx)
  refine ⟨i3,fun he=>⟨cl_no,fun _=>rfl,fun e=>Bool.noConfusion e,i1,?_⟩⟩
  have:=w4.2
  rw [List.length_nil] at i2
  simp only
  omega
theorem wds_kind {r:RsC}(h:Wds r) (fin:Pl):Wds (kindR fin r).2:=by
 unfold kindR
 split
 ·exact wds_take h fin _
 ·split
  ·exact wds_take h fin _
  ·split
   ·exact wds_num (wds_take (wds_num (wds_take (wds_name (wds_take (wds_name (wds_take h fin _) fin) fin _) fin) fin _) fin) fin _) fin
   ·exact h
theorem in_ok {α:Type}(fin:Pl) (inner:RsC→α × RsC) (Q:α→Prop) (hw:∀ r,Wds r→Wds (inner r).2) (hq:∀ r,Wds r→(inner r).2.2.2=0→Q (inner r).1) (hg:∀ r,Goes r (inner r).2) (hl:∀ r,(inner r).2.2.2=0→(inner r).2.1.length < r.1.length) :
  ∀ (g:Nat) (os:List OnC) (ss:List α) (r:RsC),Wds r→(∀ o∈os,OkO o)→(∀ x∈ss,Q x)→Wds (inR fin inner g os ss r).2∧((inR fin inner g os ss r).2.2.2=0→(∀ o∈(inR fin inner g os ss r).1.1,OkO o)∧(∀ x∈(inR fin inner g os ss r).1.2,Q x)∧(inR fin inner g os ss r).1.1.length+(inR fin inner g os ss r).1.2.length≤os.length+ss.length+r.1.length):=by
 have key:∀ (g:Nat) (os:List OnC) (ss:List α) (r:RsC),Wds r→Wds (inR fin inner g os ss r).2:=by
  intro g
  induction g with
  | zero=>exact fun os ss r h=>h
  | succ g ih=>
   intro os ss r h
   unfold inR
   split
   ·split
    ·exact ih _ _ _ (wds_on h fin).1
    ·exact ih _ _ _ (hw r h)
   ·exact h
 intro g
 induction g with
 | zero=>exact fun os ss r h ho hs=>⟨h,fun _=>⟨ho,hs,Nat.le_add_right _ _⟩⟩
 | succ g ih=>
  intro os ss r h ho hs
  refine ⟨key _ _ _ _ h,?_⟩
  unfold inR
  split
  ·split
   ·rename_i h1 h2
    intro he
    have h0:=(goes_in fin inner hg g _ _ _).2 he
    have hk:=(wds_on h fin).2 h0
    obtain ⟨j1,j2,j3⟩:=(ih (os++[(onR fin r).1]) ss (onR fin r).2 (wds_on h fin).1 (fun o hx=>by
     rcases List.mem_append.1 hx with hx | hx
     ·exact ho o hx
     ·rw [List.mem_singleton.1 hx];exact hk) hs).2 he
    refine ⟨j1,j2,?_⟩
    have hll:=on_less (fin:=fin) h2
    rw [List.length_append,List.length_singleton] at j3
    omega
   ·rename_i h1 h2
    intro he
    have h0:=(goes_in fin inner hg g _ _ _).2 he
    obtain ⟨j1,j2,j3⟩:=(ih os (ss++[(inner r).1]) (inner r).2 (hw r h) ho (fun o hx=>by
     rcases List.mem_append.1 hx with hx | hx
     ·exact hs o hx
     ·rw [List.mem_singleton.1 hx];exact hq r h h0)).2 he
    refine ⟨j1,j2,?_⟩
    have hll:=hl r h0
    rw [List.length_append,List.length_singleton] at j3
    omega
  ·exact fun _=>⟨ho,hs,Nat.le_add_right _ _⟩
/-- What a state holds. -/
def OkS:(d:Nat)→St d→Prop
 | 0,t=>Empty.elim t
 | d+1,t=>(∀ o∈t.1.2.2.2.2,OkO o)∧t.1.2.2.2.2.length≤3001∧t.2.length≤3001∧∀ x∈t.2,OkS d x
theorem st_ok:∀ (fin:Pl) (k:Nat) (r:RsC),Wds r→Wds (stR fin k r).2∧((stR fin k r).2.2.2=0→OkS (k+1) (stR fin k r).1)
 | fin,0,r,h=>⟨wds_fail h _ _,fun he=>absurd he (failC_bad (by split <;> decide) _ r)⟩
 | fin,k+1,r,h=>by
  have w1:=wds_kind (wds_take (wds_name (wds_take h fin wState) fin) fin [123]) fin
  obtain ⟨i1,i2⟩:=in_ok fin (stR fin k) (OkS (k+1)) (fun r h=>(st_ok fin k r h).1) (fun r h=>(st_ok fin k r h).2) (fun r=>(goes_st fin k r).1) (fun r=>(goes_st fin k r).2) ((kindR fin (takeR fin [123] (nameR fin (takeR fin wState r)).2)).2.1.length+1) [] [] _ w1 (fun x hx=>by simp at hx) (fun x hx=>by simp at hx)
  refine ⟨wds_take i1 fin [125],fun he=>?_⟩
  obtain ⟨j1,j2,j3⟩:=i2 ((goes_take fin [125] _).2 he)
  have:=w1.2
  simp only [List.length_nil] at j3
  exact ⟨j1,by show _≤3001;simp only [stR];omega,by show _≤3001;simp only [stR];omega,j2⟩
theorem sts_ok (fin:Pl):∀ (g:Nat) (acc:List (St 7)) (r:RsC),Wds r→(∀ x∈acc,OkS 7 x)→(stsR fin g acc r).2.2.2=0→(∀ x∈(stsR fin g acc r).1,OkS 7 x)∧(stsR fin g acc r).1.length≤acc.length+r.1.length
 | 0,acc,r,h,ha,_=>⟨ha,Nat.le_add_right _ _⟩
 | g+1,acc,r,h,ha,he=>by
  unfold stsR at he ⊢
  split at he
  ·rename_i h1
   rw [if_pos h1]
   have h0:(stR fin 6 r).2.2.2=0:=by
    by_cases hz:(stR fin 6 r).2.2.2=0
    ·exact hz
    ·rw [sts_err hz] at he;exact absurd he hz
   obtain ⟨j1,j2⟩:=sts_ok fin g (acc++[(stR fin 6 r).1]) (stR fin 6 r).2 (st_ok fin 6 r h).1 (fun x hx=>by
    rcases List.mem_append.1 hx with hx | hx
    ·exact ha x hx
    ·rw [List.mem_singleton.1 hx];exact (st_ok fin 6 r h).2 h0) he
   refine ⟨j1,?_⟩
   have:=(goes_st fin 6 r).2 h0
   rw [List.length_append,List.length_singleton] at j2
   omega
  ·rename_i h1
   rw [if_neg h1]
   exact ⟨ha,Nat.le_add_right _ _⟩
theorem vars_ok (fin:Pl):∀ (g:Nat) (acc:List (List UInt8 × Int × Pl)) (r:RsC),Wds r→Wds (varsR fin g acc r).2∧(varsR fin g acc r).1.length≤acc.length+r.1.length
 | 0,acc,r,h=>⟨h,Nat.le_add_right _ _⟩
 | g+1,acc,r,h=>by
  unfold varsR
  split
  ·rename_i hi
   have hl:=takeR_less fin hi
   have w1:=wds_take (wds_name (wds_take h fin wVar) fin) fin [61]
   have g1:=((goes_name fin (takeR fin wVar r)).trans (goes_take fin [61] _)).1
   simp only
   generalize takeR fin [61] (nameR fin (takeR fin wVar r)).2=B at *
   by_cases hm:isC [45] B=true
   ·rw [if_pos hm]
    obtain ⟨j1,j2⟩:=vars_ok fin g (acc++[((nameR fin (takeR fin wVar r)).1.1,-(numR fin (takeR fin [45] B)).1,(nameR fin (takeR fin wVar r)).1.2)]) (numR fin (takeR fin [45] B)).2 (wds_num (wds_take w1 fin _) fin)
    refine ⟨j1,?_⟩
    have:=((goes_take fin [45] B).trans (goes_num fin _)).1
    rw [List.length_append,List.length_singleton] at j2
    simp only at *
    omega
   ·rw [if_neg hm]
    obtain ⟨j1,j2⟩:=vars_ok fin g (acc++[((nameR fin (takeR fin wVar r)).1.1,(numR fin B).1,(nameR fin (takeR fin wVar r)).1.2)]) (numR fin B).2 (wds_num w1 fin)
    refine ⟨j1,?_⟩
    have:=(goes_num fin B).1
    rw [List.length_append,List.length_singleton] at j2
    omega
  ·exact ⟨h,Nat.le_add_right _ _⟩
/-- A chart that was read. -/
theorem read_ok (s:List UInt8):(∀ t∈(readC s).1.2.2.2,OkS 7 t)∧(readC s).1.2.2.2.length≤3001∧(readC s).1.2.2.1.length≤3001:=by
 have hno:(∀ t∈noC.2.2.2,OkS 7 t)∧noC.2.2.2.length≤3001∧noC.2.2.1.length≤3001:=⟨fun t ht=>by simp [noC] at ht,by simp [noC],by simp [noC]⟩
 unfold readC
 split
 ·exact hno
 ·rename_i h
  obtain ⟨h2,h3⟩:=words_one (l:=s) (by simpa using h)
  generalize (wordsS s).1=ws at *
  generalize endP (runes s) 1 1=fin
  have w0:Wds (ws,(0,0),0):=⟨h2,h3⟩
  have w1:=wds_take (wds_num (wds_name (wds_take w0 fin wChart) fin) fin) fin [123]
  unfold chR
  simp only
  generalize takeR fin [123] (numR fin (nameR fin (takeR fin wChart (ws,(0,0),0))).2).2=B at *
  obtain ⟨v1,v2⟩:=vars_ok fin (B.1.length+1) [] B w1
  generalize varsR fin (B.1.length+1) [] B=V at *
  have hs:=sts_ok fin (V.2.1.length+1) [] V.2 v1 (fun x hx=>by simp at hx)
  generalize stsR fin (V.2.1.length+1) [] V.2=S at *
  have ge:=(goes_take fin [125] S.2).2
  generalize takeR fin [125] S.2=E at *
  obtain ⟨z,hz⟩:∃ z,(if E.2.2=0∧E.1≠[] then failC 12 (hereR fin E) E else E)=z:=⟨_,rfl⟩
  rw [hz]
  by_cases hzz:z.2.2=0
  ·rw [if_pos hzz]
   have hE:E.2.2=0:=by
    by_cases hc:E.2.2=0∧E.1≠[]
    ·exact hc.1
    ·rw [if_neg hc] at hz;rw [hz];exact hzz
   obtain ⟨j1,j2⟩:=hs (ge hE)
   have a1:=w1.2
   have a2:=v1.2
   rw [List.length_nil] at v2 j2
   exact ⟨j1,by show S.1.length≤3001;omega,by show V.1.length≤3001;omega⟩
  ·rw [if_neg hzz];exact hno
theorem rt_shrt:∀ (d:Nat) (t:T d),Cl d t→rtT dcN d t→shrt 1000 d t=true
 | 0,t,_,_=>Empty.elim t
 | d+1,t,hc,hr=>by
  rcases hc.cases with ⟨n,rfl⟩ | ⟨s,rfl⟩ | ⟨k,p,hk,rfl,hp⟩ | ⟨s,p,q,rfl,hp,hq⟩ | rfl
  ·rfl
  ·have hn:nameS s.data.toList=true:=hr.2.1 rfl
   have:=name_len hn
   rw [shrt_mk,Bool.and_eq_true]
   refine ⟨decide_eq_true ?_,rfl⟩
   have e:s.size=s.data.toList.length:=by rw [Array.length_toList];rfl
   omega
  ·have hrp:rtT dcN d p:=by
    have h2:∀ z∈[fold (rtF dcN) d p],z:=hr.2.2.2.2
    exact h2 (fold (rtF dcN) d p) List.mem_cons_self
   have:=rt_shrt d p hp hrp
   rw [shrt_mk,Bool.and_eq_true]
   refine ⟨rfl,?_⟩
   simp [this]
  ·have h2:∀ z∈[fold (rtF dcN) d p,fold (rtF dcN) d q],z:=hr.2.2.2.2
   have h3:=rt_shrt d p hp (h2 (fold (rtF dcN) d p) List.mem_cons_self)
   have h4:=rt_shrt d q hq (h2 (fold (rtF dcN) d q) (List.mem_cons_of_mem _ List.mem_cons_self))
   have ho:opB s.data.toList:=hr.2.2.1 rfl
   have:=op_len ho
   rw [shrt_mk,Bool.and_eq_true]
   refine ⟨decide_eq_true ?_,?_⟩
   ·have e:s.size=s.data.toList.length:=by rw [Array.length_toList];rfl
    omega
   ·simp [h3,h4]
  ·rfl
theorem ex_ok {x:Sx}(hc:ClX x) (h:exF x=true):ExOk x:=by
 have hfm:fmC x.1 x.2=true:=by
  unfold exF at h
  exact ((Bool.and_eq_true _ _).mp h).1
 exact ⟨hc,by have:=(fm_parts hfm).1;unfold cntX;omega,rt_shrt x.1 x.2 hc (exF_parts hc h).2⟩
theorem plain_len {s:List UInt8}(h:plainB s=true):s.length≤140737488351232:=by
 have:=name_len (plain_name h)
 omega
theorem on_okF {o:OnC}(hf:onF o=true) (hc:OnCl o) (hl:o.2.2.2.1.length≤100000):OnOk o:=by
 obtain ⟨h1,h2,h3,h4⟩:=onF_parts hf
 rw [List.all_eq_true] at h4
 refine ⟨plain_len h1,plain_len h3,fun hb=>ex_ok (hc.1 hb) (h2 hb),fun s hs=>?_,hl⟩
 have h5:=h4 s hs
 unfold setF at h5
 rw [Bool.and_eq_true] at h5
 exact ⟨plain_len h5.1,ex_ok (hc.2 s hs) h5.2⟩
/-- No list in it is long. -/
def LnS:(d:Nat)→St d→Prop
 | 0,t=>Empty.elim t
 | d+1,t=>(∀ o∈t.1.2.2.2.2,o.2.2.2.1.length≤100000)∧t.1.2.2.2.2.length≤100000∧t.2.length≤100000∧∀ x∈t.2,LnS d x
theorem st_okF:∀ (d n:Nat) (t:St d),stF d n t=true→StCl d t→LnS d t→StOk d t
 | 0,_,t,_,_,_=>Empty.elim t
 | d+1,n,t,hf,hc,hl=>by
  obtain ⟨h1,h2,h3,h4,h5⟩:=stF_parts hf
  rw [List.all_eq_true] at h4 h5
  have hk:t.1.2.2.1.1.length≤140737488351232∧t.1.2.2.1.2.length≤140737488351232:=by
   cases hs:stepB t.1 with
   | true=>
    obtain ⟨_,_,k3,k4,_,_⟩:=kndF_step h3 hs
    exact ⟨plain_len k3,plain_len k4⟩
   | false=>
    unfold stepB at hs
    simp only [Bool.not_eq_false',Bool.and_eq_true,decide_eq_true_eq] at hs
    rw [hs.1.1.1,hs.1.1.2]
    simp
  exact ⟨⟨plain_len h2,hk.1,hk.2,hl.2.1,fun o ho=>on_okF (h4 o ho) (hc.1 o ho) (hl.1 o ho)⟩,hl.2.2.1,fun x hx=>st_okF d (n+1) x (h5 x hx) (hc.2 x hx) (hl.2.2.2 x hx)⟩
theorem ln_of:∀ (d:Nat) (t:St d),OkS d t→LnS d t
 | 0,t,_=>Empty.elim t
 | d+1,t,h=>⟨fun o ho=>by have:=(h.1 o ho).2.2.2.2;omega,by have:=h.2.1;omega,by have:=h.2.2.1;omega,fun x hx=>ln_of d x (h.2.2.2 x hx)⟩
theorem in_tot {α:Type}(fin:Pl) (inner:RsC→α × RsC) (f:α→Nat) (hf:∀ r,(inner r).2.2.2=0→f (inner r).1+(inner r).2.1.length≤r.1.length) (hg:∀ r,Goes r (inner r).2) :
  ∀ (g:Nat) (os:List OnC) (ss:List α) (r:RsC),(inR fin inner g os ss r).2.2.2=0→((inR fin inner g os ss r).1.2.map f).sum+(inR fin inner g os ss r).2.1.length≤(ss.map f).sum+r.1.length:=by
 intro g
 induction g with
 | zero=>exact fun os ss r _=>Nat.le_refl _
 | succ g ih=>
  intro os ss r
  unfold inR
  split
  ·split
   ·intro he
    have h1:=ih (os++[(onR fin r).1]) ss (onR fin r).2 he
    have h2:=(goes_on fin r).1
    omega
   ·intro he
    have h0:=(goes_in fin inner hg g _ _ _).2 he
    have h1:=ih os (ss++[(inner r).1]) (inner r).2 he
    have h2:=hf r h0
    rw [List.map_append,List.sum_append,List.map_singleton,List.sum_singleton] at h1
    omega
  ·exact fun _=>Nat.le_refl _
theorem st_tot (fin:Pl):∀ (k:Nat) (r:RsC),(stR fin k r).2.2.2=0→szL k (stR fin k r).1.2+(stR fin k r).2.1.length≤r.1.length
 | 0,r,he=>absurd he (failC_bad (by split <;> decide) _ r)
 | k+1,r,he=>by
  have e:stR fin (k+1) r=((((nameR fin (takeR fin wState r)).1,(kindR fin (takeR fin [123] (nameR fin (takeR fin wState r)).2)).1.1,(kindR fin (takeR fin [123] (nameR fin (takeR fin wState r)).2)).1.2.1,(kindR fin (takeR fin [123] (nameR fin (takeR fin wState r)).2)).1.2.2,(inR fin (stR fin k) ((kindR fin (takeR fin [123] (nameR fin (takeR fin wState r)).2)).2.1.length+1) [] [] (kindR fin (takeR fin [123] (nameR fin (takeR fin wState r)).2)).2).1.1),(inR fin (stR fin k) ((kindR fin (takeR fin [123] (nameR fin (takeR fin wState r)).2)).2.1.length+1) [] [] (kindR fin (takeR fin [123] (nameR fin (takeR fin wState r)).2)).2).1.2),takeR fin [125] (inR fin (stR fin k) ((kindR fin (takeR fin [123] (nameR fin (takeR fin wState r)).2)).2.1.length+1) [] [] (kindR fin (takeR fin [123] (nameR fin (takeR fin wState r)).2)).2).2):=rfl
  rw [e] at he ⊢
  clear e
  have g1:=(goes_take fin wState r).trans ((goes_name fin (takeR fin wState r)).trans ((goes_take fin [123] (nameR fin (takeR fin wState r)).2).trans (goes_kind fin (takeR fin [123] (nameR fin (takeR fin wState r)).2))))
  generalize kindR fin (takeR fin [123] (nameR fin (takeR fin wState r)).2)=K at *
  have hI:=in_tot fin (stR fin k) (fun t=>szL k t.2) (fun r he=>st_tot fin k r he) (fun r=>(goes_st fin k r).1) (K.2.1.length+1) [] [] K.2
  generalize inR fin (stR fin k) (K.2.1.length+1) [] [] K.2=I at *
  have h0:=(goes_take fin [125] I.2).2 he
  have h1:=hI h0
  have h2:=takeR_less fin (take_ok he)
  have e2:szL (k+1) I.1.2=(I.1.2.map (fun t=>szL k t.2)).sum+1:=rfl
  show szL (k+1) I.1.2+(takeR fin [125] I.2).1.length≤r.1.length
  have h3:=g1.1
  simp only [List.map_nil,List.sum_nil,Nat.zero_add] at h1
  omega
theorem sts_tot (fin:Pl):∀ (g:Nat) (acc:List (St 7)) (r:RsC),(stsR fin g acc r).2.2.2=0→((stsR fin g acc r).1.map (fun t=>szL 6 t.2)).sum+(stsR fin g acc r).2.1.length≤(acc.map (fun t=>szL 6 t.2)).sum+r.1.length
 | 0,acc,r,_=>Nat.le_refl _
 | g+1,acc,r,he=>by
  unfold stsR at he ⊢
  split at he
  ·rename_i h1
   rw [if_pos h1]
   have h0:(stR fin 6 r).2.2.2=0:=by
    by_cases hz:(stR fin 6 r).2.2.2=0
    ·exact hz
    ·rw [sts_err hz] at he;exact absurd he hz
   have h2:=sts_tot fin g (acc++[(stR fin 6 r).1]) (stR fin 6 r).2 he
   have h3:=st_tot fin 6 r h0
   rw [List.map_append,List.sum_append,List.map_singleton,List.sum_singleton] at h2
   omega
  ·rename_i h1
   rw [if_neg h1]
   exact Nat.le_refl _
theorem read_tot (s:List UInt8):szL 7 (readC s).1.2.2.2≤3001:=by
 have hno:szL 7 noC.2.2.2≤3001:=by show (1:Nat)≤3001;omega
 unfold readC
 split
 ·exact hno
 ·rename_i h
  obtain ⟨h2,h3⟩:=words_one (l:=s) (by simpa using h)
  generalize (wordsS s).1=ws at *
  generalize endP (runes s) 1 1=fin
  unfold chR
  simp only
  have g1:=(goes_take fin wChart (ws,(0,0),0)).trans ((goes_name fin (takeR fin wChart (ws,(0,0),0))).trans ((goes_num fin (nameR fin (takeR fin wChart (ws,(0,0),0))).2).trans (goes_take fin [123] (numR fin (nameR fin (takeR fin wChart (ws,(0,0),0))).2).2)))
  generalize takeR fin [123] (numR fin (nameR fin (takeR fin wChart (ws,(0,0),0))).2).2=B at *
  have g2:=goes_vars fin (B.1.length+1) [] B
  generalize varsR fin (B.1.length+1) [] B=V at *
  have hs:=sts_tot fin (V.2.1.length+1) [] V.2
  generalize stsR fin (V.2.1.length+1) [] V.2=S at *
  have ge:=(goes_take fin [125] S.2).2
  generalize takeR fin [125] S.2=E at *
  obtain ⟨z,hz⟩:∃ z,(if E.2.2=0∧E.1≠[] then failC 12 (hereR fin E) E else E)=z:=⟨_,rfl⟩
  rw [hz]
  by_cases hzz:z.2.2=0
  ·rw [if_pos hzz]
   have hE:E.2.2=0:=by
    by_cases hc:E.2.2=0∧E.1≠[]
    ·exact hc.1
    ·rw [if_neg hc] at hz;rw [hz];exact hzz
   have h4:=hs (ge hE)
   have h5:=g1.1
   have h6:=g2.1
   have e2:szL 7 S.1=(S.1.map (fun t=>szL 6 t.2)).sum+1:=rfl
   show szL 7 S.1≤3001
   have h7:(ws,((0,0):Pl),(0:Int)).1.length=ws.length:=rfl
   rw [h7] at h5
   simp only [List.map_nil,List.sum_nil,Nat.zero_add] at h4
   omega
  ·rw [if_neg hzz];exact hno
theorem noC_ok:ChOk 7 noC:=⟨by simp [noC],by simp [noC],fun x hx=>by simp [noC] at hx,⟨by simp [noC],fun t ht=>by simp [noC] at ht⟩,by show (1:Nat)≤1000000;omega⟩
theorem read_bad {s:List UInt8}(h:(readC s).2.2≠0):(readC s).1=noC:=by
 unfold readC at h ⊢
 split
 ·rfl
 ·rename_i h1
  rw [if_neg h1] at h
  generalize (wordsS s).1=ws at *
  generalize endP (runes s) 1 1=fin at *
  unfold chR at h ⊢
  simp only at h ⊢
  generalize (if (takeR fin [125] _).2.2=0∧(takeR fin [125] _).1≠[] then failC 12 (hereR fin (takeR fin [125] _)) (takeR fin [125] _) else (takeR fin [125] _))=z at *
  by_cases hz:z.2.2=0
  ·rw [if_pos hz] at h;exact absurd rfl h
  ·rw [if_neg hz]
/-- What is read of any text. -/
theorem read_chok (s:List UInt8):ChOk 7 (readC s).1:=by
 by_cases h:(readC s).2.2=0
 ·obtain ⟨hf,hc⟩:=read_formed h
  obtain ⟨k1,k2,k3⟩:=read_ok s
  obtain ⟨f1,f2,f3,f4⟩:=chF_parts hf
  rw [List.all_eq_true] at f3 f4
  refine ⟨plain_len f1,by omega,fun x hx=>?_,⟨by show (readC s).1.2.2.2.length≤100000;omega,fun t ht=>st_okF 7 1 t (f4 t ht) (hc t ht) (ln_of 7 t (k1 t ht))⟩,by have:=read_tot s;omega⟩
  have:=f3 x hx
  unfold varF at this
  rw [Bool.and_eq_true] at this
  exact plain_len this.1
 ·rw [read_bad h];exact noC_ok
theorem plain_le {s:List UInt8}(h:plainB s=true):s.length≤96:=name_len (plain_name h)
/-- What a formed chart holds. -/
theorem onK_of {o:OnC}(hf:onF o=true) (hc:OnCl o):OnK o:=by
 obtain ⟨f1,f2,f3,f4⟩:=onF_parts hf
 have q1:=plain_le f1
 have q3:=plain_le f3
 refine ⟨by omega,by omega,fun hg=>?_,fun s hs=>?_⟩
 ·have hx:=f2 hg
  have h2:fmX o.2.1.2=true∧plX o.2.1.2=true:=by unfold exF at hx;rwa [Bool.and_eq_true] at hx
  obtain ⟨u,y,e⟩:=fm_iface (hc.1 hg) h2.1
  exact ⟨ex_ok (hc.1 hg) hx,by have:=(fm_parts h2.1).1;unfold cntX;omega,by rw [e];exact fun q=>by cases q⟩
 ·have hs1:=List.all_eq_true.1 f4 s hs
  unfold setF at hs1
  rw [Bool.and_eq_true] at hs1
  have h2:fmX s.2=true∧plX s.2=true:=by have:=hs1.2;unfold exF at this;rwa [Bool.and_eq_true] at this
  have q5:=plain_le hs1.1
  exact ⟨⟨by omega,ex_ok (hc.2 s hs) hs1.2⟩,by have:=(fm_parts h2.1).1;unfold cntX;omega⟩
theorem knd_len {h:HdC}(hf:kndF h=true):h.2.2.1.1.length≤140737488351232∧h.2.2.1.2.length≤140737488351232:=by
 cases hs:stepB h with
 | true=>
  obtain ⟨_,_,k3,k4,_,_⟩:=kndF_step hf hs
  have q3:=plain_le k3
  have q4:=plain_le k4
  omega
 | false=>
  obtain ⟨e1,_⟩:=step_no hs
  rw [e1]
  simp
theorem stK_of:∀ (d n:Nat) (t:St d),stF d n t=true→StCl d t→StK d t
 | 0,_,t,_,_=>Empty.elim t
 | d+1,n,t,h,hc=>by
  obtain ⟨h1,h2,h3,h4,h5⟩:=stF_parts h
  have q2:=plain_le h2
  obtain ⟨k1,k2⟩:=knd_len h3
  exact ⟨⟨by omega,k1,k2,fun o ho=>onK_of (List.all_eq_true.1 h4 o ho) (hc.1 o ho)⟩,fun x hx=>stK_of d (n+1) x (List.all_eq_true.1 h5 x hx) (hc.2 x hx)⟩
theorem chK_of {d:Nat}{c:ChG d}(h:chF d c=true) (hc:∀ t∈c.2.2.2,StCl d t):ChK d c:=by
 obtain ⟨h1,h2,h3,h4⟩:=chF_parts h
 have q1:=plain_le h1
 refine ⟨by omega,fun v hv=>?_,fun t ht=>stK_of d 1 t (List.all_eq_true.1 h4 t ht) (hc t ht)⟩
 have hv:=List.all_eq_true.1 h3 v hv
 unfold varF at hv
 simp only [Bool.and_eq_true,decide_eq_true_eq] at hv
 have q3:=plain_le hv.1
 omega
end Go.Proofs.YtlgnahpfggagoaaGreatDoor
