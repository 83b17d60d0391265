import Derived.Test.YtfjdceknbdmhpaaGreatDoorWvc25
import Derived.Test.YtfjdceknbdmhpaaGreatDoorWvc10
/- What the program's set and variable do. -/
namespace Go.Proofs.YtfjdceknbdmhpaaGreatDoor
open Go.RowKit Go.Lib
set_option linter.unusedSimpArgs false
set_option linter.unusedVariables false
attribute [local go_sem ↓] Go.wp_at_zero Go.wp_at_succ
def setR (fin:Pl) (r:RsC):(List UInt8 × Sx) × RsC:=(((nameR fin r).1.1,(exprR fin (takeR fin [61] (nameR fin r).2)).1),(exprR fin (takeR fin [61] (nameR fin r).2)).2)
abbrev zS2:Obj:=.cells #[.string ⟨#[]⟩,.nilIface] 136
theorem Fx.ne {X N:Nat} (h:X < N):N≠X:=by omega
theorem set_res {w4:World} {R:Nat} {a b:Value} {tmps:Array Value} (hR:Bn w4 R [a,b]) (ht:tmps.getD 2 undef=.pointer (some ⟨R,0,none⟩)):(results Tryz.f215 tmps).run Tryz.prog w4=.ok (.agg #[a,b]) w4:=by
 have ht':tmps[2]?.getD undef=.pointer (some ⟨R,0,none⟩):=by simpa using ht
 have c0:=(hR 0 _ rfl).1
 have c1:=(hR 1 _ rfl).1
 simp [results,Tryz.results215,go_sem,ht',c0,c1]
set_option maxRecDepth 100000 in
set_option maxHeartbeats 4000000 in
theorem pset_any {w:World} {X:Nat} {a:Option Addr} {cap:Nat} {ws:List Wd} {fin:Pl} {r:RsC} (h:Pr w X a cap ws fin r) (hk:Wk ws cap) :
  Calls Tryz.prog 215 #[.pointer (some ⟨X,0,none⟩)] w fun e w'=>e=.returned (.agg #[sV (setR fin r).1.1,exX (setR fin r).1.2])∧Pr w' X a cap ws fin (setR fin r).2∧Fx X w w':=by
 have hX:=h.lt
 have hbel:Below w.heap.size w ((w.alloc zS2).alloc zS2):=((Below.refl _ _).alloc (Nat.le_refl _) _).alloc (by simp) _
 have hp0:=h.on hbel
 have hA0:Bn ((w.alloc zS2).alloc zS2) w.heap.size [.string ⟨#[]⟩,.nilIface]:=(Bn.new w [.string ⟨#[]⟩,.nilIface] 136 _ rfl).on ((Below.refl _ _).alloc (Nat.le_refl _) _)
 have hB0:Bn ((w.alloc zS2).alloc zS2) (w.heap.size+1) [.string ⟨#[]⟩,.nilIface]:=Bn.new (w.alloc zS2) [.string ⟨#[]⟩,.nilIface] 136 _ (by simp)
 have hN:=pname_any hp0 hk
 unfold setR
 obtain ⟨⟨⟨nm,ln,co⟩,r1⟩,hR1⟩:∃ x,nameR fin r=x:=⟨_,rfl⟩
 rw [hR1] at hN ⊢
 simp only at hN ⊢
 have hM:=fun w1 (hp:Pr w1 X a cap ws fin r1)=>must_any hp hk [61]
 obtain ⟨r2,hR2⟩:∃ r2,takeR fin [61] r1=r2:=⟨_,rfl⟩
 simp only [hR2] at hM ⊢
 have hXp:=fun w1 (hp:Pr w1 X a cap ws fin r2)=>expr_any hp hk
 obtain ⟨⟨x,r3⟩,hR3⟩:∃ y,exprR fin r2=y:=⟨_,rfl⟩
 simp only [hR3] at hXp ⊢
 have hxf:=exX_form x
 obtain ⟨xv,hxv⟩:∃ xv,exX x=xv:=⟨_,rfl⟩
 simp only [hxv] at hXp hxf ⊢
 obtain ⟨nv,hnv⟩:∃ nv,(⟨nm.toArray⟩:ByteArray)=nv:=⟨_,rfl⟩
 unfold sV at hN ⊢
 simp only [hnv] at hN ⊢
 have hF0:Fx X w ((w.alloc zS2).alloc zS2):=Fx.of hbel (Nat.le_refl _)
 clear hR1 hR2 hR3 hxv hnv hbel h
 go_enter Tryz.func215,Tryz.ntmps215
 go_upto_region 2 with fail
 generalize (w.alloc zS2).alloc zS2=w0 at *
 go_upto_region 3 with (first
  | (go_at_call 100;refine hN.mono ?_;rintro e w1 ⟨rfl,hp1,hf1⟩;have hA1:=hA0.fx hf1 (by omega);have hB1:=hB0.fx hf1 (by omega);have hF1:=hF0.trans hf1;obtain ⟨b0,g0⟩:=hB1 0 _ rfl))
 have hA2:=hA1.far (X:=w.heap.size+1) (i:=0) (by omega) (.string nv)
 have hB2:=hB1.set (i:=0) (by simp) (.string nv)
 have hp2:=hp1.far (Y:=w.heap.size+1) (i:=0) (by omega) (.string nv)
 have hF2:=hF1.setN (N:=w.heap.size+1) (i:=0) (by omega) (.string nv)
 clear hA0 hB0 hA1 hB1 hp1 hf1 hF1 hF0 b0 g0 hp0 hN
 generalize w1.setCell ⟨w.heap.size+1,0,none⟩ (.string nv)=w2 at *
 go_upto_region 4 with (first
  | (go_at_call 99;refine (hM _ hp2).mono ?_;rintro e w3 ⟨⟨u,rfl⟩,hp3,hf3⟩))
 have hA3:=hA2.fx hf3 (by omega)
 have hB3:=hB2.fx hf3 (by omega)
 have hF3:=hF2.trans hf3
 clear hA2 hB2 hp2 hF2 hf3 hM
 rcases hxf with rfl | ⟨xu,xy,rfl⟩
 all_goals (
  go_upto_region 5 with (first
   | (go_at_call 214;refine (hXp _ hp3).mono ?_;rintro e w4 ⟨rfl,hp4,hf4⟩;have hA4:=hA3.fx hf4 (by omega);have hB4:=hB3.fx hf4 (by omega);have hF4:=hF3.trans hf4;obtain ⟨b1,g1⟩:=hB4 1 _ rfl)))
 ·have hA5:=hA4.far (X:=w.heap.size+1) (i:=1) (by omega) .nilIface
  have hB5:=hB4.set (i:=1) (by simp) .nilIface
  have hp5:=hp4.far (Y:=w.heap.size+1) (i:=1) (by omega) .nilIface
  have hF5:=hF4.setN (N:=w.heap.size+1) (i:=1) (by omega) .nilIface
  clear hA3 hB3 hA4 hB4 hp3 hp4 hf4 hF3 hF4 b1 g1
  generalize w4.setCell ⟨w.heap.size+1,1,none⟩ .nilIface=w5 at *
  obtain ⟨b0,g0⟩:=hB5 0 _ rfl
  obtain ⟨b1,g1⟩:=hB5 1 _ rfl
  obtain ⟨a0,k0⟩:=hA5 0 _ rfl
  obtain ⟨a1,k1⟩:=hA5 1 _ rfl
  go_wp2
  exact bodyPost_ret (set_res ((hA5.set (i:=0) (by simp) _).set (i:=1) (by simp) _) rfl) rfl ⟨rfl,(hp5.far hX _).far hX _,(hF5.setN (Nat.le_refl _) _).setN (Nat.le_refl _) _⟩
 ·have hA5:=hA4.far (X:=w.heap.size+1) (i:=1) (by omega) (.iface xu xy)
  have hB5:=hB4.set (i:=1) (by simp) (.iface xu xy)
  have hp5:=hp4.far (Y:=w.heap.size+1) (i:=1) (by omega) (.iface xu xy)
  have hF5:=hF4.setN (N:=w.heap.size+1) (i:=1) (by omega) (.iface xu xy)
  clear hA3 hB3 hA4 hB4 hp3 hp4 hf4 hF3 hF4 b1 g1
  generalize w4.setCell ⟨w.heap.size+1,1,none⟩ (.iface xu xy)=w5 at *
  obtain ⟨b0,g0⟩:=hB5 0 _ rfl
  obtain ⟨b1,g1⟩:=hB5 1 _ rfl
  obtain ⟨a0,k0⟩:=hA5 0 _ rfl
  obtain ⟨a1,k1⟩:=hA5 1 _ rfl
  go_wp2
  exact bodyPost_ret (set_res ((hA5.set (i:=0) (by simp) _).set (i:=1) (by simp) _) rfl) rfl ⟨rfl,(hp5.far hX _).far hX _,(hF5.setN (Nat.le_refl _) _).setN (Nat.le_refl _) _⟩
/-- What stands behind var. -/
def varR (fin:Pl) (r:RsC):(List UInt8 × Int × Pl) × RsC:=
 let a:=nameR fin r
 let b:=takeR fin [61] a.2
 let n:=if isC [45] b=true then (fun x=>(-x.1,x.2)) (numR fin (takeR fin [45] b)) else numR fin b
 ((a.1.1,n.1,a.1.2),n.2)
abbrev zV4:Obj:=.cells #[.string ⟨#[]⟩,.int .i64 0,.int .i64 0,.int .i64 0] 59
theorem var_res {w4:World} {R:Nat} {a b c d:Value} {tmps:Array Value} (hR:Bn w4 R [a,b,c,d]) (ht:tmps.getD 2 undef=.pointer (some ⟨R,0,none⟩)):(results Tryz.f103 tmps).run Tryz.prog w4=.ok (.agg #[a,b,c,d]) w4:=by
 have ht':tmps[2]?.getD undef=.pointer (some ⟨R,0,none⟩):=by simpa using ht
 have c0:=(hR 0 _ rfl).1
 have c1:=(hR 1 _ rfl).1
 have c2:=(hR 2 _ rfl).1
 have c3:=(hR 3 _ rfl).1
 simp [results,Tryz.results103,go_sem,ht',c0,c1,c2,c3]
theorem num_range {w:World} {X:Nat} {a:Option Addr} {cap:Nat} {ws:List Wd} {fin:Pl} {r:RsC} (h:Pr w X a cap ws fin r) (hk:Wk ws cap):0≤(numR fin r).1∧(numR fin r).1≤1000000000:=by
 obtain ⟨_,k,s,p,q,_,e3⟩:=num_word h hk
 rcases e3 with ⟨_,e⟩ | ⟨hs,e⟩
 ·rw [e];omega
 ·rw [e];exact num_small hs
set_option maxRecDepth 100000 in
set_option maxHeartbeats 4000000 in
theorem pvar_any {w:World} {X:Nat} {a:Option Addr} {cap:Nat} {ws:List Wd} {fin:Pl} {r:RsC} (h:Pr w X a cap ws fin r) (hk:Wk ws cap) (hE:Ey w X) :
  Calls Tryz.prog 103 #[.pointer (some ⟨X,0,none⟩)] w fun e w'=>e=.returned (.agg (varV (varR fin r).1).toArray)∧Pr w' X a cap ws fin (varR fin r).2∧Fx X w w':=by
 have hX:=h.lt
 have hbel:Below w.heap.size w ((w.alloc zV4).alloc zV4):=((Below.refl _ _).alloc (Nat.le_refl _) _).alloc (by simp) _
 have hp0:=h.on hbel
 have hE0:=hE.on hbel
 have hA0:Bn ((w.alloc zV4).alloc zV4) w.heap.size [.string ⟨#[]⟩,.int .i64 0,.int .i64 0,.int .i64 0]:=(Bn.new w [.string ⟨#[]⟩,.int .i64 0,.int .i64 0,.int .i64 0] 59 _ rfl).on ((Below.refl _ _).alloc (Nat.le_refl _) _)
 have hB0:Bn ((w.alloc zV4).alloc zV4) (w.heap.size+1) [.string ⟨#[]⟩,.int .i64 0,.int .i64 0,.int .i64 0]:=Bn.new (w.alloc zV4) [.string ⟨#[]⟩,.int .i64 0,.int .i64 0,.int .i64 0] 59 _ (by simp)
 have hN:=pname_any hp0 hk
 unfold varR
 obtain ⟨⟨⟨nm,ln,co⟩,r1⟩,hR1⟩:∃ x,nameR fin r=x:=⟨_,rfl⟩
 rw [hR1] at hN ⊢
 simp only at hN ⊢
 have hM:=fun w1 (hp:Pr w1 X a cap ws fin r1)=>must_any hp hk [61]
 obtain ⟨r2,hR2⟩:∃ r2,takeR fin [61] r1=r2:=⟨_,rfl⟩
 simp only [hR2] at hM ⊢
 have hS:=fun w1 (hp:Pr w1 X a cap ws fin r2)=>skips_any hp hk [45]
 obtain ⟨nv,hnv⟩:∃ nv,(⟨nm.toArray⟩:ByteArray)=nv:=⟨_,rfl⟩
 unfold varV
 unfold sV at hN ⊢
 simp only [hnv] at hN ⊢
 have hF0:Fx X w ((w.alloc zV4).alloc zV4):=Fx.of hbel (Nat.le_refl _)
 clear hR1 hR2 hnv hbel h
 cases hi:isC [45] r2 with
 | true=>
  simp only [hi,skR_yes hi] at hS
  rw [if_pos rfl]
  have hNm:=fun w1 (hp:Pr w1 X a cap ws fin (takeR fin [45] r2)) (he:Ey w1 X)=>pnum_any hp hk he
  have hrg:=fun w1 (hp:Pr w1 X a cap ws fin (takeR fin [45] r2))=>num_range hp hk
  obtain ⟨r3,hR3⟩:∃ r3,takeR fin [45] r2=r3:=⟨_,rfl⟩
  simp only [hR3] at hS hNm hrg ⊢
  obtain ⟨⟨n,r4⟩,hR4⟩:∃ y,numR fin r3=y:=⟨_,rfl⟩
  simp only [hR4] at hNm hrg ⊢
  clear hR3 hR4 hi
  go_enter Tryz.func103,Tryz.ntmps103
  go_upto_region 2 with fail
  generalize (w.alloc zV4).alloc zV4=w0 at *
  go_upto_region 3 with (first
   | (go_at_call 100;refine hN.mono ?_;rintro e w1 ⟨rfl,hp1,hf1⟩;have hA1:=hA0.fx hf1 (by omega);have hB1:=hB0.fx hf1 (by omega);have hE1:=hE0.fx hf1;have hF1:=hF0.trans hf1;obtain ⟨b0,g0⟩:=hB1 0 _ rfl;obtain ⟨b2,g2⟩:=hB1 2 _ rfl;obtain ⟨b3,g3⟩:=hB1 3 _ rfl))
  have hfx:Fx X w1 (((w1.setCell ⟨w.heap.size+1,0,none⟩ (.string nv)).setCell ⟨w.heap.size+1,2,none⟩ (.int .i64 ln)).setCell ⟨w.heap.size+1,3,none⟩ (.int .i64 co))∨True:=.inr trivial
  have hA2:=((hA1.far (X:=w.heap.size+1) (i:=0) (by omega) (.string nv)).far (X:=w.heap.size+1) (i:=2) (by omega) (.int .i64 ln)).far (X:=w.heap.size+1) (i:=3) (by omega) (.int .i64 co)
  have hB2:=((hB1.set (i:=0) (by simp) (.string nv)).set (i:=2) (by simp) (.int .i64 ln)).set (i:=3) (by simp) (.int .i64 co)
  have hp2:=((hp1.far (Y:=w.heap.size+1) (i:=0) (by omega) (.string nv)).far (Y:=w.heap.size+1) (i:=2) (by omega) (.int .i64 ln)).far (Y:=w.heap.size+1) (i:=3) (by omega) (.int .i64 co)
  have hF2:=((hF1.setN (N:=w.heap.size+1) (i:=0) (by omega) (.string nv)).setN (N:=w.heap.size+1) (i:=2) (by omega) (.int .i64 ln)).setN (N:=w.heap.size+1) (i:=3) (by omega) (.int .i64 co)
  have hE2:=hE.fx hF2
  clear hA0 hB0 hA1 hB1 hp1 hf1 hF1 hF0 b0 g0 b2 g2 b3 g3 hp0 hN hE1 hE0 hfx
  generalize ((w1.setCell ⟨w.heap.size+1,0,none⟩ (.string nv)).setCell ⟨w.heap.size+1,2,none⟩ (.int .i64 ln)).setCell ⟨w.heap.size+1,3,none⟩ (.int .i64 co)=w2 at *
  go_upto_region 5 with (first
   | (go_at_call 99;refine (hM _ hp2).mono ?_;rintro e w3 ⟨⟨u,rfl⟩,hp3,hf3⟩;have hA3:=hA2.fx hf3 (by omega);have hB3:=hB2.fx hf3 (by omega);have hF3:=hF2.trans hf3)
   | (go_at_call 102;refine (hS _ hp3).mono ?_;rintro e w4 ⟨rfl,hp4,hf4⟩;have hA4:=hA3.fx hf4 (by omega);have hB4:=hB3.fx hf4 (by omega);have hF4:=hF3.trans hf4))
  obtain ⟨q1,q2⟩:=hrg _ hp4
  have i1:IntKind.i64.wrap (-n) = -n:=by rw [IntKind.wrap_i64];omega
  have hE4:=hE.fx hF4
  clear hA2 hB2 hp2 hF2 hA3 hB3 hp3 hf3 hF3 hf4 hM hS
  go_upto_region 7 with (first
   | (go_at_call 101;refine (hNm _ hp4 hE4).mono ?_;rintro e w5 ⟨rfl,hp5,hf5⟩;have hA5:=hA4.fx hf5 (by omega);have hB5:=hB4.fx hf5 (by omega);have hF5:=hF4.trans hf5;obtain ⟨b1,g1⟩:=hB5 1 _ rfl))
  have hA6:=hA5.far (X:=w.heap.size+1) (i:=1) (by omega) (.int .i64 (-n))
  have hB6:=hB5.set (i:=1) (by simp) (.int .i64 (-n))
  have hp6:=hp5.far (Y:=w.heap.size+1) (i:=1) (by omega) (.int .i64 (-n))
  have hF6:=hF5.setN (N:=w.heap.size+1) (i:=1) (by omega) (.int .i64 (-n))
  clear hA4 hB4 hp4 hF4 hA5 hB5 hp5 hf5 hF5 b1 g1
  generalize w5.setCell ⟨w.heap.size+1,1,none⟩ (.int .i64 (-n))=w6 at *
  obtain ⟨b0,g0⟩:=hB6 0 _ rfl
  obtain ⟨b1,g1⟩:=hB6 1 _ rfl
  obtain ⟨b2,g2⟩:=hB6 2 _ rfl
  obtain ⟨b3,g3⟩:=hB6 3 _ rfl
  obtain ⟨a0,k0⟩:=hA6 0 _ rfl
  obtain ⟨a1,k1⟩:=hA6 1 _ rfl
  obtain ⟨a2,k2⟩:=hA6 2 _ rfl
  obtain ⟨a3,k3⟩:=hA6 3 _ rfl
  go_wp2
  exact bodyPost_ret (var_res ((((hA6.set (i:=0) (by simp) _).set (i:=1) (by simp) _).set (i:=2) (by simp) _).set (i:=3) (by simp) _) rfl) rfl ⟨rfl,(((hp6.far hX _).far hX _).far hX _).far hX _,(((hF6.setN (Nat.le_refl _) _).setN (Nat.le_refl _) _).setN (Nat.le_refl _) _).setN (Nat.le_refl _) _⟩
 | false=>
  simp only [hi,skR_no hi] at hS
  rw [if_neg (by decide)]
  have hNm:=fun w1 (hp:Pr w1 X a cap ws fin r2) (he:Ey w1 X)=>pnum_any hp hk he
  obtain ⟨⟨n,r4⟩,hR4⟩:∃ y,numR fin r2=y:=⟨_,rfl⟩
  simp only [hR4] at hNm ⊢
  clear hR4 hi
  go_enter Tryz.func103,Tryz.ntmps103
  go_upto_region 2 with fail
  generalize (w.alloc zV4).alloc zV4=w0 at *
  go_upto_region 3 with (first
   | (go_at_call 100;refine hN.mono ?_;rintro e w1 ⟨rfl,hp1,hf1⟩;have hA1:=hA0.fx hf1 (by omega);have hB1:=hB0.fx hf1 (by omega);have hE1:=hE0.fx hf1;have hF1:=hF0.trans hf1;obtain ⟨b0,g0⟩:=hB1 0 _ rfl;obtain ⟨b2,g2⟩:=hB1 2 _ rfl;obtain ⟨b3,g3⟩:=hB1 3 _ rfl))
  have hA2:=((hA1.far (X:=w.heap.size+1) (i:=0) (by omega) (.string nv)).far (X:=w.heap.size+1) (i:=2) (by omega) (.int .i64 ln)).far (X:=w.heap.size+1) (i:=3) (by omega) (.int .i64 co)
  have hB2:=((hB1.set (i:=0) (by simp) (.string nv)).set (i:=2) (by simp) (.int .i64 ln)).set (i:=3) (by simp) (.int .i64 co)
  have hp2:=((hp1.far (Y:=w.heap.size+1) (i:=0) (by omega) (.string nv)).far (Y:=w.heap.size+1) (i:=2) (by omega) (.int .i64 ln)).far (Y:=w.heap.size+1) (i:=3) (by omega) (.int .i64 co)
  have hF2:=((hF1.setN (N:=w.heap.size+1) (i:=0) (by omega) (.string nv)).setN (N:=w.heap.size+1) (i:=2) (by omega) (.int .i64 ln)).setN (N:=w.heap.size+1) (i:=3) (by omega) (.int .i64 co)
  clear hA0 hB0 hA1 hB1 hp1 hf1 hF1 hF0 b0 g0 b2 g2 b3 g3 hp0 hN hE1 hE0
  generalize ((w1.setCell ⟨w.heap.size+1,0,none⟩ (.string nv)).setCell ⟨w.heap.size+1,2,none⟩ (.int .i64 ln)).setCell ⟨w.heap.size+1,3,none⟩ (.int .i64 co)=w2 at *
  go_upto_region 6 with (first
   | (go_at_call 99;refine (hM _ hp2).mono ?_;rintro e w3 ⟨⟨u,rfl⟩,hp3,hf3⟩;have hA3:=hA2.fx hf3 (by omega);have hB3:=hB2.fx hf3 (by omega);have hF3:=hF2.trans hf3)
   | (go_at_call 102;refine (hS _ hp3).mono ?_;rintro e w4 ⟨rfl,hp4,hf4⟩;have hA4:=hA3.fx hf4 (by omega);have hB4:=hB3.fx hf4 (by omega);have hF4:=hF3.trans hf4))
  have hE4:=hE.fx hF4
  clear hA2 hB2 hp2 hF2 hA3 hB3 hp3 hf3 hF3 hf4 hM hS
  go_upto_region 7 with (first
   | (go_at_call 101;refine (hNm _ hp4 hE4).mono ?_;rintro e w5 ⟨rfl,hp5,hf5⟩;have hA5:=hA4.fx hf5 (by omega);have hB5:=hB4.fx hf5 (by omega);have hF5:=hF4.trans hf5;obtain ⟨b1,g1⟩:=hB5 1 _ rfl))
  have hA6:=hA5.far (X:=w.heap.size+1) (i:=1) (by omega) (.int .i64 n)
  have hB6:=hB5.set (i:=1) (by simp) (.int .i64 n)
  have hp6:=hp5.far (Y:=w.heap.size+1) (i:=1) (by omega) (.int .i64 n)
  have hF6:=hF5.setN (N:=w.heap.size+1) (i:=1) (by omega) (.int .i64 n)
  clear hA4 hB4 hp4 hF4 hA5 hB5 hp5 hf5 hF5 b1 g1
  generalize w5.setCell ⟨w.heap.size+1,1,none⟩ (.int .i64 n)=w6 at *
  obtain ⟨b0,g0⟩:=hB6 0 _ rfl
  obtain ⟨b1,g1⟩:=hB6 1 _ rfl
  obtain ⟨b2,g2⟩:=hB6 2 _ rfl
  obtain ⟨b3,g3⟩:=hB6 3 _ rfl
  obtain ⟨a0,k0⟩:=hA6 0 _ rfl
  obtain ⟨a1,k1⟩:=hA6 1 _ rfl
  obtain ⟨a2,k2⟩:=hA6 2 _ rfl
  obtain ⟨a3,k3⟩:=hA6 3 _ rfl
  go_wp2
  exact bodyPost_ret (var_res ((((hA6.set (i:=0) (by simp) _).set (i:=1) (by simp) _).set (i:=2) (by simp) _).set (i:=3) (by simp) _) rfl) rfl ⟨rfl,(((hp6.far hX _).far hX _).far hX _).far hX _,(((hF6.setN (Nat.le_refl _) _).setN (Nat.le_refl _) _).setN (Nat.le_refl _) _).setN (Nat.le_refl _) _⟩
abbrev KdC:=(Bool × Bool) × (List UInt8 × List UInt8) × (Int × Int)
/-- A state's cells, its kind put in. -/
def stV (c0 c1 c2:Value) (k:KdC) (so si:Value):List Value:=[c0,c1,c2,.bool k.1.1,.bool k.1.2,sV k.2.1.1,sV k.2.1.2,.int .i64 k.2.2.1,.int .i64 k.2.2.2,so,si]
def zK:KdC:=((false,false),([],[]),(0,0))
set_option maxRecDepth 100000 in
set_option maxHeartbeats 4000000 in
theorem kind_any {w:World} {X Y:Nat} {a:Option Addr} {cap:Nat} {ws:List Wd} {fin:Pl} {r:RsC} (h:Pr w X a cap ws fin r) (hk:Wk ws cap) (hE:Ey w X) (hXY:X < Y) {c0 c1 c2 so si:Value} (hB:Bn w Y (stV c0 c1 c2 zK so si)) :
  Calls Tryz.prog 166 #[.pointer (some ⟨X,0,none⟩),.pointer (some ⟨Y,0,none⟩)] w fun e w'=>(∃ u,e=.returned u)∧Pr w' X a cap ws fin (kindR fin r).2∧Bn w' Y (stV c0 c1 c2 (kindR fin r).1 so si)∧Fy X Y w w':=by
 unfold kindR
 have hS1:=skips_any h hk wAll
 have e1:(⟨wAll.toArray⟩:ByteArray)=⟨#[97,108,108]⟩:=rfl
 have e2:(⟨wEnd.toArray⟩:ByteArray)=⟨#[101,110,100]⟩:=rfl
 have e3:(⟨wDo.toArray⟩:ByteArray)=⟨#[100,111]⟩:=rfl
 have e4:(⟨wUndo.toArray⟩:ByteArray)=⟨#[117,110,100,111]⟩:=rfl
 have e5:(⟨wAt.toArray⟩:ByteArray)=⟨#[97,116]⟩:=rfl
 have e6:(⟨wRetries.toArray⟩:ByteArray)=⟨#[114,101,116,114,105,101,115]⟩:=rfl
 rw [e1] at hS1
 have hYX:Y≠X:=by omega
 cases h1:isC wAll r with
 | true=>
  rw [h1,skR_yes h1] at hS1
  rw [if_pos rfl]
  generalize takeR fin wAll r=r1 at *
  go_enter Tryz.func166,Tryz.ntmps166
  go_upto_region 1 with (first
   | (go_at_call 102;refine hS1.mono ?_;rintro e w1 ⟨rfl,hp1,hf1⟩))
  have hB1:Bn w1 Y (stV c0 c1 c2 zK so si):=Bn.fx (c:=c0) hB hf1 hYX
  obtain ⟨b3,g3⟩:=hB1 3 _ rfl
  go_wp2
  go_end0
  exact ⟨⟨_,rfl⟩,hp1.far hXY _,hB1.set (i:=3) (by simp [stV]) (.bool true),(Fy.of hf1).setY _⟩
 | false=>
  rw [h1,skR_no h1] at hS1
  rw [if_neg (by decide)]
  have hS2:=fun w1 (hp:Pr w1 X a cap ws fin r)=>skips_any hp hk wEnd
  rw [e2] at hS2
  cases h2:isC wEnd r with
  | true=>
   simp only [h2,skR_yes h2] at hS2
   rw [if_pos rfl]
   generalize takeR fin wEnd r=r1 at *
   go_enter Tryz.func166,Tryz.ntmps166
   go_upto_region 2 with (first
    | (go_at_call 102;refine hS1.mono ?_;rintro e w0 ⟨rfl,hp0,hf0⟩))
   go_upto_region 3 with (first
    | (go_at_call 102;refine (hS2 _ hp0).mono ?_;rintro e w1 ⟨rfl,hp1,hf1⟩))
   have hB1:Bn w1 Y (stV c0 c1 c2 zK so si):=Bn.fx (c:=c0) (Bn.fx (c:=c0) hB hf0 hYX) hf1 hYX
   obtain ⟨b3,g3⟩:=hB1 4 _ rfl
   go_wp2
   go_end0
   exact ⟨⟨_,rfl⟩,hp1.far hXY _,hB1.set (i:=4) (by simp [stV]) (.bool true),(Fy.of (hf0.trans hf1)).setY _⟩
  | false=>
   simp only [h2,skR_no h2] at hS2
   rw [if_neg (by decide)]
   have hS3:=fun w1 (hp:Pr w1 X a cap ws fin r)=>skips_any hp hk wDo
   rw [e3] at hS3
   cases h3:isC wDo r with
   | true=>
    simp only [h3,skR_yes h3] at hS3
    rw [if_pos rfl]
    simp only
    have hN1:=fun w1 (hp:Pr w1 X a cap ws fin (takeR fin wDo r))=>pname_any hp hk
    generalize takeR fin wDo r=r1 at *
    obtain ⟨⟨⟨nm1,ln1,co1⟩,r2⟩,hR1⟩:∃ x,nameR fin r1=x:=⟨_,rfl⟩
    simp only [hR1] at hN1 ⊢
    have hM1:=fun w1 (hp:Pr w1 X a cap ws fin r2)=>must_any hp hk wUndo
    have hN2:=fun w1 (hp:Pr w1 X a cap ws fin (takeR fin wUndo r2))=>pname_any hp hk
    generalize takeR fin wUndo r2=r3 at *
    obtain ⟨⟨⟨nm2,ln2,co2⟩,r4⟩,hR2⟩:∃ x,nameR fin r3=x:=⟨_,rfl⟩
    simp only [hR2] at hN2 ⊢
    have hM2:=fun w1 (hp:Pr w1 X a cap ws fin r4)=>must_any hp hk wAt
    have hN3:=fun w1 (hp:Pr w1 X a cap ws fin (takeR fin wAt r4)) (he:Ey w1 X)=>pnum_any hp hk he
    generalize takeR fin wAt r4=r5 at *
    obtain ⟨⟨n1,r6⟩,hR3⟩:∃ x,numR fin r5=x:=⟨_,rfl⟩
    simp only [hR3] at hN3 ⊢
    have hM3:=fun w1 (hp:Pr w1 X a cap ws fin r6)=>must_any hp hk wRetries
    have hN4:=fun w1 (hp:Pr w1 X a cap ws fin (takeR fin wRetries r6)) (he:Ey w1 X)=>pnum_any hp hk he
    generalize takeR fin wRetries r6=r7 at *
    obtain ⟨⟨n2,r8⟩,hR4⟩:∃ x,numR fin r7=x:=⟨_,rfl⟩
    simp only [hR4] at hN4 ⊢
    rw [e4] at hM1
    rw [e5] at hM2
    rw [e6] at hM3
    unfold sV at hN1 hN2
    clear hR1 hR2 hR3 hR4
    obtain ⟨nv1,hnv1⟩:∃ nv,(⟨nm1.toArray⟩:ByteArray)=nv:=⟨_,rfl⟩
    obtain ⟨nv2,hnv2⟩:∃ nv,(⟨nm2.toArray⟩:ByteArray)=nv:=⟨_,rfl⟩
    simp only [hnv1,hnv2] at hN1 hN2
    have HN:Hid ((⟨nm1.toArray⟩:ByteArray)=nv1∧(⟨nm2.toArray⟩:ByteArray)=nv2):=⟨hnv1,hnv2⟩
    clear hnv1 hnv2
    go_enter Tryz.func166,Tryz.ntmps166
    go_upto_region 2 with (first
     | (go_at_call 102;refine hS1.mono ?_;rintro e w1 ⟨rfl,hp1,hf1⟩))
    go_upto_region 4 with (first
     | (go_at_call 102;refine (hS2 _ hp1).mono ?_;rintro e w2 ⟨rfl,hp2,hf2⟩))
    go_upto_region 5 with (first
     | (go_at_call 102;refine (hS3 _ hp2).mono ?_;rintro e w3 ⟨rfl,hp3,hf3⟩))
    have hF3:Fy X Y w w3:=Fy.of ((hf1.trans hf2).trans hf3)
    have hE3:=hE.fx ((hf1.trans hf2).trans hf3)
    have hB3:Bn w3 Y (stV c0 c1 c2 zK so si):=Bn.fx (c:=c0) hB ((hf1.trans hf2).trans hf3) hYX
    clear hS1 hS2 hS3 hp1 hf1 hp2 hf2 hf3 hB hE h
    go_upto_region 6 with (first
     | (go_at_call 100;refine (hN1 _ hp3).mono ?_;rintro e w4 ⟨rfl,hp4,hf4⟩;have hB4:Bn w4 Y (stV c0 c1 c2 zK so si):=Bn.fx (c:=c0) hB3 hf4 hYX;obtain ⟨b5,g5⟩:=hB4 5 _ rfl))
    have hB5:=hB4.set (i:=5) (by simp [stV]) (.string nv1)
    have hp5:=hp4.far (i:=5) hXY (.string nv1)
    have hE5:=(hE3.fx hf4).far hXY (i:=5) (.string nv1)
    have hF5:=(hF3.trans (Fy.of hf4)).setY (i:=5) (.string nv1)
    clear hB3 hB4 b5 g5 hp3 hp4 hE3 hF3 hf4 hN1
    generalize w4.setCell ⟨Y,5,none⟩ (.string nv1)=w5 at *
    go_upto_region 7 with (first
     | (go_at_call 99;refine (hM1 _ hp5).mono ?_;rintro e w6 ⟨⟨u,rfl⟩,hp6,hf6⟩))
    have hB6:=Bn.fx (c:=c0) hB5 hf6 hYX
    have hE6:=hE5.fx hf6
    have hF6:=hF5.trans (Fy.of hf6)
    clear hB5 hE5 hF5 hf6 hp5 hM1
    go_upto_region 8 with (first
     | (go_at_call 100;refine (hN2 _ hp6).mono ?_;rintro e w7 ⟨rfl,hp7,hf7⟩;have hB7:=Bn.fx (c:=c0) hB6 hf7 hYX;obtain ⟨b5,g5⟩:=hB7 6 _ rfl))
    have hB8:=hB7.set (i:=6) (by simp [stV]) (.string nv2)
    have hp8:=hp7.far (i:=6) hXY (.string nv2)
    have hE8:=(hE6.fx hf7).far hXY (i:=6) (.string nv2)
    have hF8:=(hF6.trans (Fy.of hf7)).setY (i:=6) (.string nv2)
    clear hB6 hB7 b5 g5 hp6 hp7 hE6 hF6 hf7 hN2
    generalize w7.setCell ⟨Y,6,none⟩ (.string nv2)=w8 at *
    go_upto_region 9 with (first
     | (go_at_call 99;refine (hM2 _ hp8).mono ?_;rintro e w9 ⟨⟨u,rfl⟩,hp9,hf9⟩))
    have hB9:=Bn.fx (c:=c0) hB8 hf9 hYX
    have hE9:=hE8.fx hf9
    have hF9:=hF8.trans (Fy.of hf9)
    clear hB8 hE8 hF8 hf9 hp8 hM2
    go_upto_region 10 with (first
     | (go_at_call 101;refine (hN3 _ hp9 hE9).mono ?_;rintro e wa ⟨rfl,hpa,hfa⟩;have hBa:=Bn.fx (c:=c0) hB9 hfa hYX;obtain ⟨b5,g5⟩:=hBa 7 _ rfl))
    have hBb:=hBa.set (i:=7) (by simp [stV]) (.int .i64 n1)
    have hpb:=hpa.far (i:=7) hXY (.int .i64 n1)
    have hEb:=(hE9.fx hfa).far hXY (i:=7) (.int .i64 n1)
    have hFb:=(hF9.trans (Fy.of hfa)).setY (i:=7) (.int .i64 n1)
    clear hB9 hBa b5 g5 hp9 hpa hE9 hF9 hfa hN3
    generalize wa.setCell ⟨Y,7,none⟩ (.int .i64 n1)=wb at *
    go_upto_region 11 with (first
     | (go_at_call 99;refine (hM3 _ hpb).mono ?_;rintro e wc ⟨⟨u,rfl⟩,hpc,hfc⟩))
    have hBc:=Bn.fx (c:=c0) hBb hfc hYX
    have hEc:=hEb.fx hfc
    have hFc:=hFb.trans (Fy.of hfc)
    clear hBb hEb hFb hfc hpb hM3
    go_wp2_with (first
     | (go_at_call 101;refine (hN4 _ hpc hEc).mono ?_;rintro e wd ⟨rfl,hpd,hfd⟩;have hBd:=Bn.fx (c:=c0) hBc hfd hYX;obtain ⟨b5,g5⟩:=hBd 8 _ rfl))
    go_end0
    have hBe:=hBd.set (i:=8) (by simp [stV]) (.int .i64 n2)
    obtain ⟨hv1,hv2⟩:=HN.out
    subst hv1
    subst hv2
    exact ⟨⟨_,rfl⟩,hpd.far hXY _,hBe,(hFc.trans (Fy.of hfd)).setY _⟩
   | false=>
    simp only [h3,skR_no h3] at hS3
    rw [if_neg (by decide)]
    go_enter Tryz.func166,Tryz.ntmps166
    go_upto_region 2 with (first
     | (go_at_call 102;refine hS1.mono ?_;rintro e w0 ⟨rfl,hp0,hf0⟩))
    go_upto_region 4 with (first
     | (go_at_call 102;refine (hS2 _ hp0).mono ?_;rintro e w1 ⟨rfl,hp1,hf1⟩))
    go_wp2_with (first
     | (go_at_call 102;refine (hS3 _ hp1).mono ?_;rintro e w2 ⟨rfl,hp2,hf2⟩))
    go_end0
    exact ⟨⟨_,rfl⟩,hp2,Bn.fx (c:=c0) hB ((hf0.trans hf1).trans hf2) hYX,Fy.of ((hf0.trans hf1).trans hf2)⟩
end Go.Proofs.YtfjdceknbdmhpaaGreatDoor
