import Derived.Test.YtlgnahpfggagoaaGreatDoorWzc07
import Derived.Test.YtlgnahpfggagoaaGreatDoorWzc06
import Derived.Test.YtlgnahpfggagoaaGreatDoorWzc05
import Derived.Test.YtlgnahpfggagoaaGreatDoorWzc03
import Derived.Deep.LoopGhost
import Derived.Shelf.LaysM
import Derived.Shelf.Strconv.Itoa4
import Derived.Test.YtlgnahpfggagoaaGreatDoorRows
/- The program's firstState, firstOn, with any function value. -/
namespace Go.Proofs.YtlgnahpfggagoaaGreatDoor
open Go.RowKit Go.Lib
set_option linter.unusedSimpArgs false
set_option linter.unusedVariables false
attribute [local go_sem ↓] Go.wp_at_zero Go.wp_at_succ
set_option maxRecDepth 100000 in
set_option maxHeartbeats 8000000 in
theorem fs1_any {ok:Nat→Prop}{W:World}{Lb d:Nat}{c:ChG d}{fs:List (Int × SgS)}(h:Ly ok W Lb c fs) (n3:Nat) (b3 l3:Array Value) (eg3:∀ args W,(callFunc n3 args).run Tryz.prog W=.ok (.enter n3 args) W) (X0 X1:Nat) (h1:Bn W X1 [.func (.func n3) b3 l3]) (h0:Bn W X0 [.pointer (some ⟨Lb,0,none⟩)]) (i:Nat) (hi:i < fs.length) (q:Bool)
  (hcl:∀ (cs:List Value) (W':World),rSg ok W fs[i] cs→Below W.heap.size W W'→Calls Tryz.prog n3 (b3++#[.int .i64 (i:Int),.agg cs.toArray]++l3) W' fun e w'=>e=.returned (.bool q)∧Below W'.heap.size W' w') :
  Calls Tryz.prog 86 #[.int .i64 (i:Int),.pointer (some ⟨X1,0,none⟩),.pointer (some ⟨X0,0,none⟩)] W fun e w'=>e=.returned (.bool q)∧Below W.heap.size W w':=by
 obtain ⟨g0,g1,g2,g3,g4,g6,g7,g8,g9,sa,sc0,oa,oc,k1,k2,k3,k4,k5⟩:=h
 have hLl:=k1.lt
 have hX1l:=h1.lt
 have hX0l:=h0.lt
 obtain ⟨x1,_⟩:=h1 0 _ rfl
 obtain ⟨x0,_⟩:=h0 0 _ rfl
 obtain ⟨c6,_⟩:=k1 6 _ rfl
 obtain ⟨b,off,cs,rfl,_,hbl,_,hr,hc⟩:=rdK_at k3 i hi
 have hcl2:=fun W' hW=>hcl cs W' hr hW
 obtain ⟨sn,sl,sc,sb,se,sd,su,sw,sr,p1,p3,p4,p6,rfl,_,_⟩:=sg_let hr
 obtain ⟨no,hno⟩:∃ no,(sgO fs[i].2).length=no:=⟨_,rfl⟩
 obtain ⟨ni,hni⟩:∃ no,sgI fs[i].2=no:=⟨_,rfl⟩
 rw [hno,hni] at hc hcl2
 obtain ⟨n,hn⟩:∃ n,fs.length=n:=⟨_,rfl⟩
 rw [hn] at c6 hi
 have i1:(i:Int) < (n:Int):=by omega
 have i2:(0:Int)≤(i:Int):=by omega
 have C0:=hc 0 _ rfl
 have C1:=hc 1 _ rfl
 have C2:=hc 2 _ rfl
 have C3:=hc 3 _ rfl
 have C4:=hc 4 _ rfl
 have C5:=hc 5 _ rfl
 have C6:=hc 6 _ rfl
 have C7:=hc 7 _ rfl
 have C8:=hc 8 _ rfl
 have C9:=hc 9 _ rfl
 have C10:=hc 10 _ rfl
 rw [Nat.add_zero] at C0
 simp only [Array.append_assoc] at hcl2
 clear hc hr hcl hno hni hn k1 k2 k3 k4 k5 h1 h0
 go_enter Tryz.func86,Tryz.ntmps86
 go_upto_region 1 with fail
 go_region_held_law (fun w'=>w'.cell? ⟨X1,0,none⟩=some (.func (.func n3) b3 l3)∧w'.cell? ⟨X0,0,none⟩=some (.pointer (some ⟨Lb,0,none⟩))∧w'.cell? ⟨Lb,6,none⟩=some (.slice (some ⟨b,off,none⟩) n sc0)∧w'.cell? ⟨b,off+i*11,none⟩=some (.string sn)∧w'.cell? ⟨b,off+i*11+1,none⟩=some (.int .i64 sl)∧w'.cell? ⟨b,off+i*11+2,none⟩=some (.int .i64 sc)∧w'.cell? ⟨b,off+i*11+3,none⟩=some (.bool sb)∧w'.cell? ⟨b,off+i*11+4,none⟩=some (.bool se)∧w'.cell? ⟨b,off+i*11+5,none⟩=some (.string sd)∧w'.cell? ⟨b,off+i*11+6,none⟩=some (.string su)∧w'.cell? ⟨b,off+i*11+7,none⟩=some (.int .i64 sw)∧w'.cell? ⟨b,off+i*11+8,none⟩=some (.int .i64 sr)∧w'.cell? ⟨b,off+i*11+9,none⟩=some (.slice p1 no p3)∧w'.cell? ⟨b,off+i*11+10,none⟩=some (.slice p4 ni p6))
  ((refine ⟨?_,?_,?_,?_,?_,?_,?_,?_,?_,?_,?_,?_,?_,?_⟩ <;> (repeat (first | (with_reducible exact x1) | (with_reducible exact x0) | (with_reducible exact c6) | (with_reducible exact C0) | (with_reducible exact C1) | (with_reducible exact C2) | (with_reducible exact C3) | (with_reducible exact C4) | (with_reducible exact C5) | (with_reducible exact C6) | (with_reducible exact C7) | (with_reducible exact C8) | (with_reducible exact C9) | (with_reducible exact C10) | (with_reducible refine cell_dr ?_))) <;> done))
  (first | ((with_reducible refine (hcl2 _ ((Below.refl _ W).drew)).mono ?_);rintro e w1 ⟨rfl,b1⟩;have bw:Below W.heap.size W w1:=((Below.refl _ W).drew).trans b1;have x1:=(bw.cell (p:=⟨X1,0,none⟩) hX1l).trans x1;have x0:=(bw.cell (p:=⟨X0,0,none⟩) hX0l).trans x0;have c6:=(bw.cell (p:=⟨Lb,6,none⟩) hLl).trans c6;have C0:=(bw.cell (p:=⟨b,off+i*11,none⟩) hbl).trans C0;have C1:=(bw.cell (p:=⟨b,off+i*11+1,none⟩) hbl).trans C1;have C2:=(bw.cell (p:=⟨b,off+i*11+2,none⟩) hbl).trans C2;have C3:=(bw.cell (p:=⟨b,off+i*11+3,none⟩) hbl).trans C3;have C4:=(bw.cell (p:=⟨b,off+i*11+4,none⟩) hbl).trans C4;have C5:=(bw.cell (p:=⟨b,off+i*11+5,none⟩) hbl).trans C5;have C6:=(bw.cell (p:=⟨b,off+i*11+6,none⟩) hbl).trans C6;have C7:=(bw.cell (p:=⟨b,off+i*11+7,none⟩) hbl).trans C7;have C8:=(bw.cell (p:=⟨b,off+i*11+8,none⟩) hbl).trans C8;have C9:=(bw.cell (p:=⟨b,off+i*11+9,none⟩) hbl).trans C9;have C10:=(bw.cell (p:=⟨b,off+i*11+10,none⟩) hbl).trans C10) | fail)
 go_wp2
 go_ret
 exact ⟨rfl,bw⟩
set_option maxRecDepth 100000 in
set_option maxHeartbeats 8000000 in
theorem fo2_any {ok:Nat→Prop}{W:World}{Lb d:Nat}{c:ChG d}{fs:List (Int × SgS)}(h:Ly ok W Lb c fs) (n3:Nat) (b3 l3:Array Value) (eg3:∀ args W,(callFunc n3 args).run Tryz.prog W=.ok (.enter n3 args) W) (X0 X1:Nat) (h1:Bn W X1 [.func (.func n3) b3 l3]) (h0:Bn W X0 [.pointer (some ⟨Lb,0,none⟩)]) (i:Nat) (hi:i < fs.length) (j:Nat) (hj:j < (sgO (fs[i]).2).length) (q:Bool)
  (hcl:∀ (cs:List Value) (W':World),rOn ok W (sgO (fs[i]).2)[j] cs→Below W.heap.size W W'→Calls Tryz.prog n3 (b3++#[.int .i64 (i:Int),.agg cs.toArray]++l3) W' fun e w'=>e=.returned (.bool q)∧Below W'.heap.size W' w') :
  Calls Tryz.prog 91 #[.int .i64 (i:Int),.int .i64 (j:Int),.pointer (some ⟨X1,0,none⟩),.pointer (some ⟨X0,0,none⟩)] W fun e w'=>e=.returned (.bool q)∧Below W.heap.size W w':=by
 obtain ⟨g0,g1,g2,g3,g4,g6,g7,g8,g9,sa,sc0,oa,oc,k1,k2,k3,k4,k5⟩:=h
 have hLl:=k1.lt
 have hX1l:=h1.lt
 have hX0l:=h0.lt
 obtain ⟨x1,_⟩:=h1 0 _ rfl
 obtain ⟨x0,_⟩:=h0 0 _ rfl
 obtain ⟨c6,_⟩:=k1 6 _ rfl
 obtain ⟨b,off,cs,rfl,_,hbl,_,hr,hc⟩:=rdK_at k3 i hi
 obtain ⟨sn,sl,sc,sb,se,sd,su,sw,sr,p1,p3,p4,p6,rfl,_,hon⟩:=sg_let hr
 obtain ⟨ob,ooff,ev,gv,tg,s1,ns,s3,ol,oc',rfl,_,hobl,hgv,HON,_,hoc⟩:=onE_at hon j hj
 have hcl2:=fun W' hW=>hcl _ W' HON.out hW
 have C9:=hc 9 _ rfl
 obtain ⟨no,hno⟩:∃ no,(sgO fs[i].2).length=no:=⟨_,rfl⟩
 rw [hno] at C9 hj
 obtain ⟨n,hn⟩:∃ n,fs.length=n:=⟨_,rfl⟩
 rw [hn] at c6 hi
 have i1:(i:Int) < (n:Int):=by omega
 have i2:(0:Int)≤(i:Int):=by omega
 have j1:(j:Int) < (no:Int):=by omega
 have j2:(0:Int)≤(j:Int):=by omega
 simp only [Array.append_assoc] at hcl2
 clear hc hr hcl hno hn k1 k2 k3 k4 k5 h1 h0 HON
 rcases hgv with rfl | ⟨gu,gy,rfl⟩
 ·have D0:=hoc 0 _ rfl
  have D1:=hoc 1 _ rfl
  have D2:=hoc 2 _ rfl
  have D3:=hoc 3 _ rfl
  have D4:=hoc 4 _ rfl
  have D5:=hoc 5 _ rfl
  rw [Nat.add_zero] at D0
  clear hoc
  go_enter Tryz.func91,Tryz.ntmps91
  go_upto_region 1 with fail
  go_region_held_law (fun w'=>w'.cell? ⟨X1,0,none⟩=some (.func (.func n3) b3 l3)∧w'.cell? ⟨X0,0,none⟩=some (.pointer (some ⟨Lb,0,none⟩))∧w'.cell? ⟨Lb,6,none⟩=some (.slice (some ⟨b,off,none⟩) n sc0)∧w'.cell? ⟨b,off+i*11+9,none⟩=some (.slice (some ⟨ob,ooff,none⟩) no p3)∧w'.cell? ⟨ob,ooff+j*6,none⟩=some (.string ev)∧w'.cell? ⟨ob,ooff+j*6+1,none⟩=some .nilIface∧w'.cell? ⟨ob,ooff+j*6+2,none⟩=some (.string tg)∧w'.cell? ⟨ob,ooff+j*6+3,none⟩=some (.slice s1 ns s3)∧w'.cell? ⟨ob,ooff+j*6+4,none⟩=some (.int .i64 ol)∧w'.cell? ⟨ob,ooff+j*6+5,none⟩=some (.int .i64 oc'))
  ((refine ⟨?_,?_,?_,?_,?_,?_,?_,?_,?_,?_⟩ <;> (repeat (first | (with_reducible exact x1) | (with_reducible exact x0) | (with_reducible exact c6) | (with_reducible exact C9) | (with_reducible exact D0) | (with_reducible exact D1) | (with_reducible exact D2) | (with_reducible exact D3) | (with_reducible exact D4) | (with_reducible exact D5) | (with_reducible refine cell_dr ?_))) <;> done))
   (first | ((with_reducible refine (hcl2 _ ((Below.refl _ W).drew)).mono ?_);rintro e w1 ⟨rfl,b1⟩;have bw:Below W.heap.size W w1:=((Below.refl _ W).drew).trans b1;have x1:=(bw.cell (p:=⟨X1,0,none⟩) hX1l).trans x1;have x0:=(bw.cell (p:=⟨X0,0,none⟩) hX0l).trans x0;have c6:=(bw.cell (p:=⟨Lb,6,none⟩) hLl).trans c6;have C9:=(bw.cell (p:=⟨b,off+i*11+9,none⟩) hbl).trans C9;have D0:=(bw.cell (p:=⟨ob,ooff+j*6,none⟩) hobl).trans D0;have D1:=(bw.cell (p:=⟨ob,ooff+j*6+1,none⟩) hobl).trans D1;have D2:=(bw.cell (p:=⟨ob,ooff+j*6+2,none⟩) hobl).trans D2;have D3:=(bw.cell (p:=⟨ob,ooff+j*6+3,none⟩) hobl).trans D3;have D4:=(bw.cell (p:=⟨ob,ooff+j*6+4,none⟩) hobl).trans D4;have D5:=(bw.cell (p:=⟨ob,ooff+j*6+5,none⟩) hobl).trans D5) | fail)
  go_wp2
  go_ret
  exact ⟨rfl,bw⟩
 ·have D0:=hoc 0 _ rfl
  have D1:=hoc 1 _ rfl
  have D2:=hoc 2 _ rfl
  have D3:=hoc 3 _ rfl
  have D4:=hoc 4 _ rfl
  have D5:=hoc 5 _ rfl
  rw [Nat.add_zero] at D0
  clear hoc
  go_enter Tryz.func91,Tryz.ntmps91
  go_upto_region 1 with fail
  go_region_held_law (fun w'=>w'.cell? ⟨X1,0,none⟩=some (.func (.func n3) b3 l3)∧w'.cell? ⟨X0,0,none⟩=some (.pointer (some ⟨Lb,0,none⟩))∧w'.cell? ⟨Lb,6,none⟩=some (.slice (some ⟨b,off,none⟩) n sc0)∧w'.cell? ⟨b,off+i*11+9,none⟩=some (.slice (some ⟨ob,ooff,none⟩) no p3)∧w'.cell? ⟨ob,ooff+j*6,none⟩=some (.string ev)∧w'.cell? ⟨ob,ooff+j*6+1,none⟩=some (.iface gu gy)∧w'.cell? ⟨ob,ooff+j*6+2,none⟩=some (.string tg)∧w'.cell? ⟨ob,ooff+j*6+3,none⟩=some (.slice s1 ns s3)∧w'.cell? ⟨ob,ooff+j*6+4,none⟩=some (.int .i64 ol)∧w'.cell? ⟨ob,ooff+j*6+5,none⟩=some (.int .i64 oc'))
  ((refine ⟨?_,?_,?_,?_,?_,?_,?_,?_,?_,?_⟩ <;> (repeat (first | (with_reducible exact x1) | (with_reducible exact x0) | (with_reducible exact c6) | (with_reducible exact C9) | (with_reducible exact D0) | (with_reducible exact D1) | (with_reducible exact D2) | (with_reducible exact D3) | (with_reducible exact D4) | (with_reducible exact D5) | (with_reducible refine cell_dr ?_))) <;> done))
   (first | ((with_reducible refine (hcl2 _ ((Below.refl _ W).drew)).mono ?_);rintro e w1 ⟨rfl,b1⟩;have bw:Below W.heap.size W w1:=((Below.refl _ W).drew).trans b1;have x1:=(bw.cell (p:=⟨X1,0,none⟩) hX1l).trans x1;have x0:=(bw.cell (p:=⟨X0,0,none⟩) hX0l).trans x0;have c6:=(bw.cell (p:=⟨Lb,6,none⟩) hLl).trans c6;have C9:=(bw.cell (p:=⟨b,off+i*11+9,none⟩) hbl).trans C9;have D0:=(bw.cell (p:=⟨ob,ooff+j*6,none⟩) hobl).trans D0;have D1:=(bw.cell (p:=⟨ob,ooff+j*6+1,none⟩) hobl).trans D1;have D2:=(bw.cell (p:=⟨ob,ooff+j*6+2,none⟩) hobl).trans D2;have D3:=(bw.cell (p:=⟨ob,ooff+j*6+3,none⟩) hobl).trans D3;have D4:=(bw.cell (p:=⟨ob,ooff+j*6+4,none⟩) hobl).trans D4;have D5:=(bw.cell (p:=⟨ob,ooff+j*6+5,none⟩) hobl).trans D5) | fail)
  go_wp2
  go_ret
  exact ⟨rfl,bw⟩
theorem fs2_any (W:World) (i j:Int):Calls Tryz.prog 87 #[.int .i64 i,.int .i64 j] W fun e w'=>e=.returned (.bool false)∧Below W.heap.size W w':=by
 go_enter Tryz.func87,Tryz.ntmps87
 go_wp2
 go_ret
 exact ⟨rfl,Below.refl _ _⟩
theorem fo1_any (W:World) (i:Int):Calls Tryz.prog 90 #[.int .i64 i] W fun e w'=>e=.returned (.bool false)∧Below W.heap.size W w':=by
 go_enter Tryz.func90,Tryz.ntmps90
 go_wp2
 go_ret
 exact ⟨rfl,Below.refl _ _⟩
theorem fsr_res {w:World}{R:Nat}{a b:Int}{q:Bool}{tmps:Array Value}(hR:Bn w R [.int .i64 a,.int .i64 b]) (ht:tmps.getD 4 undef=.pointer (some ⟨R,0,none⟩)) (ht2:tmps.getD 5 undef=.bool q):(results Tryz.f51 tmps).run Tryz.prog w=.ok (.tuple #[.agg #[.int .i64 a,.int .i64 b],.bool q]) w:=by
 have ht':tmps[4]?.getD undef=.pointer (some ⟨R,0,none⟩):=by simpa using ht
 have ht2':tmps[5]?.getD undef=.bool q:=by simpa using ht2
 have c0:=(hR 0 _ rfl).1
 have c1:=(hR 1 _ rfl).1
 simp [results,Tryz.results51,go_sem,ht',ht2',c0,c1]
set_option maxRecDepth 100000 in
set_option maxHeartbeats 8000000 in
theorem firstState_any {ok:Nat→Prop}{w:World}{Lb d:Nat}{c:ChG d}{fs:List (Int × SgS)}(h:Ly ok w Lb c fs) (hl:fs.length≤1000000) (hol:∀ x∈fs,(sgO x.2).length≤1000000) (n3:Nat) (b3 l3:Array Value) (eg3:∀ args W,(callFunc n3 args).run Tryz.prog W=.ok (.enter n3 args) W) (p:Nat→Bool) (hcl:∀ (i:Nat) (hi:i < fs.length) (cs:List Value) (W W':World),Below w.heap.size w W→rSg ok W fs[i] cs→Below W.heap.size W W'→Calls Tryz.prog n3 (b3++#[.int .i64 (i:Int),.agg cs.toArray]++l3) W' fun e w'=>e=.returned (.bool (p i))∧Below W'.heap.size W' w') :
  Calls Tryz.prog 51 #[.pointer (some ⟨Lb,0,none⟩),.func (.func n3) b3 l3] w fun e w'=>e=.returned (anP (frS p (fun _ _=>false) fs 0))∧Below w.heap.size w w':=by
 have hal:Below w.heap.size w (((w.alloc (.cells #[.pointer (some ⟨Lb,0,none⟩)] 64)).alloc (.cells #[.func (.func n3) b3 l3] 120)).alloc (.cells #[.int .i64 0,.int .i64 0] 23)):=(((Below.refl _ _).alloc (Nat.le_refl _) _).alloc (by simp) _).alloc (by simp;omega) _
 have h0:Bn (((w.alloc (.cells #[.pointer (some ⟨Lb,0,none⟩)] 64)).alloc (.cells #[.func (.func n3) b3 l3] 120)).alloc (.cells #[.int .i64 0,.int .i64 0] 23)) w.heap.size [.pointer (some ⟨Lb,0,none⟩)]:=((Bn.new w [.pointer (some ⟨Lb,0,none⟩)] 64 _ rfl).on ((Below.refl _ _).alloc (Nat.le_refl _) _)).on ((Below.refl _ _).alloc (Nat.le_refl _) _)
 have h1:Bn (((w.alloc (.cells #[.pointer (some ⟨Lb,0,none⟩)] 64)).alloc (.cells #[.func (.func n3) b3 l3] 120)).alloc (.cells #[.int .i64 0,.int .i64 0] 23)) (w.heap.size+1) [.func (.func n3) b3 l3]:=(Bn.new _ [.func (.func n3) b3 l3] _ (w.heap.size+1) (by simp)).on ((Below.refl _ _).alloc (Nat.le_refl _) _)
 have h2:Bn (((w.alloc (.cells #[.pointer (some ⟨Lb,0,none⟩)] 64)).alloc (.cells #[.func (.func n3) b3 l3] 120)).alloc (.cells #[.int .i64 0,.int .i64 0] 23)) (w.heap.size+2) [.int .i64 0,.int .i64 0]:=Bn.new _ [.int .i64 0,.int .i64 0] 23 (w.heap.size+2) (by simp)
 have hLy:=h.on hal
 have hwl:w.heap.size+3=(((w.alloc (.cells #[.pointer (some ⟨Lb,0,none⟩)] 64)).alloc (.cells #[.func (.func n3) b3 l3] 120)).alloc (.cells #[.int .i64 0,.int .i64 0] 23)).heap.size:=by simp
 obtain ⟨R,hR⟩:∃ R,frS p (fun _ _=>false) fs 0=R:=⟨_,rfl⟩
 rw [hR]
 obtain ⟨ra,rb,rq,hA⟩:∃ ra rb rq,anP R=.tuple #[.agg #[.int .i64 ra,.int .i64 rb],.bool rq]:=⟨_,_,_,rfl⟩
 rw [hA]
 have HRR:=mkHid hR
 have HAA:=mkHid hA
 clear hR hA
 go_enter Tryz.func51,Tryz.ntmps51
 go_upto_region 1 with fail
 generalize ((w.alloc (.cells #[.pointer (some ⟨Lb,0,none⟩)] 64)).alloc (.cells #[.func (.func n3) b3 l3] 120)).alloc (.cells #[.int .i64 0,.int .i64 0] 23)=wx at *
 have hcall:=first_any hLy hl hol 86 #[] #[.pointer (some ⟨w.heap.size+1,0,none⟩),.pointer (some ⟨w.heap.size,0,none⟩)] 87 #[] #[] p (fun _ _=>false) (enters_of Tryz.func86 (by kernel_rfl) rfl) (enters_of Tryz.func87 (by kernel_rfl) rfl) (fun i hi W hb=>fs1_any (hLy.on hb) n3 b3 l3 eg3 w.heap.size (w.heap.size+1) (h1.on hb) (h0.on hb) i hi (p i) (fun cs W' hr hW=>hcl i hi cs W W' (hal.trans (hb.mono hal.size)) hr hW)) (fun i hi j hj W hb=>fs2_any W i j)
 rw [HRR.out,HAA.out] at hcall
 clear h eg3 hLy
 obtain ⟨x0,_⟩:=h0 0 _ rfl
 go_wp2_with (first | (go_at_call 47;refine hcall.mono ?_;rintro e w1 ⟨rfl,b1⟩;have h2':=h2.on b1;obtain ⟨y0,f0⟩:=h2' 0 _ rfl;obtain ⟨y1,f1⟩:=h2' 1 _ rfl) | fail)
 have hz:=(h2'.set (i:=0) (by simp) (.int .i64 ra)).set (i:=1) (by simp) (.int .i64 rb)
 have hbz:=putL_below [.int .i64 ra,.int .i64 rb] w1 (w.heap.size+2) 0 (hal.trans (b1.mono hal.size)) (by omega)
 exact bodyPost_ret (fsr_res hz rfl rfl) rfl ⟨rfl,hbz⟩
theorem for_res {w:World}{R:Nat}{a b:Int}{q:Bool}{tmps:Array Value}(hR:Bn w R [.int .i64 a,.int .i64 b]) (ht:tmps.getD 4 undef=.pointer (some ⟨R,0,none⟩)) (ht2:tmps.getD 5 undef=.bool q):(results Tryz.f55 tmps).run Tryz.prog w=.ok (.tuple #[.agg #[.int .i64 a,.int .i64 b],.bool q]) w:=by
 have ht':tmps[4]?.getD undef=.pointer (some ⟨R,0,none⟩):=by simpa using ht
 have ht2':tmps[5]?.getD undef=.bool q:=by simpa using ht2
 have c0:=(hR 0 _ rfl).1
 have c1:=(hR 1 _ rfl).1
 simp [results,Tryz.results55,go_sem,ht',ht2',c0,c1]
set_option maxRecDepth 100000 in
set_option maxHeartbeats 8000000 in
theorem firstOn_any {ok:Nat→Prop}{w:World}{Lb d:Nat}{c:ChG d}{fs:List (Int × SgS)}(h:Ly ok w Lb c fs) (hl:fs.length≤1000000) (hol:∀ x∈fs,(sgO x.2).length≤1000000) (n3:Nat) (b3 l3:Array Value) (eg3:∀ args W,(callFunc n3 args).run Tryz.prog W=.ok (.enter n3 args) W) (q:Nat→Nat→Bool) (hcl:∀ (i:Nat) (hi:i < fs.length) (j:Nat) (hj:j < (sgO (fs[i]).2).length) (cs:List Value) (W W':World),Below w.heap.size w W→rOn ok W (sgO (fs[i]).2)[j] cs→Below W.heap.size W W'→Calls Tryz.prog n3 (b3++#[.int .i64 (i:Int),.agg cs.toArray]++l3) W' fun e w'=>e=.returned (.bool (q i j))∧Below W'.heap.size W' w') :
  Calls Tryz.prog 55 #[.pointer (some ⟨Lb,0,none⟩),.func (.func n3) b3 l3] w fun e w'=>e=.returned (anP (frS (fun _=>false) q fs 0))∧Below w.heap.size w w':=by
 have hal:Below w.heap.size w (((w.alloc (.cells #[.pointer (some ⟨Lb,0,none⟩)] 64)).alloc (.cells #[.func (.func n3) b3 l3] 125)).alloc (.cells #[.int .i64 0,.int .i64 0] 23)):=(((Below.refl _ _).alloc (Nat.le_refl _) _).alloc (by simp) _).alloc (by simp;omega) _
 have h0:Bn (((w.alloc (.cells #[.pointer (some ⟨Lb,0,none⟩)] 64)).alloc (.cells #[.func (.func n3) b3 l3] 125)).alloc (.cells #[.int .i64 0,.int .i64 0] 23)) w.heap.size [.pointer (some ⟨Lb,0,none⟩)]:=((Bn.new w [.pointer (some ⟨Lb,0,none⟩)] 64 _ rfl).on ((Below.refl _ _).alloc (Nat.le_refl _) _)).on ((Below.refl _ _).alloc (Nat.le_refl _) _)
 have h1:Bn (((w.alloc (.cells #[.pointer (some ⟨Lb,0,none⟩)] 64)).alloc (.cells #[.func (.func n3) b3 l3] 125)).alloc (.cells #[.int .i64 0,.int .i64 0] 23)) (w.heap.size+1) [.func (.func n3) b3 l3]:=(Bn.new _ [.func (.func n3) b3 l3] _ (w.heap.size+1) (by simp)).on ((Below.refl _ _).alloc (Nat.le_refl _) _)
 have h2:Bn (((w.alloc (.cells #[.pointer (some ⟨Lb,0,none⟩)] 64)).alloc (.cells #[.func (.func n3) b3 l3] 125)).alloc (.cells #[.int .i64 0,.int .i64 0] 23)) (w.heap.size+2) [.int .i64 0,.int .i64 0]:=Bn.new _ [.int .i64 0,.int .i64 0] 23 (w.heap.size+2) (by simp)
 have hLy:=h.on hal
 have hwl:w.heap.size+3=(((w.alloc (.cells #[.pointer (some ⟨Lb,0,none⟩)] 64)).alloc (.cells #[.func (.func n3) b3 l3] 125)).alloc (.cells #[.int .i64 0,.int .i64 0] 23)).heap.size:=by simp
 obtain ⟨R,hR⟩:∃ R,frS (fun _=>false) q fs 0=R:=⟨_,rfl⟩
 rw [hR]
 obtain ⟨ra,rb,rq,hA⟩:∃ ra rb rq,anP R=.tuple #[.agg #[.int .i64 ra,.int .i64 rb],.bool rq]:=⟨_,_,_,rfl⟩
 rw [hA]
 have HRR:=mkHid hR
 have HAA:=mkHid hA
 clear hR hA
 go_enter Tryz.func55,Tryz.ntmps55
 go_upto_region 1 with fail
 generalize ((w.alloc (.cells #[.pointer (some ⟨Lb,0,none⟩)] 64)).alloc (.cells #[.func (.func n3) b3 l3] 125)).alloc (.cells #[.int .i64 0,.int .i64 0] 23)=wx at *
 have hcall:=first_any hLy hl hol 90 #[] #[] 91 #[] #[.pointer (some ⟨w.heap.size+1,0,none⟩),.pointer (some ⟨w.heap.size,0,none⟩)] (fun _=>false) q (enters_of Tryz.func90 (by kernel_rfl) rfl) (enters_of Tryz.func91 (by kernel_rfl) rfl) (fun i hi W hb=>fo1_any W i) (fun i hi j hj W hb=>fo2_any (hLy.on hb) n3 b3 l3 eg3 w.heap.size (w.heap.size+1) (h1.on hb) (h0.on hb) i hi j hj (q i j) (fun cs W' hr hW=>hcl i hi j hj cs W W' (hal.trans (hb.mono hal.size)) hr hW))
 rw [HRR.out,HAA.out] at hcall
 clear h eg3 hLy
 obtain ⟨x0,_⟩:=h0 0 _ rfl
 go_wp2_with (first | (go_at_call 47;refine hcall.mono ?_;rintro e w1 ⟨rfl,b1⟩;have h2':=h2.on b1;obtain ⟨y0,f0⟩:=h2' 0 _ rfl;obtain ⟨y1,f1⟩:=h2' 1 _ rfl) | fail)
 have hz:=(h2'.set (i:=0) (by simp) (.int .i64 ra)).set (i:=1) (by simp) (.int .i64 rb)
 have hbz:=putL_below [.int .i64 ra,.int .i64 rb] w1 (w.heap.size+2) 0 (hal.trans (b1.mono hal.size)) (by omega)
 exact bodyPost_ret (for_res hz rfl rfl) rfl ⟨rfl,hbz⟩
def stpB (sd:ByteArray):Bool:=!sd.toList.isEmpty
def sgD (x:SgS):ByteArray:=⟨(sgH x).2.2.1.1.toArray⟩
theorem tm1_any (W:World) (i:Int):Calls Tryz.prog 48 #[.int .i64 i] W fun e w'=>e=.returned (.bool (i == 40))∧Below W.heap.size W w':=by
 go_enter Tryz.func48,Tryz.ntmps48
 go_wp2
 go_ret
 exact ⟨rfl,Below.refl _ _⟩
theorem step_any (W:World) (sn:ByteArray) (sl sc:Int) (sb se:Bool) (sd su:ByteArray) (sw sr:Int) (p1:Option Addr) (no p3:Nat) (p4:Option Addr) (ni p6:Nat):Calls Tryz.prog 63 #[.agg #[.string sn,.int .i64 sl,.int .i64 sc,.bool sb,.bool se,.string sd,.string su,.int .i64 sw,.int .i64 sr,.slice p1 no p3,.slice p4 ni p6]] W fun e w'=>e=.returned (.bool (stpB sd))∧Below W.heap.size W w':=by
 have hal:Below W.heap.size W (W.alloc (.cells #[.string sn,.int .i64 sl,.int .i64 sc,.bool sb,.bool se,.string sd,.string su,.int .i64 sw,.int .i64 sr,.slice p1 no p3,.slice p4 ni p6] 57)):=(Below.refl _ _).alloc (Nat.le_refl _) _
 go_enter Tryz.func63,Tryz.ntmps63
 go_wp2
 go_ret
 exact ⟨rfl,hal⟩
theorem or1_any {ok:Nat→Prop}{w:World}{x:Int × SgS}{cs:List Value}(hr:rSg ok w x cs) (W:World) (i:Int) :
  Calls Tryz.prog 54 #[.int .i64 i,.agg cs.toArray] W fun e w'=>e=.returned (.bool (decide (4≤(sgH x.2).2.2.2.1.1) || decide (5 < (sgH x.2).2.2.2.1.2)))∧Below W.heap.size W w':=by
 obtain ⟨sn,sl,sc,sb,se,sd,su,sw,sr,p1,p3,p4,p6,rfl,HS,_⟩:=sg_let hr
 rw [← HS.out.2.2.2.2.2.2.1,← HS.out.2.2.2.2.2.2.2]
 obtain ⟨no,hno⟩:∃ no,(sgO x.2).length=no:=⟨_,rfl⟩
 obtain ⟨ni,hni⟩:∃ no,sgI x.2=no:=⟨_,rfl⟩
 rw [hno,hni]
 clear hr hno hni HS
 have hal:Below W.heap.size W (W.alloc (.cells #[.string sn,.int .i64 sl,.int .i64 sc,.bool sb,.bool se,.string sd,.string su,.int .i64 sw,.int .i64 sr,.slice p1 no p3,.slice p4 ni p6] 57)):=(Below.refl _ _).alloc (Nat.le_refl _) _
 go_enter Tryz.func54,Tryz.ntmps54
 by_cases h1:4≤sw
 ·have h1':sw≥4:=h1
  go_wp2
  go_ret
  exact ⟨by simp [h1],hal⟩
 ·have h1':¬ sw≥4:=h1
  by_cases h2:5 < sr
  ·have h2':sr > 5:=h2
   go_wp2
   go_ret
   exact ⟨by simp [h2],hal⟩
  ·have h2':¬ sr > 5:=h2
   go_wp2
   go_ret
   exact ⟨by simp [h1,h2],hal⟩
set_option maxRecDepth 100000 in
theorem nt1_any {ok:Nat→Prop}{w:World}{x:Int × SgS}{cs:List Value}(hr:rSg ok w x cs) {W:World}{Lb d:Nat}{c:ChG d}{fs:List (Int × SgS)}(h:Ly ok W Lb c fs) (hl:fs.length≤1000000) (X0:Nat) (h0:Bn W X0 [.pointer (some ⟨Lb,0,none⟩)]) (i:Int) :
  Calls Tryz.prog 52 #[.int .i64 i,.agg cs.toArray,.pointer (some ⟨X0,0,none⟩)] W fun e w'=>e=.returned (.bool (decide (fdS fs (sgN x.2) < i)))∧Below W.heap.size W w':=by
 obtain ⟨sn,sl,sc,sb,se,sd,su,sw,sr,p1,p3,p4,p6,rfl,HS,_⟩:=sg_let hr
 rw [← HS.out.1]
 obtain ⟨no,hno⟩:∃ no,(sgO x.2).length=no:=⟨_,rfl⟩
 obtain ⟨ni,hni⟩:∃ no,sgI x.2=no:=⟨_,rfl⟩
 rw [hno,hni]
 clear hr hno hni HS
 have hal:Below W.heap.size W (W.alloc (.cells #[.string sn,.int .i64 sl,.int .i64 sc,.bool sb,.bool se,.string sd,.string su,.int .i64 sw,.int .i64 sr,.slice p1 no p3,.slice p4 ni p6] 57)):=(Below.refl _ _).alloc (Nat.le_refl _) _
 have hc:=stateL_any (h.on hal) hl sn
 obtain ⟨F,hF⟩:∃ F,fdS fs sn=F:=⟨_,rfl⟩
 rw [hF] at hc ⊢
 obtain ⟨x0,_⟩:=(h0.on hal) 0 _ rfl
 clear h hF h0
 go_enter Tryz.func52,Tryz.ntmps52
 by_cases h1:F < i
 ·go_wp2_with (first | (go_at_call 53;refine hc.mono ?_;rintro e w1 ⟨rfl,b1⟩) | fail)
  go_ret
  exact ⟨by simp [h1],hal.trans (b1.mono hal.size)⟩
 ·go_wp2_with (first | (go_at_call 53;refine hc.mono ?_;rintro e w1 ⟨rfl,b1⟩) | fail)
  go_ret
  exact ⟨by simp [h1],hal.trans (b1.mono hal.size)⟩
set_option maxRecDepth 100000 in
set_option maxHeartbeats 4000000 in
theorem tm2_any {W:World}{ok:Nat→Prop}{Lb d:Nat}{c:ChG d}{fs:List (Int × SgS)}(h:Ly ok W Lb c fs) (X0:Nat) (h0:Bn W X0 [.pointer (some ⟨Lb,0,none⟩)]) (i:Nat) (hi:i < fs.length) (j:Nat) (hj:j < (sgO (fs[i]).2).length) :
  Calls Tryz.prog 49 #[.int .i64 (i:Int),.int .i64 (j:Int),.pointer (some ⟨X0,0,none⟩)] W fun e w'=>e=.returned (.bool (decide ((j:Int)=6) || decide (4 < (sgO (fs[i]).2)[j].2.2.2.1.length)))∧Below W.heap.size W w':=by
 obtain ⟨g0,g1,g2,g3,g4,g6,g7,g8,g9,sa,sc0,oa,oc,k1,k2,k3,k4,k5⟩:=h
 obtain ⟨x0,_⟩:=h0 0 _ rfl
 obtain ⟨c6,_⟩:=k1 6 _ rfl
 obtain ⟨b,off,cs,rfl,_,hbl,_,hr,hc⟩:=rdK_at k3 i hi
 obtain ⟨sn,sl,sc,sb,se,sd,su,sw,sr,p1,p3,p4,p6,rfl,_,hon⟩:=sg_let hr
 obtain ⟨ob,ooff,ev,gv,tg,s1,ns,s3,ol,oc',rfl,_,hobl,hgv,HON,_,hoc⟩:=onE_at hon j hj
 have hns:(sgO (fs[i]).2)[j].2.2.2.1.length=ns:=by
  obtain ⟨sl2,he,hs⟩:=HON.out
  unfold onV at he
  simp only [List.cons.injEq] at he
  have h4:=he.2.2.2.1
  obtain ⟨_,_,hv,_⟩:=hs.form
  rw [← h4] at hv
  simp only [Value.slice.injEq] at hv
  exact hv.2.1.symm
 rw [hns]
 have C9:=hc 9 _ rfl
 have D3:=hoc 3 _ rfl
 obtain ⟨no,hno⟩:∃ no,(sgO fs[i].2).length=no:=⟨_,rfl⟩
 rw [hno] at C9 hj
 obtain ⟨n,hn⟩:∃ n,fs.length=n:=⟨_,rfl⟩
 rw [hn] at c6 hi
 have i1:(i:Int) < (n:Int):=by omega
 have i2:(0:Int)≤(i:Int):=by omega
 have j1:(j:Int) < (no:Int):=by omega
 have j2:(0:Int)≤(j:Int):=by omega
 clear hc hoc hr hno hn k1 k2 k3 k4 k5 h0 HON hns hon
 go_enter Tryz.func49,Tryz.ntmps49
 by_cases h1:(j:Int)=6
 ·go_wp2
  go_ret
  exact ⟨by simp [h1],Below.refl _ _⟩
 ·by_cases h2:4 < ns
  ·have h2':(ns:Int) > 4:=by omega
   go_wp2
   go_ret
   exact ⟨by simp [h2],Below.refl _ _⟩
  ·have h2':¬ (ns:Int) > 4:=by omega
   go_wp2
   go_ret
   exact ⟨by simp [h1,h2],Below.refl _ _⟩
theorem varQ_at {ok:Nat→Prop}{w:World}{l:List (List UInt8 × Int × Pl)}{a:Option Addr}{n cap:Nat}(h:RdK ok w 4 (rVar ok w) l (.slice a n cap)) (j:Nat) (hj:j < l.length):∃ b off,a=some ⟨b,off,none⟩∧b < w.heap.size∧∀ i u,(varV l[j])[i]?=some u→w.cell? ⟨b,off+j*4+i,none⟩=some u:=by
 obtain ⟨a1,cap1,he,h1,h2,h3⟩:=h
 simp only [Value.slice.injEq] at he
 obtain ⟨rfl,rfl,rfl⟩:=he
 obtain ⟨b,off,cs,ha,_,hb,hl,hr,hc⟩:=h3 j hj
 have hr:cs=varV l[j]:=hr
 subst hr
 exact ⟨b,off,ha,hb,hc⟩
end Go.Proofs.YtlgnahpfggagoaaGreatDoor
/- What is left to strip: the places of rows; and what follows when they are stripped. -/
namespace Go.Proofs.YtlgnahpfggagoaaGreatDoor
open Go.RowKit Go.Lib
set_option linter.unusedSimpArgs false
set_option linter.unusedVariables false
abbrev Fo:=(d:Nat) × List (St d)
/-- How much is left. -/
def szL:(d:Nat)→List (St d)→Nat
 | 0,_=>1
 | d+1,l=>(l.map (fun t=>szL d t.2)).sum+1
def StOk:(d:Nat)→St d→Prop
 | 0,t=>Empty.elim t
 | d+1,t=>HdOk t.1∧t.2.length≤100000∧∀ x∈t.2,StOk d x
def FoOk (x:Fo):Prop:=x.2.length≤100000∧∀ t∈x.2,StOk x.1 t
end Go.Proofs.YtlgnahpfggagoaaGreatDoor
/- Leaves, steps, ends, all: what package check asks of a state's kind. -/
namespace Go.Proofs.YtlgnahpfggagoaaGreatDoor
open Go.RowKit Go.Lib
set_option linter.unusedSimpArgs false
set_option linter.unusedVariables false
attribute [local go_sem ↓] Go.wp_at_zero Go.wp_at_succ
/-- Has one of these all, or one that lies in them? -/
def hoA:(d:Nat)→List (St d)→Bool
 | 0,_=>false
 | d+1,l=>decide (0≤ixF (atB l (fun t:St (d+1)=>t.1.2.1.1 || hoA d t.2)) l.length 0)
def sgHo:SgS→Bool
 | ⟨0,t⟩=>Empty.elim t
 | ⟨e+1,t⟩=>hoA e t.2
def asSg {d:Nat}(l:List (St d)):List (Int × SgS):=l.map (fun t=>((0:Int),(⟨d,t⟩:SgS)))
theorem rdK_sg {ok:Nat→Prop}{w:World}{d:Nat}{l:List (St d)}{v:Value}(h:RdK ok w 11 (rSt d ok w) l v):RdK ok w 11 (rSg ok w) (asSg l) v:=by
 obtain ⟨a,cap,rfl,hc,hm,hcell⟩:=h
 refine ⟨a,cap,by simp [asSg],by simpa [asSg] using hc,hm,fun i hi=>?_⟩
 have hi':i < l.length:=by simpa [asSg] using hi
 obtain ⟨b,off,cs,ha,hok,hb,hl,hr,hcs⟩:=hcell i hi'
 refine ⟨b,off,cs,ha,hok,hb,hl,?_,hcs⟩
 have:(asSg l)[i]=((0:Int),(⟨d,l[i]⟩:SgS)):=by simp [asSg]
 rw [this]
 exact hr
/-- The inner row of a state that lies flat. -/
theorem sg_in {ok:Nat→Prop}{w:World}{e:Nat}{t:St (e+1)}{k:Int}{cs:List Value}(h:rSg ok w (k,⟨e+1,t⟩) cs):∃ (sn:ByteArray) (sl sc:Int) (sb se:Bool) (sd su:ByteArray) (sw sr:Int) (p1:Option Addr) (p3:Nat) (p4:Option Addr) (p6:Nat),cs=[.string sn,.int .i64 sl,.int .i64 sc,.bool sb,.bool se,.string sd,.string su,.int .i64 sw,.int .i64 sr,.slice p1 t.1.2.2.2.2.length p3,.slice p4 t.2.length p6]∧Hid (sb=t.1.2.1.1∧se=t.1.2.1.2∧sd=⟨t.1.2.2.1.1.toArray⟩)∧RdK ok w 11 (rSt e ok w) t.2 (.slice p4 t.2.length p6):=by
 obtain ⟨so,si,rfl,h1,h2⟩:=h
 obtain ⟨p1,p3,rfl,_⟩:=h1.form
 obtain ⟨p4,p6,rfl,_⟩:=h2.form
 exact ⟨_,_,_,_,_,_,_,_,_,p1,p3,p4,p6,rfl,⟨rfl,rfl,rfl⟩,h2⟩
def HoC (d:Nat):Prop:=∀ (ok:Nat→Prop) (W:World) (l:List (St d)) (v:Value),RdK ok W 11 (rSt d ok W) l v→FoOk ⟨d,l⟩→Calls Tryz.prog 96 #[v] W fun e w'=>e=.returned (.bool (hoA d l))∧Below W.heap.size W w'
set_option maxRecDepth 100000 in
theorem ho1_any {e:Nat}(IH:HoC e) {ok:Nat→Prop}{w W:World}{t:St (e+1)}{k:Int}{cs:List Value}(hr:rSg ok w (k,⟨e+1,t⟩) cs) (hst:StOk (e+1) t) (hw:Below w.heap.size w W) :
  Calls Tryz.prog 115 #[.agg cs.toArray] W fun e' w'=>e'=.returned (.bool (t.1.2.1.1 || hoA e t.2))∧Below W.heap.size W w':=by
 obtain ⟨sn,sl,sc,sb,se,sd,su,sw,sr,p1,p3,p4,p6,rfl,HS,hin⟩:=sg_in hr
 rw [← HS.out.1]
 have hc:=fun W1 (b:Below W.heap.size W W1)=>IH ok W1 t.2 _ (hin.stay (kp_st e) (fun b' hb hl=>⟨hb,(hw.trans (b.mono hw.size)).block b' hl⟩)) ⟨hst.2.1,hst.2.2⟩
 obtain ⟨no,hno⟩:∃ no,t.1.2.2.2.2.length=no:=⟨_,rfl⟩
 obtain ⟨ni,hni⟩:∃ ni,t.2.length=ni:=⟨_,rfl⟩
 rw [hni] at hc
 rw [hno,hni]
 obtain ⟨B,hB⟩:∃ B,hoA e t.2=B:=⟨_,rfl⟩
 rw [hB] at hc ⊢
 clear hr hin HS hno hni hB hst
 have hal:Below W.heap.size W (W.alloc (.cells #[.string sn,.int .i64 sl,.int .i64 sc,.bool sb,.bool se,.string sd,.string su,.int .i64 sw,.int .i64 sr,.slice p1 no p3,.slice p4 ni p6] 57)):=(Below.refl _ _).alloc (Nat.le_refl _) _
 go_enter Tryz.func115,Tryz.ntmps115
 cases sb with
 | true=>
  go_wp2
  go_ret
  exact ⟨rfl,hal⟩
 | false=>
  go_wp2_with (first | (go_at_call 96;refine (hc _ hal).mono ?_;rintro e w1 ⟨rfl,b1⟩) | fail)
  go_ret
  exact ⟨rfl,hal.trans (b1.mono hal.size)⟩
theorem ho_walk {W:World}{a:Option Addr}{n cap:Nat}{B:Bool}(hc:Calls Tryz.prog 114 #[.slice a n cap,.func (.func 115) #[] #[]] W fun e w'=>e=.returned (.bool B)∧Below W.heap.size W w') :
  Calls Tryz.prog 96 #[.slice a n cap] W fun e w'=>e=.returned (.bool B)∧Below W.heap.size W w':=by
 go_enter Tryz.func96,Tryz.ntmps96
 go_wp2_with (first | (go_at_call 114;refine hc.mono ?_;rintro e w1 ⟨rfl,b1⟩) | fail)
 go_ret
 exact ⟨rfl,b1⟩
theorem ho_zero:HoC 0:=fun ok W l v h hf=>by
 cases l with
 | cons x _=>exact Empty.elim x
 | nil=>
  have hc:=cfS_any (rdK_sg h) (by simp [asSg]) 115 #[] #[] (fun _=>false) (enters_of Tryz.func115 (by kernel_rfl) rfl) (fun i hi=>by simp [asSg] at hi)
  obtain ⟨a,cap,rfl,_⟩:=h.form
  exact ho_walk hc
theorem ho_step (d:Nat) (IH:HoC d):HoC (d+1):=fun ok W l v h hf=>by
 have hc:=cfS_any (rdK_sg h) (by have:=hf.1;simp [asSg] at this ⊢;omega) 115 #[] #[] (atB l (fun t:St (d+1)=>t.1.2.1.1 || hoA d t.2)) (enters_of Tryz.func115 (by kernel_rfl) rfl) (fun i hi cs W' hr hb=>by
  have hi':i < l.length:=by simpa [asSg] using hi
  have e1:(asSg l)[i]=((0:Int),(⟨d+1,l[i]⟩:SgS)):=by simp [asSg]
  rw [e1] at hr
  have:=ho1_any IH hr (hf.2 _ (List.getElem_mem hi')) hb
  rw [atB_of hi']
  exact this)
 have e2:(asSg l).length=l.length:=by simp [asSg]
 rw [e2] at hc
 obtain ⟨a,cap,rfl,_⟩:=h.form
 exact ho_walk hc
theorem ho_all:∀ d,HoC d
 | 0=>ho_zero
 | d+1=>ho_step d (ho_all d)
/-- Is a state of a kind that it mayn't be? -/
def miK (x:SgS):Bool:=(decide (sgI x=0) != (stpB (sgD x) || (sgH x).2.1.2)) || ((sgH x).2.1.1 && (decide (sgI x < 2) || sgHo x)) || ((sgH x).2.1.2 && decide (0 < (sgO x).length))
def miV (ni no:Nat) (A sb se ho:Bool):Bool:=(decide (ni=0) != (A || se)) || (sb && (decide (ni < 2) || ho)) || (se && decide (0 < no))
set_option maxRecDepth 100000 in
set_option maxHeartbeats 32000000 in
theorem mi_walk {W:World}(sn:ByteArray) (sl sc:Int) (sb se:Bool) (sd su:ByteArray) (sw sr:Int) (p1:Option Addr) (no p3:Nat) (p4:Option Addr) (ni p6:Nat) (A ho:Bool)
  (hs:∀ W1,Below W.heap.size W W1→Calls Tryz.prog 63 #[.agg #[.string sn,.int .i64 sl,.int .i64 sc,.bool sb,.bool se,.string sd,.string su,.int .i64 sw,.int .i64 sr,.slice p1 no p3,.slice p4 ni p6]] W1 fun e w'=>e=.returned (.bool A)∧Below W1.heap.size W1 w') (hh:∀ W1,Below W.heap.size W W1→Calls Tryz.prog 96 #[.slice p4 ni p6] W1 fun e w'=>e=.returned (.bool ho)∧Below W1.heap.size W1 w') :
  Calls Tryz.prog 61 #[.agg #[.string sn,.int .i64 sl,.int .i64 sc,.bool sb,.bool se,.string sd,.string su,.int .i64 sw,.int .i64 sr,.slice p1 no p3,.slice p4 ni p6]] W fun e w'=>e=.returned (.bool (miV ni no A sb se ho))∧Below W.heap.size W w':=by
 have hal:Below W.heap.size W (W.alloc (.cells #[.string sn,.int .i64 sl,.int .i64 sc,.bool sb,.bool se,.string sd,.string su,.int .i64 sw,.int .i64 sr,.slice p1 no p3,.slice p4 ni p6] 57)):=(Below.refl _ _).alloc (Nat.le_refl _) _
 have hX:Bn (W.alloc (.cells #[.string sn,.int .i64 sl,.int .i64 sc,.bool sb,.bool se,.string sd,.string su,.int .i64 sw,.int .i64 sr,.slice p1 no p3,.slice p4 ni p6] 57)) W.heap.size [.string sn,.int .i64 sl,.int .i64 sc,.bool sb,.bool se,.string sd,.string su,.int .i64 sw,.int .i64 sr,.slice p1 no p3,.slice p4 ni p6]:=Bn.new W [.string sn,.int .i64 sl,.int .i64 sc,.bool sb,.bool se,.string sd,.string su,.int .i64 sw,.int .i64 sr,.slice p1 no p3,.slice p4 ni p6] 57 _ rfl
 by_cases hz:ni=0
 ·subst hz
  cases A
  ·skip
   cases se
   ·skip
    ·rw [show miV _ no _ _ _ _=true by simp [miV,Bool.or]]
     go_enter Tryz.func61,Tryz.ntmps61
     go_wp2_with (first
    | (go_at_call 63;refine (hs _ hal).mono ?_;rintro e w1 ⟨rfl,b1⟩;have bw:=hal.trans (b1.mono hal.size);have hX1:=hX.on b1;obtain ⟨y3,_⟩:=hX1 3 _ rfl;obtain ⟨y4,_⟩:=hX1 4 _ rfl;obtain ⟨y9,_⟩:=hX1 9 _ rfl;obtain ⟨y10,_⟩:=hX1 10 _ rfl)
    | (go_at_call 96;refine (hh _ bw).mono ?_;rintro e w2 ⟨rfl,b2⟩;have bw:=bw.trans (b2.mono bw.size);have hX2:=hX1.on b2;obtain ⟨y4,_⟩:=hX2 4 _ rfl;obtain ⟨y9,_⟩:=hX2 9 _ rfl)
    | fail)
     go_ret
     exact ⟨by first | rfl | (simp;omega),bw⟩
   ·skip
    cases sb
    ·skip
     by_cases h0:0 < no
     ·have h0':(no:Int) > 0:=by omega
      ·rw [show miV _ no _ _ _ _=true by simp [miV,h0]]
       go_enter Tryz.func61,Tryz.ntmps61
       go_wp2_with (first
    | (go_at_call 63;refine (hs _ hal).mono ?_;rintro e w1 ⟨rfl,b1⟩;have bw:=hal.trans (b1.mono hal.size);have hX1:=hX.on b1;obtain ⟨y3,_⟩:=hX1 3 _ rfl;obtain ⟨y4,_⟩:=hX1 4 _ rfl;obtain ⟨y9,_⟩:=hX1 9 _ rfl;obtain ⟨y10,_⟩:=hX1 10 _ rfl)
    | (go_at_call 96;refine (hh _ bw).mono ?_;rintro e w2 ⟨rfl,b2⟩;have bw:=bw.trans (b2.mono bw.size);have hX2:=hX1.on b2;obtain ⟨y4,_⟩:=hX2 4 _ rfl;obtain ⟨y9,_⟩:=hX2 9 _ rfl)
    | fail)
       go_ret
       exact ⟨by first | rfl | (simp;omega),bw⟩
     ·have h0':¬ (no:Int) > 0:=by omega
      ·rw [show miV _ no _ _ _ _=false by simp [miV,h0]]
       go_enter Tryz.func61,Tryz.ntmps61
       go_wp2_with (first
    | (go_at_call 63;refine (hs _ hal).mono ?_;rintro e w1 ⟨rfl,b1⟩;have bw:=hal.trans (b1.mono hal.size);have hX1:=hX.on b1;obtain ⟨y3,_⟩:=hX1 3 _ rfl;obtain ⟨y4,_⟩:=hX1 4 _ rfl;obtain ⟨y9,_⟩:=hX1 9 _ rfl;obtain ⟨y10,_⟩:=hX1 10 _ rfl)
    | (go_at_call 96;refine (hh _ bw).mono ?_;rintro e w2 ⟨rfl,b2⟩;have bw:=bw.trans (b2.mono bw.size);have hX2:=hX1.on b2;obtain ⟨y4,_⟩:=hX2 4 _ rfl;obtain ⟨y9,_⟩:=hX2 9 _ rfl)
    | fail)
       go_ret
       exact ⟨by first | rfl | (simp;omega),bw⟩
    ·skip
     ·rw [show miV _ no _ _ _ _=true by simp [miV,Bool.or]]
      go_enter Tryz.func61,Tryz.ntmps61
      go_wp2_with (first
    | (go_at_call 63;refine (hs _ hal).mono ?_;rintro e w1 ⟨rfl,b1⟩;have bw:=hal.trans (b1.mono hal.size);have hX1:=hX.on b1;obtain ⟨y3,_⟩:=hX1 3 _ rfl;obtain ⟨y4,_⟩:=hX1 4 _ rfl;obtain ⟨y9,_⟩:=hX1 9 _ rfl;obtain ⟨y10,_⟩:=hX1 10 _ rfl)
    | (go_at_call 96;refine (hh _ bw).mono ?_;rintro e w2 ⟨rfl,b2⟩;have bw:=bw.trans (b2.mono bw.size);have hX2:=hX1.on b2;obtain ⟨y4,_⟩:=hX2 4 _ rfl;obtain ⟨y9,_⟩:=hX2 9 _ rfl)
    | fail)
      go_ret
      exact ⟨by first | rfl | (simp;omega),bw⟩
  ·skip
   cases se
   ·skip
    cases sb
    ·skip
     ·rw [show miV _ no _ _ _ _=false by simp [miV,Bool.or]]
      go_enter Tryz.func61,Tryz.ntmps61
      go_wp2_with (first
    | (go_at_call 63;refine (hs _ hal).mono ?_;rintro e w1 ⟨rfl,b1⟩;have bw:=hal.trans (b1.mono hal.size);have hX1:=hX.on b1;obtain ⟨y3,_⟩:=hX1 3 _ rfl;obtain ⟨y4,_⟩:=hX1 4 _ rfl;obtain ⟨y9,_⟩:=hX1 9 _ rfl;obtain ⟨y10,_⟩:=hX1 10 _ rfl)
    | (go_at_call 96;refine (hh _ bw).mono ?_;rintro e w2 ⟨rfl,b2⟩;have bw:=bw.trans (b2.mono bw.size);have hX2:=hX1.on b2;obtain ⟨y4,_⟩:=hX2 4 _ rfl;obtain ⟨y9,_⟩:=hX2 9 _ rfl)
    | fail)
      go_ret
      exact ⟨by first | rfl | (simp;omega),bw⟩
    ·skip
     ·rw [show miV _ no _ _ _ _=true by simp [miV,Bool.or]]
      go_enter Tryz.func61,Tryz.ntmps61
      go_wp2_with (first
    | (go_at_call 63;refine (hs _ hal).mono ?_;rintro e w1 ⟨rfl,b1⟩;have bw:=hal.trans (b1.mono hal.size);have hX1:=hX.on b1;obtain ⟨y3,_⟩:=hX1 3 _ rfl;obtain ⟨y4,_⟩:=hX1 4 _ rfl;obtain ⟨y9,_⟩:=hX1 9 _ rfl;obtain ⟨y10,_⟩:=hX1 10 _ rfl)
    | (go_at_call 96;refine (hh _ bw).mono ?_;rintro e w2 ⟨rfl,b2⟩;have bw:=bw.trans (b2.mono bw.size);have hX2:=hX1.on b2;obtain ⟨y4,_⟩:=hX2 4 _ rfl;obtain ⟨y9,_⟩:=hX2 9 _ rfl)
    | fail)
      go_ret
      exact ⟨by first | rfl | (simp;omega),bw⟩
   ·skip
    cases sb
    ·skip
     by_cases h0:0 < no
     ·have h0':(no:Int) > 0:=by omega
      ·rw [show miV _ no _ _ _ _=true by simp [miV,h0]]
       go_enter Tryz.func61,Tryz.ntmps61
       go_wp2_with (first
    | (go_at_call 63;refine (hs _ hal).mono ?_;rintro e w1 ⟨rfl,b1⟩;have bw:=hal.trans (b1.mono hal.size);have hX1:=hX.on b1;obtain ⟨y3,_⟩:=hX1 3 _ rfl;obtain ⟨y4,_⟩:=hX1 4 _ rfl;obtain ⟨y9,_⟩:=hX1 9 _ rfl;obtain ⟨y10,_⟩:=hX1 10 _ rfl)
    | (go_at_call 96;refine (hh _ bw).mono ?_;rintro e w2 ⟨rfl,b2⟩;have bw:=bw.trans (b2.mono bw.size);have hX2:=hX1.on b2;obtain ⟨y4,_⟩:=hX2 4 _ rfl;obtain ⟨y9,_⟩:=hX2 9 _ rfl)
    | fail)
       go_ret
       exact ⟨by first | rfl | (simp;omega),bw⟩
     ·have h0':¬ (no:Int) > 0:=by omega
      ·rw [show miV _ no _ _ _ _=false by simp [miV,h0]]
       go_enter Tryz.func61,Tryz.ntmps61
       go_wp2_with (first
    | (go_at_call 63;refine (hs _ hal).mono ?_;rintro e w1 ⟨rfl,b1⟩;have bw:=hal.trans (b1.mono hal.size);have hX1:=hX.on b1;obtain ⟨y3,_⟩:=hX1 3 _ rfl;obtain ⟨y4,_⟩:=hX1 4 _ rfl;obtain ⟨y9,_⟩:=hX1 9 _ rfl;obtain ⟨y10,_⟩:=hX1 10 _ rfl)
    | (go_at_call 96;refine (hh _ bw).mono ?_;rintro e w2 ⟨rfl,b2⟩;have bw:=bw.trans (b2.mono bw.size);have hX2:=hX1.on b2;obtain ⟨y4,_⟩:=hX2 4 _ rfl;obtain ⟨y9,_⟩:=hX2 9 _ rfl)
    | fail)
       go_ret
       exact ⟨by first | rfl | (simp;omega),bw⟩
    ·skip
     ·rw [show miV _ no _ _ _ _=true by simp [miV,Bool.or]]
      go_enter Tryz.func61,Tryz.ntmps61
      go_wp2_with (first
    | (go_at_call 63;refine (hs _ hal).mono ?_;rintro e w1 ⟨rfl,b1⟩;have bw:=hal.trans (b1.mono hal.size);have hX1:=hX.on b1;obtain ⟨y3,_⟩:=hX1 3 _ rfl;obtain ⟨y4,_⟩:=hX1 4 _ rfl;obtain ⟨y9,_⟩:=hX1 9 _ rfl;obtain ⟨y10,_⟩:=hX1 10 _ rfl)
    | (go_at_call 96;refine (hh _ bw).mono ?_;rintro e w2 ⟨rfl,b2⟩;have bw:=bw.trans (b2.mono bw.size);have hX2:=hX1.on b2;obtain ⟨y4,_⟩:=hX2 4 _ rfl;obtain ⟨y9,_⟩:=hX2 9 _ rfl)
    | fail)
      go_ret
      exact ⟨by first | rfl | (simp;omega),bw⟩
 ·have hz1:((ni:Int) == 0)=false:=by simp;omega
  cases A
  ·skip
   cases se
   ·skip
    cases sb
    ·skip
     ·rw [show miV _ no _ _ _ _=false by simp [miV,hz]]
      go_enter Tryz.func61,Tryz.ntmps61
      go_wp2_with (first
    | (go_at_call 63;refine (hs _ hal).mono ?_;rintro e w1 ⟨rfl,b1⟩;have bw:=hal.trans (b1.mono hal.size);have hX1:=hX.on b1;obtain ⟨y3,_⟩:=hX1 3 _ rfl;obtain ⟨y4,_⟩:=hX1 4 _ rfl;obtain ⟨y9,_⟩:=hX1 9 _ rfl;obtain ⟨y10,_⟩:=hX1 10 _ rfl)
    | (go_at_call 96;refine (hh _ bw).mono ?_;rintro e w2 ⟨rfl,b2⟩;have bw:=bw.trans (b2.mono bw.size);have hX2:=hX1.on b2;obtain ⟨y4,_⟩:=hX2 4 _ rfl;obtain ⟨y9,_⟩:=hX2 9 _ rfl)
    | fail)
      go_ret
      exact ⟨by first | rfl | (simp;omega),bw⟩
    ·skip
     by_cases h2:ni < 2
     ·have h2':(ni:Int) < 2:=by omega
      ·rw [show miV _ no _ _ _ _=true by simp [miV,hz,h2]]
       go_enter Tryz.func61,Tryz.ntmps61
       go_wp2_with (first
    | (go_at_call 63;refine (hs _ hal).mono ?_;rintro e w1 ⟨rfl,b1⟩;have bw:=hal.trans (b1.mono hal.size);have hX1:=hX.on b1;obtain ⟨y3,_⟩:=hX1 3 _ rfl;obtain ⟨y4,_⟩:=hX1 4 _ rfl;obtain ⟨y9,_⟩:=hX1 9 _ rfl;obtain ⟨y10,_⟩:=hX1 10 _ rfl)
    | (go_at_call 96;refine (hh _ bw).mono ?_;rintro e w2 ⟨rfl,b2⟩;have bw:=bw.trans (b2.mono bw.size);have hX2:=hX1.on b2;obtain ⟨y4,_⟩:=hX2 4 _ rfl;obtain ⟨y9,_⟩:=hX2 9 _ rfl)
    | fail)
       go_ret
       exact ⟨by first | rfl | (simp;omega),bw⟩
     ·have h2':¬ (ni:Int) < 2:=by omega
      cases ho
      ·skip
       ·rw [show miV _ no _ _ _ _=false by simp [miV,hz,h2]]
        go_enter Tryz.func61,Tryz.ntmps61
        go_wp2_with (first
    | (go_at_call 63;refine (hs _ hal).mono ?_;rintro e w1 ⟨rfl,b1⟩;have bw:=hal.trans (b1.mono hal.size);have hX1:=hX.on b1;obtain ⟨y3,_⟩:=hX1 3 _ rfl;obtain ⟨y4,_⟩:=hX1 4 _ rfl;obtain ⟨y9,_⟩:=hX1 9 _ rfl;obtain ⟨y10,_⟩:=hX1 10 _ rfl)
    | (go_at_call 96;refine (hh _ bw).mono ?_;rintro e w2 ⟨rfl,b2⟩;have bw:=bw.trans (b2.mono bw.size);have hX2:=hX1.on b2;obtain ⟨y4,_⟩:=hX2 4 _ rfl;obtain ⟨y9,_⟩:=hX2 9 _ rfl)
    | fail)
        go_ret
        exact ⟨by first | rfl | (simp;omega),bw⟩
      ·skip
       ·rw [show miV _ no _ _ _ _=true by simp [miV,hz,h2]]
        go_enter Tryz.func61,Tryz.ntmps61
        go_wp2_with (first
    | (go_at_call 63;refine (hs _ hal).mono ?_;rintro e w1 ⟨rfl,b1⟩;have bw:=hal.trans (b1.mono hal.size);have hX1:=hX.on b1;obtain ⟨y3,_⟩:=hX1 3 _ rfl;obtain ⟨y4,_⟩:=hX1 4 _ rfl;obtain ⟨y9,_⟩:=hX1 9 _ rfl;obtain ⟨y10,_⟩:=hX1 10 _ rfl)
    | (go_at_call 96;refine (hh _ bw).mono ?_;rintro e w2 ⟨rfl,b2⟩;have bw:=bw.trans (b2.mono bw.size);have hX2:=hX1.on b2;obtain ⟨y4,_⟩:=hX2 4 _ rfl;obtain ⟨y9,_⟩:=hX2 9 _ rfl)
    | fail)
        go_ret
        exact ⟨by first | rfl | (simp;omega),bw⟩
   ·skip
    ·rw [show miV _ no _ _ _ _=true by simp [miV,hz]]
     go_enter Tryz.func61,Tryz.ntmps61
     go_wp2_with (first
    | (go_at_call 63;refine (hs _ hal).mono ?_;rintro e w1 ⟨rfl,b1⟩;have bw:=hal.trans (b1.mono hal.size);have hX1:=hX.on b1;obtain ⟨y3,_⟩:=hX1 3 _ rfl;obtain ⟨y4,_⟩:=hX1 4 _ rfl;obtain ⟨y9,_⟩:=hX1 9 _ rfl;obtain ⟨y10,_⟩:=hX1 10 _ rfl)
    | (go_at_call 96;refine (hh _ bw).mono ?_;rintro e w2 ⟨rfl,b2⟩;have bw:=bw.trans (b2.mono bw.size);have hX2:=hX1.on b2;obtain ⟨y4,_⟩:=hX2 4 _ rfl;obtain ⟨y9,_⟩:=hX2 9 _ rfl)
    | fail)
     go_ret
     exact ⟨by first | rfl | (simp;omega),bw⟩
  ·skip
   cases se
   ·skip
    ·rw [show miV _ no _ _ _ _=true by simp [miV,hz]]
     go_enter Tryz.func61,Tryz.ntmps61
     go_wp2_with (first
    | (go_at_call 63;refine (hs _ hal).mono ?_;rintro e w1 ⟨rfl,b1⟩;have bw:=hal.trans (b1.mono hal.size);have hX1:=hX.on b1;obtain ⟨y3,_⟩:=hX1 3 _ rfl;obtain ⟨y4,_⟩:=hX1 4 _ rfl;obtain ⟨y9,_⟩:=hX1 9 _ rfl;obtain ⟨y10,_⟩:=hX1 10 _ rfl)
    | (go_at_call 96;refine (hh _ bw).mono ?_;rintro e w2 ⟨rfl,b2⟩;have bw:=bw.trans (b2.mono bw.size);have hX2:=hX1.on b2;obtain ⟨y4,_⟩:=hX2 4 _ rfl;obtain ⟨y9,_⟩:=hX2 9 _ rfl)
    | fail)
     go_ret
     exact ⟨by first | rfl | (simp;omega),bw⟩
   ·skip
    ·rw [show miV _ no _ _ _ _=true by simp [miV,hz]]
     go_enter Tryz.func61,Tryz.ntmps61
     go_wp2_with (first
    | (go_at_call 63;refine (hs _ hal).mono ?_;rintro e w1 ⟨rfl,b1⟩;have bw:=hal.trans (b1.mono hal.size);have hX1:=hX.on b1;obtain ⟨y3,_⟩:=hX1 3 _ rfl;obtain ⟨y4,_⟩:=hX1 4 _ rfl;obtain ⟨y9,_⟩:=hX1 9 _ rfl;obtain ⟨y10,_⟩:=hX1 10 _ rfl)
    | (go_at_call 96;refine (hh _ bw).mono ?_;rintro e w2 ⟨rfl,b2⟩;have bw:=bw.trans (b2.mono bw.size);have hX2:=hX1.on b2;obtain ⟨y4,_⟩:=hX2 4 _ rfl;obtain ⟨y9,_⟩:=hX2 9 _ rfl)
    | fail)
     go_ret
     exact ⟨by first | rfl | (simp;omega),bw⟩
theorem miK_any {ok:Nat→Prop}{w W:World}{x:Int × SgS}{cs:List Value}(hr:rSg ok w x cs) (hst:StOk x.2.1 x.2.2) (hw:Below w.heap.size w W) :
  Calls Tryz.prog 61 #[.agg cs.toArray] W fun e w'=>e=.returned (.bool (miK x.2))∧Below W.heap.size W w':=by
 obtain ⟨k,e,t⟩:=x
 cases e with
 | zero=>exact Empty.elim t
 | succ e=>
  obtain ⟨sn,sl,sc,sb,se,sd,su,sw,sr,p1,p3,p4,p6,rfl,HS,hin⟩:=sg_in hr
  have h:=mi_walk (W:=W) sn sl sc sb se sd su sw sr p1 t.1.2.2.2.2.length p3 p4 t.2.length p6 (stpB sd) (hoA e t.2) (fun W1 _=>step_any W1 _ _ _ _ _ _ _ _ _ _ _ _ _ _ _) (fun W1 b=>ho_all e ok W1 t.2 _ (hin.stay (kp_st e) (fun b' hb hl=>⟨hb,(hw.trans (b.mono hw.size)).block b' hl⟩)) ⟨hst.2.1,hst.2.2⟩)
  have e1:miK (⟨e+1,t⟩:SgS)=miV t.2.length t.1.2.2.2.2.length (stpB sd) sb se (hoA e t.2):=by
   obtain ⟨h1,h2,h3⟩:=HS.out
   rw [h1,h2,h3]
   rfl
  show Calls _ _ _ _ fun e' w'=>e'=.returned (.bool (miK (⟨e+1,t⟩:SgS)))∧_
  rw [e1]
  exact h
theorem RdS.at' {w:World}{v:Value}{ls:List ByteArray}(h:RdS w v ls):∃ a cap,v=.slice a ls.length cap∧ls.length≤maxLen∧∀ (i:Nat) (hi:i < ls.length),∃ g,a=some ⟨g,0,none⟩∧w.cell? ⟨g,i,none⟩=some (.string ls[i]):=by
 rcases h.form with ⟨rfl,rfl⟩ | ⟨g,cap,rfl,h1,h2,h3⟩
 ·exact ⟨none,0,rfl,by simp [maxLen],fun i hi=>by simp at hi⟩
 ·exact ⟨_,_,rfl,by omega,fun i hi=>⟨g,rfl,h3 i hi⟩⟩
set_option maxRecDepth 100000 in
set_option maxHeartbeats 4000000 in
theorem idx_any {w:World}{v:Value}{ls:List ByteArray}(h:RdS w v ls) :
  Calls Tryz.prog 109 #[v,.func (.func 41) #[] #[]] w fun e w'=>∃ i:Int,e=.returned (.int .i64 i)∧decide (0≤i)=ls.any (fun s=>rsvB (bl s))∧w'=w:=by
 obtain ⟨a,cap,rfl,hm,hc⟩:=h.at'
 clear h
 unfold maxLen at hm
 obtain ⟨n,hn⟩:∃ n,ls.length=n:=⟨_,rfl⟩
 rw [hn] at hm ⊢
 go_enter Tryz.func109,Tryz.ntmps109
 go_wp2
 go_loopg [5,8] n (fun gg _ s8 wr=>∃ kk:Nat,kk≤n∧n - kk≤gg∧s8=.int .i64 (kk:Int)∧Hid (w=wr)∧Hid (∀ (j:Nat) (hj:j < ls.length),j < kk→rsvB (bl ls[j])=false))
 case atStart=>exact ⟨0,Nat.zero_le _,by omega,rfl,rfl,fun j _ hj=>absurd hj (Nat.not_lt_zero _)⟩
 case round=>
  obtain ⟨kk,hkk,hg,rfl,hw,A⟩:=hrel
  obtain rfl:w=wr:=hw
  by_cases hlt:kk < n
  ·have hltz:(kk:Int) < (n:Int):=by omega
   obtain ⟨g,rfl,hcl⟩:=hc kk (by omega)
   have hcall:=pReserved_any ls[kk] w
   obtain ⟨y,hy⟩:∃ y,ls[kk]=y:=⟨_,rfl⟩
   rw [hy] at hcl hcall
   cases hq:rsvB (bl y) with
   | true=>
    rw [hq] at hcall
    go_wp2_with (go_at_call 41;refine hcall.mono ?_;rintro e w' ⟨rfl,rfl⟩)
    go_ret
    refine ⟨_,rfl,?_,rfl⟩
    rw [List.any_eq_true.2 ⟨y,hy ▸ List.getElem_mem _,hq⟩]
    simp
   | false=>
    rw [hq] at hcall
    go_wp2_with (go_at_call 41;refine hcall.mono ?_;rintro e w' ⟨rfl,rfl⟩)
    go_roundg (n - (kk+1))
    case measure=>omega
    case rel=>
     refine ⟨kk+1,by omega,by omega,by go_num,rfl,(show Hid _ from fun j hj hj'=>?_)⟩
     by_cases e:j=kk
     ·subst e;rw [hy];exact hq
     ·exact A j hj (by omega)
  ·have hltz:¬ (kk:Int) < (n:Int):=by omega
   go_wp2
   go_ret
   refine ⟨_,rfl,?_,rfl⟩
   have:ls.any (fun s=>rsvB (bl s))=false:=by
    rw [List.any_eq_false]
    intro x hx
    obtain ⟨j,hj,rfl⟩:=List.mem_iff_getElem.1 hx
    rw [A j hj (by omega)];simp
   rw [this];decide
set_option maxRecDepth 100000 in
set_option maxHeartbeats 4000000 in
theorem contains_any {w:World}{v:Value}{ls:List ByteArray}(h:RdS w v ls) :
  Calls Tryz.prog 92 #[v,.func (.func 41) #[] #[]] w fun e w'=>e=.returned (.bool (ls.any (fun s=>rsvB (bl s))))∧w'=w:=by
 have h1:=idx_any h
 obtain ⟨a,cap,rfl,hm,hc⟩:=h.at'
 clear h hc hm
 generalize ls.any (fun s=>rsvB (bl s))=z at h1 ⊢
 go_enter Tryz.func92,Tryz.ntmps92
 go_wp2_with (go_at_call 109;refine h1.mono ?_;rintro e w' ⟨i,rfl,hi,rfl⟩;have hi':Hid (decide (0≤i)=z):=hi;clear hi)
 go_ret
 have hi2:decide (0≤i)=z:=hi'
 simp [← hi2]
end Go.Proofs.YtlgnahpfggagoaaGreatDoor
/- Contracts of the library at this program. -/
namespace Go.Proofs.YtlgnahpfggagoaaGreatDoor
open Go.Shelf
set_option linter.unusedVariables false
def renF:Ren:={ f:=fun x=>match x with | 173=>132 | 246=>153 | 283=>168 | 284=>169 | 285=>170 | 286=>171 | 129=>146 | 317=>178 | 318=>179 | 319=>180 | 320=>181 | 337=>183 | 338=>184 | n=>n,t:=fun x=>match x with | 2=>2 | 3=>3 | 9=>9 | 4=>4 | 171=>229 | 0=>0 | 53=>206 | 37=>162 | 5=>5 | 173=>231 | 212=>243 | 51=>204 | 20=>20 | 213=>244 | 46=>176 | 232=>245 | 233=>246 | n=>n,g:=fun x=>match x with | 17=>2 | 18=>3 | 19=>4 | n=>n }
theorem laysF:LaysM.n173 Tryz.prog renF:=
 {mixed:=by kernel_rfl,f129:=Tryz.func146.trans (congrArg some (by kernel_rfl)),f173:=Tryz.func132.trans (congrArg some (by kernel_rfl)),f246:=Tryz.func153.trans (congrArg some (by kernel_rfl)),f283:=Tryz.func168.trans (congrArg some (by kernel_rfl)),f284:=Tryz.func169.trans (congrArg some (by kernel_rfl)),f285:=Tryz.func170.trans (congrArg some (by kernel_rfl)),f286:=Tryz.func171.trans (congrArg some (by kernel_rfl)),f317:=Tryz.func178.trans (congrArg some (by kernel_rfl)),f318:=Tryz.func179.trans (congrArg some (by kernel_rfl)),f319:=Tryz.func180.trans (congrArg some (by kernel_rfl)),f320:=Tryz.func181.trans (congrArg some (by kernel_rfl)),f337:=Tryz.func183.trans (congrArg some (by kernel_rfl)),f338:=Tryz.func184.trans (congrArg some (by kernel_rfl)),t0:=Tryz.underlying0,a0:=Tryz.isAgg0,z0:=Tryz.sizeOf0,v0:=Tryz.zeroValue0,t2:=Tryz.underlying2,a2:=Tryz.isAgg2,z2:=Tryz.sizeOf2,v2:=Tryz.zeroValue2,t3:=Tryz.underlying3,a3:=Tryz.isAgg3,z3:=Tryz.sizeOf3,v3:=Tryz.zeroValue3,t4:=Tryz.underlying4,a4:=Tryz.isAgg4,z4:=Tryz.sizeOf4,v4:=Tryz.zeroValue4,t5:=Tryz.underlying5,a5:=Tryz.isAgg5,z5:=Tryz.sizeOf5,v5:=Tryz.zeroValue5,t9:=Tryz.underlying9,a9:=Tryz.isAgg9,z9:=Tryz.sizeOf9,v9:=Tryz.zeroValue9,t20:=Tryz.underlying20,a20:=Tryz.isAgg20,z20:=Tryz.sizeOf20,v20:=Tryz.zeroValue20,t37:=Tryz.underlying162,a37:=Tryz.isAgg162,z37:=Tryz.sizeOf162,v37:=Tryz.zeroValue162,t46:=Tryz.underlying176,a46:=Tryz.isAgg176,z46:=Tryz.sizeOf176,v46:=Tryz.zeroValue176,t51:=Tryz.underlying204,a51:=Tryz.isAgg204,z51:=Tryz.sizeOf204,v51:=Tryz.zeroValue204,t53:=Tryz.underlying206,a53:=Tryz.isAgg206,z53:=Tryz.sizeOf206,v53:=Tryz.zeroValue206,t171:=Tryz.underlying229,a171:=Tryz.isAgg229,z171:=Tryz.sizeOf229,v171:=Tryz.zeroValue229,t173:=Tryz.underlying231,a173:=Tryz.isAgg231,z173:=Tryz.sizeOf231,v173:=Tryz.zeroValue231,t212:=Tryz.underlying243,a212:=Tryz.isAgg243,z212:=Tryz.sizeOf243,v212:=Tryz.zeroValue243,t213:=Tryz.underlying244,a213:=Tryz.isAgg244,z213:=Tryz.sizeOf244,t232:=Tryz.underlying245,a232:=Tryz.isAgg245,z232:=Tryz.sizeOf245,v232:=Tryz.zeroValue245,t233:=Tryz.underlying246,a233:=Tryz.isAgg246,z233:=Tryz.sizeOf246,v233:=Tryz.zeroValue246,g17:=by kernel_rfl,g18:=by kernel_rfl,g19:=by kernel_rfl,i0:=by kernel_rfl,i2:=by kernel_rfl,i3:=by kernel_rfl,i4:=by kernel_rfl,i5:=by kernel_rfl,i9:=by kernel_rfl,i20:=by kernel_rfl,i37:=by kernel_rfl,i46:=by kernel_rfl,i51:=by kernel_rfl,i53:=by kernel_rfl,i171:=by kernel_rfl,i173:=by kernel_rfl,i212:=by kernel_rfl,i232:=by kernel_rfl,i233:=by kernel_rfl,m17:=by kernel_rfl,m18:=by kernel_rfl,m19:=by kernel_rfl }
end Go.Proofs.YtlgnahpfggagoaaGreatDoor
