import Derived.Test.YtfjdceknbdmhpaaGreatDoorWxc07
set_option maxRecDepth 100000
set_option maxHeartbeats 32000000
namespace Go.Proofs.YtfjdceknbdmhpaaGreatDoor
open Go.RowKit Go.Lib
set_option linter.unusedSimpArgs false
set_option linter.unusedVariables false
attribute [local go_sem ↓] Go.wp_at_zero Go.wp_at_succ
theorem con_res {w4:World}{R:Nat}{a b c d e f:Value}{tmps:Array Value}(hR:Bn w4 R [a,b,c,d,e,f]) (ht:tmps.getD 2 undef=.pointer (some ⟨R,0,none⟩)):(results Tryz.f78 tmps).run Tryz.prog w4=.ok (.agg #[a,b,c,d,e,f]) w4:=by
 have ht':tmps[2]?.getD undef=.pointer (some ⟨R,0,none⟩):=by simpa using ht
 have c0:=(hR 0 _ rfl).1
 have c1:=(hR 1 _ rfl).1
 have c2:=(hR 2 _ rfl).1
 have c3:=(hR 3 _ rfl).1
 have c4:=(hR 4 _ rfl).1
 have c5:=(hR 5 _ rfl).1
 simp [results,Tryz.results78,go_sem,ht',c0,c1,c2,c3,c4,c5]
theorem son_nil {ok:Nat->Prop}{w:World}(ev tg:ByteArray) (s1:Option Addr) (ns s3:Nat) (ol oc:Int) (l:List (List UInt8 × Sx)) (h1:ev.size<=140737488351232) (h3:tg.size<=140737488351232) (h2:∀ w1,Calls Tryz.prog 134 #[.nilIface] w1 fun e w'=>e=.returned (.nilIface)/\Below w1.heap.size w1 w')
  (hs:RdK ok w 2 (rSet ok w) l (.slice s1 ns s3)) (hn:l.length=ns) (hl:ns<=100000) (hok:∀ s∈l,SetOk s):Calls Tryz.prog 78 #[.agg #[.string ev,.nilIface,.string tg,.slice s1 ns s3,.int .i64 ol,.int .i64 oc]] w fun e w'=>∃ u1 u3,e=.returned (.agg #[.string ev,.nilIface,.string tg,.slice u1 ns u3,.int .i64 0,.int .i64 0])/\RdK (fun b=>w.heap.size<=b) w' 2 (rSet (fun b=>w.heap.size<=b) w') l (.slice u1 ns u3)/\Below w.heap.size w w':=by
 have g1:=fun w1=>pClone_any ev w1 h1
 have g3:=fun w1=>pClone_any tg w1 h3
 have hal:Below w.heap.size w ((w.alloc (.cells #[.string ev,.nilIface,.string tg,.slice s1 ns s3,.int .i64 ol,.int .i64 oc] 133)).alloc (.cells #[.string ⟨#[]⟩,.nilIface,.string ⟨#[]⟩,.slice none 0 0,.int .i64 0,.int .i64 0] 133)):=((Below.refl w.heap.size w).alloc Nat.le.refl _).alloc (by simp) _
 have hX:Bn ((w.alloc (.cells #[.string ev,.nilIface,.string tg,.slice s1 ns s3,.int .i64 ol,.int .i64 oc] 133)).alloc (.cells #[.string ⟨#[]⟩,.nilIface,.string ⟨#[]⟩,.slice none 0 0,.int .i64 0,.int .i64 0] 133)) w.heap.size [.string ev,.nilIface,.string tg,.slice s1 ns s3,.int .i64 ol,.int .i64 oc]:=(Bn.new w [.string ev,.nilIface,.string tg,.slice s1 ns s3,.int .i64 ol,.int .i64 oc] 133 _ rfl).on ((Below.refl _ _).alloc Nat.le.refl _)
 have hR:Bn ((w.alloc (.cells #[.string ev,.nilIface,.string tg,.slice s1 ns s3,.int .i64 ol,.int .i64 oc] 133)).alloc (.cells #[.string ⟨#[]⟩,.nilIface,.string ⟨#[]⟩,.slice none 0 0,.int .i64 0,.int .i64 0] 133)) (w.heap.size+1) [.string ⟨#[]⟩,.nilIface,.string ⟨#[]⟩,.slice none 0 0,.int .i64 0,.int .i64 0]:=Bn.new (w.alloc (.cells #[.string ev,.nilIface,.string tg,.slice s1 ns s3,.int .i64 ol,.int .i64 oc] 133)) [.string ⟨#[]⟩,.nilIface,.string ⟨#[]⟩,.slice none 0 0,.int .i64 0,.int .i64 0] 133 _ (by simp)
 have hsz:w.heap.size+2<=((w.alloc (.cells #[.string ev,.nilIface,.string tg,.slice s1 ns s3,.int .i64 ol,.int .i64 oc] 133)).alloc (.cells #[.string ⟨#[]⟩,.nilIface,.string ⟨#[]⟩,.slice none 0 0,.int .i64 0,.int .i64 0] 133)).heap.size:=by simp
 go_enter Tryz.func78,Tryz.ntmps78
 go_upto_region 1 with fail
 generalize ((w.alloc (.cells #[.string ev,.nilIface,.string tg,.slice s1 ns s3,.int .i64 ol,.int .i64 oc] 133)).alloc (.cells #[.string ⟨#[]⟩,.nilIface,.string ⟨#[]⟩,.slice none 0 0,.int .i64 0,.int .i64 0] 133))=wx at *
 have hE:∀ w1,Below wx.heap.size wx w1->Calls Tryz.prog 135 #[.slice s1 ns s3,.func (.func 136) #[] #[]] w1 fun e w'=>∃ u1 u3,e=.returned (.slice u1 ns u3)/\RdK (fun b=>wx.heap.size<=b) w' 2 (rSet (fun b=>wx.heap.size<=b) w') l (.slice u1 ns u3)/\Below w1.heap.size w1 w':=fun w1 b1=>by
  have hs1:=hs.stay kp_set (ok':=ok) (w':=w1) (fun b hb hl=>⟨hb,(b1.block b (Nat.lt_of_lt_of_le hl hal.size)).trans (hal.block b hl)⟩)
  refine (eachSet_any hs1 (by omega) hok).mono ?_
  rintro e w' ⟨u,h1,h2,h3⟩
  obtain ⟨u1,u3,rfl,_⟩:=h2.form
  rw [hn] at h1 h2
  exact ⟨u1,u3,h1,h2.stay kp_set (fun b hb hl=>⟨Nat.le_trans b1.size hb,rfl⟩),h3⟩
 have hB:Below wx.heap.size wx wx:=Below.refl _ _
 have c0:=(hX 0 _ rfl).1
 have c1:=(hX 1 _ rfl).1
 have c2:=(hX 2 _ rfl).1
 have c3:=(hX 3 _ rfl).1
 have hlt:=hX.lt
 obtain ⟨S,hS⟩:∃ S,w.heap.size=S:=⟨_,rfl⟩
 rw [hS] at c0 c1 c2 c3 hlt hR hsz ⊢
 have HS:Hid (w.heap.size=S):=hS
 clear hs hX hS
 have n1:S≠S+1:=by omega
 have y0:=c0
 have y1:=c1
 have y2:=c2
 have y3:=c3
 go_region_held_law (fun w'=>w'.cell? ⟨S,0,none⟩=some (.string ev)/\w'.cell? ⟨S,1,none⟩=some (.nilIface)/\w'.cell? ⟨S,2,none⟩=some (.string tg)/\w'.cell? ⟨S,3,none⟩=some (.slice s1 ns s3))
  ((refine ⟨?_,?_,?_,?_⟩<;>(repeat (with_reducible first|exact y0|exact y1|exact y2|exact y3|refine cell_dr ?_|refine cell_far4 (ne_pt n1) ?_))<;>done))
  (first
   | (go_at_call 38;(with_reducible refine (g1 _).mono ?_);rintro e w1 ⟨rfl,b1⟩;(first|have hB:=Below.nxd hB b1|have hB:=Below.nx hB b1);have hR1:=hR.on hB;obtain ⟨r0,f0⟩:=hR1 0 _ rfl;obtain ⟨r1,f1⟩:=hR1 1 _ rfl;obtain ⟨r2,f2⟩:=hR1 2 _ rfl;obtain ⟨r3,f3⟩:=hR1 3 _ rfl;obtain ⟨r4,f4⟩:=hR1 4 _ rfl;obtain ⟨r5,f5⟩:=hR1 5 _ rfl;have y0:=(hB.cell (p:=⟨S,0,none⟩) hlt).trans c0;have y1:=(hB.cell (p:=⟨S,1,none⟩) hlt).trans c1;have y2:=(hB.cell (p:=⟨S,2,none⟩) hlt).trans c2;have y3:=(hB.cell (p:=⟨S,3,none⟩) hlt).trans c3;(first|have hBr:=Below.nxd hBr b1|have hBr:=Below.nx hBr b1|skip))
   | (go_at_call 38;(with_reducible refine (g3 _).mono ?_);rintro e w1 ⟨rfl,b1⟩;(first|have hB:=Below.nxd hB b1|have hB:=Below.nx hB b1);have hR1:=hR.on hB;obtain ⟨r0,f0⟩:=hR1 0 _ rfl;obtain ⟨r1,f1⟩:=hR1 1 _ rfl;obtain ⟨r2,f2⟩:=hR1 2 _ rfl;obtain ⟨r3,f3⟩:=hR1 3 _ rfl;obtain ⟨r4,f4⟩:=hR1 4 _ rfl;obtain ⟨r5,f5⟩:=hR1 5 _ rfl;have y0:=(hB.cell (p:=⟨S,0,none⟩) hlt).trans c0;have y1:=(hB.cell (p:=⟨S,1,none⟩) hlt).trans c1;have y2:=(hB.cell (p:=⟨S,2,none⟩) hlt).trans c2;have y3:=(hB.cell (p:=⟨S,3,none⟩) hlt).trans c3;(first|have hBr:=Below.nxd hBr b1|have hBr:=Below.nx hBr b1|skip))
   | (go_at_call 134;(with_reducible refine (h2 _).mono ?_);rintro e w1 ⟨rfl,b1⟩;(first|have hB:=Below.nxd hB b1|have hB:=Below.nx hB b1);have hR1:=hR.on hB;obtain ⟨r0,f0⟩:=hR1 0 _ rfl;obtain ⟨r1,f1⟩:=hR1 1 _ rfl;obtain ⟨r2,f2⟩:=hR1 2 _ rfl;obtain ⟨r3,f3⟩:=hR1 3 _ rfl;obtain ⟨r4,f4⟩:=hR1 4 _ rfl;obtain ⟨r5,f5⟩:=hR1 5 _ rfl;have y0:=(hB.cell (p:=⟨S,0,none⟩) hlt).trans c0;have y1:=(hB.cell (p:=⟨S,1,none⟩) hlt).trans c1;have y2:=(hB.cell (p:=⟨S,2,none⟩) hlt).trans c2;have y3:=(hB.cell (p:=⟨S,3,none⟩) hlt).trans c3;(first|have hBr:=Below.nxd hBr b1|have hBr:=Below.nx hBr b1|skip))
   | (go_at_call 135;(with_reducible first|refine (hE _ hB).mono ?_|refine (hE _ hB.drew).mono ?_);rintro e w1 ⟨u1,u3,rfl,hr,b1⟩;(first|have hB:=Below.nxd hB b1|have hB:=Below.nx hB b1);have hR1:=hR.on hB;obtain ⟨r0,f0⟩:=hR1 0 _ rfl;obtain ⟨r1,f1⟩:=hR1 1 _ rfl;obtain ⟨r2,f2⟩:=hR1 2 _ rfl;obtain ⟨r3,f3⟩:=hR1 3 _ rfl;obtain ⟨r4,f4⟩:=hR1 4 _ rfl;obtain ⟨r5,f5⟩:=hR1 5 _ rfl;have y0:=(hB.cell (p:=⟨S,0,none⟩) hlt).trans c0;have y1:=(hB.cell (p:=⟨S,1,none⟩) hlt).trans c1;have y2:=(hB.cell (p:=⟨S,2,none⟩) hlt).trans c2;have y3:=(hB.cell (p:=⟨S,3,none⟩) hlt).trans c3;have hBr:Below w1.heap.size w1 w1:=(Below.refl _ _))
   | fail)
 all_goals (
  have hrz:=hr.stay kp_set (ok':=fun b=>w.heap.size<=b) (w':=putL w1 (S+1) 0 [.string ev,.nilIface,.string tg,.slice u1 ns u3,.int .i64 0,.int .i64 0]) (fun b hb hl=>⟨by have:=HS.out;omega,(putL_heap _ _ _ _ _ (by omega)).trans (hBr.block b hl)⟩)
  have hR2:=(((((hR1.set (i:=0) (by simp) (.string ev)).set (i:=1) (by simp) (.nilIface)).set (i:=2) (by simp) (.string tg)).set (i:=3) (by simp) (.slice u1 ns u3)).set (i:=4) (by simp) (.int .i64 0)).set (i:=5) (by simp) (.int .i64 0)
  have hb2:=putL_below [.string ev,.nilIface,.string tg,.slice u1 ns u3,.int .i64 0,.int .i64 0] w1 (S+1) 0 (hal.trans (hB.mono (by have:=hal.size;omega))) (by have:=HS.out;omega)
  go_wp2
  exact bodyPost_ret (con_res hR2 rfl) rfl ⟨u1,u3,rfl,hrz,hb2⟩)
theorem son_ifc {ok:Nat->Prop}{w:World}(ev tg:ByteArray) (gu:TypeId) (gy:Value) (s1:Option Addr) (ns s3:Nat) (ol oc:Int) (l:List (List UInt8 × Sx)) (h1:ev.size<=140737488351232) (h3:tg.size<=140737488351232) (h2:∀ w1,Calls Tryz.prog 134 #[.iface gu gy] w1 fun e w'=>e=.returned (.iface gu gy)/\Below w1.heap.size w1 w')
  (hs:RdK ok w 2 (rSet ok w) l (.slice s1 ns s3)) (hn:l.length=ns) (hl:ns<=100000) (hok:∀ s∈l,SetOk s):Calls Tryz.prog 78 #[.agg #[.string ev,.iface gu gy,.string tg,.slice s1 ns s3,.int .i64 ol,.int .i64 oc]] w fun e w'=>∃ u1 u3,e=.returned (.agg #[.string ev,.iface gu gy,.string tg,.slice u1 ns u3,.int .i64 0,.int .i64 0])/\RdK (fun b=>w.heap.size<=b) w' 2 (rSet (fun b=>w.heap.size<=b) w') l (.slice u1 ns u3)/\Below w.heap.size w w':=by
 have g1:=fun w1=>pClone_any ev w1 h1
 have g3:=fun w1=>pClone_any tg w1 h3
 have hal:Below w.heap.size w ((w.alloc (.cells #[.string ev,.iface gu gy,.string tg,.slice s1 ns s3,.int .i64 ol,.int .i64 oc] 133)).alloc (.cells #[.string ⟨#[]⟩,.nilIface,.string ⟨#[]⟩,.slice none 0 0,.int .i64 0,.int .i64 0] 133)):=((Below.refl w.heap.size w).alloc Nat.le.refl _).alloc (by simp) _
 have hX:Bn ((w.alloc (.cells #[.string ev,.iface gu gy,.string tg,.slice s1 ns s3,.int .i64 ol,.int .i64 oc] 133)).alloc (.cells #[.string ⟨#[]⟩,.nilIface,.string ⟨#[]⟩,.slice none 0 0,.int .i64 0,.int .i64 0] 133)) w.heap.size [.string ev,.iface gu gy,.string tg,.slice s1 ns s3,.int .i64 ol,.int .i64 oc]:=(Bn.new w [.string ev,.iface gu gy,.string tg,.slice s1 ns s3,.int .i64 ol,.int .i64 oc] 133 _ rfl).on ((Below.refl _ _).alloc Nat.le.refl _)
 have hR:Bn ((w.alloc (.cells #[.string ev,.iface gu gy,.string tg,.slice s1 ns s3,.int .i64 ol,.int .i64 oc] 133)).alloc (.cells #[.string ⟨#[]⟩,.nilIface,.string ⟨#[]⟩,.slice none 0 0,.int .i64 0,.int .i64 0] 133)) (w.heap.size+1) [.string ⟨#[]⟩,.nilIface,.string ⟨#[]⟩,.slice none 0 0,.int .i64 0,.int .i64 0]:=Bn.new (w.alloc (.cells #[.string ev,.iface gu gy,.string tg,.slice s1 ns s3,.int .i64 ol,.int .i64 oc] 133)) [.string ⟨#[]⟩,.nilIface,.string ⟨#[]⟩,.slice none 0 0,.int .i64 0,.int .i64 0] 133 _ (by simp)
 have hsz:w.heap.size+2<=((w.alloc (.cells #[.string ev,.iface gu gy,.string tg,.slice s1 ns s3,.int .i64 ol,.int .i64 oc] 133)).alloc (.cells #[.string ⟨#[]⟩,.nilIface,.string ⟨#[]⟩,.slice none 0 0,.int .i64 0,.int .i64 0] 133)).heap.size:=by simp
 go_enter Tryz.func78,Tryz.ntmps78
 go_upto_region 1 with fail
 generalize ((w.alloc (.cells #[.string ev,.iface gu gy,.string tg,.slice s1 ns s3,.int .i64 ol,.int .i64 oc] 133)).alloc (.cells #[.string ⟨#[]⟩,.nilIface,.string ⟨#[]⟩,.slice none 0 0,.int .i64 0,.int .i64 0] 133))=wx at *
 have hE:∀ w1,Below wx.heap.size wx w1->Calls Tryz.prog 135 #[.slice s1 ns s3,.func (.func 136) #[] #[]] w1 fun e w'=>∃ u1 u3,e=.returned (.slice u1 ns u3)/\RdK (fun b=>wx.heap.size<=b) w' 2 (rSet (fun b=>wx.heap.size<=b) w') l (.slice u1 ns u3)/\Below w1.heap.size w1 w':=fun w1 b1=>by
  have hs1:=hs.stay kp_set (ok':=ok) (w':=w1) (fun b hb hl=>⟨hb,(b1.block b (Nat.lt_of_lt_of_le hl hal.size)).trans (hal.block b hl)⟩)
  refine (eachSet_any hs1 (by omega) hok).mono ?_
  rintro e w' ⟨u,h1,h2,h3⟩
  obtain ⟨u1,u3,rfl,_⟩:=h2.form
  rw [hn] at h1 h2
  exact ⟨u1,u3,h1,h2.stay kp_set (fun b hb hl=>⟨Nat.le_trans b1.size hb,rfl⟩),h3⟩
 have hB:Below wx.heap.size wx wx:=Below.refl _ _
 have c0:=(hX 0 _ rfl).1
 have c1:=(hX 1 _ rfl).1
 have c2:=(hX 2 _ rfl).1
 have c3:=(hX 3 _ rfl).1
 have hlt:=hX.lt
 obtain ⟨S,hS⟩:∃ S,w.heap.size=S:=⟨_,rfl⟩
 rw [hS] at c0 c1 c2 c3 hlt hR hsz ⊢
 have HS:Hid (w.heap.size=S):=hS
 clear hs hX hS
 have n1:S≠S+1:=by omega
 have y0:=c0
 have y1:=c1
 have y2:=c2
 have y3:=c3
 go_region_held_law (fun w'=>w'.cell? ⟨S,0,none⟩=some (.string ev)/\w'.cell? ⟨S,1,none⟩=some (.iface gu gy)/\w'.cell? ⟨S,2,none⟩=some (.string tg)/\w'.cell? ⟨S,3,none⟩=some (.slice s1 ns s3))
  ((refine ⟨?_,?_,?_,?_⟩<;>(repeat (with_reducible first|exact y0|exact y1|exact y2|exact y3|refine cell_dr ?_|refine cell_far4 (ne_pt n1) ?_))<;>done))
  (first
   | (go_at_call 38;(with_reducible refine (g1 _).mono ?_);rintro e w1 ⟨rfl,b1⟩;(first|have hB:=Below.nxd hB b1|have hB:=Below.nx hB b1);have hR1:=hR.on hB;obtain ⟨r0,f0⟩:=hR1 0 _ rfl;obtain ⟨r1,f1⟩:=hR1 1 _ rfl;obtain ⟨r2,f2⟩:=hR1 2 _ rfl;obtain ⟨r3,f3⟩:=hR1 3 _ rfl;obtain ⟨r4,f4⟩:=hR1 4 _ rfl;obtain ⟨r5,f5⟩:=hR1 5 _ rfl;have y0:=(hB.cell (p:=⟨S,0,none⟩) hlt).trans c0;have y1:=(hB.cell (p:=⟨S,1,none⟩) hlt).trans c1;have y2:=(hB.cell (p:=⟨S,2,none⟩) hlt).trans c2;have y3:=(hB.cell (p:=⟨S,3,none⟩) hlt).trans c3;(first|have hBr:=Below.nxd hBr b1|have hBr:=Below.nx hBr b1|skip))
   | (go_at_call 38;(with_reducible refine (g3 _).mono ?_);rintro e w1 ⟨rfl,b1⟩;(first|have hB:=Below.nxd hB b1|have hB:=Below.nx hB b1);have hR1:=hR.on hB;obtain ⟨r0,f0⟩:=hR1 0 _ rfl;obtain ⟨r1,f1⟩:=hR1 1 _ rfl;obtain ⟨r2,f2⟩:=hR1 2 _ rfl;obtain ⟨r3,f3⟩:=hR1 3 _ rfl;obtain ⟨r4,f4⟩:=hR1 4 _ rfl;obtain ⟨r5,f5⟩:=hR1 5 _ rfl;have y0:=(hB.cell (p:=⟨S,0,none⟩) hlt).trans c0;have y1:=(hB.cell (p:=⟨S,1,none⟩) hlt).trans c1;have y2:=(hB.cell (p:=⟨S,2,none⟩) hlt).trans c2;have y3:=(hB.cell (p:=⟨S,3,none⟩) hlt).trans c3;(first|have hBr:=Below.nxd hBr b1|have hBr:=Below.nx hBr b1|skip))
   | (go_at_call 134;(with_reducible refine (h2 _).mono ?_);rintro e w1 ⟨rfl,b1⟩;(first|have hB:=Below.nxd hB b1|have hB:=Below.nx hB b1);have hR1:=hR.on hB;obtain ⟨r0,f0⟩:=hR1 0 _ rfl;obtain ⟨r1,f1⟩:=hR1 1 _ rfl;obtain ⟨r2,f2⟩:=hR1 2 _ rfl;obtain ⟨r3,f3⟩:=hR1 3 _ rfl;obtain ⟨r4,f4⟩:=hR1 4 _ rfl;obtain ⟨r5,f5⟩:=hR1 5 _ rfl;have y0:=(hB.cell (p:=⟨S,0,none⟩) hlt).trans c0;have y1:=(hB.cell (p:=⟨S,1,none⟩) hlt).trans c1;have y2:=(hB.cell (p:=⟨S,2,none⟩) hlt).trans c2;have y3:=(hB.cell (p:=⟨S,3,none⟩) hlt).trans c3;(first|have hBr:=Below.nxd hBr b1|have hBr:=Below.nx hBr b1|skip))
   | (go_at_call 135;(with_reducible first|refine (hE _ hB).mono ?_|refine (hE _ hB.drew).mono ?_);rintro e w1 ⟨u1,u3,rfl,hr,b1⟩;(first|have hB:=Below.nxd hB b1|have hB:=Below.nx hB b1);have hR1:=hR.on hB;obtain ⟨r0,f0⟩:=hR1 0 _ rfl;obtain ⟨r1,f1⟩:=hR1 1 _ rfl;obtain ⟨r2,f2⟩:=hR1 2 _ rfl;obtain ⟨r3,f3⟩:=hR1 3 _ rfl;obtain ⟨r4,f4⟩:=hR1 4 _ rfl;obtain ⟨r5,f5⟩:=hR1 5 _ rfl;have y0:=(hB.cell (p:=⟨S,0,none⟩) hlt).trans c0;have y1:=(hB.cell (p:=⟨S,1,none⟩) hlt).trans c1;have y2:=(hB.cell (p:=⟨S,2,none⟩) hlt).trans c2;have y3:=(hB.cell (p:=⟨S,3,none⟩) hlt).trans c3;have hBr:Below w1.heap.size w1 w1:=(Below.refl _ _))
   | fail)
 all_goals (
  have hrz:=hr.stay kp_set (ok':=fun b=>w.heap.size<=b) (w':=putL w1 (S+1) 0 [.string ev,.iface gu gy,.string tg,.slice u1 ns u3,.int .i64 0,.int .i64 0]) (fun b hb hl=>⟨by have:=HS.out;omega,(putL_heap _ _ _ _ _ (by omega)).trans (hBr.block b hl)⟩)
  have hR2:=(((((hR1.set (i:=0) (by simp) (.string ev)).set (i:=1) (by simp) (.iface gu gy)).set (i:=2) (by simp) (.string tg)).set (i:=3) (by simp) (.slice u1 ns u3)).set (i:=4) (by simp) (.int .i64 0)).set (i:=5) (by simp) (.int .i64 0)
  have hb2:=putL_below [.string ev,.iface gu gy,.string tg,.slice u1 ns u3,.int .i64 0,.int .i64 0] w1 (S+1) 0 (hal.trans (hB.mono (by have:=hal.size;omega))) (by have:=HS.out;omega)
  go_wp2
  exact bodyPost_ret (con_res hR2 rfl) rfl ⟨u1,u3,rfl,hrz,hb2⟩)
theorem Tryz.infoEOn:(Tryz.prog.info? 133).map (fun i=>(i.zero,i.size,i.bytes))=some (some (.agg #[.string ⟨#[]⟩,.nilIface,.string ⟨#[]⟩,.slice none 0 0,.int .i64 0,.int .i64 0]),6,88):=by kernel_rfl
def OnOk (o:OnC):Prop:=o.1.length<=140737488351232/\o.2.2.1.length<=140737488351232/\(o.2.1.1=true->ExOk o.2.1.2)/\(∀ s∈o.2.2.2.1,SetOk s)/\o.2.2.2.1.length<=100000
theorem exOk_no:ExOk noX:=⟨cl_none (d:=0),by show cntX noX<=2000;decide,rfl⟩
theorem onQ_at {ok:Nat->Prop}{w:World}{l:List OnC}{a:Option Addr}{n cap:Nat}(h:RdK ok w 6 (rOn ok w) l (.slice a n cap)) (j:Nat) (hj:j < l.length):∃ b off s1 s3,a=some ⟨b,off,none⟩/\b < w.heap.size/\RdK ok w 2 (rSet ok w) l[j].2.2.2.1 (.slice s1 l[j].2.2.2.1.length s3)/\∀ i u,(onV l[j] (.slice s1 l[j].2.2.2.1.length s3))[i]?=some u->w.cell? ⟨b,off+j*6+i,none⟩=some u:=by
 obtain ⟨a1,cap1,he,h1,h2,h3⟩:=h
 simp only [Value.slice.injEq] at he
 obtain ⟨rfl,rfl,rfl⟩:=he
 obtain ⟨b,off,cs,ha,_,hb,hl,⟨sl,rfl,hs⟩,hc⟩:=h3 j hj
 obtain ⟨s1,s3,rfl,_⟩:=hs.form
 exact ⟨b,off,s1,s3,ha,hb,hs,hc⟩
theorem copG {o:OnC}(h:OnOk o) (w:World):Calls Tryz.prog 134 #[gdV o.2.1] w fun e w'=>e=.returned (gdV o.2.1)/\Below w.heap.size w w':=by
 unfold gdV
 split
 ·next hb=>exact copX (h.2.2.1 hb) w
 ·exact copX exOk_no w
theorem eachOn_any {ok:Nat->Prop}{w:World}{l:List OnC}{v:Value}(h:RdK ok w 6 (rOn ok w) l v) (hl:l.length<=100000) (hok:∀ s∈l,OnOk s) :
  Calls Tryz.prog 77 #[v,.func (.func 78) #[] #[]] w fun e w'=>∃ u,e=.returned u/\RdK (fun b=>w.heap.size<=b) w' 6 (rOn (fun b=>w.heap.size<=b) w') (l.map stO) u/\Below w.heap.size w w':=by
 obtain ⟨ie,hie,hie0,hie1,hie2⟩:=info_parts Tryz.infoEOn
 obtain ⟨a,cap,rfl,hlc,hcm⟩:=h.form
 unfold maxLen at hcm
 have HC:=mkHid h
 have HK:=mkHid hok
 obtain ⟨n,hn⟩:∃ n,l.length=n:=⟨_,rfl⟩
 rw [hn] at hlc hl ⊢
 have HN:Hid (l.length=n):=hn
 clear h hok hn
 have hmk:=run_make (P:=Tryz.prog) w 53 133 ie _ Tryz.underlying53 hie hie0 .i64 .i64 (n:Int) (n:Int) (by omega) (by omega) (by rw [hie2];omega) (by omega)
 rw [Int.toNat_natCast,hie1] at hmk
 have hG0:RowG (w.alloc (.cells (madeCells (.agg #[.string ⟨#[]⟩,.nilIface,.string ⟨#[]⟩,.slice none 0 0,.int .i64 0,.int .i64 0]:Value).cells (n*6)) 133)) w.heap.size 6 n rOn ([]:List (OnC)):=RowG.made w _ 6 n _ _
 have hb0:Below w.heap.size w (w.alloc (.cells (madeCells (.agg #[.string ⟨#[]⟩,.nilIface,.string ⟨#[]⟩,.slice none 0 0,.int .i64 0,.int .i64 0]:Value).cells (n*6)) 133)):=(Below.refl _ _).alloc Nat.le.refl _
 have hs0:(w.alloc (.cells (madeCells (.agg #[.string ⟨#[]⟩,.nilIface,.string ⟨#[]⟩,.slice none 0 0,.int .i64 0,.int .i64 0]:Value).cells (n*6)) 133)).heap.size=w.heap.size+1:=by simp
 generalize w.alloc (.cells (madeCells (.agg #[.string ⟨#[]⟩,.nilIface,.string ⟨#[]⟩,.slice none 0 0,.int .i64 0,.int .i64 0]:Value).cells (n*6)) 133)=w0 at *
 go_enter Tryz.func77,Tryz.ntmps77
 go_wp2
 go_loopw [13] (fun ix wr=>∃ (i:Nat),i<=n/\ix=.int .i64 (i:Int)/\RowG wr w.heap.size 6 n rOn ((l.map stO).take i)/\Below w.heap.size w wr/\w.heap.size < wr.heap.size) (fun ix _=>n - (RowKit.intOf ix).toNat)
 case atStart=>exact ⟨0,Nat.zero_le _,rfl,hG0,hb0,by omega⟩
 case round=>
  obtain ⟨i,hi,rfl,hRow,hb,hGs⟩:=hrel
  clear hG0 hb0 hs0 hmk
  by_cases hlt:i < n
  ·have hil:i < l.length:=by rw [HN.out];exact hlt
   obtain ⟨b,off,s1,s3,rfl,hbl,hSe,hc⟩:=onQ_at HC.out i hil
   have hko:=HK.out _ (List.getElem_mem hil)
   obtain ⟨o,ho⟩:∃ o,l[i]=o:=⟨_,rfl⟩
   rw [ho] at hSe hc hko
   obtain ⟨ns,hns⟩:∃ m,o.2.2.2.1.length=m:=⟨_,rfl⟩
   rw [hns] at hSe hc
   have hg:=copG hko
   obtain ⟨ev,hev⟩:∃ ev:ByteArray,⟨o.1.toArray⟩=ev:=⟨_,rfl⟩
   obtain ⟨tg,htg⟩:∃ tg:ByteArray,⟨o.2.2.1.toArray⟩=tg:=⟨_,rfl⟩
   have hz1:ev.size<=140737488351232:=by rw [<- hev];show o.1.toArray.size<=_;simpa using hko.1
   have hz2:tg.size<=140737488351232:=by rw [<- htg];show o.2.2.1.toArray.size<=_;simpa using hko.2.1
   obtain ⟨ol,hol⟩:∃ x,o.2.2.2.2.1=x:=⟨_,rfl⟩
   obtain ⟨oc,hoc⟩:∃ x,o.2.2.2.2.2=x:=⟨_,rfl⟩
   have hform:=gdV_form o.2.1
   obtain ⟨gv,hgv⟩:∃ gv,gdV o.2.1=gv:=⟨_,rfl⟩
   have hov:∀ sl,onV o sl=[.string ev,gv,.string tg,sl,.int .i64 ol,.int .i64 oc]:=fun sl=>by
    unfold onV sV
    rw [hev,htg,hol,hoc,hgv]
   have hov2:∀ sl,onV (stO o) sl=[.string ev,gv,.string tg,sl,.int .i64 0,.int .i64 0]:=fun sl=>by
    show [sV o.1,gdV o.2.1,sV o.2.2.1,sl,.int .i64 0,.int .i64 0]=_
    unfold sV
    rw [hev,htg,hgv]
   rw [hov] at hc
   rw [hgv] at hform hg
   have HQ:Hid (l[i]=o):=ho
   have HOV:Hid (∀ sl,onV (stO o) sl=[.string ev,gv,.string tg,sl,.int .i64 0,.int .i64 0]):=hov2
   have HNS:Hid (o.2.2.2.1.length=ns):=hns
   have HKO:Hid (OnOk o):=hko
   have HSE:Hid (RdK ok w 2 (rSet ok w) o.2.2.2.1 (.slice s1 ns s3)):=hSe
   clear ho hns hko hSe hev htg hol hoc hgv hov hov2
   obtain ⟨acc,hac⟩:∃ acc,(l.map stO).take i=acc:=⟨_,rfl⟩
   have hla:acc.length=i:=by rw [<- hac];simp [HN.out];omega
   rw [hac] at hRow
   have HAC:Hid ((l.map stO).take i=acc):=hac
   clear hac
   have i1:(i:Int) < (n:Int):=by omega
   have i2:(0:Int)<=(i:Int):=by omega
   have C0:=(hb.cell (p:=⟨b,off+i*6+0,none⟩) hbl).trans (hc 0 _ rfl)
   have C1:=(hb.cell (p:=⟨b,off+i*6+1,none⟩) hbl).trans (hc 1 _ rfl)
   have C2:=(hb.cell (p:=⟨b,off+i*6+2,none⟩) hbl).trans (hc 2 _ rfl)
   have C3:=(hb.cell (p:=⟨b,off+i*6+3,none⟩) hbl).trans (hc 3 _ rfl)
   have C4:=(hb.cell (p:=⟨b,off+i*6+4,none⟩) hbl).trans (hc 4 _ rfl)
   have C5:=(hb.cell (p:=⟨b,off+i*6+5,none⟩) hbl).trans (hc 5 _ rfl)
   rw [Nat.add_zero] at C0
   clear hc
   rcases hform with rfl|⟨gu,gy,rfl⟩
   ·have hal:=(Below.refl wr.heap.size wr).alloc Nat.le.refl (.cells #[.string ev,.nilIface,.string tg,.slice s1 ns s3,.int .i64 ol,.int .i64 oc] 133)
    have hX:=Bn.new wr [.string ev,.nilIface,.string tg,.slice s1 ns s3,.int .i64 ol,.int .i64 oc] 133 _ rfl
    have hRx:=hRow.on kp_on hGs hal
    have hbx:=hb.trans (hal.mono hb.size)
    have hGx:=Nat.lt_of_lt_of_le hGs hal.size
    have hcall:∀ w1,Below w.heap.size w w1->Calls Tryz.prog 78 #[.agg #[.string ev,.nilIface,.string tg,.slice s1 ns s3,.int .i64 ol,.int .i64 oc]] w1 fun e w'=>∃ u1 u3,e=.returned (.agg #[.string ev,.nilIface,.string tg,.slice u1 ns u3,.int .i64 0,.int .i64 0])/\RdK (fun b=>w1.heap.size<=b) w' 2 (rSet (fun b=>w1.heap.size<=b) w') o.2.2.2.1 (.slice u1 ns u3)/\Below w1.heap.size w1 w':=fun w1 b1=>son_nil ev tg s1 ns s3 ol oc o.2.2.2.1 hz1 hz2 hg (HSE.out.stay kp_set (ok':=ok) (fun b hb hl=>⟨hb,b1.block b hl⟩)) HNS.out (by have:=HKO.out.2.2.2.2;rw [HNS.out] at this;exact this) HKO.out.2.2.2.1
    clear hg
    go_upto_region 5 with fail
    clear C0 C1 C2 C3 C4 C5 hal
    generalize wr.alloc (.cells #[.string ev,.nilIface,.string tg,.slice s1 ns s3,.int .i64 ol,.int .i64 oc] 133)=wx at *
    obtain ⟨X,hXX⟩:∃ X,wr.heap.size=X:=⟨_,rfl⟩
    rw [hXX] at hX ⊢
    have HXX:Hid (wr.heap.size=X):=hXX
    clear hXX
    have x0:=(hX 0 _ rfl).1
    have x1:=(hX 1 _ rfl).1
    have x2:=(hX 2 _ rfl).1
    have x3:=(hX 3 _ rfl).1
    have x4:=(hX 4 _ rfl).1
    have x5:=(hX 5 _ rfl).1
    go_wp2_with (first
     | (go_at_call 78;refine (hcall _ hbx).mono ?_;rintro e w1 ⟨u1,u3,rfl,hr,b1⟩;have hp:rOn (fun b=>w.heap.size < b) w1 (stO o) [.string ev,.nilIface,.string tg,.slice u1 ns u3,.int .i64 0,.int .i64 0]:=(⟨.slice u1 ns u3,(HOV.out _).symm,hr.stay kp_set (fun b hb hl=>⟨Nat.lt_of_lt_of_le hGx hb,rfl⟩)⟩);clear hr;have hR1:=hRx.on kp_on hGx b1;obtain ⟨⟨r0,q0⟩,z0⟩:=hR1.1 (i*6+0) (mul_in hlt (by omega));obtain ⟨⟨r1,q1⟩,z1⟩:=hR1.1 (i*6+1) (mul_in hlt (by omega));obtain ⟨⟨r2,q2⟩,z2⟩:=hR1.1 (i*6+2) (mul_in hlt (by omega));obtain ⟨⟨r3,q3⟩,z3⟩:=hR1.1 (i*6+3) (mul_in hlt (by omega));obtain ⟨⟨r4,q4⟩,z4⟩:=hR1.1 (i*6+4) (mul_in hlt (by omega));obtain ⟨⟨r5,q5⟩,z5⟩:=hR1.1 (i*6+5) (mul_in hlt (by omega));rw [Nat.add_zero] at q0 z0)
     | fail)
    have hP:=hR1.put kp_on (x:=stO o) (cs:=[.string ev,.nilIface,.string tg,.slice u1 ns u3,.int .i64 0,.int .i64 0]) (by rw [hla];exact hlt) rfl hp
    rw [hla] at hP
    have hb2:=putL_below [.string ev,.nilIface,.string tg,.slice u1 ns u3,.int .i64 0,.int .i64 0] w1 w.heap.size (i*6) (hbx.trans (b1.mono (Nat.le_of_lt hGx))) Nat.le.refl
    have hs2:w.heap.size < (putL w1 w.heap.size (i*6) [.string ev,.nilIface,.string tg,.slice u1 ns u3,.int .i64 0,.int .i64 0]).heap.size:=by rw [putL_size];exact Nat.lt_of_lt_of_le hGx b1.size
    have hac2:(l.map stO).take (i+1)=acc++[stO o]:=by
     rw [List.take_succ_eq_append_getElem (by simp [HN.out];omega),HAC.out]
     simp [HQ.out]
    clear x0 r0 q0 z0 x1 r1 q1 z1 x2 r2 q2 z2 x3 r3 q3 z3 x4 r4 q4 z4 x5 r5 q5 z5 hR1 hRx hp
    go_wp2
    go_roundw
    case rel=>exact ⟨i+1,hlt,by go_num,by rw [hac2];exact hP,hb2,hs2⟩
    case measure=>simp [RowKit.intOf];omega
   ·have hal:=(Below.refl wr.heap.size wr).alloc Nat.le.refl (.cells #[.string ev,.iface gu gy,.string tg,.slice s1 ns s3,.int .i64 ol,.int .i64 oc] 133)
    have hX:=Bn.new wr [.string ev,.iface gu gy,.string tg,.slice s1 ns s3,.int .i64 ol,.int .i64 oc] 133 _ rfl
    have hRx:=hRow.on kp_on hGs hal
    have hbx:=hb.trans (hal.mono hb.size)
    have hGx:=Nat.lt_of_lt_of_le hGs hal.size
    have hcall:∀ w1,Below w.heap.size w w1->Calls Tryz.prog 78 #[.agg #[.string ev,.iface gu gy,.string tg,.slice s1 ns s3,.int .i64 ol,.int .i64 oc]] w1 fun e w'=>∃ u1 u3,e=.returned (.agg #[.string ev,.iface gu gy,.string tg,.slice u1 ns u3,.int .i64 0,.int .i64 0])/\RdK (fun b=>w1.heap.size<=b) w' 2 (rSet (fun b=>w1.heap.size<=b) w') o.2.2.2.1 (.slice u1 ns u3)/\Below w1.heap.size w1 w':=fun w1 b1=>son_ifc ev tg gu gy s1 ns s3 ol oc o.2.2.2.1 hz1 hz2 hg (HSE.out.stay kp_set (ok':=ok) (fun b hb hl=>⟨hb,b1.block b hl⟩)) HNS.out (by have:=HKO.out.2.2.2.2;rw [HNS.out] at this;exact this) HKO.out.2.2.2.1
    clear hg
    go_upto_region 5 with fail
    clear C0 C1 C2 C3 C4 C5 hal
    generalize wr.alloc (.cells #[.string ev,.iface gu gy,.string tg,.slice s1 ns s3,.int .i64 ol,.int .i64 oc] 133)=wx at *
    obtain ⟨X,hXX⟩:∃ X,wr.heap.size=X:=⟨_,rfl⟩
    rw [hXX] at hX ⊢
    have HXX:Hid (wr.heap.size=X):=hXX
    clear hXX
    have x0:=(hX 0 _ rfl).1
    have x1:=(hX 1 _ rfl).1
    have x2:=(hX 2 _ rfl).1
    have x3:=(hX 3 _ rfl).1
    have x4:=(hX 4 _ rfl).1
    have x5:=(hX 5 _ rfl).1
    go_wp2_with (first
     | (go_at_call 78;refine (hcall _ hbx).mono ?_;rintro e w1 ⟨u1,u3,rfl,hr,b1⟩;have hp:rOn (fun b=>w.heap.size < b) w1 (stO o) [.string ev,.iface gu gy,.string tg,.slice u1 ns u3,.int .i64 0,.int .i64 0]:=(⟨.slice u1 ns u3,(HOV.out _).symm,hr.stay kp_set (fun b hb hl=>⟨Nat.lt_of_lt_of_le hGx hb,rfl⟩)⟩);clear hr;have hR1:=hRx.on kp_on hGx b1;obtain ⟨⟨r0,q0⟩,z0⟩:=hR1.1 (i*6+0) (mul_in hlt (by omega));obtain ⟨⟨r1,q1⟩,z1⟩:=hR1.1 (i*6+1) (mul_in hlt (by omega));obtain ⟨⟨r2,q2⟩,z2⟩:=hR1.1 (i*6+2) (mul_in hlt (by omega));obtain ⟨⟨r3,q3⟩,z3⟩:=hR1.1 (i*6+3) (mul_in hlt (by omega));obtain ⟨⟨r4,q4⟩,z4⟩:=hR1.1 (i*6+4) (mul_in hlt (by omega));obtain ⟨⟨r5,q5⟩,z5⟩:=hR1.1 (i*6+5) (mul_in hlt (by omega));rw [Nat.add_zero] at q0 z0)
     | fail)
    have hP:=hR1.put kp_on (x:=stO o) (cs:=[.string ev,.iface gu gy,.string tg,.slice u1 ns u3,.int .i64 0,.int .i64 0]) (by rw [hla];exact hlt) rfl hp
    rw [hla] at hP
    have hb2:=putL_below [.string ev,.iface gu gy,.string tg,.slice u1 ns u3,.int .i64 0,.int .i64 0] w1 w.heap.size (i*6) (hbx.trans (b1.mono (Nat.le_of_lt hGx))) Nat.le.refl
    have hs2:w.heap.size < (putL w1 w.heap.size (i*6) [.string ev,.iface gu gy,.string tg,.slice u1 ns u3,.int .i64 0,.int .i64 0]).heap.size:=by rw [putL_size];exact Nat.lt_of_lt_of_le hGx b1.size
    have hac2:(l.map stO).take (i+1)=acc++[stO o]:=by
     rw [List.take_succ_eq_append_getElem (by simp [HN.out];omega),HAC.out]
     simp [HQ.out]
    clear x0 r0 q0 z0 x1 r1 q1 z1 x2 r2 q2 z2 x3 r3 q3 z3 x4 r4 q4 z4 x5 r5 q5 z5 hR1 hRx hp
    go_wp2
    go_roundw
    case rel=>exact ⟨i+1,hlt,by go_num,by rw [hac2];exact hP,hb2,hs2⟩
    case measure=>simp [RowKit.intOf];omega
  ·have i1:¬ (i:Int) < (n:Int):=by omega
   have hin:i=n:=by omega
   have hfull:(l.map stO).take i=l.map stO:=List.take_of_length_le (by simp [HN.out];omega)
   rw [hfull] at hRow
   have hrd:=hRow.rd kp_on hGs (by simp [HN.out]) (by unfold maxLen;omega)
   go_wp2
   go_ret
   exact ⟨_,rfl,hrd,hb⟩
def OnK (o:OnC):Prop:=o.1.length<=140737488351232/\o.2.2.1.length<=140737488351232/\(o.2.1.1=true->ExOk o.2.1.2/\cntX o.2.1.2<=1000/\exX o.2.1.2≠.nilIface)/\∀ s∈o.2.2.2.1,SetK s
theorem sV_out (s:List UInt8) (h:s.length<=140737488351232):∃ e:ByteArray,sV s=.string e/\bl e=s/\e.size<=140737488351232:=⟨⟨s.toArray⟩,rfl,by unfold bl;simp,by show s.toArray.size<=_;simpa using h⟩
theorem rnameB (s:ByteArray) (w:World) (hs:s.size<=140737488351232):Calls Tryz.prog 51 #[.string s] w fun e w'=>e=.returned (.bool (plainB (bl s)))/\Below w.heap.size w w':=by
 have h:=rname_any (bl s) w (by unfold bl;simpa using hs)
 have e:sV (bl s)=.string s:=by unfold sV bl;simp
 rw [e] at h
 exact h
theorem rgrd_any {o:OnC}(h:OnK o):(gdV o.2.1=.nilIface/\(!o.2.1.1 || exF o.2.1.2)=true)∨∃ gu gy,gdV o.2.1=.iface gu gy/\∀ w,Pow w->Calls Tryz.prog 159 #[.iface gu gy] w fun e w'=>e=.returned (.bool (!o.2.1.1 || exF o.2.1.2))/\Below w.heap.size w w':=by
 cases hb:o.2.1.1 with
 | false=>
  left
  refine ⟨?_,rfl⟩
  unfold gdV;rw [hb];rfl
 | true=>
  right
  obtain ⟨h1,h2,h3⟩:=h.2.2.1 hb
  have hg:gdV o.2.1=exX o.2.1.2:=by unfold gdV;rw [hb];rfl
  rw [hg]
  rcases exX_form o.2.1.2 with h4|⟨u,y,h4⟩
  ·exact absurd h4 h3
  ·refine ⟨u,y,h4,fun w hw=>?_⟩
   have:=rexp_any h1 h2 w hw
   rw [h4] at this
   exact this
theorem ron_nil (ev tg:ByteArray) (ol oc:Int) (s1:Option Addr) (ns s3:Nat) (bq:Bool) (w:World) (hev:ev.size<=140737488351232) (htg:tg.size<=140737488351232) (hq:∀ w1,Below w.heap.size w w1->Calls Tryz.prog 160 #[.slice s1 ns s3,.func (.func 161) #[] #[]] w1 fun e w'=>e=.returned (.bool bq)/\Below w1.heap.size w1 w'):Calls Tryz.prog 95 #[.agg #[.string ev,.nilIface,.string tg,.slice s1 ns s3,.int .i64 ol,.int .i64 oc]] w fun e w'=>e=.returned (.bool (plainB (bl ev) && ((plainB (bl tg) && bq))))/\Below w.heap.size w w':=by
 have hal:Below w.heap.size w (w.alloc (.cells #[.string ev,.nilIface,.string tg,.slice s1 ns s3,.int .i64 ol,.int .i64 oc] 133)):=(Below.refl w.heap.size w).alloc Nat.le.refl _
 have hX:Bn (w.alloc (.cells #[.string ev,.nilIface,.string tg,.slice s1 ns s3,.int .i64 ol,.int .i64 oc] 133)) w.heap.size [.string ev,.nilIface,.string tg,.slice s1 ns s3,.int .i64 ol,.int .i64 oc]:=Bn.new w [.string ev,.nilIface,.string tg,.slice s1 ns s3,.int .i64 ol,.int .i64 oc] 133 _ rfl
 cases h1:plainB (bl ev)<;>cases h2:plainB (bl tg)<;>cases bq
 all_goals (
  go_enter Tryz.func95,Tryz.ntmps95
  go_upto_region 1 with fail
  generalize (w.alloc (.cells #[.string ev,.nilIface,.string tg,.slice s1 ns s3,.int .i64 ol,.int .i64 oc] 133))=wx at *
  have hB:Below wx.heap.size wx wx:=Below.refl _ _
  have x0:=(hX 0 _ rfl).1
  have x1:=(hX 1 _ rfl).1
  have x2:=(hX 2 _ rfl).1
  have x3:=(hX 3 _ rfl).1
  have x4:=(hX 4 _ rfl).1
  have x5:=(hX 5 _ rfl).1
  go_wp2_with (first
   | (go_at_call 51;refine (rnameB _ _ (by assumption)).mono ?_;rintro e w1 ⟨rfl,b1⟩;simp only [h1,h2];have hB:=Below.nx hB b1;obtain ⟨x1,_⟩:=(hX.on hB) 1 _ rfl;obtain ⟨x2,_⟩:=(hX.on hB) 2 _ rfl;obtain ⟨x3,_⟩:=(hX.on hB) 3 _ rfl)
   | (go_at_call 160;refine (hq _ (hal.trans (hB.mono hal.size))).mono ?_;rintro e w1 ⟨rfl,b1⟩;have hB:=Below.nx hB b1;skip)
   | fail)
  go_ret
  exact ⟨rfl,hal.trans (hB.mono hal.size)⟩)
theorem ron_ifc (ev tg:ByteArray) (gu:TypeId) (gy:Value) (ol oc:Int) (s1:Option Addr) (ns s3:Nat) (be bq:Bool) (w:World) (hev:ev.size<=140737488351232) (htg:tg.size<=140737488351232) (he:∀ w1,Below w.heap.size w w1->Calls Tryz.prog 159 #[.iface gu gy] w1 fun e w'=>e=.returned (.bool be)/\Below w1.heap.size w1 w') (hq:∀ w1,Below w.heap.size w w1->Calls Tryz.prog 160 #[.slice s1 ns s3,.func (.func 161) #[] #[]] w1 fun e w'=>e=.returned (.bool bq)/\Below w1.heap.size w1 w'):Calls Tryz.prog 95 #[.agg #[.string ev,.iface gu gy,.string tg,.slice s1 ns s3,.int .i64 ol,.int .i64 oc]] w fun e w'=>e=.returned (.bool (plainB (bl ev) && (be && (plainB (bl tg) && bq))))/\Below w.heap.size w w':=by
 have hal:Below w.heap.size w (w.alloc (.cells #[.string ev,.iface gu gy,.string tg,.slice s1 ns s3,.int .i64 ol,.int .i64 oc] 133)):=(Below.refl w.heap.size w).alloc Nat.le.refl _
 have hX:Bn (w.alloc (.cells #[.string ev,.iface gu gy,.string tg,.slice s1 ns s3,.int .i64 ol,.int .i64 oc] 133)) w.heap.size [.string ev,.iface gu gy,.string tg,.slice s1 ns s3,.int .i64 ol,.int .i64 oc]:=Bn.new w [.string ev,.iface gu gy,.string tg,.slice s1 ns s3,.int .i64 ol,.int .i64 oc] 133 _ rfl
 cases h1:plainB (bl ev)<;>cases h2:plainB (bl tg)<;>cases bq<;>cases be
 all_goals (
  go_enter Tryz.func95,Tryz.ntmps95
  go_upto_region 1 with fail
  generalize (w.alloc (.cells #[.string ev,.iface gu gy,.string tg,.slice s1 ns s3,.int .i64 ol,.int .i64 oc] 133))=wx at *
  have hB:Below wx.heap.size wx wx:=Below.refl _ _
  have x0:=(hX 0 _ rfl).1
  have x1:=(hX 1 _ rfl).1
  have x2:=(hX 2 _ rfl).1
  have x3:=(hX 3 _ rfl).1
  have x4:=(hX 4 _ rfl).1
  have x5:=(hX 5 _ rfl).1
  go_wp2_with (first
   | (go_at_call 51;refine (rnameB _ _ (by assumption)).mono ?_;rintro e w1 ⟨rfl,b1⟩;simp only [h1,h2];have hB:=Below.nx hB b1;obtain ⟨x1,_⟩:=(hX.on hB) 1 _ rfl;obtain ⟨x2,_⟩:=(hX.on hB) 2 _ rfl;obtain ⟨x3,_⟩:=(hX.on hB) 3 _ rfl)
   | (go_at_call 159;refine (he _ (hal.trans (hB.mono hal.size))).mono ?_;rintro e w1 ⟨rfl,b1⟩;have hB:=Below.nx hB b1;obtain ⟨x2,_⟩:=(hX.on hB) 2 _ rfl;obtain ⟨x3,_⟩:=(hX.on hB) 3 _ rfl)
   | (go_at_call 160;refine (hq _ (hal.trans (hB.mono hal.size))).mono ?_;rintro e w1 ⟨rfl,b1⟩;have hB:=Below.nx hB b1;skip)
   | fail)
  go_ret
  exact ⟨rfl,hal.trans (hB.mono hal.size)⟩)
theorem everyOn_any  {ok:Nat->Prop}{w:World}{l:List (OnC)}{v:Value}(h:RdK ok w 6 (rOn ok w) l v) (hok:∀ s∈l,OnK s) (hp:Pow w) :
  Calls Tryz.prog 94 #[v,.func (.func 95) #[] #[]] w fun e w'=>e=.returned (.bool (l.all (onF)))/\Below w.heap.size w w':=by
 obtain ⟨a,cap,rfl,hlc,hcm⟩:=h.form
 unfold maxLen at hcm
 have HC:=mkHid h
 have HK:=mkHid hok
 obtain ⟨n,hn⟩:∃ n,l.length=n:=⟨_,rfl⟩
 rw [hn] at hlc ⊢
 have HN:Hid (l.length=n):=hn
 obtain ⟨f,hf⟩:∃ f:(OnC)->Bool,(onF)=f:=⟨_,rfl⟩
 rw [hf]
 have HF:=mkHid hf
 obtain ⟨V,HA⟩:∃ V,l.all f=V:=⟨_,rfl⟩
 rw [HA]
 have HAA:=mkHid HA
 clear h hok hn hf HA
 go_enter Tryz.func94,Tryz.ntmps94
 go_wp2
 go_loopw [9] (fun ix wr=>∃ (i:Nat),i<=n/\ix=.int .i64 (i:Int)/\Hid (∀ x∈l.take i,f x=true)/\Below w.heap.size w wr) (fun ix _=>n - (RowKit.intOf ix).toNat)
 case atStart=>exact ⟨0,Nat.zero_le _,rfl,(show Hid _ from fun x hx=>by simp at hx),Below.refl _ _⟩
 case round=>
  obtain ⟨i,hi,rfl,hT,hb⟩:=hrel
  by_cases hlt:i < n
  ·have hil:i < l.length:=by rw [HN.out];exact hlt
   have HA:=HAA.out
   obtain ⟨b,off,s1,s3,rfl,hbl,hSe,hc⟩:=onQ_at HC.out i hil
   have hko:=HK.out _ (List.getElem_mem hil)
   obtain ⟨q,ho⟩:∃ o,l[i]=o:=⟨_,rfl⟩
   have HQ:=mkHid ho
   rw [ho] at hSe hc hko
   obtain ⟨ns,hns⟩:∃ m,q.2.2.2.1.length=m:=⟨_,rfl⟩
   rw [hns] at hSe hc
   have hgd:=rgrd_any hko
   obtain ⟨ev,hev,hevb,hevs⟩:=sV_out q.1 hko.1
   obtain ⟨tg,htg,htgb,htgs⟩:=sV_out q.2.2.1 hko.2.1
   have hfx:f q=(plainB (bl ev) && ((!q.2.1.1 || exF q.2.1.2) && (plainB (bl tg) && q.2.2.2.1.all setF))):=by rw [<- HF.out,hevb,htgb];rfl
   obtain ⟨gv,hgv⟩:∃ gv,gdV q.2.1=gv:=⟨_,rfl⟩
   obtain ⟨be,hbe⟩:∃ be,(!q.2.1.1 || exF q.2.1.2)=be:=⟨_,rfl⟩
   obtain ⟨ol,oc,hov⟩:∃ ol oc,onV q=fun sl=>[sV q.1,gdV q.2.1,sV q.2.2.1,sl,.int .i64 ol,.int .i64 oc]:=⟨_,_,rfl⟩
   rw [hov] at hc
   rw [hev,htg,hgv] at hc
   rw [hgv,hbe] at hgd
   rw [hbe] at hfx
   have HSE:=mkHid hSe
   have HKO:=mkHid hko
   clear ho hns hgv hov hSe hko hev htg hevb htgb hbe
   have i1:(i:Int) < (n:Int):=by omega
   have i2:(0:Int)<=(i:Int):=by omega
   have C0:=(hb.cell (p:=⟨b,off+i*6+0,none⟩) hbl).trans (hc 0 _ rfl)
   have C1:=(hb.cell (p:=⟨b,off+i*6+1,none⟩) hbl).trans (hc 1 _ rfl)
   have C2:=(hb.cell (p:=⟨b,off+i*6+2,none⟩) hbl).trans (hc 2 _ rfl)
   have C3:=(hb.cell (p:=⟨b,off+i*6+3,none⟩) hbl).trans (hc 3 _ rfl)
   have C4:=(hb.cell (p:=⟨b,off+i*6+4,none⟩) hbl).trans (hc 4 _ rfl)
   have C5:=(hb.cell (p:=⟨b,off+i*6+5,none⟩) hbl).trans (hc 5 _ rfl)
   rw [Nat.add_zero] at C0
   clear hc
   rcases hgd with ⟨rfl,rfl⟩|⟨gu,gy,rfl,hex⟩
   ·have hal:Below wr.heap.size wr (wr.alloc (.cells #[.string ev,.nilIface,.string tg,.slice s1 ns s3,.int .i64 ol,.int .i64 oc] 133)):=(Below.refl _ _).alloc Nat.le.refl _
    have hX:Bn (wr.alloc (.cells #[.string ev,.nilIface,.string tg,.slice s1 ns s3,.int .i64 ol,.int .i64 oc] 133)) wr.heap.size [.string ev,.nilIface,.string tg,.slice s1 ns s3,.int .i64 ol,.int .i64 oc]:=Bn.new wr [.string ev,.nilIface,.string tg,.slice s1 ns s3,.int .i64 ol,.int .i64 oc] 133 _ rfl
    have hbx:=hb.trans (hal.mono hb.size)
    have hcall:∀ w1,Below w.heap.size w w1->Calls Tryz.prog 95 #[.agg #[.string ev,.nilIface,.string tg,.slice s1 ns s3,.int .i64 ol,.int .i64 oc]] w1 fun e w'=>e=.returned (.bool (f q))/\Below w1.heap.size w1 w':=fun w1 b1=>by
     rw [hfx]
     exact ron_nil ev tg ol oc s1 ns s3 _ w1 hevs htgs (fun w2 b2=>everySet_any (HSE.out.stay kp_set (ok':=ok) (fun b hb hl=>⟨hb,((b2.block b (Nat.lt_of_lt_of_le hl b1.size)).trans (b1.block b hl))⟩)) HKO.out.2.2.2 ((hp.below b1).below b2))
    clear hfx hevs htgs
    have hac2:Hid (f q=true->(∀ x∈l.take (i+1),f x=true)):=fun hq=>by
     rw [List.take_succ_eq_append_getElem hil,HQ.out]
     intro x hx
     rcases List.mem_append.1 hx with hx|hx
     ·exact hT.out x hx
     ·rw [List.mem_singleton.1 hx];exact hq
    have hall:Hid (f q=false->l.all f=false):=fun hq=>by
     show l.all f=false
     rw [List.all_eq_false]
     exact ⟨q,by rw [<- HQ.out];exact List.getElem_mem hil,by rw [hq];decide⟩
    cases hfq:f q with
    | true=>
     rw [hfq] at hcall
     have hT2:Hid (∀ x∈l.take (i+1),f x=true):=hac2.out hfq
     clear hac2 hall hfq
     go_upto_region 4 with fail
     clear C0 C1 C2 C3 C4 C5
     generalize (wr.alloc (.cells #[.string ev,.nilIface,.string tg,.slice s1 ns s3,.int .i64 ol,.int .i64 oc] 133))=wx at *
     have x0:=(hX 0 _ rfl).1
     have x1:=(hX 1 _ rfl).1
     have x2:=(hX 2 _ rfl).1
     have x3:=(hX 3 _ rfl).1
     have x4:=(hX 4 _ rfl).1
     have x5:=(hX 5 _ rfl).1
     go_wp2_with (first
      | (go_at_call 95;refine (hcall _ hbx).mono ?_;rintro e w1 ⟨rfl,b1⟩)
      | fail)
     have hb2:=hbx.trans (b1.mono hbx.size)
     go_wp2
     go_roundw
     case rel=>exact ⟨i+1,hlt,by go_num,hT2,hb2⟩
     case measure=>simp [RowKit.intOf];omega
    | false=>
     rw [hfq] at hcall
     have hA:=hall.out hfq
     rw [hA] at HA
     subst HA
     clear hac2 hall hfq hA
     go_upto_region 4 with fail
     clear C0 C1 C2 C3 C4 C5
     generalize (wr.alloc (.cells #[.string ev,.nilIface,.string tg,.slice s1 ns s3,.int .i64 ol,.int .i64 oc] 133))=wx at *
     have x0:=(hX 0 _ rfl).1
     have x1:=(hX 1 _ rfl).1
     have x2:=(hX 2 _ rfl).1
     have x3:=(hX 3 _ rfl).1
     have x4:=(hX 4 _ rfl).1
     have x5:=(hX 5 _ rfl).1
     go_wp2_with (first
      | (go_at_call 95;refine (hcall _ hbx).mono ?_;rintro e w1 ⟨rfl,b1⟩)
      | fail)
     go_ret
     exact ⟨rfl,hbx.trans (b1.mono hbx.size)⟩
   ·have hal:Below wr.heap.size wr (wr.alloc (.cells #[.string ev,.iface gu gy,.string tg,.slice s1 ns s3,.int .i64 ol,.int .i64 oc] 133)):=(Below.refl _ _).alloc Nat.le.refl _
    have hX:Bn (wr.alloc (.cells #[.string ev,.iface gu gy,.string tg,.slice s1 ns s3,.int .i64 ol,.int .i64 oc] 133)) wr.heap.size [.string ev,.iface gu gy,.string tg,.slice s1 ns s3,.int .i64 ol,.int .i64 oc]:=Bn.new wr [.string ev,.iface gu gy,.string tg,.slice s1 ns s3,.int .i64 ol,.int .i64 oc] 133 _ rfl
    have hbx:=hb.trans (hal.mono hb.size)
    have hcall:∀ w1,Below w.heap.size w w1->Calls Tryz.prog 95 #[.agg #[.string ev,.iface gu gy,.string tg,.slice s1 ns s3,.int .i64 ol,.int .i64 oc]] w1 fun e w'=>e=.returned (.bool (f q))/\Below w1.heap.size w1 w':=fun w1 b1=>by
     rw [hfx]
     exact ron_ifc ev tg gu gy ol oc s1 ns s3 _ _ w1 hevs htgs (fun w2 b2=>hex w2 ((hp.below b1).below b2)) (fun w2 b2=>everySet_any (HSE.out.stay kp_set (ok':=ok) (fun b hb hl=>⟨hb,((b2.block b (Nat.lt_of_lt_of_le hl b1.size)).trans (b1.block b hl))⟩)) HKO.out.2.2.2 ((hp.below b1).below b2))
    clear hfx hevs htgs hex
    have hac2:Hid (f q=true->(∀ x∈l.take (i+1),f x=true)):=fun hq=>by
     rw [List.take_succ_eq_append_getElem hil,HQ.out]
     intro x hx
     rcases List.mem_append.1 hx with hx|hx
     ·exact hT.out x hx
     ·rw [List.mem_singleton.1 hx];exact hq
    have hall:Hid (f q=false->l.all f=false):=fun hq=>by
     show l.all f=false
     rw [List.all_eq_false]
     exact ⟨q,by rw [<- HQ.out];exact List.getElem_mem hil,by rw [hq];decide⟩
    cases hfq:f q with
    | true=>
     rw [hfq] at hcall
     have hT2:Hid (∀ x∈l.take (i+1),f x=true):=hac2.out hfq
     clear hac2 hall hfq
     go_upto_region 4 with fail
     clear C0 C1 C2 C3 C4 C5
     generalize (wr.alloc (.cells #[.string ev,.iface gu gy,.string tg,.slice s1 ns s3,.int .i64 ol,.int .i64 oc] 133))=wx at *
     have x0:=(hX 0 _ rfl).1
     have x1:=(hX 1 _ rfl).1
     have x2:=(hX 2 _ rfl).1
     have x3:=(hX 3 _ rfl).1
     have x4:=(hX 4 _ rfl).1
     have x5:=(hX 5 _ rfl).1
     go_wp2_with (first
      | (go_at_call 95;refine (hcall _ hbx).mono ?_;rintro e w1 ⟨rfl,b1⟩)
      | fail)
     have hb2:=hbx.trans (b1.mono hbx.size)
     go_wp2
     go_roundw
     case rel=>exact ⟨i+1,hlt,by go_num,hT2,hb2⟩
     case measure=>simp [RowKit.intOf];omega
    | false=>
     rw [hfq] at hcall
     have hA:=hall.out hfq
     rw [hA] at HA
     subst HA
     clear hac2 hall hfq hA
     go_upto_region 4 with fail
     clear C0 C1 C2 C3 C4 C5
     generalize (wr.alloc (.cells #[.string ev,.iface gu gy,.string tg,.slice s1 ns s3,.int .i64 ol,.int .i64 oc] 133))=wx at *
     have x0:=(hX 0 _ rfl).1
     have x1:=(hX 1 _ rfl).1
     have x2:=(hX 2 _ rfl).1
     have x3:=(hX 3 _ rfl).1
     have x4:=(hX 4 _ rfl).1
     have x5:=(hX 5 _ rfl).1
     go_wp2_with (first
      | (go_at_call 95;refine (hcall _ hbx).mono ?_;rintro e w1 ⟨rfl,b1⟩)
      | fail)
     go_ret
     exact ⟨rfl,hbx.trans (b1.mono hbx.size)⟩
  ·have i1:¬ (i:Int) < (n:Int):=by omega
   have hV:V=true:=by
    rw [<- HAA.out,List.all_eq_true]
    have hf:=hT.out
    rw [List.take_of_length_le (by rw [HN.out];omega)] at hf
    exact hf
   subst hV
   go_wp2
   go_ret
   exact ⟨rfl,hb⟩
theorem Tryz.infoEVar:(Tryz.prog.info? 59).map (fun i=>(i.zero,i.size,i.bytes))=some (some (.agg #[.string ⟨#[]⟩,.int .i64 0,.int .i64 0,.int .i64 0]),4,40):=by kernel_rfl
theorem cvar_res {w4:World}{R:Nat}{a b c d:Value}{tmps:Array Value}(hR:Bn w4 R [a,b,c,d]) (ht:tmps.getD 2 undef=.pointer (some ⟨R,0,none⟩)):(results Tryz.f40 tmps).run Tryz.prog w4=.ok (.agg #[a,b,c,d]) w4:=by
 have ht':tmps[2]?.getD undef=.pointer (some ⟨R,0,none⟩):=by simpa using ht
 have c0:=(hR 0 _ rfl).1
 have c1:=(hR 1 _ rfl).1
 have c2:=(hR 2 _ rfl).1
 have c3:=(hR 3 _ rfl).1
 simp [results,Tryz.results40,go_sem,ht',c0,c1,c2,c3]
theorem svar_any (w:World) (nm:ByteArray) (x pl pc:Int) (h1:nm.size<=140737488351232):Calls Tryz.prog 40 #[.agg #[.string nm,.int .i64 x,.int .i64 pl,.int .i64 pc]] w fun e w'=>e=.returned (.agg #[.string nm,.int .i64 x,.int .i64 0,.int .i64 0])/\Below w.heap.size w w':=by
 have g1:=fun w1=>pClone_any nm w1 h1
 have hal:Below w.heap.size w ((w.alloc (.cells #[.string nm,.int .i64 x,.int .i64 pl,.int .i64 pc] 59)).alloc (.cells #[.string ⟨#[]⟩,.int .i64 0,.int .i64 0,.int .i64 0] 59)):=((Below.refl w.heap.size w).alloc Nat.le.refl _).alloc (by simp) _
 have hX:Bn ((w.alloc (.cells #[.string nm,.int .i64 x,.int .i64 pl,.int .i64 pc] 59)).alloc (.cells #[.string ⟨#[]⟩,.int .i64 0,.int .i64 0,.int .i64 0] 59)) w.heap.size [.string nm,.int .i64 x,.int .i64 pl,.int .i64 pc]:=(Bn.new w [.string nm,.int .i64 x,.int .i64 pl,.int .i64 pc] 59 _ rfl).on ((Below.refl _ _).alloc Nat.le.refl _)
 have hR:Bn ((w.alloc (.cells #[.string nm,.int .i64 x,.int .i64 pl,.int .i64 pc] 59)).alloc (.cells #[.string ⟨#[]⟩,.int .i64 0,.int .i64 0,.int .i64 0] 59)) (w.heap.size+1) [.string ⟨#[]⟩,.int .i64 0,.int .i64 0,.int .i64 0]:=Bn.new (w.alloc (.cells #[.string nm,.int .i64 x,.int .i64 pl,.int .i64 pc] 59)) [.string ⟨#[]⟩,.int .i64 0,.int .i64 0,.int .i64 0] 59 _ (by simp)
 go_enter Tryz.func40,Tryz.ntmps40
 go_upto_region 1 with fail
 generalize ((w.alloc (.cells #[.string nm,.int .i64 x,.int .i64 pl,.int .i64 pc] 59)).alloc (.cells #[.string ⟨#[]⟩,.int .i64 0,.int .i64 0,.int .i64 0] 59))=wx at *
 have hB:Below wx.heap.size wx wx:=Below.refl _ _
 have c0:=(hX 0 _ rfl).1
 have c1:=(hX 1 _ rfl).1
 have hlt:=hX.lt
 obtain ⟨S,hS⟩:∃ S,w.heap.size=S:=⟨_,rfl⟩
 rw [hS] at c0 c1 hlt hR ⊢
 have HS:Hid (w.heap.size=S):=hS
 clear hX hS
 have n1:S≠S+1:=by omega
 have y0:=c0
 have y1:=c1
 go_region_held_law (fun w'=>w'.cell? ⟨S,0,none⟩=some (.string nm)/\w'.cell? ⟨S,1,none⟩=some (.int .i64 x))
  ((refine ⟨?_,?_⟩<;>(repeat (with_reducible first|exact y0|exact y1|refine cell_dr ?_|refine cell_far4 (ne_pt n1) ?_))<;>done))
  (first
   | (go_at_call 38;(with_reducible refine (g1 _).mono ?_);rintro e w1 ⟨rfl,b1⟩;(first|have hB:=Below.nxd hB b1|have hB:=Below.nx hB b1);have hR1:=hR.on hB;obtain ⟨r0,f0⟩:=hR1 0 _ rfl;obtain ⟨r1,f1⟩:=hR1 1 _ rfl;obtain ⟨r2,f2⟩:=hR1 2 _ rfl;obtain ⟨r3,f3⟩:=hR1 3 _ rfl;have y0:=(hB.cell (p:=⟨S,0,none⟩) hlt).trans c0;have y1:=(hB.cell (p:=⟨S,1,none⟩) hlt).trans c1)
   | fail)
 all_goals (
  have hR2:=(((hR1.set (i:=0) (by simp) (.string nm)).set (i:=1) (by simp) (.int .i64 x)).set (i:=2) (by simp) (.int .i64 0)).set (i:=3) (by simp) (.int .i64 0)
  have hb2:=putL_below [.string nm,.int .i64 x,.int .i64 0,.int .i64 0] w1 (S+1) 0 (hal.trans (hB.mono (by have:=hal.size;omega))) (by have:=HS.out;omega)
  go_wp2
  exact bodyPost_ret (cvar_res hR2 rfl) rfl ⟨rfl,hb2⟩)
def spV (v:List UInt8 × Int × Pl):List UInt8 × Int × Pl:=(v.1,v.2.1,(0,0))
theorem varQ_at {ok:Nat->Prop}{w:World}{l:List (List UInt8 × Int × Pl)}{a:Option Addr}{n cap:Nat}(h:RdK ok w 4 (rVar ok w) l (.slice a n cap)) (j:Nat) (hj:j < l.length):∃ b off,a=some ⟨b,off,none⟩/\b < w.heap.size/\∀ i u,(varV l[j])[i]?=some u->w.cell? ⟨b,off+j*4+i,none⟩=some u:=by
 obtain ⟨a1,cap1,he,h1,h2,h3⟩:=h
 simp only [Value.slice.injEq] at he
 obtain ⟨rfl,rfl,rfl⟩:=he
 obtain ⟨b,off,cs,ha,_,hb,hl,hr,hc⟩:=h3 j hj
 have hr:cs=varV l[j]:=hr
 subst hr
 exact ⟨b,off,ha,hb,hc⟩
theorem eachVar_any {ok:Nat->Prop}{w:World}{l:List (List UInt8 × Int × Pl)}{v:Value}(h:RdK ok w 4 (rVar ok w) l v) (hl:l.length<=100000) (hok:∀ s∈l,s.1.length<=140737488351232) :
  Calls Tryz.prog 39 #[v,.func (.func 40) #[] #[]] w fun e w'=>∃ u,e=.returned u/\RdK (fun b=>w.heap.size<=b) w' 4 (rVar (fun b=>w.heap.size<=b) w') (l.map spV) u/\Below w.heap.size w w':=by
 obtain ⟨ie,hie,hie0,hie1,hie2⟩:=info_parts Tryz.infoEVar
 obtain ⟨a,cap,rfl,hlc,hcm⟩:=h.form
 unfold maxLen at hcm
 have HC:=mkHid h
 have HK:=mkHid hok
 obtain ⟨n,hn⟩:∃ n,l.length=n:=⟨_,rfl⟩
 rw [hn] at hlc hl ⊢
 have HN:Hid (l.length=n):=hn
 clear h hok hn
 have hmk:=run_make (P:=Tryz.prog) w 30 59 ie _ Tryz.underlying30 hie hie0 .i64 .i64 (n:Int) (n:Int) (by omega) (by omega) (by rw [hie2];omega) (by omega)
 rw [Int.toNat_natCast,hie1] at hmk
 have hG0:RowG (w.alloc (.cells (madeCells (.agg #[.string ⟨#[]⟩,.int .i64 0,.int .i64 0,.int .i64 0]:Value).cells (n*4)) 59)) w.heap.size 4 n rVar ([]:List (List UInt8 × Int × Pl)):=RowG.made w _ 4 n _ _
 have hb0:Below w.heap.size w (w.alloc (.cells (madeCells (.agg #[.string ⟨#[]⟩,.int .i64 0,.int .i64 0,.int .i64 0]:Value).cells (n*4)) 59)):=(Below.refl _ _).alloc Nat.le.refl _
 have hs0:(w.alloc (.cells (madeCells (.agg #[.string ⟨#[]⟩,.int .i64 0,.int .i64 0,.int .i64 0]:Value).cells (n*4)) 59)).heap.size=w.heap.size+1:=by simp
 generalize w.alloc (.cells (madeCells (.agg #[.string ⟨#[]⟩,.int .i64 0,.int .i64 0,.int .i64 0]:Value).cells (n*4)) 59)=w0 at *
 go_enter Tryz.func39,Tryz.ntmps39
 go_wp2
 go_loopw [13] (fun ix wr=>∃ (i:Nat),i<=n/\ix=.int .i64 (i:Int)/\RowG wr w.heap.size 4 n rVar ((l.map spV).take i)/\Below w.heap.size w wr/\w.heap.size < wr.heap.size) (fun ix _=>n - (RowKit.intOf ix).toNat)
 case atStart=>exact ⟨0,Nat.zero_le _,rfl,hG0,hb0,by omega⟩
 case round=>
  obtain ⟨i,hi,rfl,hRow,hb,hGs⟩:=hrel
  clear hG0 hb0 hs0 hmk
  by_cases hlt:i < n
  ·have hil:i < l.length:=by rw [HN.out];exact hlt
   obtain ⟨b,off,rfl,hbl,hc⟩:=varQ_at HC.out i hil
   have hko:=HK.out _ (List.getElem_mem hil)
   obtain ⟨q,hq⟩:∃ q,l[i]=q:=⟨_,rfl⟩
   rw [hq] at hc hko
   obtain ⟨nm,hnm⟩:∃ nm:ByteArray,⟨q.1.toArray⟩=nm:=⟨_,rfl⟩
   have hz1:nm.size<=140737488351232:=by rw [<- hnm];show q.1.toArray.size<=_;simpa using hko
   obtain ⟨x,hx⟩:∃ x,q.2.1=x:=⟨_,rfl⟩
   obtain ⟨pl,hpl⟩:∃ x,q.2.2.1=x:=⟨_,rfl⟩
   obtain ⟨pc,hpc⟩:∃ x,q.2.2.2=x:=⟨_,rfl⟩
   have hv:varV q=[.string nm,.int .i64 x,.int .i64 pl,.int .i64 pc]:=by unfold varV sV;rw [hnm,hx,hpl,hpc]
   have hv2:varV (spV q)=[.string nm,.int .i64 x,.int .i64 0,.int .i64 0]:=by
    show [sV q.1,.int .i64 q.2.1,.int .i64 0,.int .i64 0]=_
    unfold sV;rw [hnm,hx]
   rw [hv] at hc
   have HQ:Hid (l[i]=q):=hq
   have HV2:Hid (varV (spV q)=[.string nm,.int .i64 x,.int .i64 0,.int .i64 0]):=hv2
   clear hq hko hnm hx hpl hpc hv hv2
   obtain ⟨acc,hac⟩:∃ acc,(l.map spV).take i=acc:=⟨_,rfl⟩
   have hla:acc.length=i:=by rw [<- hac];simp [HN.out];omega
   rw [hac] at hRow
   have HAC:Hid ((l.map spV).take i=acc):=hac
   clear hac
   have i1:(i:Int) < (n:Int):=by omega
   have i2:(0:Int)<=(i:Int):=by omega
   have C0:=(hb.cell (p:=⟨b,off+i*4+0,none⟩) hbl).trans (hc 0 _ rfl)
   have C1:=(hb.cell (p:=⟨b,off+i*4+1,none⟩) hbl).trans (hc 1 _ rfl)
   have C2:=(hb.cell (p:=⟨b,off+i*4+2,none⟩) hbl).trans (hc 2 _ rfl)
   have C3:=(hb.cell (p:=⟨b,off+i*4+3,none⟩) hbl).trans (hc 3 _ rfl)
   rw [Nat.add_zero] at C0
   clear hc
   have hal:=(Below.refl wr.heap.size wr).alloc Nat.le.refl (.cells #[.string nm,.int .i64 x,.int .i64 pl,.int .i64 pc] 59)
   have hX:=Bn.new wr [.string nm,.int .i64 x,.int .i64 pl,.int .i64 pc] 59 _ rfl
   have hRx:=hRow.on kp_var hGs hal
   have hbx:=hb.trans (hal.mono hb.size)
   have hGx:=Nat.lt_of_lt_of_le hGs hal.size
   have hcall:∀ w1,Below w.heap.size w w1->Calls Tryz.prog 40 #[.agg #[.string nm,.int .i64 x,.int .i64 pl,.int .i64 pc]] w1 fun e w'=>e=.returned (.agg #[.string nm,.int .i64 x,.int .i64 0,.int .i64 0])/\Below w1.heap.size w1 w':=fun w1 _=>svar_any w1 nm x pl pc hz1
   go_upto_region 5 with fail
   clear C0 C1 C2 C3 hal
   generalize wr.alloc (.cells #[.string nm,.int .i64 x,.int .i64 pl,.int .i64 pc] 59)=wx at *
   obtain ⟨X,hXX⟩:∃ X,wr.heap.size=X:=⟨_,rfl⟩
   rw [hXX] at hX ⊢
   have HXX:Hid (wr.heap.size=X):=hXX
   clear hXX
   have x0:=(hX 0 _ rfl).1
   have x1:=(hX 1 _ rfl).1
   have x2:=(hX 2 _ rfl).1
   have x3:=(hX 3 _ rfl).1
   go_wp2_with (first
    | (go_at_call 40;refine (hcall _ hbx).mono ?_;rintro e w1 ⟨rfl,b1⟩;have hp:rVar (fun b=>w.heap.size < b) w1 (spV q) [.string nm,.int .i64 x,.int .i64 0,.int .i64 0]:=(HV2.out.symm);have hR1:=hRx.on kp_var hGx b1;obtain ⟨⟨r0,q0⟩,z0⟩:=hR1.1 (i*4+0) (mul_in hlt (by omega));obtain ⟨⟨r1,q1⟩,z1⟩:=hR1.1 (i*4+1) (mul_in hlt (by omega));obtain ⟨⟨r2,q2⟩,z2⟩:=hR1.1 (i*4+2) (mul_in hlt (by omega));obtain ⟨⟨r3,q3⟩,z3⟩:=hR1.1 (i*4+3) (mul_in hlt (by omega));rw [Nat.add_zero] at q0 z0)
    | fail)
   have hP:=hR1.put kp_var (x:=spV q) (cs:=[.string nm,.int .i64 x,.int .i64 0,.int .i64 0]) (by rw [hla];exact hlt) rfl hp
   rw [hla] at hP
   have hb2:=putL_below [.string nm,.int .i64 x,.int .i64 0,.int .i64 0] w1 w.heap.size (i*4) (hbx.trans (b1.mono (Nat.le_of_lt hGx))) Nat.le.refl
   have hs2:w.heap.size < (putL w1 w.heap.size (i*4) [.string nm,.int .i64 x,.int .i64 0,.int .i64 0]).heap.size:=by rw [putL_size];exact Nat.lt_of_lt_of_le hGx b1.size
   have hac2:(l.map spV).take (i+1)=acc++[spV q]:=by
    rw [List.take_succ_eq_append_getElem (by simp [HN.out];omega),HAC.out]
    simp [HQ.out]
   clear x0 r0 q0 z0 x1 r1 q1 z1 x2 r2 q2 z2 x3 r3 q3 z3 hR1 hRx hp
   go_wp2
   go_roundw
   case rel=>exact ⟨i+1,hlt,by go_num,by rw [hac2];exact hP,hb2,hs2⟩
   case measure=>simp [RowKit.intOf];omega
  ·have i1:¬ (i:Int) < (n:Int):=by omega
   have hin:i=n:=by omega
   have hfull:(l.map spV).take i=l.map spV:=List.take_of_length_le (by simp [HN.out];omega)
   rw [hfull] at hRow
   have hrd:=hRow.rd kp_var hGs (by simp [HN.out]) (by unfold maxLen;omega)
   go_wp2
   go_ret
   exact ⟨_,rfl,hrd,hb⟩
theorem rvar_any (s0:ByteArray) (x pl pc:Int) (w:World) (hs0:s0.size<=140737488351232):Calls Tryz.prog 54 #[.agg #[.string s0,.int .i64 x,.int .i64 pl,.int .i64 pc]] w fun e w'=>e=.returned (.bool (plainB (bl s0) && decide (-1000000000<=x/\x<=1000000000)))/\Below w.heap.size w w':=by
 have hal:Below w.heap.size w (w.alloc (.cells #[.string s0,.int .i64 x,.int .i64 pl,.int .i64 pc] 59)):=(Below.refl w.heap.size w).alloc Nat.le.refl _
 have hX:Bn (w.alloc (.cells #[.string s0,.int .i64 x,.int .i64 pl,.int .i64 pc] 59)) w.heap.size [.string s0,.int .i64 x,.int .i64 pl,.int .i64 pc]:=Bn.new w [.string s0,.int .i64 x,.int .i64 pl,.int .i64 pc] 59 _ rfl
 cases h1:plainB (bl s0)<;>by_cases h2 : -1000000000<=x<;>by_cases h3:x<=1000000000
 all_goals try (exfalso;omega)
 all_goals simp only [h2,h3,and_self,and_true,true_and,and_false,false_and,decide_true,decide_false]
 all_goals (have H2:=mkHid h2;have H3:=mkHid h3)
 all_goals (
  go_enter Tryz.func54,Tryz.ntmps54
  go_upto_region 1 with fail
  generalize (w.alloc (.cells #[.string s0,.int .i64 x,.int .i64 pl,.int .i64 pc] 59))=wx at *
  have hB:Below wx.heap.size wx wx:=Below.refl _ _
  have x0:=(hX 0 _ rfl).1
  have x1:=(hX 1 _ rfl).1
  have x2:=(hX 2 _ rfl).1
  have x3:=(hX 3 _ rfl).1
  have h2:=H2.out
  have h3:=H3.out
  go_wp2_with (first
   | (go_at_call 51;refine (rnameB _ _ (by assumption)).mono ?_;rintro e w1 ⟨rfl,b1⟩;simp only [h1];have hB:=Below.nx hB b1;obtain ⟨x1,_⟩:=(hX.on hB) 1 _ rfl)
   | fail)
  go_ret
  exact ⟨rfl,hal.trans (hB.mono hal.size)⟩)
theorem everyVar_any  {ok:Nat->Prop}{w:World}{l:List (List UInt8 × Int × Pl)}{v:Value}(h:RdK ok w 4 (rVar ok w) l v) (hok:∀ s∈l,s.1.length<=140737488351232) :
  Calls Tryz.prog 53 #[v,.func (.func 54) #[] #[]] w fun e w'=>e=.returned (.bool (l.all (varF)))/\Below w.heap.size w w':=by
 obtain ⟨a,cap,rfl,hlc,hcm⟩:=h.form
 unfold maxLen at hcm
 have HC:=mkHid h
 have HK:=mkHid hok
 obtain ⟨n,hn⟩:∃ n,l.length=n:=⟨_,rfl⟩
 rw [hn] at hlc ⊢
 have HN:Hid (l.length=n):=hn
 obtain ⟨f,hf⟩:∃ f:(List UInt8 × Int × Pl)->Bool,(varF)=f:=⟨_,rfl⟩
 rw [hf]
 have HF:=mkHid hf
 obtain ⟨V,HA⟩:∃ V,l.all f=V:=⟨_,rfl⟩
 rw [HA]
 have HAA:=mkHid HA
 clear h hok hn hf HA
 go_enter Tryz.func53,Tryz.ntmps53
 go_wp2
 go_loopw [9] (fun ix wr=>∃ (i:Nat),i<=n/\ix=.int .i64 (i:Int)/\Hid (∀ x∈l.take i,f x=true)/\Below w.heap.size w wr) (fun ix _=>n - (RowKit.intOf ix).toNat)
 case atStart=>exact ⟨0,Nat.zero_le _,rfl,(show Hid _ from fun x hx=>by simp at hx),Below.refl _ _⟩
 case round=>
  obtain ⟨i,hi,rfl,hT,hb⟩:=hrel
  by_cases hlt:i < n
  ·have hil:i < l.length:=by rw [HN.out];exact hlt
   have HA:=HAA.out
   obtain ⟨b,off,rfl,hbl,hc⟩:=varQ_at HC.out i hil
   have hks:=HK.out _ (List.getElem_mem hil)
   obtain ⟨q,hq⟩:∃ q,l[i]=q:=⟨_,rfl⟩
   have HQ:=mkHid hq
   rw [hq] at hc hks
   obtain ⟨s0,hs0,hsb,hss⟩:=sV_out q.1 hks
   obtain ⟨x,hx⟩:∃ x,q.2.1=x:=⟨_,rfl⟩
   have hfx:f q=(plainB (bl s0) && decide (-1000000000<=x/\x<=1000000000)):=by rw [<- HF.out,hsb,<- hx];rfl
   obtain ⟨pl,pc,hov⟩:∃ pl pc,varV q=[sV q.1,.int .i64 q.2.1,.int .i64 pl,.int .i64 pc]:=⟨_,_,rfl⟩
   rw [hov,hs0,hx] at hc
   clear hs0 hq hks hx hov hsb
   have i1:(i:Int) < (n:Int):=by omega
   have i2:(0:Int)<=(i:Int):=by omega
   have C0:=(hb.cell (p:=⟨b,off+i*4+0,none⟩) hbl).trans (hc 0 _ rfl)
   have C1:=(hb.cell (p:=⟨b,off+i*4+1,none⟩) hbl).trans (hc 1 _ rfl)
   have C2:=(hb.cell (p:=⟨b,off+i*4+2,none⟩) hbl).trans (hc 2 _ rfl)
   have C3:=(hb.cell (p:=⟨b,off+i*4+3,none⟩) hbl).trans (hc 3 _ rfl)
   rw [Nat.add_zero] at C0
   clear hc
   have hal:Below wr.heap.size wr (wr.alloc (.cells #[.string s0,.int .i64 x,.int .i64 pl,.int .i64 pc] 59)):=(Below.refl _ _).alloc Nat.le.refl _
   have hX:Bn (wr.alloc (.cells #[.string s0,.int .i64 x,.int .i64 pl,.int .i64 pc] 59)) wr.heap.size [.string s0,.int .i64 x,.int .i64 pl,.int .i64 pc]:=Bn.new wr [.string s0,.int .i64 x,.int .i64 pl,.int .i64 pc] 59 _ rfl
   have hbx:=hb.trans (hal.mono hb.size)
   have hcall:∀ w1,Below w.heap.size w w1->Calls Tryz.prog 54 #[.agg #[.string s0,.int .i64 x,.int .i64 pl,.int .i64 pc]] w1 fun e w'=>e=.returned (.bool (f q))/\Below w1.heap.size w1 w':=fun w1 b1=>by
    rw [hfx]
    exact rvar_any s0 x pl pc w1 hss
   clear hfx hss
   have hac2:Hid (f q=true->(∀ x∈l.take (i+1),f x=true)):=fun hq=>by
    rw [List.take_succ_eq_append_getElem hil,HQ.out]
    intro x hx
    rcases List.mem_append.1 hx with hx|hx
    ·exact hT.out x hx
    ·rw [List.mem_singleton.1 hx];exact hq
   have hall:Hid (f q=false->l.all f=false):=fun hq=>by
    show l.all f=false
    rw [List.all_eq_false]
    exact ⟨q,by rw [<- HQ.out];exact List.getElem_mem hil,by rw [hq];decide⟩
   cases hfq:f q with
   | true=>
    rw [hfq] at hcall
    have hT2:Hid (∀ x∈l.take (i+1),f x=true):=hac2.out hfq
    clear hac2 hall hfq
    go_upto_region 4 with fail
    clear C0 C1 C2 C3
    generalize (wr.alloc (.cells #[.string s0,.int .i64 x,.int .i64 pl,.int .i64 pc] 59))=wx at *
    have x0:=(hX 0 _ rfl).1
    have x1:=(hX 1 _ rfl).1
    have x2:=(hX 2 _ rfl).1
    have x3:=(hX 3 _ rfl).1
    go_wp2_with (first
     | (go_at_call 54;refine (hcall _ hbx).mono ?_;rintro e w1 ⟨rfl,b1⟩)
     | fail)
    have hb2:=hbx.trans (b1.mono hbx.size)
    go_wp2
    go_roundw
    case rel=>exact ⟨i+1,hlt,by go_num,hT2,hb2⟩
    case measure=>simp [RowKit.intOf];omega
   | false=>
    rw [hfq] at hcall
    have hA:=hall.out hfq
    rw [hA] at HA
    subst HA
    clear hac2 hall hfq hA
    go_upto_region 4 with fail
    clear C0 C1 C2 C3
    generalize (wr.alloc (.cells #[.string s0,.int .i64 x,.int .i64 pl,.int .i64 pc] 59))=wx at *
    have x0:=(hX 0 _ rfl).1
    have x1:=(hX 1 _ rfl).1
    have x2:=(hX 2 _ rfl).1
    have x3:=(hX 3 _ rfl).1
    go_wp2_with (first
     | (go_at_call 54;refine (hcall _ hbx).mono ?_;rintro e w1 ⟨rfl,b1⟩)
     | fail)
    go_ret
    exact ⟨rfl,hbx.trans (b1.mono hbx.size)⟩
  ·have i1:¬ (i:Int) < (n:Int):=by omega
   have hV:V=true:=by
    rw [<- HAA.out,List.all_eq_true]
    have hf:=hT.out
    rw [List.take_of_length_le (by rw [HN.out];omega)] at hf
    exact hf
   subst hV
   go_wp2
   go_ret
   exact ⟨rfl,hb⟩
theorem cst_res {w4:World}{R:Nat}{a b c d e f g h i j k:Value}{tmps:Array Value}(hR:Bn w4 R [a,b,c,d,e,f,g,h,i,j,k]) (ht:tmps.getD 2 undef=.pointer (some ⟨R,0,none⟩)):(results Tryz.f42 tmps).run Tryz.prog w4=.ok (.agg #[a,b,c,d,e,f,g,h,i,j,k]) w4:=by
 have ht':tmps[2]?.getD undef=.pointer (some ⟨R,0,none⟩):=by simpa using ht
 have c0:=(hR 0 _ rfl).1
 have c1:=(hR 1 _ rfl).1
 have c2:=(hR 2 _ rfl).1
 have c3:=(hR 3 _ rfl).1
 have c4:=(hR 4 _ rfl).1
 have c5:=(hR 5 _ rfl).1
 have c6:=(hR 6 _ rfl).1
 have c7:=(hR 7 _ rfl).1
 have c8:=(hR 8 _ rfl).1
 have c9:=(hR 9 _ rfl).1
 have c10:=(hR 10 _ rfl).1
 simp [results,Tryz.results42,go_sem,ht',c0,c1,c2,c3,c4,c5,c6,c7,c8,c9,c10]
theorem salone_any {ok:Nat->Prop}{w:World}(sn:ByteArray) (sl sc:Int) (sb se:Bool) (sd su:ByteArray) (sw sr:Int) (p1:Option Addr) (m p3:Nat) (p4:Option Addr) (i p6:Nat) (l:List OnC) (h1:sn.size<=140737488351232) (h2:sd.size<=140737488351232) (h3:su.size<=140737488351232)
  (hs:RdK ok w 6 (rOn ok w) l (.slice p1 m p3)) (hn:l.length=m) (hl:m<=100000) (hok:∀ s∈l,OnOk s):Calls Tryz.prog 42 #[.agg #[.string sn,.int .i64 sl,.int .i64 sc,.bool sb,.bool se,.string sd,.string su,.int .i64 sw,.int .i64 sr,.slice p1 m p3,.slice p4 i p6]] w fun e w'=>∃ u1 u3,e=.returned (.agg #[.string sn,.int .i64 0,.int .i64 0,.bool sb,.bool se,.string sd,.string su,.int .i64 sw,.int .i64 sr,.slice u1 m u3,.slice p4 i p6])/\RdK (fun b=>w.heap.size<=b) w' 6 (rOn (fun b=>w.heap.size<=b) w') (l.map stO) (.slice u1 m u3)/\Below w.heap.size w w':=by
 have g1:=fun w1=>pClone_any sn w1 h1
 have g2:=fun w1=>pClone_any sd w1 h2
 have g3:=fun w1=>pClone_any su w1 h3
 have hal:Below w.heap.size w ((w.alloc (.cells #[.string sn,.int .i64 sl,.int .i64 sc,.bool sb,.bool se,.string sd,.string su,.int .i64 sw,.int .i64 sr,.slice p1 m p3,.slice p4 i p6] 55)).alloc (.cells #[.string ⟨#[]⟩,.int .i64 0,.int .i64 0,.bool false,.bool false,.string ⟨#[]⟩,.string ⟨#[]⟩,.int .i64 0,.int .i64 0,.slice none 0 0,.slice none 0 0] 55)):=((Below.refl w.heap.size w).alloc Nat.le.refl _).alloc (by simp) _
 have hX:Bn ((w.alloc (.cells #[.string sn,.int .i64 sl,.int .i64 sc,.bool sb,.bool se,.string sd,.string su,.int .i64 sw,.int .i64 sr,.slice p1 m p3,.slice p4 i p6] 55)).alloc (.cells #[.string ⟨#[]⟩,.int .i64 0,.int .i64 0,.bool false,.bool false,.string ⟨#[]⟩,.string ⟨#[]⟩,.int .i64 0,.int .i64 0,.slice none 0 0,.slice none 0 0] 55)) w.heap.size [.string sn,.int .i64 sl,.int .i64 sc,.bool sb,.bool se,.string sd,.string su,.int .i64 sw,.int .i64 sr,.slice p1 m p3,.slice p4 i p6]:=(Bn.new w [.string sn,.int .i64 sl,.int .i64 sc,.bool sb,.bool se,.string sd,.string su,.int .i64 sw,.int .i64 sr,.slice p1 m p3,.slice p4 i p6] 55 _ rfl).on ((Below.refl _ _).alloc Nat.le.refl _)
 have hR:Bn ((w.alloc (.cells #[.string sn,.int .i64 sl,.int .i64 sc,.bool sb,.bool se,.string sd,.string su,.int .i64 sw,.int .i64 sr,.slice p1 m p3,.slice p4 i p6] 55)).alloc (.cells #[.string ⟨#[]⟩,.int .i64 0,.int .i64 0,.bool false,.bool false,.string ⟨#[]⟩,.string ⟨#[]⟩,.int .i64 0,.int .i64 0,.slice none 0 0,.slice none 0 0] 55)) (w.heap.size+1) [.string ⟨#[]⟩,.int .i64 0,.int .i64 0,.bool false,.bool false,.string ⟨#[]⟩,.string ⟨#[]⟩,.int .i64 0,.int .i64 0,.slice none 0 0,.slice none 0 0]:=Bn.new (w.alloc (.cells #[.string sn,.int .i64 sl,.int .i64 sc,.bool sb,.bool se,.string sd,.string su,.int .i64 sw,.int .i64 sr,.slice p1 m p3,.slice p4 i p6] 55)) [.string ⟨#[]⟩,.int .i64 0,.int .i64 0,.bool false,.bool false,.string ⟨#[]⟩,.string ⟨#[]⟩,.int .i64 0,.int .i64 0,.slice none 0 0,.slice none 0 0] 55 _ (by simp)
 have hsz:w.heap.size+2<=((w.alloc (.cells #[.string sn,.int .i64 sl,.int .i64 sc,.bool sb,.bool se,.string sd,.string su,.int .i64 sw,.int .i64 sr,.slice p1 m p3,.slice p4 i p6] 55)).alloc (.cells #[.string ⟨#[]⟩,.int .i64 0,.int .i64 0,.bool false,.bool false,.string ⟨#[]⟩,.string ⟨#[]⟩,.int .i64 0,.int .i64 0,.slice none 0 0,.slice none 0 0] 55)).heap.size:=by simp
 go_enter Tryz.func42,Tryz.ntmps42
 go_upto_region 1 with fail
 generalize ((w.alloc (.cells #[.string sn,.int .i64 sl,.int .i64 sc,.bool sb,.bool se,.string sd,.string su,.int .i64 sw,.int .i64 sr,.slice p1 m p3,.slice p4 i p6] 55)).alloc (.cells #[.string ⟨#[]⟩,.int .i64 0,.int .i64 0,.bool false,.bool false,.string ⟨#[]⟩,.string ⟨#[]⟩,.int .i64 0,.int .i64 0,.slice none 0 0,.slice none 0 0] 55))=wx at *
 obtain ⟨c0,e0⟩:=hX 0 _ rfl
 go_upto_region 2 with (first
  | (go_at_call 38;refine (g1 _).mono ?_;rintro e w1 ⟨rfl,b1⟩;have hX1:=hX.on b1;obtain ⟨x0,y0⟩:=hX1 0 _ rfl))
 have hX2:=hX1.set (i:=0) (by simp) (.string sn)
 have hR2:=(hR.on b1).far (X:=w.heap.size) (i:=0) (by omega) (.string sn)
 have hB2:Below w.heap.size w (w1.setCell ⟨w.heap.size,0,none⟩ (.string sn)):=(hal.trans (b1.mono (by omega))).setCell Nat.le.refl _
 have hs2:w.heap.size+2<=(w1.setCell ⟨w.heap.size,0,none⟩ (.string sn)).heap.size:=by simpa using Nat.le_trans hsz b1.size
 clear hX hR hX1 x0 y0 c0 e0 b1 hal hsz
 generalize w1.setCell ⟨w.heap.size,0,none⟩ (.string sn)=w2 at *
 obtain ⟨a1,q1⟩:=hX2 1 _ rfl
 obtain ⟨a2,q2⟩:=hX2 2 _ rfl
 go_upto_region 3 with fail
 have hX3:=(hX2.set (i:=1) (by simp) (.int .i64 0)).set (i:=2) (by simp) (.int .i64 0)
 have hR3:=(hR2.far (X:=w.heap.size) (i:=1) (by omega) (.int .i64 0)).far (X:=w.heap.size) (i:=2) (by omega) (.int .i64 0)
 have hB3:Below w.heap.size w ((w2.setCell ⟨w.heap.size,1,none⟩ (.int .i64 0)).setCell ⟨w.heap.size,2,none⟩ (.int .i64 0)):=(hB2.setCell (p:=⟨w.heap.size,1,none⟩) Nat.le.refl _).setCell (p:=⟨w.heap.size,2,none⟩) Nat.le.refl _
 have hs3:w.heap.size+2<=((w2.setCell ⟨w.heap.size,1,none⟩ (.int .i64 0)).setCell ⟨w.heap.size,2,none⟩ (.int .i64 0)).heap.size:=by simpa using hs2
 clear hX2 hR2 hB2 hs2 a1 q1 a2 q2
 generalize (w2.setCell ⟨w.heap.size,1,none⟩ (.int .i64 0)).setCell ⟨w.heap.size,2,none⟩ (.int .i64 0)=w3 at *
 obtain ⟨c5,e5⟩:=hX3 5 _ rfl
 go_upto_region 4 with (first
  | (go_at_call 38;refine (g2 _).mono ?_;rintro e w4 ⟨rfl,b4⟩;have hX4:=hX3.on b4;obtain ⟨x5,y5⟩:=hX4 5 _ rfl))
 have hX5:=hX4.set (i:=5) (by simp) (.string sd)
 have hR5:=(hR3.on b4).far (X:=w.heap.size) (i:=5) (by omega) (.string sd)
 have hB5:Below w.heap.size w (w4.setCell ⟨w.heap.size,5,none⟩ (.string sd)):=(hB3.trans (b4.mono (by omega))).setCell Nat.le.refl _
 have hs5:w.heap.size+2<=(w4.setCell ⟨w.heap.size,5,none⟩ (.string sd)).heap.size:=by simpa using Nat.le_trans hs3 b4.size
 clear hX3 hR3 hX4 x5 y5 c5 e5 b4 hB3 hs3
 generalize w4.setCell ⟨w.heap.size,5,none⟩ (.string sd)=w5 at *
 obtain ⟨c6,e6⟩:=hX5 6 _ rfl
 go_upto_region 5 with (first
  | (go_at_call 38;refine (g3 _).mono ?_;rintro e w6 ⟨rfl,b6⟩;have hX6:=hX5.on b6;obtain ⟨x6,y6⟩:=hX6 6 _ rfl))
 have hX7:=hX6.set (i:=6) (by simp) (.string su)
 have hR7:=(hR5.on b6).far (X:=w.heap.size) (i:=6) (by omega) (.string su)
 have hB7:Below w.heap.size w (w6.setCell ⟨w.heap.size,6,none⟩ (.string su)):=(hB5.trans (b6.mono (by omega))).setCell Nat.le.refl _
 have hs7:w.heap.size+2<=(w6.setCell ⟨w.heap.size,6,none⟩ (.string su)).heap.size:=by simpa using Nat.le_trans hs5 b6.size
 clear hX5 hR5 hX6 x6 y6 c6 e6 b6 hB5 hs5
 generalize w6.setCell ⟨w.heap.size,6,none⟩ (.string su)=w7 at *
 have hE:Calls Tryz.prog 77 #[.slice p1 m p3,.func (.func 78) #[] #[]] w7 fun e w'=>∃ u1 u3,e=.returned (.slice u1 m u3)/\RdK (fun b=>w7.heap.size<=b) w' 6 (rOn (fun b=>w7.heap.size<=b) w') (l.map stO) (.slice u1 m u3)/\Below w7.heap.size w7 w':=by
  refine (eachOn_any (hs.stay kp_on (ok':=ok) (w':=w7) (fun b hb hl=>⟨hb,hB7.block b hl⟩)) (by omega) hok).mono ?_
  rintro e w' ⟨u,h1,h2,h3⟩
  obtain ⟨u1,u3,rfl,_⟩:=h2.form
  rw [List.length_map,hn] at h1 h2
  exact ⟨u1,u3,h1,h2,h3⟩
 obtain ⟨c9,e9⟩:=hX7 9 _ rfl
 go_upto_region 6 with (first
  | (go_at_call 77;refine hE.mono ?_;rintro e w8 ⟨u1,u3,rfl,hr,b8⟩;have hX8:=hX7.on b8;obtain ⟨x9,y9⟩:=hX8 9 _ rfl))
 have hX9:Bn (w8.setCell ⟨w.heap.size,9,none⟩ (.slice u1 m u3)) w.heap.size [.string sn,.int .i64 0,.int .i64 0,.bool sb,.bool se,.string sd,.string su,.int .i64 sw,.int .i64 sr,.slice u1 m u3,.slice p4 i p6]:=hX8.set (i:=9) (by simp) (.slice u1 m u3)
 have hR9:=(hR7.on b8).far (X:=w.heap.size) (i:=9) (by omega) (.slice u1 m u3)
 have hB9:Below w.heap.size w (w8.setCell ⟨w.heap.size,9,none⟩ (.slice u1 m u3)):=(hB7.trans (b8.mono (by omega))).setCell Nat.le.refl _
 have hr9:=hr.stay kp_on (ok':=fun b=>w.heap.size+2<=b) (w':=w8.setCell ⟨w.heap.size,9,none⟩ (.slice u1 m u3)) (fun b hb hl=>⟨by omega,Below.heap_setCell _ _ _ _ (fun e=>by have e2:b=w.heap.size:=e;omega)⟩)
 clear hX7 hR7 hX8 x9 y9 c9 e9 b8 hB7 hs7 hr hE
 generalize w8.setCell ⟨w.heap.size,9,none⟩ (.slice u1 m u3)=w9 at *
 have k0:=(hX9 0 _ rfl).1
 obtain ⟨r0,f0⟩:=hR9 0 _ rfl
 have k1:=(hX9 1 _ rfl).1
 obtain ⟨r1,f1⟩:=hR9 1 _ rfl
 have k2:=(hX9 2 _ rfl).1
 obtain ⟨r2,f2⟩:=hR9 2 _ rfl
 have k3:=(hX9 3 _ rfl).1
 obtain ⟨r3,f3⟩:=hR9 3 _ rfl
 have k4:=(hX9 4 _ rfl).1
 obtain ⟨r4,f4⟩:=hR9 4 _ rfl
 have k5:=(hX9 5 _ rfl).1
 obtain ⟨r5,f5⟩:=hR9 5 _ rfl
 have k6:=(hX9 6 _ rfl).1
 obtain ⟨r6,f6⟩:=hR9 6 _ rfl
 have k7:=(hX9 7 _ rfl).1
 obtain ⟨r7,f7⟩:=hR9 7 _ rfl
 have k8:=(hX9 8 _ rfl).1
 obtain ⟨r8,f8⟩:=hR9 8 _ rfl
 have k9:=(hX9 9 _ rfl).1
 obtain ⟨r9,f9⟩:=hR9 9 _ rfl
 have k10:=(hX9 10 _ rfl).1
 obtain ⟨r10,f10⟩:=hR9 10 _ rfl
 have hRz:=((((((((((hR9.set (i:=0) (by simp) (.string sn)).set (i:=1) (by simp) (.int .i64 0)).set (i:=2) (by simp) (.int .i64 0)).set (i:=3) (by simp) (.bool sb)).set (i:=4) (by simp) (.bool se)).set (i:=5) (by simp) (.string sd)).set (i:=6) (by simp) (.string su)).set (i:=7) (by simp) (.int .i64 sw)).set (i:=8) (by simp) (.int .i64 sr)).set (i:=9) (by simp) (.slice u1 m u3)).set (i:=10) (by simp) (.slice p4 i p6)
 have hbz:=putL_below [.string sn,.int .i64 0,.int .i64 0,.bool sb,.bool se,.string sd,.string su,.int .i64 sw,.int .i64 sr,.slice u1 m u3,.slice p4 i p6] w9 (w.heap.size+1) 0 hB9 (by omega)
 have hrz:=hr9.stay kp_on (ok':=fun b=>w.heap.size<=b) (w':=putL w9 (w.heap.size+1) 0 [.string sn,.int .i64 0,.int .i64 0,.bool sb,.bool se,.string sd,.string su,.int .i64 sw,.int .i64 sr,.slice u1 m u3,.slice p4 i p6]) (fun b hb hl=>⟨by omega,putL_heap _ _ _ _ _ (by omega)⟩)
 go_wp2
 exact bodyPost_ret (cst_res hRz rfl) rfl ⟨u1,u3,rfl,hrz,hbz⟩
