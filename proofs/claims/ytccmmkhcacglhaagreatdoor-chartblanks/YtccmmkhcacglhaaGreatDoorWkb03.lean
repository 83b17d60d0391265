import Derived.Test.YtccmmkhcacglhaaGreatDoorWkc18
import Derived.Test.YtccmmkhcacglhaaGreatDoorWkc17
import Derived.Test.YtccmmkhcacglhaaGreatDoorWkc05

/- What the program's stripOn is. -/
namespace Go.Proofs.YtccmmkhcacglhaaGreatDoor
open Go.RowKit Go.Lib
set_option linter.unusedSimpArgs false
set_option linter.unusedVariables false
attribute [local go_sem ↓] Go.wp_at_zero Go.wp_at_succ

theorem con_res {w4 : World} {R : Nat} {a b c d e f : Value} {tmps : Array Value} (hR : Bn w4 R [a, b, c, d, e, f]) (ht : tmps.getD 2 undef = .pointer (some ⟨R, 0, none⟩)) : (results Tryz.f89 tmps).run Tryz.prog w4 = .ok (.agg #[a, b, c, d, e, f]) w4 := by
  have ht' : tmps[2]?.getD undef = .pointer (some ⟨R, 0, none⟩) := by simpa using ht
  have c0 := (hR 0 _ rfl).1
  have c1 := (hR 1 _ rfl).1
  have c2 := (hR 2 _ rfl).1
  have c3 := (hR 3 _ rfl).1
  have c4 := (hR 4 _ rfl).1
  have c5 := (hR 5 _ rfl).1
  simp [results, Tryz.results89, go_sem, ht', c0, c1, c2, c3, c4, c5]
set_option maxRecDepth 100000 in
set_option maxHeartbeats 16000000 in
theorem son_nil {ok : Nat → Prop} {w : World} (ev tg : ByteArray) (s1 : Option Addr) (ns s3 : Nat) (ol oc : Int) (l : List (List UInt8 × Sx)) (h1 : ev.size ≤ 140737488351232) (h3 : tg.size ≤ 140737488351232) (h2 : ∀ w1, Calls Tryz.prog 127 #[.nilIface] w1 fun e w' => e = .returned (.nilIface) ∧ Below w1.heap.size w1 w')
    (hs : RdK ok w 2 (rSet ok w) l (.slice s1 ns s3)) (hn : l.length = ns) (hl : ns ≤ 100000) (hok : ∀ s ∈ l, SetOk s) : Calls Tryz.prog 89 #[.agg #[.string ev, .nilIface, .string tg, .slice s1 ns s3, .int .i64 ol, .int .i64 oc]] w fun e w' => ∃ u1 u3, e = .returned (.agg #[.string ev, .nilIface, .string tg, .slice u1 ns u3, .int .i64 0, .int .i64 0]) ∧ RdK (fun b => w.heap.size ≤ b) w' 2 (rSet (fun b => w.heap.size ≤ b) w') l (.slice u1 ns u3) ∧ Below w.heap.size w w' := by
  have g1 := fun w1 => pClone_any ev w1 h1
  have g3 := fun w1 => pClone_any tg w1 h3
  have hal : Below w.heap.size w ((w.alloc (.cells #[.string ev, .nilIface, .string tg, .slice s1 ns s3, .int .i64 ol, .int .i64 oc] 142)).alloc (.cells #[.string ⟨#[]⟩, .nilIface, .string ⟨#[]⟩, .slice none 0 0, .int .i64 0, .int .i64 0] 142)) := ((Below.refl w.heap.size w).alloc (Nat.le_refl _) _).alloc (by simp) _
  have hX : Bn ((w.alloc (.cells #[.string ev, .nilIface, .string tg, .slice s1 ns s3, .int .i64 ol, .int .i64 oc] 142)).alloc (.cells #[.string ⟨#[]⟩, .nilIface, .string ⟨#[]⟩, .slice none 0 0, .int .i64 0, .int .i64 0] 142)) w.heap.size [.string ev, .nilIface, .string tg, .slice s1 ns s3, .int .i64 ol, .int .i64 oc] := (Bn.new w [.string ev, .nilIface, .string tg, .slice s1 ns s3, .int .i64 ol, .int .i64 oc] 142 _ rfl).on ((Below.refl _ _).alloc (Nat.le_refl _) _)
  have hR : Bn ((w.alloc (.cells #[.string ev, .nilIface, .string tg, .slice s1 ns s3, .int .i64 ol, .int .i64 oc] 142)).alloc (.cells #[.string ⟨#[]⟩, .nilIface, .string ⟨#[]⟩, .slice none 0 0, .int .i64 0, .int .i64 0] 142)) (w.heap.size + 1) [.string ⟨#[]⟩, .nilIface, .string ⟨#[]⟩, .slice none 0 0, .int .i64 0, .int .i64 0] := Bn.new (w.alloc (.cells #[.string ev, .nilIface, .string tg, .slice s1 ns s3, .int .i64 ol, .int .i64 oc] 142)) [.string ⟨#[]⟩, .nilIface, .string ⟨#[]⟩, .slice none 0 0, .int .i64 0, .int .i64 0] 142 _ (by simp)
  have hsz : w.heap.size + 2 ≤ ((w.alloc (.cells #[.string ev, .nilIface, .string tg, .slice s1 ns s3, .int .i64 ol, .int .i64 oc] 142)).alloc (.cells #[.string ⟨#[]⟩, .nilIface, .string ⟨#[]⟩, .slice none 0 0, .int .i64 0, .int .i64 0] 142)).heap.size := by simp
  go_enter Tryz.func89, Tryz.ntmps89
  go_upto_region 1 with fail
  generalize ((w.alloc (.cells #[.string ev, .nilIface, .string tg, .slice s1 ns s3, .int .i64 ol, .int .i64 oc] 142)).alloc (.cells #[.string ⟨#[]⟩, .nilIface, .string ⟨#[]⟩, .slice none 0 0, .int .i64 0, .int .i64 0] 142)) = wx at *
  have hE : ∀ w1, Below wx.heap.size wx w1 → Calls Tryz.prog 128 #[.slice s1 ns s3, .func (.func 129) #[] #[]] w1 fun e w' => ∃ u1 u3, e = .returned (.slice u1 ns u3) ∧ RdK (fun b => wx.heap.size ≤ b) w' 2 (rSet (fun b => wx.heap.size ≤ b) w') l (.slice u1 ns u3) ∧ Below w1.heap.size w1 w' := fun w1 b1 => by
    have hs1 := hs.stay kp_set (ok' := ok) (w' := w1) (fun b hb hl => ⟨hb, (b1.block b (Nat.lt_of_lt_of_le hl hal.size)).trans (hal.block b hl)⟩)
    refine (eachSet_any hs1 (by omega) hok).mono ?_
    rintro e w' ⟨u, h1, h2, h3⟩
    obtain ⟨u1, u3, rfl, _⟩ := h2.form
    rw [hn] at h1 h2
    exact ⟨u1, u3, h1, h2.stay kp_set (fun b hb hl => ⟨Nat.le_trans b1.size hb, rfl⟩), h3⟩
  have hB : Below wx.heap.size wx wx := Below.refl _ _
  obtain ⟨c0, _⟩ := hX 0 _ rfl
  obtain ⟨c1, _⟩ := hX 1 _ rfl
  obtain ⟨c2, _⟩ := hX 2 _ rfl
  obtain ⟨c3, _⟩ := hX 3 _ rfl
  have hlt := hX.lt
  obtain ⟨S, hS⟩ : ∃ S, w.heap.size = S := ⟨_, rfl⟩
  rw [hS] at c0 c1 c2 c3 hlt hR hsz ⊢
  have HS : Hid (w.heap.size = S) := hS
  clear hs hX hS
  have n1 : S ≠ S + 1 := by omega
  have y0 := c0
  have y1 := c1
  have y2 := c2
  have y3 := c3
  go_region_held_law (fun w' => w'.cell? ⟨S, 0, none⟩ = some (.string ev) ∧ w'.cell? ⟨S, 1, none⟩ = some (.nilIface) ∧ w'.cell? ⟨S, 2, none⟩ = some (.string tg) ∧ w'.cell? ⟨S, 3, none⟩ = some (.slice s1 ns s3))
    ((refine ⟨?_, ?_, ?_, ?_⟩ <;> (repeat (first | (with_reducible exact y0) | (with_reducible exact y1) | (with_reducible exact y2) | (with_reducible exact y3) | (with_reducible refine cell_dr ?_) | (with_reducible refine cell_far4 (ne_pt n1) ?_))) <;> done))
    (first
      | (go_at_call 46; (with_reducible refine (g1 _).mono ?_); rintro e w1 ⟨rfl, b1⟩; (first | have hB := Below.nxd hB b1 | have hB := Below.nx hB b1); have hR1 := hR.on hB; obtain ⟨r0, f0⟩ := hR1 0 _ rfl; obtain ⟨r1, f1⟩ := hR1 1 _ rfl; obtain ⟨r2, f2⟩ := hR1 2 _ rfl; obtain ⟨r3, f3⟩ := hR1 3 _ rfl; obtain ⟨r4, f4⟩ := hR1 4 _ rfl; obtain ⟨r5, f5⟩ := hR1 5 _ rfl; have y0 := (hB.cell (p := ⟨S, 0, none⟩) hlt).trans c0; have y1 := (hB.cell (p := ⟨S, 1, none⟩) hlt).trans c1; have y2 := (hB.cell (p := ⟨S, 2, none⟩) hlt).trans c2; have y3 := (hB.cell (p := ⟨S, 3, none⟩) hlt).trans c3; (first | have hBr := Below.nxd hBr b1 | have hBr := Below.nx hBr b1 | skip))
      | (go_at_call 46; (with_reducible refine (g3 _).mono ?_); rintro e w1 ⟨rfl, b1⟩; (first | have hB := Below.nxd hB b1 | have hB := Below.nx hB b1); have hR1 := hR.on hB; obtain ⟨r0, f0⟩ := hR1 0 _ rfl; obtain ⟨r1, f1⟩ := hR1 1 _ rfl; obtain ⟨r2, f2⟩ := hR1 2 _ rfl; obtain ⟨r3, f3⟩ := hR1 3 _ rfl; obtain ⟨r4, f4⟩ := hR1 4 _ rfl; obtain ⟨r5, f5⟩ := hR1 5 _ rfl; have y0 := (hB.cell (p := ⟨S, 0, none⟩) hlt).trans c0; have y1 := (hB.cell (p := ⟨S, 1, none⟩) hlt).trans c1; have y2 := (hB.cell (p := ⟨S, 2, none⟩) hlt).trans c2; have y3 := (hB.cell (p := ⟨S, 3, none⟩) hlt).trans c3; (first | have hBr := Below.nxd hBr b1 | have hBr := Below.nx hBr b1 | skip))
      | (go_at_call 127; (with_reducible refine (h2 _).mono ?_); rintro e w1 ⟨rfl, b1⟩; (first | have hB := Below.nxd hB b1 | have hB := Below.nx hB b1); have hR1 := hR.on hB; obtain ⟨r0, f0⟩ := hR1 0 _ rfl; obtain ⟨r1, f1⟩ := hR1 1 _ rfl; obtain ⟨r2, f2⟩ := hR1 2 _ rfl; obtain ⟨r3, f3⟩ := hR1 3 _ rfl; obtain ⟨r4, f4⟩ := hR1 4 _ rfl; obtain ⟨r5, f5⟩ := hR1 5 _ rfl; have y0 := (hB.cell (p := ⟨S, 0, none⟩) hlt).trans c0; have y1 := (hB.cell (p := ⟨S, 1, none⟩) hlt).trans c1; have y2 := (hB.cell (p := ⟨S, 2, none⟩) hlt).trans c2; have y3 := (hB.cell (p := ⟨S, 3, none⟩) hlt).trans c3; (first | have hBr := Below.nxd hBr b1 | have hBr := Below.nx hBr b1 | skip))
      | (go_at_call 128; (first | (with_reducible refine (hE _ hB).mono ?_) | (with_reducible refine (hE _ hB.drew).mono ?_)); rintro e w1 ⟨u1, u3, rfl, hr, b1⟩; (first | have hB := Below.nxd hB b1 | have hB := Below.nx hB b1); have hR1 := hR.on hB; obtain ⟨r0, f0⟩ := hR1 0 _ rfl; obtain ⟨r1, f1⟩ := hR1 1 _ rfl; obtain ⟨r2, f2⟩ := hR1 2 _ rfl; obtain ⟨r3, f3⟩ := hR1 3 _ rfl; obtain ⟨r4, f4⟩ := hR1 4 _ rfl; obtain ⟨r5, f5⟩ := hR1 5 _ rfl; have y0 := (hB.cell (p := ⟨S, 0, none⟩) hlt).trans c0; have y1 := (hB.cell (p := ⟨S, 1, none⟩) hlt).trans c1; have y2 := (hB.cell (p := ⟨S, 2, none⟩) hlt).trans c2; have y3 := (hB.cell (p := ⟨S, 3, none⟩) hlt).trans c3; have hBr : Below w1.heap.size w1 w1 := (Below.refl _ _))
      | fail)
  all_goals (
    have hrz := hr.stay kp_set (ok' := fun b => w.heap.size ≤ b) (w' := putL w1 (S + 1) 0 [.string ev, .nilIface, .string tg, .slice u1 ns u3, .int .i64 0, .int .i64 0]) (fun b hb hl => ⟨by have := HS.out; omega, (putL_heap _ _ _ _ _ (by omega)).trans (hBr.block b hl)⟩)
    have hR2 := (((((hR1.set (i := 0) (by simp) (.string ev)).set (i := 1) (by simp) (.nilIface)).set (i := 2) (by simp) (.string tg)).set (i := 3) (by simp) (.slice u1 ns u3)).set (i := 4) (by simp) (.int .i64 0)).set (i := 5) (by simp) (.int .i64 0)
    have hb2 := putL_below [.string ev, .nilIface, .string tg, .slice u1 ns u3, .int .i64 0, .int .i64 0] w1 (S + 1) 0 (hal.trans (hB.mono (by have := hal.size; omega))) (by have := HS.out; omega)
    go_wp2
    exact bodyPost_ret (con_res hR2 rfl) rfl ⟨u1, u3, rfl, hrz, hb2⟩)
set_option maxRecDepth 100000 in
set_option maxHeartbeats 16000000 in
theorem son_ifc {ok : Nat → Prop} {w : World} (ev tg : ByteArray) (gu : TypeId) (gy : Value) (s1 : Option Addr) (ns s3 : Nat) (ol oc : Int) (l : List (List UInt8 × Sx)) (h1 : ev.size ≤ 140737488351232) (h3 : tg.size ≤ 140737488351232) (h2 : ∀ w1, Calls Tryz.prog 127 #[.iface gu gy] w1 fun e w' => e = .returned (.iface gu gy) ∧ Below w1.heap.size w1 w')
    (hs : RdK ok w 2 (rSet ok w) l (.slice s1 ns s3)) (hn : l.length = ns) (hl : ns ≤ 100000) (hok : ∀ s ∈ l, SetOk s) : Calls Tryz.prog 89 #[.agg #[.string ev, .iface gu gy, .string tg, .slice s1 ns s3, .int .i64 ol, .int .i64 oc]] w fun e w' => ∃ u1 u3, e = .returned (.agg #[.string ev, .iface gu gy, .string tg, .slice u1 ns u3, .int .i64 0, .int .i64 0]) ∧ RdK (fun b => w.heap.size ≤ b) w' 2 (rSet (fun b => w.heap.size ≤ b) w') l (.slice u1 ns u3) ∧ Below w.heap.size w w' := by
  have g1 := fun w1 => pClone_any ev w1 h1
  have g3 := fun w1 => pClone_any tg w1 h3
  have hal : Below w.heap.size w ((w.alloc (.cells #[.string ev, .iface gu gy, .string tg, .slice s1 ns s3, .int .i64 ol, .int .i64 oc] 142)).alloc (.cells #[.string ⟨#[]⟩, .nilIface, .string ⟨#[]⟩, .slice none 0 0, .int .i64 0, .int .i64 0] 142)) := ((Below.refl w.heap.size w).alloc (Nat.le_refl _) _).alloc (by simp) _
  have hX : Bn ((w.alloc (.cells #[.string ev, .iface gu gy, .string tg, .slice s1 ns s3, .int .i64 ol, .int .i64 oc] 142)).alloc (.cells #[.string ⟨#[]⟩, .nilIface, .string ⟨#[]⟩, .slice none 0 0, .int .i64 0, .int .i64 0] 142)) w.heap.size [.string ev, .iface gu gy, .string tg, .slice s1 ns s3, .int .i64 ol, .int .i64 oc] := (Bn.new w [.string ev, .iface gu gy, .string tg, .slice s1 ns s3, .int .i64 ol, .int .i64 oc] 142 _ rfl).on ((Below.refl _ _).alloc (Nat.le_refl _) _)
  have hR : Bn ((w.alloc (.cells #[.string ev, .iface gu gy, .string tg, .slice s1 ns s3, .int .i64 ol, .int .i64 oc] 142)).alloc (.cells #[.string ⟨#[]⟩, .nilIface, .string ⟨#[]⟩, .slice none 0 0, .int .i64 0, .int .i64 0] 142)) (w.heap.size + 1) [.string ⟨#[]⟩, .nilIface, .string ⟨#[]⟩, .slice none 0 0, .int .i64 0, .int .i64 0] := Bn.new (w.alloc (.cells #[.string ev, .iface gu gy, .string tg, .slice s1 ns s3, .int .i64 ol, .int .i64 oc] 142)) [.string ⟨#[]⟩, .nilIface, .string ⟨#[]⟩, .slice none 0 0, .int .i64 0, .int .i64 0] 142 _ (by simp)
  have hsz : w.heap.size + 2 ≤ ((w.alloc (.cells #[.string ev, .iface gu gy, .string tg, .slice s1 ns s3, .int .i64 ol, .int .i64 oc] 142)).alloc (.cells #[.string ⟨#[]⟩, .nilIface, .string ⟨#[]⟩, .slice none 0 0, .int .i64 0, .int .i64 0] 142)).heap.size := by simp
  go_enter Tryz.func89, Tryz.ntmps89
  go_upto_region 1 with fail
  generalize ((w.alloc (.cells #[.string ev, .iface gu gy, .string tg, .slice s1 ns s3, .int .i64 ol, .int .i64 oc] 142)).alloc (.cells #[.string ⟨#[]⟩, .nilIface, .string ⟨#[]⟩, .slice none 0 0, .int .i64 0, .int .i64 0] 142)) = wx at *
  have hE : ∀ w1, Below wx.heap.size wx w1 → Calls Tryz.prog 128 #[.slice s1 ns s3, .func (.func 129) #[] #[]] w1 fun e w' => ∃ u1 u3, e = .returned (.slice u1 ns u3) ∧ RdK (fun b => wx.heap.size ≤ b) w' 2 (rSet (fun b => wx.heap.size ≤ b) w') l (.slice u1 ns u3) ∧ Below w1.heap.size w1 w' := fun w1 b1 => by
    have hs1 := hs.stay kp_set (ok' := ok) (w' := w1) (fun b hb hl => ⟨hb, (b1.block b (Nat.lt_of_lt_of_le hl hal.size)).trans (hal.block b hl)⟩)
    refine (eachSet_any hs1 (by omega) hok).mono ?_
    rintro e w' ⟨u, h1, h2, h3⟩
    obtain ⟨u1, u3, rfl, _⟩ := h2.form
    rw [hn] at h1 h2
    exact ⟨u1, u3, h1, h2.stay kp_set (fun b hb hl => ⟨Nat.le_trans b1.size hb, rfl⟩), h3⟩
  have hB : Below wx.heap.size wx wx := Below.refl _ _
  obtain ⟨c0, _⟩ := hX 0 _ rfl
  obtain ⟨c1, _⟩ := hX 1 _ rfl
  obtain ⟨c2, _⟩ := hX 2 _ rfl
  obtain ⟨c3, _⟩ := hX 3 _ rfl
  have hlt := hX.lt
  obtain ⟨S, hS⟩ : ∃ S, w.heap.size = S := ⟨_, rfl⟩
  rw [hS] at c0 c1 c2 c3 hlt hR hsz ⊢
  have HS : Hid (w.heap.size = S) := hS
  clear hs hX hS
  have n1 : S ≠ S + 1 := by omega
  have y0 := c0
  have y1 := c1
  have y2 := c2
  have y3 := c3
  go_region_held_law (fun w' => w'.cell? ⟨S, 0, none⟩ = some (.string ev) ∧ w'.cell? ⟨S, 1, none⟩ = some (.iface gu gy) ∧ w'.cell? ⟨S, 2, none⟩ = some (.string tg) ∧ w'.cell? ⟨S, 3, none⟩ = some (.slice s1 ns s3))
    ((refine ⟨?_, ?_, ?_, ?_⟩ <;> (repeat (first | (with_reducible exact y0) | (with_reducible exact y1) | (with_reducible exact y2) | (with_reducible exact y3) | (with_reducible refine cell_dr ?_) | (with_reducible refine cell_far4 (ne_pt n1) ?_))) <;> done))
    (first
      | (go_at_call 46; (with_reducible refine (g1 _).mono ?_); rintro e w1 ⟨rfl, b1⟩; (first | have hB := Below.nxd hB b1 | have hB := Below.nx hB b1); have hR1 := hR.on hB; obtain ⟨r0, f0⟩ := hR1 0 _ rfl; obtain ⟨r1, f1⟩ := hR1 1 _ rfl; obtain ⟨r2, f2⟩ := hR1 2 _ rfl; obtain ⟨r3, f3⟩ := hR1 3 _ rfl; obtain ⟨r4, f4⟩ := hR1 4 _ rfl; obtain ⟨r5, f5⟩ := hR1 5 _ rfl; have y0 := (hB.cell (p := ⟨S, 0, none⟩) hlt).trans c0; have y1 := (hB.cell (p := ⟨S, 1, none⟩) hlt).trans c1; have y2 := (hB.cell (p := ⟨S, 2, none⟩) hlt).trans c2; have y3 := (hB.cell (p := ⟨S, 3, none⟩) hlt).trans c3; (first | have hBr := Below.nxd hBr b1 | have hBr := Below.nx hBr b1 | skip))
      | (go_at_call 46; (with_reducible refine (g3 _).mono ?_); rintro e w1 ⟨rfl, b1⟩; (first | have hB := Below.nxd hB b1 | have hB := Below.nx hB b1); have hR1 := hR.on hB; obtain ⟨r0, f0⟩ := hR1 0 _ rfl; obtain ⟨r1, f1⟩ := hR1 1 _ rfl; obtain ⟨r2, f2⟩ := hR1 2 _ rfl; obtain ⟨r3, f3⟩ := hR1 3 _ rfl; obtain ⟨r4, f4⟩ := hR1 4 _ rfl; obtain ⟨r5, f5⟩ := hR1 5 _ rfl; have y0 := (hB.cell (p := ⟨S, 0, none⟩) hlt).trans c0; have y1 := (hB.cell (p := ⟨S, 1, none⟩) hlt).trans c1; have y2 := (hB.cell (p := ⟨S, 2, none⟩) hlt).trans c2; have y3 := (hB.cell (p := ⟨S, 3, none⟩) hlt).trans c3; (first | have hBr := Below.nxd hBr b1 | have hBr := Below.nx hBr b1 | skip))
      | (go_at_call 127; (with_reducible refine (h2 _).mono ?_); rintro e w1 ⟨rfl, b1⟩; (first | have hB := Below.nxd hB b1 | have hB := Below.nx hB b1); have hR1 := hR.on hB; obtain ⟨r0, f0⟩ := hR1 0 _ rfl; obtain ⟨r1, f1⟩ := hR1 1 _ rfl; obtain ⟨r2, f2⟩ := hR1 2 _ rfl; obtain ⟨r3, f3⟩ := hR1 3 _ rfl; obtain ⟨r4, f4⟩ := hR1 4 _ rfl; obtain ⟨r5, f5⟩ := hR1 5 _ rfl; have y0 := (hB.cell (p := ⟨S, 0, none⟩) hlt).trans c0; have y1 := (hB.cell (p := ⟨S, 1, none⟩) hlt).trans c1; have y2 := (hB.cell (p := ⟨S, 2, none⟩) hlt).trans c2; have y3 := (hB.cell (p := ⟨S, 3, none⟩) hlt).trans c3; (first | have hBr := Below.nxd hBr b1 | have hBr := Below.nx hBr b1 | skip))
      | (go_at_call 128; (first | (with_reducible refine (hE _ hB).mono ?_) | (with_reducible refine (hE _ hB.drew).mono ?_)); rintro e w1 ⟨u1, u3, rfl, hr, b1⟩; (first | have hB := Below.nxd hB b1 | have hB := Below.nx hB b1); have hR1 := hR.on hB; obtain ⟨r0, f0⟩ := hR1 0 _ rfl; obtain ⟨r1, f1⟩ := hR1 1 _ rfl; obtain ⟨r2, f2⟩ := hR1 2 _ rfl; obtain ⟨r3, f3⟩ := hR1 3 _ rfl; obtain ⟨r4, f4⟩ := hR1 4 _ rfl; obtain ⟨r5, f5⟩ := hR1 5 _ rfl; have y0 := (hB.cell (p := ⟨S, 0, none⟩) hlt).trans c0; have y1 := (hB.cell (p := ⟨S, 1, none⟩) hlt).trans c1; have y2 := (hB.cell (p := ⟨S, 2, none⟩) hlt).trans c2; have y3 := (hB.cell (p := ⟨S, 3, none⟩) hlt).trans c3; have hBr : Below w1.heap.size w1 w1 := (Below.refl _ _))
      | fail)
  all_goals (
    have hrz := hr.stay kp_set (ok' := fun b => w.heap.size ≤ b) (w' := putL w1 (S + 1) 0 [.string ev, .iface gu gy, .string tg, .slice u1 ns u3, .int .i64 0, .int .i64 0]) (fun b hb hl => ⟨by have := HS.out; omega, (putL_heap _ _ _ _ _ (by omega)).trans (hBr.block b hl)⟩)
    have hR2 := (((((hR1.set (i := 0) (by simp) (.string ev)).set (i := 1) (by simp) (.iface gu gy)).set (i := 2) (by simp) (.string tg)).set (i := 3) (by simp) (.slice u1 ns u3)).set (i := 4) (by simp) (.int .i64 0)).set (i := 5) (by simp) (.int .i64 0)
    have hb2 := putL_below [.string ev, .iface gu gy, .string tg, .slice u1 ns u3, .int .i64 0, .int .i64 0] w1 (S + 1) 0 (hal.trans (hB.mono (by have := hal.size; omega))) (by have := HS.out; omega)
    go_wp2
    exact bodyPost_ret (con_res hR2 rfl) rfl ⟨u1, u3, rfl, hrz, hb2⟩)
end Go.Proofs.YtccmmkhcacglhaaGreatDoor

/- Words that are alike but for their places make charts that are alike but for theirs. Math alone. -/
namespace Go.Proofs.YtccmmkhcacglhaaGreatDoor
open Go.RowKit Go.Lib
set_option linter.unusedVariables false
/-- Readers that are alike but for places. -/
def Lk (r r' : RsC) : Prop := r.1.map tkW = r'.1.map tkW ∧ r.2.2 = r'.2.2
theorem Lk.len {r r' : RsC} (h : Lk r r') : r.1.length = r'.1.length := by
  have := congrArg List.length h.1
  rwa [List.length_map, List.length_map] at this
theorem Lk.drop {r r' : RsC} (h : Lk r r') (n : Nat) : Lk (r.1.drop n, r.2) (r'.1.drop n, r'.2) := by
  refine ⟨?_, h.2⟩
  show (r.1.drop n).map tkW = (r'.1.drop n).map tkW
  rw [List.map_drop, List.map_drop, h.1]
theorem Lk.fail {r r' : RsC} (h : Lk r r') (e : Int) (p p' : Pl) : Lk (failC e p r) (failC e p' r') := by
  unfold failC
  rw [← h.2]
  split
  · exact ⟨h.1, rfl⟩
  · exact h
theorem Lk.isq {r r' : RsC} (h : Lk r r') (s : List UInt8) : isC s r = isC s r' := by
  unfold isC
  rw [h.2]
  have h1 := h.1
  cases hr : r.1 with
  | nil =>
    rw [hr] at h1
    cases hr' : r'.1 with
    | nil => rfl
    | cons w l => rw [hr'] at h1; simp at h1
  | cons w l =>
    rw [hr] at h1
    cases hr' : r'.1 with
    | nil => rw [hr'] at h1; simp at h1
    | cons w' l' =>
      rw [hr', List.map_cons, List.map_cons] at h1
      injection h1 with h2 h3
      simp only [h2]
theorem Lk.tail {r r' : RsC} (h : Lk r r') : Lk (r.1.tail, r.2) (r'.1.tail, r'.2) := by
  have := h.drop 1
  rwa [List.drop_one, List.drop_one] at this
theorem Lk.take {r r' : RsC} (h : Lk r r') (fin fin' : Pl) (s : List UInt8) : Lk (takeR fin s r) (takeR fin' s r') := by
  unfold takeR
  rw [← h.isq s]
  split
  · exact h.tail
  · exact h.fail _ _ _
theorem Lk.cons {r r' : RsC} (h : Lk r r') : (r.1 = [] ∧ r'.1 = []) ∨ ∃ w l w' l', r.1 = w :: l ∧ r'.1 = w' :: l' ∧ tkW w = tkW w' ∧ l.map tkW = l'.map tkW := by
  have h1 := h.1
  cases hr : r.1 with
  | nil =>
    rw [hr] at h1
    cases hr' : r'.1 with
    | nil => exact .inl ⟨rfl, rfl⟩
    | cons w l => rw [hr'] at h1; simp at h1
  | cons w l =>
    rw [hr] at h1
    cases hr' : r'.1 with
    | nil => rw [hr'] at h1; simp at h1
    | cons w' l' =>
      rw [hr', List.map_cons, List.map_cons] at h1
      injection h1 with h2 h3
      exact .inr ⟨w, l, w', l', rfl, rfl, h2, h3⟩
theorem Lk.name {r r' : RsC} (h : Lk r r') (fin fin' : Pl) : (nameR fin r).1.1 = (nameR fin' r').1.1 ∧ Lk (nameR fin r).2 (nameR fin' r').2 := by
  unfold nameR
  rcases h.cons with ⟨h1, h2⟩ | ⟨w, l, w', l', h1, h2, h3, h4⟩
  · rw [h1, h2]; exact ⟨rfl, h.fail _ _ _⟩
  · rw [h1, h2]
    simp only
    rw [← h.2, ← h3]
    split
    · exact ⟨rfl, h4, h.2⟩
    · exact ⟨rfl, h.fail _ _ _⟩
theorem Lk.num {r r' : RsC} (h : Lk r r') (fin fin' : Pl) : (numR fin r).1 = (numR fin' r').1 ∧ Lk (numR fin r).2 (numR fin' r').2 := by
  unfold numR
  rcases h.cons with ⟨h1, h2⟩ | ⟨w, l, w', l', h1, h2, h3, h4⟩
  · rw [h1, h2]; exact ⟨rfl, h.fail _ _ _⟩
  · rw [h1, h2]
    have hk : w.1 = w'.1 := congrArg (fun x : Tk => x.1) h3
    simp only
    rw [← h.2, ← h3, ← hk]
    split
    · exact ⟨rfl, h4, h.2⟩
    · exact ⟨rfl, h.fail _ _ _⟩
theorem Lk.expr {r r' : RsC} (h : Lk r r') (fin fin' : Pl) : (exprR fin r).1 = (exprR fin' r').1 ∧ Lk (exprR fin r).2 (exprR fin' r').2 := by
  unfold exprR
  rw [← h.1, ← h.2]
  split
  · exact ⟨rfl, h⟩
  · split
    · exact ⟨rfl, h.drop _⟩
    · split
      · exact ⟨rfl, h.fail _ _ _⟩
      · exact ⟨rfl, (h.drop _).fail _ _ _⟩
theorem Lk.sets (fin fin' : Pl) : ∀ (g : Nat) (acc : List (List UInt8 × Sx)) {r r' : RsC}, Lk r r' → (setsR fin g acc r).1 = (setsR fin' g acc r').1 ∧ Lk (setsR fin g acc r).2 (setsR fin' g acc r').2
  | 0, acc, r, r', h => ⟨rfl, h⟩
  | g + 1, acc, r, r', h => by
    unfold setsR
    rw [← h.isq wSet]
    split
    · obtain ⟨a1, a2⟩ := (h.take fin fin' wSet).name fin fin'
      obtain ⟨b1, b2⟩ := (a2.take fin fin' [61]).expr fin fin'
      simp only
      rw [a1, b1]
      exact Lk.sets fin fin' g _ b2
    · exact ⟨rfl, h⟩
/-- An on without its place. -/
def stO (o : OnC) : OnC := (o.1, o.2.1, o.2.2.1, o.2.2.2.1, (0, 0))
theorem Lk.on {r r' : RsC} (h : Lk r r') (fin fin' : Pl) : stO (onR fin r).1 = stO (onR fin' r').1 ∧ Lk (onR fin r).2 (onR fin' r').2 := by
  unfold onR
  obtain ⟨a1, a2⟩ := (h.take fin fin' wOn).name fin fin'
  simp only
  generalize nameR fin (takeR fin wOn r) = A at *
  generalize nameR fin' (takeR fin' wOn r') = A' at *
  have hg : (if isC wIf A.2 = true then ((fun x => ((true, x.1), x.2)) (exprR fin (takeR fin wIf A.2)) : (Bool × Sx) × RsC) else ((false, noX), A.2)).1 = (if isC wIf A'.2 = true then ((fun x => ((true, x.1), x.2)) (exprR fin' (takeR fin' wIf A'.2)) : (Bool × Sx) × RsC) else ((false, noX), A'.2)).1 ∧
      Lk (if isC wIf A.2 = true then ((fun x => ((true, x.1), x.2)) (exprR fin (takeR fin wIf A.2)) : (Bool × Sx) × RsC) else ((false, noX), A.2)).2 (if isC wIf A'.2 = true then ((fun x => ((true, x.1), x.2)) (exprR fin' (takeR fin' wIf A'.2)) : (Bool × Sx) × RsC) else ((false, noX), A'.2)).2 := by
    rw [← a2.isq wIf]
    split
    · obtain ⟨e1, e2⟩ := (a2.take fin fin' wIf).expr fin fin'
      exact ⟨congrArg (Prod.mk true) e1, e2⟩
    · exact ⟨rfl, a2⟩
  generalize (if isC wIf A.2 = true then ((fun x => ((true, x.1), x.2)) (exprR fin (takeR fin wIf A.2)) : (Bool × Sx) × RsC) else ((false, noX), A.2)) = G at *
  generalize (if isC wIf A'.2 = true then ((fun x => ((true, x.1), x.2)) (exprR fin' (takeR fin' wIf A'.2)) : (Bool × Sx) × RsC) else ((false, noX), A'.2)) = G' at *
  obtain ⟨g1, g2⟩ := hg
  obtain ⟨t1, t2⟩ := (g2.take fin fin' wGo).name fin fin'
  generalize nameR fin (takeR fin wGo G.2) = U at *
  generalize nameR fin' (takeR fin' wGo G'.2) = U' at *
  rw [← t2.len]
  obtain ⟨s1, s2⟩ := Lk.sets fin fin' (U.2.1.length + 1) [] t2
  refine ⟨?_, s2⟩
  unfold stO
  simp only [a1, g1, t1, s1]
theorem Lk.kind {r r' : RsC} (h : Lk r r') (fin fin' : Pl) : (kindR fin r).1 = (kindR fin' r').1 ∧ Lk (kindR fin r).2 (kindR fin' r').2 := by
  unfold kindR
  rw [← h.isq wAll, ← h.isq wEnd, ← h.isq wDo]
  split
  · exact ⟨rfl, h.take _ _ _⟩
  · split
    · exact ⟨rfl, h.take _ _ _⟩
    · split
      · obtain ⟨a1, a2⟩ := (h.take fin fin' wDo).name fin fin'
        obtain ⟨b1, b2⟩ := (a2.take fin fin' wUndo).name fin fin'
        obtain ⟨c1, c2⟩ := (b2.take fin fin' wAt).num fin fin'
        obtain ⟨e1, e2⟩ := (c2.take fin fin' wRetries).num fin fin'
        simp only
        exact ⟨by rw [a1, b1, c1, e1], e2⟩
      · exact ⟨rfl, h⟩
/-- A state without places. -/
def stS : (d : Nat) → St d → St d
  | 0, t => Empty.elim t
  | d + 1, t => show HdC × List (St d) from (((t.1.1.1, (0, 0)), t.1.2.1, t.1.2.2.1, t.1.2.2.2.1, t.1.2.2.2.2.map stO), t.2.map (stS d))
theorem Lk.inn {α : Type} (f : α → α) (fin fin' : Pl) (i1 i2 : RsC → α × RsC) (hi : ∀ {r r' : RsC}, Lk r r' → f (i1 r).1 = f (i2 r').1 ∧ Lk (i1 r).2 (i2 r').2) :
    ∀ (g : Nat) (os os' : List OnC) (ss ss' : List α) {r r' : RsC}, Lk r r' → os.map stO = os'.map stO → ss.map f = ss'.map f →
      (inR fin i1 g os ss r).1.1.map stO = (inR fin' i2 g os' ss' r').1.1.map stO ∧ (inR fin i1 g os ss r).1.2.map f = (inR fin' i2 g os' ss' r').1.2.map f ∧ Lk (inR fin i1 g os ss r).2 (inR fin' i2 g os' ss' r').2
  | 0, os, os', ss, ss', r, r', h, ho, hs => ⟨ho, hs, h⟩
  | g + 1, os, os', ss, ss', r, r', h, ho, hs => by
    unfold inR
    rw [← h.2, ← h.isq [125], ← h.isq wOn]
    split
    · split
      · obtain ⟨a1, a2⟩ := h.on fin fin'
        exact Lk.inn f fin fin' i1 i2 hi g _ _ _ _ a2 (by rw [List.map_append, List.map_append, ho, List.map_singleton, List.map_singleton, a1]) hs
      · obtain ⟨a1, a2⟩ := hi h
        exact Lk.inn f fin fin' i1 i2 hi g _ _ _ _ a2 ho (by rw [List.map_append, List.map_append, hs, List.map_singleton, List.map_singleton, a1])
    · exact ⟨ho, hs, h⟩
theorem Lk.st (fin fin' : Pl) : ∀ (k : Nat) {r r' : RsC}, Lk r r' → stS (k + 1) (stR fin k r).1 = stS (k + 1) (stR fin' k r').1 ∧ Lk (stR fin k r).2 (stR fin' k r').2
  | 0, r, r', h => by
    refine ⟨rfl, ?_⟩
    show Lk (failC (if isC wState r = true then 13 else 12) (hereR fin r) r) (failC (if isC wState r' = true then 13 else 12) (hereR fin' r') r')
    rw [← h.isq wState]
    exact h.fail _ _ _
  | k + 1, r, r', h => by
    obtain ⟨a1, a2⟩ := (h.take fin fin' wState).name fin fin'
    obtain ⟨b1, b2⟩ := (a2.take fin fin' [123]).kind fin fin'
    obtain ⟨c1, c2, c3⟩ := Lk.inn (stS (k + 1)) fin fin' (stR fin k) (stR fin' k) (fun h => Lk.st fin fin' k h) ((kindR fin (takeR fin [123] (nameR fin (takeR fin wState r)).2)).2.1.length + 1) [] [] [] [] b2 rfl rfl
    refine ⟨?_, ?_⟩
    · show (show HdC × List (St (k + 1)) from (((_, (0, 0)), _, _, _, List.map stO _), List.map (stS (k + 1)) _)) = (show HdC × List (St (k + 1)) from (((_, (0, 0)), _, _, _, List.map stO _), List.map (stS (k + 1)) _))
      simp only [stR]
      rw [← b2.len, a1, b1, c1, c2]
    · simp only [stR]
      rw [← b2.len]
      exact c3.take _ _ _
theorem Lk.vars (fin fin' : Pl) : ∀ (g : Nat) (acc acc' : List (List UInt8 × Int × Pl)) {r r' : RsC}, Lk r r' → acc.map (fun v => (v.1, v.2.1)) = acc'.map (fun v => (v.1, v.2.1)) →
      (varsR fin g acc r).1.map (fun v => (v.1, v.2.1)) = (varsR fin' g acc' r').1.map (fun v => (v.1, v.2.1)) ∧ Lk (varsR fin g acc r).2 (varsR fin' g acc' r').2
  | 0, acc, acc', r, r', h, ha => ⟨ha, h⟩
  | g + 1, acc, acc', r, r', h, ha => by
    unfold varsR
    rw [← h.isq wVar]
    split
    · obtain ⟨a1, a2⟩ := (h.take fin fin' wVar).name fin fin'
      have b2 := a2.take fin fin' [61]
      simp only
      rw [← b2.isq [45]]
      split
      · obtain ⟨n1, n2⟩ := (b2.take fin fin' [45]).num fin fin'
        exact Lk.vars fin fin' g _ _ n2 (by rw [List.map_append, List.map_append, ha]; simp only [List.map_cons, List.map_nil, a1, n1])
      · obtain ⟨n1, n2⟩ := b2.num fin fin'
        exact Lk.vars fin fin' g _ _ n2 (by rw [List.map_append, List.map_append, ha]; simp only [List.map_cons, List.map_nil, a1, n1])
    · exact ⟨ha, h⟩
theorem Lk.sts (fin fin' : Pl) : ∀ (g : Nat) (acc acc' : List (St 7)) {r r' : RsC}, Lk r r' → acc.map (stS 7) = acc'.map (stS 7) →
      (stsR fin g acc r).1.map (stS 7) = (stsR fin' g acc' r').1.map (stS 7) ∧ Lk (stsR fin g acc r).2 (stsR fin' g acc' r').2
  | 0, acc, acc', r, r', h, ha => ⟨ha, h⟩
  | g + 1, acc, acc', r, r', h, ha => by
    unfold stsR
    rw [← h.2, ← h.isq [125]]
    split
    · obtain ⟨a1, a2⟩ := Lk.st fin fin' 6 h
      exact Lk.sts fin fin' g _ _ a2 (by rw [List.map_append, List.map_append, ha, List.map_singleton, List.map_singleton, a1])
    · exact ⟨ha, h⟩
/-- A chart without places. -/
def stC (c : ChC) : ChC := ((c.1.1, (0, 0)), c.2.1, c.2.2.1.map (fun v => (v.1, v.2.1, (0, 0))), c.2.2.2.map (stS 7))
theorem vars_st {a b : List (List UInt8 × Int × Pl)} (h : a.map (fun v => (v.1, v.2.1)) = b.map (fun v => (v.1, v.2.1))) : a.map (fun v => (v.1, v.2.1, ((0, 0) : Pl))) = b.map (fun v => (v.1, v.2.1, ((0, 0) : Pl))) := by
  have := congrArg (List.map (fun v : List UInt8 × Int => (v.1, v.2, ((0, 0) : Pl)))) h
  rwa [List.map_map, List.map_map] at this
theorem ch_lk {ws ws' : List Wd} (h : ws.map tkW = ws'.map tkW) (fin fin' : Pl) : stC (chR fin ws).1 = stC (chR fin' ws').1 ∧ (chR fin ws).2.2 = (chR fin' ws').2.2 := by
  have h0 : Lk (ws, (0, 0), 0) (ws', (0, 0), 0) := ⟨h, rfl⟩
  obtain ⟨a1, a2⟩ := (h0.take fin fin' wChart).name fin fin'
  obtain ⟨n1, n2⟩ := a2.num fin fin'
  have b2 := n2.take fin fin' [123]
  obtain ⟨v1, v2⟩ := Lk.vars fin fin' ((takeR fin [123] (numR fin (nameR fin (takeR fin wChart (ws, (0, 0), 0))).2).2).1.length + 1) [] [] b2 rfl
  unfold chR
  simp only
  rw [← b2.len]
  generalize nameR fin (takeR fin wChart (ws, (0, 0), 0)) = A at *
  generalize nameR fin' (takeR fin' wChart (ws', (0, 0), 0)) = A' at *
  generalize numR fin A.2 = N at *
  generalize numR fin' A'.2 = N' at *
  generalize varsR fin ((takeR fin [123] N.2).1.length + 1) [] (takeR fin [123] N.2) = V at *
  generalize varsR fin' ((takeR fin [123] N.2).1.length + 1) [] (takeR fin' [123] N'.2) = V' at *
  rw [← v2.len]
  obtain ⟨s1, s2⟩ := Lk.sts fin fin' (V.2.1.length + 1) [] [] v2 rfl
  generalize stsR fin (V.2.1.length + 1) [] V.2 = S at *
  generalize stsR fin' (V.2.1.length + 1) [] V'.2 = S' at *
  have e2 := s2.take fin fin' [125]
  generalize takeR fin [125] S.2 = E at *
  generalize takeR fin' [125] S'.2 = E' at *
  have hnil : (E.1 ≠ []) = (E'.1 ≠ []) := by
    rcases e2.cons with ⟨h1, h2⟩ | ⟨w, l, w', l', h1, h2, _, _⟩
    · rw [h1, h2]
    · rw [h1, h2]; simp
  have hz : Lk (if E.2.2 = 0 ∧ E.1 ≠ [] then failC 12 (hereR fin E) E else E) (if E'.2.2 = 0 ∧ E'.1 ≠ [] then failC 12 (hereR fin' E') E' else E') := by
    by_cases hc : E.2.2 = 0 ∧ E.1 ≠ []
    · rw [if_pos hc, if_pos (by rw [← e2.2, ← hnil]; exact hc)]; exact e2.fail _ _ _
    · rw [if_neg hc, if_neg (by rw [← e2.2, ← hnil]; exact hc)]; exact e2
  generalize (if E.2.2 = 0 ∧ E.1 ≠ [] then failC 12 (hereR fin E) E else E) = Z at *
  generalize (if E'.2.2 = 0 ∧ E'.1 ≠ [] then failC 12 (hereR fin' E') E' else E') = Z' at *
  by_cases h0 : Z.2.2 = 0
  · rw [if_pos h0, if_pos (hz.2 ▸ h0)]
    refine ⟨?_, rfl⟩
    unfold stC
    simp only
    rw [a1, n1, vars_st v1, s1]
  · rw [if_neg h0, if_neg (fun e => h0 (hz.2.trans e))]
    exact ⟨rfl, hz.2⟩
/-- Texts whose words are alike but for places have charts that are alike but for places, or the same error. -/
theorem read_lk {s s' : List UInt8} (h : (wordsS s).1.map tkW = (wordsS s').1.map tkW) (he : (wordsS s).2.2 = (wordsS s').2.2) : stC (readC s).1 = stC (readC s').1 ∧ (readC s).2.2 = (readC s').2.2 := by
  unfold readC
  by_cases h0 : (wordsS s).2.2 ≠ 0
  · rw [if_pos h0, if_pos (he ▸ h0)]
    exact ⟨rfl, he⟩
  · rw [if_neg h0, if_neg (he ▸ h0)]
    exact ch_lk h _ _
end Go.Proofs.YtccmmkhcacglhaaGreatDoor

/- What the program's each is over ons. -/
namespace Go.Proofs.YtccmmkhcacglhaaGreatDoor
open Go.RowKit Go.Lib
set_option linter.unusedSimpArgs false
set_option linter.unusedVariables false
attribute [local go_sem ↓] Go.wp_at_zero Go.wp_at_succ

theorem Tryz.infoEOn : (Tryz.prog.info? 142).map (fun i => (i.zero, i.size, i.bytes)) = some (some (.agg #[.string ⟨#[]⟩, .nilIface, .string ⟨#[]⟩, .slice none 0 0, .int .i64 0, .int .i64 0]), 6, 88) := by kernel_rfl
def OnOk (o : OnC) : Prop := o.1.length ≤ 140737488351232 ∧ o.2.2.1.length ≤ 140737488351232 ∧ (o.2.1.1 = true → ExOk o.2.1.2) ∧ (∀ s ∈ o.2.2.2.1, SetOk s) ∧ o.2.2.2.1.length ≤ 100000
theorem exOk_no : ExOk noX := ⟨cl_none (d := 0), by show cntX noX ≤ 2000; decide, rfl⟩
theorem onQ_at {ok : Nat → Prop} {w : World} {l : List OnC} {a : Option Addr} {n cap : Nat} (h : RdK ok w 6 (rOn ok w) l (.slice a n cap)) (j : Nat) (hj : j < l.length) : ∃ b off s1 s3, a = some ⟨b, off, none⟩ ∧ b < w.heap.size ∧ RdK ok w 2 (rSet ok w) l[j].2.2.2.1 (.slice s1 l[j].2.2.2.1.length s3) ∧ ∀ i u, (onV l[j] (.slice s1 l[j].2.2.2.1.length s3))[i]? = some u → w.cell? ⟨b, off + j * 6 + i, none⟩ = some u := by
  obtain ⟨a1, cap1, he, h1, h2, h3⟩ := h
  simp only [Value.slice.injEq] at he
  obtain ⟨rfl, rfl, rfl⟩ := he
  obtain ⟨b, off, cs, ha, _, hb, hl, ⟨sl, rfl, hs⟩, hc⟩ := h3 j hj
  obtain ⟨s1, s3, rfl, _⟩ := hs.form
  exact ⟨b, off, s1, s3, ha, hb, hs, hc⟩
theorem copG {o : OnC} (h : OnOk o) (w : World) : Calls Tryz.prog 127 #[gdV o.2.1] w fun e w' => e = .returned (gdV o.2.1) ∧ Below w.heap.size w w' := by
  unfold gdV
  split
  · next hb => exact copX (h.2.2.1 hb) w
  · exact copX exOk_no w
set_option maxRecDepth 100000 in
set_option maxHeartbeats 8000000 in
theorem eachOn_any {ok : Nat → Prop} {w : World} {l : List OnC} {v : Value} (h : RdK ok w 6 (rOn ok w) l v) (hl : l.length ≤ 100000) (hok : ∀ s ∈ l, OnOk s) :
    Calls Tryz.prog 88 #[v, .func (.func 89) #[] #[]] w fun e w' => ∃ u, e = .returned u ∧ RdK (fun b => w.heap.size ≤ b) w' 6 (rOn (fun b => w.heap.size ≤ b) w') (l.map stO) u ∧ Below w.heap.size w w' := by
  obtain ⟨ie, hie, hie0, hie1, hie2⟩ := info_parts Tryz.infoEOn
  obtain ⟨a, cap, rfl, hlc, hcm⟩ := h.form
  unfold maxLen at hcm
  have HC := mkHid h
  have HK := mkHid hok
  obtain ⟨n, hn⟩ : ∃ n, l.length = n := ⟨_, rfl⟩
  rw [hn] at hlc hl ⊢
  have HN : Hid (l.length = n) := hn
  clear h hok hn
  have hmk := run_make (P := Tryz.prog) w 50 142 ie _ Tryz.underlying50 hie hie0 .i64 .i64 (n : Int) (n : Int) (by omega) (by omega) (by rw [hie2]; omega) (by omega)
  rw [Int.toNat_natCast, hie1] at hmk
  have hG0 : RowG (w.alloc (.cells (madeCells (.agg #[.string ⟨#[]⟩, .nilIface, .string ⟨#[]⟩, .slice none 0 0, .int .i64 0, .int .i64 0] : Value).cells (n * 6)) 142)) w.heap.size 6 n rOn ([] : List (OnC)) := RowG.made w _ 6 n _ _
  have hb0 : Below w.heap.size w (w.alloc (.cells (madeCells (.agg #[.string ⟨#[]⟩, .nilIface, .string ⟨#[]⟩, .slice none 0 0, .int .i64 0, .int .i64 0] : Value).cells (n * 6)) 142)) := (Below.refl _ _).alloc (Nat.le_refl _) _
  have hs0 : (w.alloc (.cells (madeCells (.agg #[.string ⟨#[]⟩, .nilIface, .string ⟨#[]⟩, .slice none 0 0, .int .i64 0, .int .i64 0] : Value).cells (n * 6)) 142)).heap.size = w.heap.size + 1 := by simp
  generalize w.alloc (.cells (madeCells (.agg #[.string ⟨#[]⟩, .nilIface, .string ⟨#[]⟩, .slice none 0 0, .int .i64 0, .int .i64 0] : Value).cells (n * 6)) 142) = w0 at *
  go_enter Tryz.func88, Tryz.ntmps88
  go_wp2
  go_loopw [13] (fun ix wr => ∃ (i : Nat), i ≤ n ∧ ix = .int .i64 (i : Int) ∧ RowG wr w.heap.size 6 n rOn ((l.map stO).take i) ∧ Below w.heap.size w wr ∧ w.heap.size < wr.heap.size) (fun ix _ => n - (RowKit.intOf ix).toNat)
  case atStart => exact ⟨0, Nat.zero_le _, rfl, hG0, hb0, by omega⟩
  case round =>
    obtain ⟨i, hi, rfl, hRow, hb, hGs⟩ := hrel
    clear hG0 hb0 hs0 hmk
    by_cases hlt : i < n
    · have hil : i < l.length := by rw [HN.out]; exact hlt
      obtain ⟨b, off, s1, s3, rfl, hbl, hSe, hc⟩ := onQ_at HC.out i hil
      have hko := HK.out _ (List.getElem_mem hil)
      obtain ⟨o, ho⟩ : ∃ o, l[i] = o := ⟨_, rfl⟩
      rw [ho] at hSe hc hko
      obtain ⟨ns, hns⟩ : ∃ m, o.2.2.2.1.length = m := ⟨_, rfl⟩
      rw [hns] at hSe hc
      have hg := copG hko
      obtain ⟨ev, hev⟩ : ∃ ev : ByteArray, ⟨o.1.toArray⟩ = ev := ⟨_, rfl⟩
      obtain ⟨tg, htg⟩ : ∃ tg : ByteArray, ⟨o.2.2.1.toArray⟩ = tg := ⟨_, rfl⟩
      have hz1 : ev.size ≤ 140737488351232 := by rw [← hev]; show o.1.toArray.size ≤ _; simpa using hko.1
      have hz2 : tg.size ≤ 140737488351232 := by rw [← htg]; show o.2.2.1.toArray.size ≤ _; simpa using hko.2.1
      obtain ⟨ol, hol⟩ : ∃ x, o.2.2.2.2.1 = x := ⟨_, rfl⟩
      obtain ⟨oc, hoc⟩ : ∃ x, o.2.2.2.2.2 = x := ⟨_, rfl⟩
      have hform := gdV_form o.2.1
      obtain ⟨gv, hgv⟩ : ∃ gv, gdV o.2.1 = gv := ⟨_, rfl⟩
      have hov : ∀ sl, onV o sl = [.string ev, gv, .string tg, sl, .int .i64 ol, .int .i64 oc] := fun sl => by
        unfold onV sV
        rw [hev, htg, hol, hoc, hgv]
      have hov2 : ∀ sl, onV (stO o) sl = [.string ev, gv, .string tg, sl, .int .i64 0, .int .i64 0] := fun sl => by
        show [sV o.1, gdV o.2.1, sV o.2.2.1, sl, .int .i64 0, .int .i64 0] = _
        unfold sV
        rw [hev, htg, hgv]
      rw [hov] at hc
      rw [hgv] at hform hg
      have HQ : Hid (l[i] = o) := ho
      have HOV : Hid (∀ sl, onV (stO o) sl = [.string ev, gv, .string tg, sl, .int .i64 0, .int .i64 0]) := hov2
      have HNS : Hid (o.2.2.2.1.length = ns) := hns
      have HKO : Hid (OnOk o) := hko
      have HSE : Hid (RdK ok w 2 (rSet ok w) o.2.2.2.1 (.slice s1 ns s3)) := hSe
      clear ho hns hko hSe hev htg hol hoc hgv hov hov2
      obtain ⟨acc, hac⟩ : ∃ acc, (l.map stO).take i = acc := ⟨_, rfl⟩
      have hla : acc.length = i := by rw [← hac]; simp [HN.out]; omega
      rw [hac] at hRow
      have HAC : Hid ((l.map stO).take i = acc) := hac
      clear hac
      have i1 : (i : Int) < (n : Int) := by omega
      have i2 : (0 : Int) ≤ (i : Int) := by omega
      have C0 := (hb.cell (p := ⟨b, off + i * 6 + 0, none⟩) hbl).trans (hc 0 _ rfl)
      have C1 := (hb.cell (p := ⟨b, off + i * 6 + 1, none⟩) hbl).trans (hc 1 _ rfl)
      have C2 := (hb.cell (p := ⟨b, off + i * 6 + 2, none⟩) hbl).trans (hc 2 _ rfl)
      have C3 := (hb.cell (p := ⟨b, off + i * 6 + 3, none⟩) hbl).trans (hc 3 _ rfl)
      have C4 := (hb.cell (p := ⟨b, off + i * 6 + 4, none⟩) hbl).trans (hc 4 _ rfl)
      have C5 := (hb.cell (p := ⟨b, off + i * 6 + 5, none⟩) hbl).trans (hc 5 _ rfl)
      rw [Nat.add_zero] at C0
      clear hc
      rcases hform with rfl | ⟨gu, gy, rfl⟩
      · have hal := (Below.refl wr.heap.size wr).alloc (Nat.le_refl _) (.cells #[.string ev, .nilIface, .string tg, .slice s1 ns s3, .int .i64 ol, .int .i64 oc] 142)
        have hX := Bn.new wr [.string ev, .nilIface, .string tg, .slice s1 ns s3, .int .i64 ol, .int .i64 oc] 142 _ rfl
        have hRx := hRow.on kp_on hGs hal
        have hbx := hb.trans (hal.mono hb.size)
        have hGx := Nat.lt_of_lt_of_le hGs hal.size
        have hcall : ∀ w1, Below w.heap.size w w1 → Calls Tryz.prog 89 #[.agg #[.string ev, .nilIface, .string tg, .slice s1 ns s3, .int .i64 ol, .int .i64 oc]] w1 fun e w' => ∃ u1 u3, e = .returned (.agg #[.string ev, .nilIface, .string tg, .slice u1 ns u3, .int .i64 0, .int .i64 0]) ∧ RdK (fun b => w1.heap.size ≤ b) w' 2 (rSet (fun b => w1.heap.size ≤ b) w') o.2.2.2.1 (.slice u1 ns u3) ∧ Below w1.heap.size w1 w' := fun w1 b1 => son_nil ev tg s1 ns s3 ol oc o.2.2.2.1 hz1 hz2 hg (HSE.out.stay kp_set (ok' := ok) (fun b hb hl => ⟨hb, b1.block b hl⟩)) HNS.out (by have := HKO.out.2.2.2.2; rw [HNS.out] at this; exact this) HKO.out.2.2.2.1
        clear hg
        go_upto_region 5 with fail
        clear C0 C1 C2 C3 C4 C5 hal
        generalize wr.alloc (.cells #[.string ev, .nilIface, .string tg, .slice s1 ns s3, .int .i64 ol, .int .i64 oc] 142) = wx at *
        obtain ⟨X, hXX⟩ : ∃ X, wr.heap.size = X := ⟨_, rfl⟩
        rw [hXX] at hX ⊢
        have HXX : Hid (wr.heap.size = X) := hXX
        clear hXX
        obtain ⟨x0, _⟩ := hX 0 _ rfl
        obtain ⟨x1, _⟩ := hX 1 _ rfl
        obtain ⟨x2, _⟩ := hX 2 _ rfl
        obtain ⟨x3, _⟩ := hX 3 _ rfl
        obtain ⟨x4, _⟩ := hX 4 _ rfl
        obtain ⟨x5, _⟩ := hX 5 _ rfl
        go_wp2_with (first
          | (go_at_call 89; refine (hcall _ hbx).mono ?_; rintro e w1 ⟨u1, u3, rfl, hr, b1⟩; have hp : rOn (fun b => w.heap.size < b) w1 (stO o) [.string ev, .nilIface, .string tg, .slice u1 ns u3, .int .i64 0, .int .i64 0] := (⟨.slice u1 ns u3, (HOV.out _).symm, hr.stay kp_set (fun b hb hl => ⟨Nat.lt_of_lt_of_le hGx hb, rfl⟩)⟩); clear hr; have hR1 := hRx.on kp_on hGx b1; obtain ⟨⟨r0, q0⟩, z0⟩ := hR1.1 (i * 6 + 0) (mul_in hlt (by omega)); obtain ⟨⟨r1, q1⟩, z1⟩ := hR1.1 (i * 6 + 1) (mul_in hlt (by omega)); obtain ⟨⟨r2, q2⟩, z2⟩ := hR1.1 (i * 6 + 2) (mul_in hlt (by omega)); obtain ⟨⟨r3, q3⟩, z3⟩ := hR1.1 (i * 6 + 3) (mul_in hlt (by omega)); obtain ⟨⟨r4, q4⟩, z4⟩ := hR1.1 (i * 6 + 4) (mul_in hlt (by omega)); obtain ⟨⟨r5, q5⟩, z5⟩ := hR1.1 (i * 6 + 5) (mul_in hlt (by omega)); rw [Nat.add_zero] at q0 z0)
          | fail)
        have hP := hR1.put kp_on (x := stO o) (cs := [.string ev, .nilIface, .string tg, .slice u1 ns u3, .int .i64 0, .int .i64 0]) (by rw [hla]; exact hlt) rfl hp
        rw [hla] at hP
        have hb2 := putL_below [.string ev, .nilIface, .string tg, .slice u1 ns u3, .int .i64 0, .int .i64 0] w1 w.heap.size (i * 6) (hbx.trans (b1.mono (Nat.le_of_lt hGx))) (Nat.le_refl _)
        have hs2 : w.heap.size < (putL w1 w.heap.size (i * 6) [.string ev, .nilIface, .string tg, .slice u1 ns u3, .int .i64 0, .int .i64 0]).heap.size := by rw [putL_size]; exact Nat.lt_of_lt_of_le hGx b1.size
        have hac2 : (l.map stO).take (i + 1) = acc ++ [stO o] := by
          rw [List.take_succ_eq_append_getElem (by simp [HN.out]; omega), HAC.out]
          simp [HQ.out]
        clear x0 r0 q0 z0 x1 r1 q1 z1 x2 r2 q2 z2 x3 r3 q3 z3 x4 r4 q4 z4 x5 r5 q5 z5 hR1 hRx hp
        go_wp2
        go_roundw
        case rel => exact ⟨i + 1, hlt, by go_num, by rw [hac2]; exact hP, hb2, hs2⟩
        case measure => simp [RowKit.intOf]; omega
      · have hal := (Below.refl wr.heap.size wr).alloc (Nat.le_refl _) (.cells #[.string ev, .iface gu gy, .string tg, .slice s1 ns s3, .int .i64 ol, .int .i64 oc] 142)
        have hX := Bn.new wr [.string ev, .iface gu gy, .string tg, .slice s1 ns s3, .int .i64 ol, .int .i64 oc] 142 _ rfl
        have hRx := hRow.on kp_on hGs hal
        have hbx := hb.trans (hal.mono hb.size)
        have hGx := Nat.lt_of_lt_of_le hGs hal.size
        have hcall : ∀ w1, Below w.heap.size w w1 → Calls Tryz.prog 89 #[.agg #[.string ev, .iface gu gy, .string tg, .slice s1 ns s3, .int .i64 ol, .int .i64 oc]] w1 fun e w' => ∃ u1 u3, e = .returned (.agg #[.string ev, .iface gu gy, .string tg, .slice u1 ns u3, .int .i64 0, .int .i64 0]) ∧ RdK (fun b => w1.heap.size ≤ b) w' 2 (rSet (fun b => w1.heap.size ≤ b) w') o.2.2.2.1 (.slice u1 ns u3) ∧ Below w1.heap.size w1 w' := fun w1 b1 => son_ifc ev tg gu gy s1 ns s3 ol oc o.2.2.2.1 hz1 hz2 hg (HSE.out.stay kp_set (ok' := ok) (fun b hb hl => ⟨hb, b1.block b hl⟩)) HNS.out (by have := HKO.out.2.2.2.2; rw [HNS.out] at this; exact this) HKO.out.2.2.2.1
        clear hg
        go_upto_region 5 with fail
        clear C0 C1 C2 C3 C4 C5 hal
        generalize wr.alloc (.cells #[.string ev, .iface gu gy, .string tg, .slice s1 ns s3, .int .i64 ol, .int .i64 oc] 142) = wx at *
        obtain ⟨X, hXX⟩ : ∃ X, wr.heap.size = X := ⟨_, rfl⟩
        rw [hXX] at hX ⊢
        have HXX : Hid (wr.heap.size = X) := hXX
        clear hXX
        obtain ⟨x0, _⟩ := hX 0 _ rfl
        obtain ⟨x1, _⟩ := hX 1 _ rfl
        obtain ⟨x2, _⟩ := hX 2 _ rfl
        obtain ⟨x3, _⟩ := hX 3 _ rfl
        obtain ⟨x4, _⟩ := hX 4 _ rfl
        obtain ⟨x5, _⟩ := hX 5 _ rfl
        go_wp2_with (first
          | (go_at_call 89; refine (hcall _ hbx).mono ?_; rintro e w1 ⟨u1, u3, rfl, hr, b1⟩; have hp : rOn (fun b => w.heap.size < b) w1 (stO o) [.string ev, .iface gu gy, .string tg, .slice u1 ns u3, .int .i64 0, .int .i64 0] := (⟨.slice u1 ns u3, (HOV.out _).symm, hr.stay kp_set (fun b hb hl => ⟨Nat.lt_of_lt_of_le hGx hb, rfl⟩)⟩); clear hr; have hR1 := hRx.on kp_on hGx b1; obtain ⟨⟨r0, q0⟩, z0⟩ := hR1.1 (i * 6 + 0) (mul_in hlt (by omega)); obtain ⟨⟨r1, q1⟩, z1⟩ := hR1.1 (i * 6 + 1) (mul_in hlt (by omega)); obtain ⟨⟨r2, q2⟩, z2⟩ := hR1.1 (i * 6 + 2) (mul_in hlt (by omega)); obtain ⟨⟨r3, q3⟩, z3⟩ := hR1.1 (i * 6 + 3) (mul_in hlt (by omega)); obtain ⟨⟨r4, q4⟩, z4⟩ := hR1.1 (i * 6 + 4) (mul_in hlt (by omega)); obtain ⟨⟨r5, q5⟩, z5⟩ := hR1.1 (i * 6 + 5) (mul_in hlt (by omega)); rw [Nat.add_zero] at q0 z0)
          | fail)
        have hP := hR1.put kp_on (x := stO o) (cs := [.string ev, .iface gu gy, .string tg, .slice u1 ns u3, .int .i64 0, .int .i64 0]) (by rw [hla]; exact hlt) rfl hp
        rw [hla] at hP
        have hb2 := putL_below [.string ev, .iface gu gy, .string tg, .slice u1 ns u3, .int .i64 0, .int .i64 0] w1 w.heap.size (i * 6) (hbx.trans (b1.mono (Nat.le_of_lt hGx))) (Nat.le_refl _)
        have hs2 : w.heap.size < (putL w1 w.heap.size (i * 6) [.string ev, .iface gu gy, .string tg, .slice u1 ns u3, .int .i64 0, .int .i64 0]).heap.size := by rw [putL_size]; exact Nat.lt_of_lt_of_le hGx b1.size
        have hac2 : (l.map stO).take (i + 1) = acc ++ [stO o] := by
          rw [List.take_succ_eq_append_getElem (by simp [HN.out]; omega), HAC.out]
          simp [HQ.out]
        clear x0 r0 q0 z0 x1 r1 q1 z1 x2 r2 q2 z2 x3 r3 q3 z3 x4 r4 q4 z4 x5 r5 q5 z5 hR1 hRx hp
        go_wp2
        go_roundw
        case rel => exact ⟨i + 1, hlt, by go_num, by rw [hac2]; exact hP, hb2, hs2⟩
        case measure => simp [RowKit.intOf]; omega
    · have i1 : ¬ (i : Int) < (n : Int) := by omega
      have hin : i = n := by omega
      have hfull : (l.map stO).take i = l.map stO := List.take_of_length_le (by simp [HN.out]; omega)
      rw [hfull] at hRow
      have hrd := hRow.rd kp_on hGs (by simp [HN.out]) (by unfold maxLen; omega)
      go_wp2
      go_ret
      exact ⟨_, rfl, hrd, hb⟩
end Go.Proofs.YtccmmkhcacglhaaGreatDoor
