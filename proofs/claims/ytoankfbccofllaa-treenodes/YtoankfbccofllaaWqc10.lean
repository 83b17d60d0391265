import Derived.Test.YtoankfbccofllaaWqc08
import Derived.Test.YtoankfbccofllaaWqc04
import Derived.Test.YtoankfbccofllaaWqc02

/- What the program's stripOn is. -/
namespace Go.Proofs.Ytoankfbccofllaa
open Go.RowKit Go.Lib
set_option linter.unusedSimpArgs false
set_option linter.unusedVariables false
attribute [local go_sem ↓] Go.wp_at_zero Go.wp_at_succ

theorem con_res {w4 : World} {R : Nat} {a b c d e f : Value} {tmps : Array Value} (hR : Bn w4 R [a, b, c, d, e, f]) (ht : tmps.getD 2 undef = .pointer (some ⟨R, 0, none⟩)) : (results Try.f43 tmps).run Try.prog w4 = .ok (.agg #[a, b, c, d, e, f]) w4 := by
  have ht' : tmps[2]?.getD undef = .pointer (some ⟨R, 0, none⟩) := by simpa using ht
  have c0 := (hR 0 _ rfl).1
  have c1 := (hR 1 _ rfl).1
  have c2 := (hR 2 _ rfl).1
  have c3 := (hR 3 _ rfl).1
  have c4 := (hR 4 _ rfl).1
  have c5 := (hR 5 _ rfl).1
  simp [results, Try.results43, go_sem, ht', c0, c1, c2, c3, c4, c5]
set_option maxRecDepth 100000 in
set_option maxHeartbeats 16000000 in
theorem son_nil {ok : Nat → Prop} {w : World} (ev tg : ByteArray) (s1 : Option Addr) (ns s3 : Nat) (ol oc : Int) (l : List (List UInt8 × Sx)) (h1 : ev.size ≤ 140737488351232) (h3 : tg.size ≤ 140737488351232) (h2 : ∀ w1, Calls Try.prog 44 #[.nilIface] w1 fun e w' => e = .returned (.nilIface) ∧ Below w1.heap.size w1 w')
    (hs : RdK ok w 2 (rSet ok w) l (.slice s1 ns s3)) (hn : l.length = ns) (hl : ns ≤ 100000) (hok : ∀ s ∈ l, SetOk s) : Calls Try.prog 43 #[.agg #[.string ev, .nilIface, .string tg, .slice s1 ns s3, .int .i64 ol, .int .i64 oc]] w fun e w' => ∃ u1 u3, e = .returned (.agg #[.string ev, .nilIface, .string tg, .slice u1 ns u3, .int .i64 0, .int .i64 0]) ∧ RdK (Nw w.heap.size w') w' 2 (rSet (Nw w.heap.size w') w') l (.slice u1 ns u3) ∧ Below w.heap.size w w' := by
  have g1 := fun w1 => pClone_any ev w1 h1
  have g3 := fun w1 => pClone_any tg w1 h3
  have hal : Below w.heap.size w ((w.alloc (.cells #[.string ev, .nilIface, .string tg, .slice s1 ns s3, .int .i64 ol, .int .i64 oc] 91)).alloc (.cells #[.string ⟨#[]⟩, .nilIface, .string ⟨#[]⟩, .slice none 0 0, .int .i64 0, .int .i64 0] 91)) := ((Below.refl w.heap.size w).alloc (Nat.le_refl _) _).alloc (by simp) _
  have hX : Bn ((w.alloc (.cells #[.string ev, .nilIface, .string tg, .slice s1 ns s3, .int .i64 ol, .int .i64 oc] 91)).alloc (.cells #[.string ⟨#[]⟩, .nilIface, .string ⟨#[]⟩, .slice none 0 0, .int .i64 0, .int .i64 0] 91)) w.heap.size [.string ev, .nilIface, .string tg, .slice s1 ns s3, .int .i64 ol, .int .i64 oc] := (Bn.new w [.string ev, .nilIface, .string tg, .slice s1 ns s3, .int .i64 ol, .int .i64 oc] 91 _ rfl).on ((Below.refl _ _).alloc (Nat.le_refl _) _)
  have hR : Bn ((w.alloc (.cells #[.string ev, .nilIface, .string tg, .slice s1 ns s3, .int .i64 ol, .int .i64 oc] 91)).alloc (.cells #[.string ⟨#[]⟩, .nilIface, .string ⟨#[]⟩, .slice none 0 0, .int .i64 0, .int .i64 0] 91)) (w.heap.size + 1) [.string ⟨#[]⟩, .nilIface, .string ⟨#[]⟩, .slice none 0 0, .int .i64 0, .int .i64 0] := Bn.new (w.alloc (.cells #[.string ev, .nilIface, .string tg, .slice s1 ns s3, .int .i64 ol, .int .i64 oc] 91)) [.string ⟨#[]⟩, .nilIface, .string ⟨#[]⟩, .slice none 0 0, .int .i64 0, .int .i64 0] 91 _ (by simp)
  have hsz : w.heap.size + 2 ≤ ((w.alloc (.cells #[.string ev, .nilIface, .string tg, .slice s1 ns s3, .int .i64 ol, .int .i64 oc] 91)).alloc (.cells #[.string ⟨#[]⟩, .nilIface, .string ⟨#[]⟩, .slice none 0 0, .int .i64 0, .int .i64 0] 91)).heap.size := by simp
  go_enter Try.func43, Try.ntmps43
  go_upto_region 1 with fail
  generalize ((w.alloc (.cells #[.string ev, .nilIface, .string tg, .slice s1 ns s3, .int .i64 ol, .int .i64 oc] 91)).alloc (.cells #[.string ⟨#[]⟩, .nilIface, .string ⟨#[]⟩, .slice none 0 0, .int .i64 0, .int .i64 0] 91)) = wx at *
  have hE : ∀ w1, Below wx.heap.size wx w1 → Calls Try.prog 45 #[.slice s1 ns s3, .func (.func 46) #[] #[]] w1 fun e w' => ∃ u1 u3, e = .returned (.slice u1 ns u3) ∧ RdK (Nw wx.heap.size w') w' 2 (rSet (Nw wx.heap.size w') w') l (.slice u1 ns u3) ∧ Below w1.heap.size w1 w' := fun w1 b1 => by
    have hs1 := hs.stay kp_set (ok' := ok) (w' := w1) (fun b hb hl => ⟨hb, (b1.block b (Nat.lt_of_lt_of_le hl hal.size)).trans (hal.block b hl)⟩)
    refine (eachSet_any hs1 (by omega) hok).mono ?_
    rintro e w' ⟨u, h1, h2, h3⟩
    obtain ⟨u1, u3, rfl, _⟩ := h2.form
    rw [hn] at h1 h2
    exact ⟨u1, u3, h1, h2.stay kp_set (fun b hb hl => hb.to (Nat.le_trans b1.size hb.1) rfl), h3⟩
  have hB : Below wx.heap.size wx wx := Below.refl _ _
  obtain ⟨c0, _⟩ := hX 0 _ rfl
  obtain ⟨c1, _⟩ := hX 1 _ rfl
  obtain ⟨c2, _⟩ := hX 2 _ rfl
  obtain ⟨c3, _⟩ := hX 3 _ rfl
  have hlt := hX.lt
  obtain ⟨S, hS⟩ : ∃ S, w.heap.size = S := ⟨_, rfl⟩
  rw [hS] at c0 c1 c2 c3 hlt hR hsz ⊢
  have HS : Hid (w.heap.size = S) := hS
  clear hs hX hS
  have n1 : S ≠ S + 1 := by omega
  have y0 := c0
  have y1 := c1
  have y2 := c2
  have y3 := c3
  go_region_held_law (fun w' => w'.cell? ⟨S, 0, none⟩ = some (.string ev) ∧ w'.cell? ⟨S, 1, none⟩ = some (.nilIface) ∧ w'.cell? ⟨S, 2, none⟩ = some (.string tg) ∧ w'.cell? ⟨S, 3, none⟩ = some (.slice s1 ns s3))
    ((refine ⟨?_, ?_, ?_, ?_⟩ <;> (repeat (first | (with_reducible exact y0) | (with_reducible exact y1) | (with_reducible exact y2) | (with_reducible exact y3) | (with_reducible refine cell_dr ?_) | (with_reducible refine cell_far4 (ne_pt n1) ?_))) <;> done))
    (first
      | (go_at_call 19; (with_reducible refine (g1 _).mono ?_); rintro e w1 ⟨rfl, b1⟩; (first | have hB := Below.nxd hB b1 | have hB := Below.nx hB b1); have hR1 := hR.on hB; obtain ⟨r0, f0⟩ := hR1 0 _ rfl; obtain ⟨r1, f1⟩ := hR1 1 _ rfl; obtain ⟨r2, f2⟩ := hR1 2 _ rfl; obtain ⟨r3, f3⟩ := hR1 3 _ rfl; obtain ⟨r4, f4⟩ := hR1 4 _ rfl; obtain ⟨r5, f5⟩ := hR1 5 _ rfl; have y0 := (hB.cell (p := ⟨S, 0, none⟩) hlt).trans c0; have y1 := (hB.cell (p := ⟨S, 1, none⟩) hlt).trans c1; have y2 := (hB.cell (p := ⟨S, 2, none⟩) hlt).trans c2; have y3 := (hB.cell (p := ⟨S, 3, none⟩) hlt).trans c3; (first | have hBr := Below.nxd hBr b1 | have hBr := Below.nx hBr b1 | skip))
      | (go_at_call 19; (with_reducible refine (g3 _).mono ?_); rintro e w1 ⟨rfl, b1⟩; (first | have hB := Below.nxd hB b1 | have hB := Below.nx hB b1); have hR1 := hR.on hB; obtain ⟨r0, f0⟩ := hR1 0 _ rfl; obtain ⟨r1, f1⟩ := hR1 1 _ rfl; obtain ⟨r2, f2⟩ := hR1 2 _ rfl; obtain ⟨r3, f3⟩ := hR1 3 _ rfl; obtain ⟨r4, f4⟩ := hR1 4 _ rfl; obtain ⟨r5, f5⟩ := hR1 5 _ rfl; have y0 := (hB.cell (p := ⟨S, 0, none⟩) hlt).trans c0; have y1 := (hB.cell (p := ⟨S, 1, none⟩) hlt).trans c1; have y2 := (hB.cell (p := ⟨S, 2, none⟩) hlt).trans c2; have y3 := (hB.cell (p := ⟨S, 3, none⟩) hlt).trans c3; (first | have hBr := Below.nxd hBr b1 | have hBr := Below.nx hBr b1 | skip))
      | (go_at_call 44; (with_reducible refine (h2 _).mono ?_); rintro e w1 ⟨rfl, b1⟩; (first | have hB := Below.nxd hB b1 | have hB := Below.nx hB b1); have hR1 := hR.on hB; obtain ⟨r0, f0⟩ := hR1 0 _ rfl; obtain ⟨r1, f1⟩ := hR1 1 _ rfl; obtain ⟨r2, f2⟩ := hR1 2 _ rfl; obtain ⟨r3, f3⟩ := hR1 3 _ rfl; obtain ⟨r4, f4⟩ := hR1 4 _ rfl; obtain ⟨r5, f5⟩ := hR1 5 _ rfl; have y0 := (hB.cell (p := ⟨S, 0, none⟩) hlt).trans c0; have y1 := (hB.cell (p := ⟨S, 1, none⟩) hlt).trans c1; have y2 := (hB.cell (p := ⟨S, 2, none⟩) hlt).trans c2; have y3 := (hB.cell (p := ⟨S, 3, none⟩) hlt).trans c3; (first | have hBr := Below.nxd hBr b1 | have hBr := Below.nx hBr b1 | skip))
      | (go_at_call 45; (first | (with_reducible refine (hE _ hB).mono ?_) | (with_reducible refine (hE _ hB.drew).mono ?_)); rintro e w1 ⟨u1, u3, rfl, hr, b1⟩; (first | have hB := Below.nxd hB b1 | have hB := Below.nx hB b1); have hR1 := hR.on hB; obtain ⟨r0, f0⟩ := hR1 0 _ rfl; obtain ⟨r1, f1⟩ := hR1 1 _ rfl; obtain ⟨r2, f2⟩ := hR1 2 _ rfl; obtain ⟨r3, f3⟩ := hR1 3 _ rfl; obtain ⟨r4, f4⟩ := hR1 4 _ rfl; obtain ⟨r5, f5⟩ := hR1 5 _ rfl; have y0 := (hB.cell (p := ⟨S, 0, none⟩) hlt).trans c0; have y1 := (hB.cell (p := ⟨S, 1, none⟩) hlt).trans c1; have y2 := (hB.cell (p := ⟨S, 2, none⟩) hlt).trans c2; have y3 := (hB.cell (p := ⟨S, 3, none⟩) hlt).trans c3; have hBr : Below w1.heap.size w1 w1 := (Below.refl _ _))
      | fail)
  all_goals (
    have hrz := hr.stay kp_set (ok' := Nw w.heap.size (putL w1 (S + 1) 0 [.string ev, .nilIface, .string tg, .slice u1 ns u3, .int .i64 0, .int .i64 0])) (w' := putL w1 (S + 1) 0 [.string ev, .nilIface, .string tg, .slice u1 ns u3, .int .i64 0, .int .i64 0]) (fun b hb hl => hb.to (by have := HS.out; have := hb.1; omega) ((putL_heap _ _ _ _ _ (by have := hb.1; omega)).trans (hBr.block b hl)))
    have hR2 := (((((hR1.set (i := 0) (by simp) (.string ev)).set (i := 1) (by simp) (.nilIface)).set (i := 2) (by simp) (.string tg)).set (i := 3) (by simp) (.slice u1 ns u3)).set (i := 4) (by simp) (.int .i64 0)).set (i := 5) (by simp) (.int .i64 0)
    have hb2 := putL_below [.string ev, .nilIface, .string tg, .slice u1 ns u3, .int .i64 0, .int .i64 0] w1 (S + 1) 0 (hal.trans (hB.mono (by have := hal.size; omega))) (by have := HS.out; omega)
    go_wp2
    exact bodyPost_ret (con_res hR2 rfl) rfl ⟨u1, u3, rfl, hrz, hb2⟩)
set_option maxRecDepth 100000 in
set_option maxHeartbeats 16000000 in
theorem son_ifc {ok : Nat → Prop} {w : World} (ev tg : ByteArray) (gu : TypeId) (gy : Value) (s1 : Option Addr) (ns s3 : Nat) (ol oc : Int) (l : List (List UInt8 × Sx)) (h1 : ev.size ≤ 140737488351232) (h3 : tg.size ≤ 140737488351232) (h2 : ∀ w1, Calls Try.prog 44 #[.iface gu gy] w1 fun e w' => e = .returned (.iface gu gy) ∧ Below w1.heap.size w1 w')
    (hs : RdK ok w 2 (rSet ok w) l (.slice s1 ns s3)) (hn : l.length = ns) (hl : ns ≤ 100000) (hok : ∀ s ∈ l, SetOk s) : Calls Try.prog 43 #[.agg #[.string ev, .iface gu gy, .string tg, .slice s1 ns s3, .int .i64 ol, .int .i64 oc]] w fun e w' => ∃ u1 u3, e = .returned (.agg #[.string ev, .iface gu gy, .string tg, .slice u1 ns u3, .int .i64 0, .int .i64 0]) ∧ RdK (Nw w.heap.size w') w' 2 (rSet (Nw w.heap.size w') w') l (.slice u1 ns u3) ∧ Below w.heap.size w w' := by
  have g1 := fun w1 => pClone_any ev w1 h1
  have g3 := fun w1 => pClone_any tg w1 h3
  have hal : Below w.heap.size w ((w.alloc (.cells #[.string ev, .iface gu gy, .string tg, .slice s1 ns s3, .int .i64 ol, .int .i64 oc] 91)).alloc (.cells #[.string ⟨#[]⟩, .nilIface, .string ⟨#[]⟩, .slice none 0 0, .int .i64 0, .int .i64 0] 91)) := ((Below.refl w.heap.size w).alloc (Nat.le_refl _) _).alloc (by simp) _
  have hX : Bn ((w.alloc (.cells #[.string ev, .iface gu gy, .string tg, .slice s1 ns s3, .int .i64 ol, .int .i64 oc] 91)).alloc (.cells #[.string ⟨#[]⟩, .nilIface, .string ⟨#[]⟩, .slice none 0 0, .int .i64 0, .int .i64 0] 91)) w.heap.size [.string ev, .iface gu gy, .string tg, .slice s1 ns s3, .int .i64 ol, .int .i64 oc] := (Bn.new w [.string ev, .iface gu gy, .string tg, .slice s1 ns s3, .int .i64 ol, .int .i64 oc] 91 _ rfl).on ((Below.refl _ _).alloc (Nat.le_refl _) _)
  have hR : Bn ((w.alloc (.cells #[.string ev, .iface gu gy, .string tg, .slice s1 ns s3, .int .i64 ol, .int .i64 oc] 91)).alloc (.cells #[.string ⟨#[]⟩, .nilIface, .string ⟨#[]⟩, .slice none 0 0, .int .i64 0, .int .i64 0] 91)) (w.heap.size + 1) [.string ⟨#[]⟩, .nilIface, .string ⟨#[]⟩, .slice none 0 0, .int .i64 0, .int .i64 0] := Bn.new (w.alloc (.cells #[.string ev, .iface gu gy, .string tg, .slice s1 ns s3, .int .i64 ol, .int .i64 oc] 91)) [.string ⟨#[]⟩, .nilIface, .string ⟨#[]⟩, .slice none 0 0, .int .i64 0, .int .i64 0] 91 _ (by simp)
  have hsz : w.heap.size + 2 ≤ ((w.alloc (.cells #[.string ev, .iface gu gy, .string tg, .slice s1 ns s3, .int .i64 ol, .int .i64 oc] 91)).alloc (.cells #[.string ⟨#[]⟩, .nilIface, .string ⟨#[]⟩, .slice none 0 0, .int .i64 0, .int .i64 0] 91)).heap.size := by simp
  go_enter Try.func43, Try.ntmps43
  go_upto_region 1 with fail
  generalize ((w.alloc (.cells #[.string ev, .iface gu gy, .string tg, .slice s1 ns s3, .int .i64 ol, .int .i64 oc] 91)).alloc (.cells #[.string ⟨#[]⟩, .nilIface, .string ⟨#[]⟩, .slice none 0 0, .int .i64 0, .int .i64 0] 91)) = wx at *
  have hE : ∀ w1, Below wx.heap.size wx w1 → Calls Try.prog 45 #[.slice s1 ns s3, .func (.func 46) #[] #[]] w1 fun e w' => ∃ u1 u3, e = .returned (.slice u1 ns u3) ∧ RdK (Nw wx.heap.size w') w' 2 (rSet (Nw wx.heap.size w') w') l (.slice u1 ns u3) ∧ Below w1.heap.size w1 w' := fun w1 b1 => by
    have hs1 := hs.stay kp_set (ok' := ok) (w' := w1) (fun b hb hl => ⟨hb, (b1.block b (Nat.lt_of_lt_of_le hl hal.size)).trans (hal.block b hl)⟩)
    refine (eachSet_any hs1 (by omega) hok).mono ?_
    rintro e w' ⟨u, h1, h2, h3⟩
    obtain ⟨u1, u3, rfl, _⟩ := h2.form
    rw [hn] at h1 h2
    exact ⟨u1, u3, h1, h2.stay kp_set (fun b hb hl => hb.to (Nat.le_trans b1.size hb.1) rfl), h3⟩
  have hB : Below wx.heap.size wx wx := Below.refl _ _
  obtain ⟨c0, _⟩ := hX 0 _ rfl
  obtain ⟨c1, _⟩ := hX 1 _ rfl
  obtain ⟨c2, _⟩ := hX 2 _ rfl
  obtain ⟨c3, _⟩ := hX 3 _ rfl
  have hlt := hX.lt
  obtain ⟨S, hS⟩ : ∃ S, w.heap.size = S := ⟨_, rfl⟩
  rw [hS] at c0 c1 c2 c3 hlt hR hsz ⊢
  have HS : Hid (w.heap.size = S) := hS
  clear hs hX hS
  have n1 : S ≠ S + 1 := by omega
  have y0 := c0
  have y1 := c1
  have y2 := c2
  have y3 := c3
  go_region_held_law (fun w' => w'.cell? ⟨S, 0, none⟩ = some (.string ev) ∧ w'.cell? ⟨S, 1, none⟩ = some (.iface gu gy) ∧ w'.cell? ⟨S, 2, none⟩ = some (.string tg) ∧ w'.cell? ⟨S, 3, none⟩ = some (.slice s1 ns s3))
    ((refine ⟨?_, ?_, ?_, ?_⟩ <;> (repeat (first | (with_reducible exact y0) | (with_reducible exact y1) | (with_reducible exact y2) | (with_reducible exact y3) | (with_reducible refine cell_dr ?_) | (with_reducible refine cell_far4 (ne_pt n1) ?_))) <;> done))
    (first
      | (go_at_call 19; (with_reducible refine (g1 _).mono ?_); rintro e w1 ⟨rfl, b1⟩; (first | have hB := Below.nxd hB b1 | have hB := Below.nx hB b1); have hR1 := hR.on hB; obtain ⟨r0, f0⟩ := hR1 0 _ rfl; obtain ⟨r1, f1⟩ := hR1 1 _ rfl; obtain ⟨r2, f2⟩ := hR1 2 _ rfl; obtain ⟨r3, f3⟩ := hR1 3 _ rfl; obtain ⟨r4, f4⟩ := hR1 4 _ rfl; obtain ⟨r5, f5⟩ := hR1 5 _ rfl; have y0 := (hB.cell (p := ⟨S, 0, none⟩) hlt).trans c0; have y1 := (hB.cell (p := ⟨S, 1, none⟩) hlt).trans c1; have y2 := (hB.cell (p := ⟨S, 2, none⟩) hlt).trans c2; have y3 := (hB.cell (p := ⟨S, 3, none⟩) hlt).trans c3; (first | have hBr := Below.nxd hBr b1 | have hBr := Below.nx hBr b1 | skip))
      | (go_at_call 19; (with_reducible refine (g3 _).mono ?_); rintro e w1 ⟨rfl, b1⟩; (first | have hB := Below.nxd hB b1 | have hB := Below.nx hB b1); have hR1 := hR.on hB; obtain ⟨r0, f0⟩ := hR1 0 _ rfl; obtain ⟨r1, f1⟩ := hR1 1 _ rfl; obtain ⟨r2, f2⟩ := hR1 2 _ rfl; obtain ⟨r3, f3⟩ := hR1 3 _ rfl; obtain ⟨r4, f4⟩ := hR1 4 _ rfl; obtain ⟨r5, f5⟩ := hR1 5 _ rfl; have y0 := (hB.cell (p := ⟨S, 0, none⟩) hlt).trans c0; have y1 := (hB.cell (p := ⟨S, 1, none⟩) hlt).trans c1; have y2 := (hB.cell (p := ⟨S, 2, none⟩) hlt).trans c2; have y3 := (hB.cell (p := ⟨S, 3, none⟩) hlt).trans c3; (first | have hBr := Below.nxd hBr b1 | have hBr := Below.nx hBr b1 | skip))
      | (go_at_call 44; (with_reducible refine (h2 _).mono ?_); rintro e w1 ⟨rfl, b1⟩; (first | have hB := Below.nxd hB b1 | have hB := Below.nx hB b1); have hR1 := hR.on hB; obtain ⟨r0, f0⟩ := hR1 0 _ rfl; obtain ⟨r1, f1⟩ := hR1 1 _ rfl; obtain ⟨r2, f2⟩ := hR1 2 _ rfl; obtain ⟨r3, f3⟩ := hR1 3 _ rfl; obtain ⟨r4, f4⟩ := hR1 4 _ rfl; obtain ⟨r5, f5⟩ := hR1 5 _ rfl; have y0 := (hB.cell (p := ⟨S, 0, none⟩) hlt).trans c0; have y1 := (hB.cell (p := ⟨S, 1, none⟩) hlt).trans c1; have y2 := (hB.cell (p := ⟨S, 2, none⟩) hlt).trans c2; have y3 := (hB.cell (p := ⟨S, 3, none⟩) hlt).trans c3; (first | have hBr := Below.nxd hBr b1 | have hBr := Below.nx hBr b1 | skip))
      | (go_at_call 45; (first | (with_reducible refine (hE _ hB).mono ?_) | (with_reducible refine (hE _ hB.drew).mono ?_)); rintro e w1 ⟨u1, u3, rfl, hr, b1⟩; (first | have hB := Below.nxd hB b1 | have hB := Below.nx hB b1); have hR1 := hR.on hB; obtain ⟨r0, f0⟩ := hR1 0 _ rfl; obtain ⟨r1, f1⟩ := hR1 1 _ rfl; obtain ⟨r2, f2⟩ := hR1 2 _ rfl; obtain ⟨r3, f3⟩ := hR1 3 _ rfl; obtain ⟨r4, f4⟩ := hR1 4 _ rfl; obtain ⟨r5, f5⟩ := hR1 5 _ rfl; have y0 := (hB.cell (p := ⟨S, 0, none⟩) hlt).trans c0; have y1 := (hB.cell (p := ⟨S, 1, none⟩) hlt).trans c1; have y2 := (hB.cell (p := ⟨S, 2, none⟩) hlt).trans c2; have y3 := (hB.cell (p := ⟨S, 3, none⟩) hlt).trans c3; have hBr : Below w1.heap.size w1 w1 := (Below.refl _ _))
      | fail)
  all_goals (
    have hrz := hr.stay kp_set (ok' := Nw w.heap.size (putL w1 (S + 1) 0 [.string ev, .iface gu gy, .string tg, .slice u1 ns u3, .int .i64 0, .int .i64 0])) (w' := putL w1 (S + 1) 0 [.string ev, .iface gu gy, .string tg, .slice u1 ns u3, .int .i64 0, .int .i64 0]) (fun b hb hl => hb.to (by have := HS.out; have := hb.1; omega) ((putL_heap _ _ _ _ _ (by have := hb.1; omega)).trans (hBr.block b hl)))
    have hR2 := (((((hR1.set (i := 0) (by simp) (.string ev)).set (i := 1) (by simp) (.iface gu gy)).set (i := 2) (by simp) (.string tg)).set (i := 3) (by simp) (.slice u1 ns u3)).set (i := 4) (by simp) (.int .i64 0)).set (i := 5) (by simp) (.int .i64 0)
    have hb2 := putL_below [.string ev, .iface gu gy, .string tg, .slice u1 ns u3, .int .i64 0, .int .i64 0] w1 (S + 1) 0 (hal.trans (hB.mono (by have := hal.size; omega))) (by have := HS.out; omega)
    go_wp2
    exact bodyPost_ret (con_res hR2 rfl) rfl ⟨u1, u3, rfl, hrz, hb2⟩)
end Go.Proofs.Ytoankfbccofllaa

/- Words that are alike but for their places make charts that are alike but for theirs. Math alone. -/
namespace Go.Proofs.Ytoankfbccofllaa
open Go.RowKit Go.Lib
set_option linter.unusedVariables false
/-- Readers that are alike but for places. -/
def Lk (r r' : RsC) : Prop := r.1.map tkW = r'.1.map tkW ∧ r.2.2 = r'.2.2
theorem Lk.len {r r' : RsC} (h : Lk r r') : r.1.length = r'.1.length := by
  have := congrArg List.length h.1
  rwa [List.length_map, List.length_map] at this
theorem Lk.drop {r r' : RsC} (h : Lk r r') (n : Nat) : Lk (r.1.drop n, r.2) (r'.1.drop n, r'.2) := by
  refine ⟨?_, h.2⟩
  show (r.1.drop n).map tkW = (r'.1.drop n).map tkW
  rw [List.map_drop, List.map_drop, h.1]
theorem Lk.fail {r r' : RsC} (h : Lk r r') (e : Int) (p p' : Pl) : Lk (failC e p r) (failC e p' r') := by
  unfold failC
  rw [← h.2]
  split
  · exact ⟨h.1, rfl⟩
  · exact h
theorem Lk.isq {r r' : RsC} (h : Lk r r') (s : List UInt8) : isC s r = isC s r' := by
  unfold isC
  rw [h.2]
  have h1 := h.1
  cases hr : r.1 with
  | nil =>
    rw [hr] at h1
    cases hr' : r'.1 with
    | nil => rfl
    | cons w l => rw [hr'] at h1; simp at h1
  | cons w l =>
    rw [hr] at h1
    cases hr' : r'.1 with
    | nil => rw [hr'] at h1; simp at h1
    | cons w' l' =>
      rw [hr', List.map_cons, List.map_cons] at h1
      injection h1 with h2 h3
      simp only [h2]
theorem Lk.tail {r r' : RsC} (h : Lk r r') : Lk (r.1.tail, r.2) (r'.1.tail, r'.2) := by
  have := h.drop 1
  rwa [List.drop_one, List.drop_one] at this
theorem Lk.take {r r' : RsC} (h : Lk r r') (fin fin' : Pl) (s : List UInt8) : Lk (takeR fin s r) (takeR fin' s r') := by
  unfold takeR
  rw [← h.isq s]
  split
  · exact h.tail
  · exact h.fail _ _ _
theorem Lk.cons {r r' : RsC} (h : Lk r r') : (r.1 = [] ∧ r'.1 = []) ∨ ∃ w l w' l', r.1 = w :: l ∧ r'.1 = w' :: l' ∧ tkW w = tkW w' ∧ l.map tkW = l'.map tkW := by
  have h1 := h.1
  cases hr : r.1 with
  | nil =>
    rw [hr] at h1
    cases hr' : r'.1 with
    | nil => exact .inl ⟨rfl, rfl⟩
    | cons w l => rw [hr'] at h1; simp at h1
  | cons w l =>
    rw [hr] at h1
    cases hr' : r'.1 with
    | nil => rw [hr'] at h1; simp at h1
    | cons w' l' =>
      rw [hr', List.map_cons, List.map_cons] at h1
      injection h1 with h2 h3
      exact .inr ⟨w, l, w', l', rfl, rfl, h2, h3⟩
theorem Lk.name {r r' : RsC} (h : Lk r r') (fin fin' : Pl) : (nameR fin r).1.1 = (nameR fin' r').1.1 ∧ Lk (nameR fin r).2 (nameR fin' r').2 := by
  unfold nameR
  rcases h.cons with ⟨h1, h2⟩ | ⟨w, l, w', l', h1, h2, h3, h4⟩
  · rw [h1, h2]; exact ⟨rfl, h.fail _ _ _⟩
  · rw [h1, h2]
    simp only
    rw [← h.2, ← h3]
    split
    · exact ⟨rfl, h4, h.2⟩
    · exact ⟨rfl, h.fail _ _ _⟩
theorem Lk.num {r r' : RsC} (h : Lk r r') (fin fin' : Pl) : (numR fin r).1 = (numR fin' r').1 ∧ Lk (numR fin r).2 (numR fin' r').2 := by
  unfold numR
  rcases h.cons with ⟨h1, h2⟩ | ⟨w, l, w', l', h1, h2, h3, h4⟩
  · rw [h1, h2]; exact ⟨rfl, h.fail _ _ _⟩
  · rw [h1, h2]
    have hk : w.1 = w'.1 := congrArg (fun x : Tk => x.1) h3
    simp only
    rw [← h.2, ← h3, ← hk]
    split
    · exact ⟨rfl, h4, h.2⟩
    · exact ⟨rfl, h.fail _ _ _⟩
theorem Lk.expr {r r' : RsC} (h : Lk r r') (fin fin' : Pl) : (exprR fin r).1 = (exprR fin' r').1 ∧ Lk (exprR fin r).2 (exprR fin' r').2 := by
  unfold exprR
  rw [← h.1, ← h.2]
  split
  · exact ⟨rfl, h⟩
  · split
    · exact ⟨rfl, h.drop _⟩
    · split
      · exact ⟨rfl, h.fail _ _ _⟩
      · exact ⟨rfl, (h.drop _).fail _ _ _⟩
theorem Lk.sets (fin fin' : Pl) : ∀ (g : Nat) (acc : List (List UInt8 × Sx)) {r r' : RsC}, Lk r r' → (setsR fin g acc r).1 = (setsR fin' g acc r').1 ∧ Lk (setsR fin g acc r).2 (setsR fin' g acc r').2
  | 0, acc, r, r', h => ⟨rfl, h⟩
  | g + 1, acc, r, r', h => by
    unfold setsR
    rw [← h.isq wSet]
    split
    · obtain ⟨a1, a2⟩ := (h.take fin fin' wSet).name fin fin'
      obtain ⟨b1, b2⟩ := (a2.take fin fin' [61]).expr fin fin'
      simp only
      rw [a1, b1]
      exact Lk.sets fin fin' g _ b2
    · exact ⟨rfl, h⟩
/-- An on without its place. -/
def stO (o : OnC) : OnC := (o.1, o.2.1, o.2.2.1, o.2.2.2.1, (0, 0))
theorem Lk.on {r r' : RsC} (h : Lk r r') (fin fin' : Pl) : stO (onR fin r).1 = stO (onR fin' r').1 ∧ Lk (onR fin r).2 (onR fin' r').2 := by
  unfold onR
  obtain ⟨a1, a2⟩ := (h.take fin fin' wOn).name fin fin'
  simp only
  generalize nameR fin (takeR fin wOn r) = A at *
  generalize nameR fin' (takeR fin' wOn r') = A' at *
  have hg : (if isC wIf A.2 = true then ((fun x => ((true, x.1), x.2)) (exprR fin (takeR fin wIf A.2)) : (Bool × Sx) × RsC) else ((false, noX), A.2)).1 = (if isC wIf A'.2 = true then ((fun x => ((true, x.1), x.2)) (exprR fin' (takeR fin' wIf A'.2)) : (Bool × Sx) × RsC) else ((false, noX), A'.2)).1 ∧
      Lk (if isC wIf A.2 = true then ((fun x => ((true, x.1), x.2)) (exprR fin (takeR fin wIf A.2)) : (Bool × Sx) × RsC) else ((false, noX), A.2)).2 (if isC wIf A'.2 = true then ((fun x => ((true, x.1), x.2)) (exprR fin' (takeR fin' wIf A'.2)) : (Bool × Sx) × RsC) else ((false, noX), A'.2)).2 := by
    rw [← a2.isq wIf]
    split
    · obtain ⟨e1, e2⟩ := (a2.take fin fin' wIf).expr fin fin'
      exact ⟨congrArg (Prod.mk true) e1, e2⟩
    · exact ⟨rfl, a2⟩
  generalize (if isC wIf A.2 = true then ((fun x => ((true, x.1), x.2)) (exprR fin (takeR fin wIf A.2)) : (Bool × Sx) × RsC) else ((false, noX), A.2)) = G at *
  generalize (if isC wIf A'.2 = true then ((fun x => ((true, x.1), x.2)) (exprR fin' (takeR fin' wIf A'.2)) : (Bool × Sx) × RsC) else ((false, noX), A'.2)) = G' at *
  obtain ⟨g1, g2⟩ := hg
  obtain ⟨t1, t2⟩ := (g2.take fin fin' wGo).name fin fin'
  generalize nameR fin (takeR fin wGo G.2) = U at *
  generalize nameR fin' (takeR fin' wGo G'.2) = U' at *
  rw [← t2.len]
  obtain ⟨s1, s2⟩ := Lk.sets fin fin' (U.2.1.length + 1) [] t2
  refine ⟨?_, s2⟩
  unfold stO
  simp only [a1, g1, t1, s1]
theorem Lk.kind {r r' : RsC} (h : Lk r r') (fin fin' : Pl) : (kindR fin r).1 = (kindR fin' r').1 ∧ Lk (kindR fin r).2 (kindR fin' r').2 := by
  unfold kindR
  rw [← h.isq wAll, ← h.isq wEnd, ← h.isq wDo]
  split
  · exact ⟨rfl, h.take _ _ _⟩
  · split
    · exact ⟨rfl, h.take _ _ _⟩
    · split
      · obtain ⟨a1, a2⟩ := (h.take fin fin' wDo).name fin fin'
        obtain ⟨b1, b2⟩ := (a2.take fin fin' wUndo).name fin fin'
        obtain ⟨c1, c2⟩ := (b2.take fin fin' wAt).num fin fin'
        obtain ⟨e1, e2⟩ := (c2.take fin fin' wRetries).num fin fin'
        simp only
        exact ⟨by rw [a1, b1, c1, e1], e2⟩
      · exact ⟨rfl, h⟩
/-- A state without places. -/
def stS : (d : Nat) → St d → St d
  | 0, t => Empty.elim t
  | d + 1, t => show HdC × List (St d) from (((t.1.1.1, (0, 0)), t.1.2.1, t.1.2.2.1, t.1.2.2.2.1, t.1.2.2.2.2.map stO), t.2.map (stS d))
theorem Lk.inn {α : Type} (f : α → α) (fin fin' : Pl) (i1 i2 : RsC → α × RsC) (hi : ∀ {r r' : RsC}, Lk r r' → f (i1 r).1 = f (i2 r').1 ∧ Lk (i1 r).2 (i2 r').2) :
    ∀ (g : Nat) (os os' : List OnC) (ss ss' : List α) {r r' : RsC}, Lk r r' → os.map stO = os'.map stO → ss.map f = ss'.map f →
      (inR fin i1 g os ss r).1.1.map stO = (inR fin' i2 g os' ss' r').1.1.map stO ∧ (inR fin i1 g os ss r).1.2.map f = (inR fin' i2 g os' ss' r').1.2.map f ∧ Lk (inR fin i1 g os ss r).2 (inR fin' i2 g os' ss' r').2
  | 0, os, os', ss, ss', r, r', h, ho, hs => ⟨ho, hs, h⟩
  | g + 1, os, os', ss, ss', r, r', h, ho, hs => by
    unfold inR
    rw [← h.2, ← h.isq [125], ← h.isq wOn]
    split
    · split
      · obtain ⟨a1, a2⟩ := h.on fin fin'
        exact Lk.inn f fin fin' i1 i2 hi g _ _ _ _ a2 (by rw [List.map_append, List.map_append, ho, List.map_singleton, List.map_singleton, a1]) hs
      · obtain ⟨a1, a2⟩ := hi h
        exact Lk.inn f fin fin' i1 i2 hi g _ _ _ _ a2 ho (by rw [List.map_append, List.map_append, hs, List.map_singleton, List.map_singleton, a1])
    · exact ⟨ho, hs, h⟩
theorem Lk.st (fin fin' : Pl) : ∀ (k : Nat) {r r' : RsC}, Lk r r' → stS (k + 1) (stR fin k r).1 = stS (k + 1) (stR fin' k r').1 ∧ Lk (stR fin k r).2 (stR fin' k r').2
  | 0, r, r', h => by
    refine ⟨rfl, ?_⟩
    show Lk (failC (if isC wState r = true then 13 else 12) (hereR fin r) r) (failC (if isC wState r' = true then 13 else 12) (hereR fin' r') r')
    rw [← h.isq wState]
    exact h.fail _ _ _
  | k + 1, r, r', h => by
    obtain ⟨a1, a2⟩ := (h.take fin fin' wState).name fin fin'
    obtain ⟨b1, b2⟩ := (a2.take fin fin' [123]).kind fin fin'
    obtain ⟨c1, c2, c3⟩ := Lk.inn (stS (k + 1)) fin fin' (stR fin k) (stR fin' k) (fun h => Lk.st fin fin' k h) ((kindR fin (takeR fin [123] (nameR fin (takeR fin wState r)).2)).2.1.length + 1) [] [] [] [] b2 rfl rfl
    refine ⟨?_, ?_⟩
    · show (show HdC × List (St (k + 1)) from (((_, (0, 0)), _, _, _, List.map stO _), List.map (stS (k + 1)) _)) = (show HdC × List (St (k + 1)) from (((_, (0, 0)), _, _, _, List.map stO _), List.map (stS (k + 1)) _))
      simp only [stR]
      rw [← b2.len, a1, b1, c1, c2]
    · simp only [stR]
      rw [← b2.len]
      exact c3.take _ _ _
end Go.Proofs.Ytoankfbccofllaa

/- What the program's each is over ons. -/
namespace Go.Proofs.Ytoankfbccofllaa
open Go.RowKit Go.Lib
set_option linter.unusedSimpArgs false
set_option linter.unusedVariables false
attribute [local go_sem ↓] Go.wp_at_zero Go.wp_at_succ

theorem Try.infoEOn : (Try.prog.info? 91).map (fun i => (i.zero, i.size, i.bytes)) = some (some (.agg #[.string ⟨#[]⟩, .nilIface, .string ⟨#[]⟩, .slice none 0 0, .int .i64 0, .int .i64 0]), 6, 88) := by kernel_rfl
def OnOk (o : OnC) : Prop := o.1.length ≤ 140737488351232 ∧ o.2.2.1.length ≤ 140737488351232 ∧ (o.2.1.1 = true → ExOk o.2.1.2) ∧ (∀ s ∈ o.2.2.2.1, SetOk s) ∧ o.2.2.2.1.length ≤ 100000
theorem exOk_no : ExOk noX := ⟨cl_none (d := 0), by show cntX noX ≤ 2000; decide, rfl⟩
theorem onQ_at {ok : Nat → Prop} {w : World} {l : List OnC} {a : Option Addr} {n cap : Nat} (h : RdK ok w 6 (rOn ok w) l (.slice a n cap)) (j : Nat) (hj : j < l.length) : ∃ b off s1 s3, a = some ⟨b, off, none⟩ ∧ b < w.heap.size ∧ RdK ok w 2 (rSet ok w) l[j].2.2.2.1 (.slice s1 l[j].2.2.2.1.length s3) ∧ ∀ i u, (onV l[j] (.slice s1 l[j].2.2.2.1.length s3))[i]? = some u → w.cell? ⟨b, off + j * 6 + i, none⟩ = some u := by
  obtain ⟨a1, cap1, he, h1, h2, h3⟩ := h
  simp only [Value.slice.injEq] at he
  obtain ⟨rfl, rfl, rfl⟩ := he
  obtain ⟨b, off, cs, ha, _, hb, hl, ⟨sl, rfl, hs⟩, hc⟩ := h3 j hj
  obtain ⟨s1, s3, rfl, _⟩ := hs.form
  exact ⟨b, off, s1, s3, ha, hb, hs, hc⟩
theorem copG {o : OnC} (h : OnOk o) (w : World) : Calls Try.prog 44 #[gdV o.2.1] w fun e w' => e = .returned (gdV o.2.1) ∧ Below w.heap.size w w' := by
  unfold gdV
  split
  · next hb => exact copX (h.2.2.1 hb) w
  · exact copX exOk_no w
set_option maxRecDepth 100000 in
set_option maxHeartbeats 8000000 in
theorem eachOn_any {ok : Nat → Prop} {w : World} {l : List OnC} {v : Value} (h : RdK ok w 6 (rOn ok w) l v) (hl : l.length ≤ 100000) (hok : ∀ s ∈ l, OnOk s) :
    Calls Try.prog 42 #[v, .func (.func 43) #[] #[]] w fun e w' => ∃ u, e = .returned u ∧ RdK (Nw w.heap.size w') w' 6 (rOn (Nw w.heap.size w') w') (l.map stO) u ∧ Below w.heap.size w w' := by
  obtain ⟨ie, hie, hie0, hie1, hie2⟩ := info_parts Try.infoEOn
  obtain ⟨a, cap, rfl, hlc, hcm⟩ := h.form
  unfold maxLen at hcm
  have HC := mkHid h
  have HK := mkHid hok
  obtain ⟨n, hn⟩ : ∃ n, l.length = n := ⟨_, rfl⟩
  rw [hn] at hlc hl ⊢
  have HN : Hid (l.length = n) := hn
  clear h hok hn
  have hmk := run_make (P := Try.prog) w 43 91 ie _ Try.underlying43 hie hie0 .i64 .i64 (n : Int) (n : Int) (by omega) (by omega) (by rw [hie2]; omega) (by omega)
  rw [Int.toNat_natCast, hie1] at hmk
  have hG0 : RowG (w.alloc (.cells (madeCells (.agg #[.string ⟨#[]⟩, .nilIface, .string ⟨#[]⟩, .slice none 0 0, .int .i64 0, .int .i64 0] : Value).cells (n * 6)) 91)) w.heap.size 6 n rOn ([] : List (OnC)) := RowG.made w _ 6 n _ _
  have hb0 : Below w.heap.size w (w.alloc (.cells (madeCells (.agg #[.string ⟨#[]⟩, .nilIface, .string ⟨#[]⟩, .slice none 0 0, .int .i64 0, .int .i64 0] : Value).cells (n * 6)) 91)) := (Below.refl _ _).alloc (Nat.le_refl _) _
  have hs0 : (w.alloc (.cells (madeCells (.agg #[.string ⟨#[]⟩, .nilIface, .string ⟨#[]⟩, .slice none 0 0, .int .i64 0, .int .i64 0] : Value).cells (n * 6)) 91)).heap.size = w.heap.size + 1 := by simp
  generalize w.alloc (.cells (madeCells (.agg #[.string ⟨#[]⟩, .nilIface, .string ⟨#[]⟩, .slice none 0 0, .int .i64 0, .int .i64 0] : Value).cells (n * 6)) 91) = w0 at *
  go_enter Try.func42, Try.ntmps42
  go_wp2
  go_loopw [13] (fun ix wr => ∃ (i : Nat), i ≤ n ∧ ix = .int .i64 (i : Int) ∧ RowG wr w.heap.size 6 n rOn ((l.map stO).take i) ∧ Below w.heap.size w wr ∧ w.heap.size < wr.heap.size) (fun ix _ => n - (RowKit.intOf ix).toNat)
  case atStart => exact ⟨0, Nat.zero_le _, rfl, hG0, hb0, by omega⟩
  case round =>
    obtain ⟨i, hi, rfl, hRow, hb, hGs⟩ := hrel
    clear hG0 hb0 hs0 hmk
    by_cases hlt : i < n
    · have hil : i < l.length := by rw [HN.out]; exact hlt
      obtain ⟨b, off, s1, s3, rfl, hbl, hSe, hc⟩ := onQ_at HC.out i hil
      have hko := HK.out _ (List.getElem_mem hil)
      obtain ⟨o, ho⟩ : ∃ o, l[i] = o := ⟨_, rfl⟩
      rw [ho] at hSe hc hko
      obtain ⟨ns, hns⟩ : ∃ m, o.2.2.2.1.length = m := ⟨_, rfl⟩
      rw [hns] at hSe hc
      have hg := copG hko
      obtain ⟨ev, hev⟩ : ∃ ev : ByteArray, ⟨o.1.toArray⟩ = ev := ⟨_, rfl⟩
      obtain ⟨tg, htg⟩ : ∃ tg : ByteArray, ⟨o.2.2.1.toArray⟩ = tg := ⟨_, rfl⟩
      have hz1 : ev.size ≤ 140737488351232 := by rw [← hev]; show o.1.toArray.size ≤ _; simpa using hko.1
      have hz2 : tg.size ≤ 140737488351232 := by rw [← htg]; show o.2.2.1.toArray.size ≤ _; simpa using hko.2.1
      obtain ⟨ol, hol⟩ : ∃ x, o.2.2.2.2.1 = x := ⟨_, rfl⟩
      obtain ⟨oc, hoc⟩ : ∃ x, o.2.2.2.2.2 = x := ⟨_, rfl⟩
      have hform := gdV_form o.2.1
      obtain ⟨gv, hgv⟩ : ∃ gv, gdV o.2.1 = gv := ⟨_, rfl⟩
      have hov : ∀ sl, onV o sl = [.string ev, gv, .string tg, sl, .int .i64 ol, .int .i64 oc] := fun sl => by
        unfold onV sV
        rw [hev, htg, hol, hoc, hgv]
      have hov2 : ∀ sl, onV (stO o) sl = [.string ev, gv, .string tg, sl, .int .i64 0, .int .i64 0] := fun sl => by
        show [sV o.1, gdV o.2.1, sV o.2.2.1, sl, .int .i64 0, .int .i64 0] = _
        unfold sV
        rw [hev, htg, hgv]
      rw [hov] at hc
      rw [hgv] at hform hg
      have HQ : Hid (l[i] = o) := ho
      have HOV : Hid (∀ sl, onV (stO o) sl = [.string ev, gv, .string tg, sl, .int .i64 0, .int .i64 0]) := hov2
      have HNS : Hid (o.2.2.2.1.length = ns) := hns
      have HKO : Hid (OnOk o) := hko
      have HSE : Hid (RdK ok w 2 (rSet ok w) o.2.2.2.1 (.slice s1 ns s3)) := hSe
      clear ho hns hko hSe hev htg hol hoc hgv hov hov2
      obtain ⟨acc, hac⟩ : ∃ acc, (l.map stO).take i = acc := ⟨_, rfl⟩
      have hla : acc.length = i := by rw [← hac]; simp [HN.out]; omega
      rw [hac] at hRow
      have HAC : Hid ((l.map stO).take i = acc) := hac
      clear hac
      have i1 : (i : Int) < (n : Int) := by omega
      have i2 : (0 : Int) ≤ (i : Int) := by omega
      have C0 := (hb.cell (p := ⟨b, off + i * 6 + 0, none⟩) hbl).trans (hc 0 _ rfl)
      have C1 := (hb.cell (p := ⟨b, off + i * 6 + 1, none⟩) hbl).trans (hc 1 _ rfl)
      have C2 := (hb.cell (p := ⟨b, off + i * 6 + 2, none⟩) hbl).trans (hc 2 _ rfl)
      have C3 := (hb.cell (p := ⟨b, off + i * 6 + 3, none⟩) hbl).trans (hc 3 _ rfl)
      have C4 := (hb.cell (p := ⟨b, off + i * 6 + 4, none⟩) hbl).trans (hc 4 _ rfl)
      have C5 := (hb.cell (p := ⟨b, off + i * 6 + 5, none⟩) hbl).trans (hc 5 _ rfl)
      rw [Nat.add_zero] at C0
      clear hc
      rcases hform with rfl | ⟨gu, gy, rfl⟩
      · have hal := (Below.refl wr.heap.size wr).alloc (Nat.le_refl _) (.cells #[.string ev, .nilIface, .string tg, .slice s1 ns s3, .int .i64 ol, .int .i64 oc] 91)
        have hX := Bn.new wr [.string ev, .nilIface, .string tg, .slice s1 ns s3, .int .i64 ol, .int .i64 oc] 91 _ rfl
        have hRx := hRow.on kp_on hGs hal
        have hbx := hb.trans (hal.mono hb.size)
        have hGx := Nat.lt_of_lt_of_le hGs hal.size
        have hcall : ∀ w1, Below w.heap.size w w1 → Calls Try.prog 43 #[.agg #[.string ev, .nilIface, .string tg, .slice s1 ns s3, .int .i64 ol, .int .i64 oc]] w1 fun e w' => ∃ u1 u3, e = .returned (.agg #[.string ev, .nilIface, .string tg, .slice u1 ns u3, .int .i64 0, .int .i64 0]) ∧ RdK (Nw w1.heap.size w') w' 2 (rSet (Nw w1.heap.size w') w') o.2.2.2.1 (.slice u1 ns u3) ∧ Below w1.heap.size w1 w' := fun w1 b1 => son_nil ev tg s1 ns s3 ol oc o.2.2.2.1 hz1 hz2 hg (HSE.out.stay kp_set (ok' := ok) (fun b hb hl => ⟨hb, b1.block b hl⟩)) HNS.out (by have := HKO.out.2.2.2.2; rw [HNS.out] at this; exact this) HKO.out.2.2.2.1
        clear hg
        go_upto_region 5 with fail
        clear C0 C1 C2 C3 C4 C5 hal
        generalize wr.alloc (.cells #[.string ev, .nilIface, .string tg, .slice s1 ns s3, .int .i64 ol, .int .i64 oc] 91) = wx at *
        obtain ⟨X, hXX⟩ : ∃ X, wr.heap.size = X := ⟨_, rfl⟩
        rw [hXX] at hX ⊢
        have HXX : Hid (wr.heap.size = X) := hXX
        clear hXX
        obtain ⟨x0, _⟩ := hX 0 _ rfl
        obtain ⟨x1, _⟩ := hX 1 _ rfl
        obtain ⟨x2, _⟩ := hX 2 _ rfl
        obtain ⟨x3, _⟩ := hX 3 _ rfl
        obtain ⟨x4, _⟩ := hX 4 _ rfl
        obtain ⟨x5, _⟩ := hX 5 _ rfl
        go_wp2_with (first
          | (go_at_call 43; refine (hcall _ hbx).mono ?_; rintro e w1 ⟨u1, u3, rfl, hr, b1⟩; have hp : rOn (Nw (w.heap.size + 1) w1) w1 (stO o) [.string ev, .nilIface, .string tg, .slice u1 ns u3, .int .i64 0, .int .i64 0] := (⟨.slice u1 ns u3, (HOV.out _).symm, hr.stay kp_set (fun b hb hl => hb.to (Nat.lt_of_lt_of_le hGx hb.1) rfl)⟩); clear hr; have hR1 := hRx.on kp_on hGx b1; obtain ⟨⟨r0, q0⟩, z0⟩ := hR1.1 (i * 6 + 0) (mul_in hlt (by omega)); obtain ⟨⟨r1, q1⟩, z1⟩ := hR1.1 (i * 6 + 1) (mul_in hlt (by omega)); obtain ⟨⟨r2, q2⟩, z2⟩ := hR1.1 (i * 6 + 2) (mul_in hlt (by omega)); obtain ⟨⟨r3, q3⟩, z3⟩ := hR1.1 (i * 6 + 3) (mul_in hlt (by omega)); obtain ⟨⟨r4, q4⟩, z4⟩ := hR1.1 (i * 6 + 4) (mul_in hlt (by omega)); obtain ⟨⟨r5, q5⟩, z5⟩ := hR1.1 (i * 6 + 5) (mul_in hlt (by omega)); rw [Nat.add_zero] at q0 z0)
          | fail)
        have hP := hR1.put kp_on (x := stO o) (cs := [.string ev, .nilIface, .string tg, .slice u1 ns u3, .int .i64 0, .int .i64 0]) (by rw [hla]; exact hlt) rfl hp
        rw [hla] at hP
        have hb2 := putL_below [.string ev, .nilIface, .string tg, .slice u1 ns u3, .int .i64 0, .int .i64 0] w1 w.heap.size (i * 6) (hbx.trans (b1.mono (Nat.le_of_lt hGx))) (Nat.le_refl _)
        have hs2 : w.heap.size < (putL w1 w.heap.size (i * 6) [.string ev, .nilIface, .string tg, .slice u1 ns u3, .int .i64 0, .int .i64 0]).heap.size := by rw [putL_size]; exact Nat.lt_of_lt_of_le hGx b1.size
        have hac2 : (l.map stO).take (i + 1) = acc ++ [stO o] := by
          rw [List.take_succ_eq_append_getElem (by simp [HN.out]; omega), HAC.out]
          simp [HQ.out]
        clear x0 r0 q0 z0 x1 r1 q1 z1 x2 r2 q2 z2 x3 r3 q3 z3 x4 r4 q4 z4 x5 r5 q5 z5 hR1 hRx hp
        go_wp2
        go_roundw
        case rel => exact ⟨i + 1, hlt, by go_num, by rw [hac2]; exact hP, hb2, hs2⟩
        case measure => simp [RowKit.intOf]; omega
      · have hal := (Below.refl wr.heap.size wr).alloc (Nat.le_refl _) (.cells #[.string ev, .iface gu gy, .string tg, .slice s1 ns s3, .int .i64 ol, .int .i64 oc] 91)
        have hX := Bn.new wr [.string ev, .iface gu gy, .string tg, .slice s1 ns s3, .int .i64 ol, .int .i64 oc] 91 _ rfl
        have hRx := hRow.on kp_on hGs hal
        have hbx := hb.trans (hal.mono hb.size)
        have hGx := Nat.lt_of_lt_of_le hGs hal.size
        have hcall : ∀ w1, Below w.heap.size w w1 → Calls Try.prog 43 #[.agg #[.string ev, .iface gu gy, .string tg, .slice s1 ns s3, .int .i64 ol, .int .i64 oc]] w1 fun e w' => ∃ u1 u3, e = .returned (.agg #[.string ev, .iface gu gy, .string tg, .slice u1 ns u3, .int .i64 0, .int .i64 0]) ∧ RdK (Nw w1.heap.size w') w' 2 (rSet (Nw w1.heap.size w') w') o.2.2.2.1 (.slice u1 ns u3) ∧ Below w1.heap.size w1 w' := fun w1 b1 => son_ifc ev tg gu gy s1 ns s3 ol oc o.2.2.2.1 hz1 hz2 hg (HSE.out.stay kp_set (ok' := ok) (fun b hb hl => ⟨hb, b1.block b hl⟩)) HNS.out (by have := HKO.out.2.2.2.2; rw [HNS.out] at this; exact this) HKO.out.2.2.2.1
        clear hg
        go_upto_region 5 with fail
        clear C0 C1 C2 C3 C4 C5 hal
        generalize wr.alloc (.cells #[.string ev, .iface gu gy, .string tg, .slice s1 ns s3, .int .i64 ol, .int .i64 oc] 91) = wx at *
        obtain ⟨X, hXX⟩ : ∃ X, wr.heap.size = X := ⟨_, rfl⟩
        rw [hXX] at hX ⊢
        have HXX : Hid (wr.heap.size = X) := hXX
        clear hXX
        obtain ⟨x0, _⟩ := hX 0 _ rfl
        obtain ⟨x1, _⟩ := hX 1 _ rfl
        obtain ⟨x2, _⟩ := hX 2 _ rfl
        obtain ⟨x3, _⟩ := hX 3 _ rfl
        obtain ⟨x4, _⟩ := hX 4 _ rfl
        obtain ⟨x5, _⟩ := hX 5 _ rfl
        go_wp2_with (first
          | (go_at_call 43; refine (hcall _ hbx).mono ?_; rintro e w1 ⟨u1, u3, rfl, hr, b1⟩; have hp : rOn (Nw (w.heap.size + 1) w1) w1 (stO o) [.string ev, .iface gu gy, .string tg, .slice u1 ns u3, .int .i64 0, .int .i64 0] := (⟨.slice u1 ns u3, (HOV.out _).symm, hr.stay kp_set (fun b hb hl => hb.to (Nat.lt_of_lt_of_le hGx hb.1) rfl)⟩); clear hr; have hR1 := hRx.on kp_on hGx b1; obtain ⟨⟨r0, q0⟩, z0⟩ := hR1.1 (i * 6 + 0) (mul_in hlt (by omega)); obtain ⟨⟨r1, q1⟩, z1⟩ := hR1.1 (i * 6 + 1) (mul_in hlt (by omega)); obtain ⟨⟨r2, q2⟩, z2⟩ := hR1.1 (i * 6 + 2) (mul_in hlt (by omega)); obtain ⟨⟨r3, q3⟩, z3⟩ := hR1.1 (i * 6 + 3) (mul_in hlt (by omega)); obtain ⟨⟨r4, q4⟩, z4⟩ := hR1.1 (i * 6 + 4) (mul_in hlt (by omega)); obtain ⟨⟨r5, q5⟩, z5⟩ := hR1.1 (i * 6 + 5) (mul_in hlt (by omega)); rw [Nat.add_zero] at q0 z0)
          | fail)
        have hP := hR1.put kp_on (x := stO o) (cs := [.string ev, .iface gu gy, .string tg, .slice u1 ns u3, .int .i64 0, .int .i64 0]) (by rw [hla]; exact hlt) rfl hp
        rw [hla] at hP
        have hb2 := putL_below [.string ev, .iface gu gy, .string tg, .slice u1 ns u3, .int .i64 0, .int .i64 0] w1 w.heap.size (i * 6) (hbx.trans (b1.mono (Nat.le_of_lt hGx))) (Nat.le_refl _)
        have hs2 : w.heap.size < (putL w1 w.heap.size (i * 6) [.string ev, .iface gu gy, .string tg, .slice u1 ns u3, .int .i64 0, .int .i64 0]).heap.size := by rw [putL_size]; exact Nat.lt_of_lt_of_le hGx b1.size
        have hac2 : (l.map stO).take (i + 1) = acc ++ [stO o] := by
          rw [List.take_succ_eq_append_getElem (by simp [HN.out]; omega), HAC.out]
          simp [HQ.out]
        clear x0 r0 q0 z0 x1 r1 q1 z1 x2 r2 q2 z2 x3 r3 q3 z3 x4 r4 q4 z4 x5 r5 q5 z5 hR1 hRx hp
        go_wp2
        go_roundw
        case rel => exact ⟨i + 1, hlt, by go_num, by rw [hac2]; exact hP, hb2, hs2⟩
        case measure => simp [RowKit.intOf]; omega
    · have i1 : ¬ (i : Int) < (n : Int) := by omega
      have hin : i = n := by omega
      have hfull : (l.map stO).take i = l.map stO := List.take_of_length_le (by simp [HN.out]; omega)
      rw [hfull] at hRow
      have hrd := hRow.rd kp_on hGs (by simp [HN.out]) (by unfold maxLen; omega)
      go_wp2
      go_ret
      exact ⟨_, rfl, hrd, hb⟩

theorem cst_res {w4 : World} {R : Nat} {a b c d e f g h i j k : Value} {tmps : Array Value} (hR : Bn w4 R [a, b, c, d, e, f, g, h, i, j, k]) (ht : tmps.getD 2 undef = .pointer (some ⟨R, 0, none⟩)) : (results Try.f40 tmps).run Try.prog w4 = .ok (.agg #[a, b, c, d, e, f, g, h, i, j, k]) w4 := by
  have ht' : tmps[2]?.getD undef = .pointer (some ⟨R, 0, none⟩) := by simpa using ht
  have c0 := (hR 0 _ rfl).1
  have c1 := (hR 1 _ rfl).1
  have c2 := (hR 2 _ rfl).1
  have c3 := (hR 3 _ rfl).1
  have c4 := (hR 4 _ rfl).1
  have c5 := (hR 5 _ rfl).1
  have c6 := (hR 6 _ rfl).1
  have c7 := (hR 7 _ rfl).1
  have c8 := (hR 8 _ rfl).1
  have c9 := (hR 9 _ rfl).1
  have c10 := (hR 10 _ rfl).1
  simp [results, Try.results40, go_sem, ht', c0, c1, c2, c3, c4, c5, c6, c7, c8, c9, c10]
set_option maxRecDepth 100000 in
set_option maxHeartbeats 8000000 in
theorem salone_any {ok : Nat → Prop} {w : World} (sn : ByteArray) (sl sc : Int) (sb se : Bool) (sd su : ByteArray) (sw sr : Int) (p1 : Option Addr) (m p3 : Nat) (p4 : Option Addr) (i p6 : Nat) (l : List OnC) (h1 : sn.size ≤ 140737488351232) (h2 : sd.size ≤ 140737488351232) (h3 : su.size ≤ 140737488351232)
    (hs : RdK ok w 6 (rOn ok w) l (.slice p1 m p3)) (hn : l.length = m) (hl : m ≤ 100000) (hok : ∀ s ∈ l, OnOk s) : Calls Try.prog 40 #[.agg #[.string sn, .int .i64 sl, .int .i64 sc, .bool sb, .bool se, .string sd, .string su, .int .i64 sw, .int .i64 sr, .slice p1 m p3, .slice p4 i p6]] w fun e w' => ∃ u1 u3, e = .returned (.agg #[.string sn, .int .i64 0, .int .i64 0, .bool sb, .bool se, .string sd, .string su, .int .i64 sw, .int .i64 sr, .slice u1 m u3, .slice p4 i p6]) ∧ RdK (Nw w.heap.size w') w' 6 (rOn (Nw w.heap.size w') w') (l.map stO) (.slice u1 m u3) ∧ Below w.heap.size w w' := by
  have g1 := fun w1 => pClone_any sn w1 h1
  have g2 := fun w1 => pClone_any sd w1 h2
  have g3 := fun w1 => pClone_any su w1 h3
  have hal : Below w.heap.size w ((w.alloc (.cells #[.string sn, .int .i64 sl, .int .i64 sc, .bool sb, .bool se, .string sd, .string su, .int .i64 sw, .int .i64 sr, .slice p1 m p3, .slice p4 i p6] 45)).alloc (.cells #[.string ⟨#[]⟩, .int .i64 0, .int .i64 0, .bool false, .bool false, .string ⟨#[]⟩, .string ⟨#[]⟩, .int .i64 0, .int .i64 0, .slice none 0 0, .slice none 0 0] 45)) := ((Below.refl w.heap.size w).alloc (Nat.le_refl _) _).alloc (by simp) _
  have hX : Bn ((w.alloc (.cells #[.string sn, .int .i64 sl, .int .i64 sc, .bool sb, .bool se, .string sd, .string su, .int .i64 sw, .int .i64 sr, .slice p1 m p3, .slice p4 i p6] 45)).alloc (.cells #[.string ⟨#[]⟩, .int .i64 0, .int .i64 0, .bool false, .bool false, .string ⟨#[]⟩, .string ⟨#[]⟩, .int .i64 0, .int .i64 0, .slice none 0 0, .slice none 0 0] 45)) w.heap.size [.string sn, .int .i64 sl, .int .i64 sc, .bool sb, .bool se, .string sd, .string su, .int .i64 sw, .int .i64 sr, .slice p1 m p3, .slice p4 i p6] := (Bn.new w [.string sn, .int .i64 sl, .int .i64 sc, .bool sb, .bool se, .string sd, .string su, .int .i64 sw, .int .i64 sr, .slice p1 m p3, .slice p4 i p6] 45 _ rfl).on ((Below.refl _ _).alloc (Nat.le_refl _) _)
  have hR : Bn ((w.alloc (.cells #[.string sn, .int .i64 sl, .int .i64 sc, .bool sb, .bool se, .string sd, .string su, .int .i64 sw, .int .i64 sr, .slice p1 m p3, .slice p4 i p6] 45)).alloc (.cells #[.string ⟨#[]⟩, .int .i64 0, .int .i64 0, .bool false, .bool false, .string ⟨#[]⟩, .string ⟨#[]⟩, .int .i64 0, .int .i64 0, .slice none 0 0, .slice none 0 0] 45)) (w.heap.size + 1) [.string ⟨#[]⟩, .int .i64 0, .int .i64 0, .bool false, .bool false, .string ⟨#[]⟩, .string ⟨#[]⟩, .int .i64 0, .int .i64 0, .slice none 0 0, .slice none 0 0] := Bn.new (w.alloc (.cells #[.string sn, .int .i64 sl, .int .i64 sc, .bool sb, .bool se, .string sd, .string su, .int .i64 sw, .int .i64 sr, .slice p1 m p3, .slice p4 i p6] 45)) [.string ⟨#[]⟩, .int .i64 0, .int .i64 0, .bool false, .bool false, .string ⟨#[]⟩, .string ⟨#[]⟩, .int .i64 0, .int .i64 0, .slice none 0 0, .slice none 0 0] 45 _ (by simp)
  have hsz : w.heap.size + 2 ≤ ((w.alloc (.cells #[.string sn, .int .i64 sl, .int .i64 sc, .bool sb, .bool se, .string sd, .string su, .int .i64 sw, .int .i64 sr, .slice p1 m p3, .slice p4 i p6] 45)).alloc (.cells #[.string ⟨#[]⟩, .int .i64 0, .int .i64 0, .bool false, .bool false, .string ⟨#[]⟩, .string ⟨#[]⟩, .int .i64 0, .int .i64 0, .slice none 0 0, .slice none 0 0] 45)).heap.size := by simp
  go_enter Try.func40, Try.ntmps40
  go_upto_region 1 with fail
  generalize ((w.alloc (.cells #[.string sn, .int .i64 sl, .int .i64 sc, .bool sb, .bool se, .string sd, .string su, .int .i64 sw, .int .i64 sr, .slice p1 m p3, .slice p4 i p6] 45)).alloc (.cells #[.string ⟨#[]⟩, .int .i64 0, .int .i64 0, .bool false, .bool false, .string ⟨#[]⟩, .string ⟨#[]⟩, .int .i64 0, .int .i64 0, .slice none 0 0, .slice none 0 0] 45)) = wx at *
  obtain ⟨c0, e0⟩ := hX 0 _ rfl
  go_upto_region 2 with (first
    | (go_at_call 19; refine (g1 _).mono ?_; rintro e w1 ⟨rfl, b1⟩; have hX1 := hX.on b1; obtain ⟨x0, y0⟩ := hX1 0 _ rfl))
  have hX2 := hX1.set (i := 0) (by simp) (.string sn)
  have hR2 := (hR.on b1).far (X := w.heap.size) (i := 0) (by omega) (.string sn)
  have hB2 : Below w.heap.size w (w1.setCell ⟨w.heap.size, 0, none⟩ (.string sn)) := (hal.trans (b1.mono (by omega))).setCell (Nat.le_refl _) _
  have hs2 : w.heap.size + 2 ≤ (w1.setCell ⟨w.heap.size, 0, none⟩ (.string sn)).heap.size := by simpa using Nat.le_trans hsz b1.size
  clear hX hR hX1 x0 y0 c0 e0 b1 hal hsz
  generalize w1.setCell ⟨w.heap.size, 0, none⟩ (.string sn) = w2 at *
  obtain ⟨a1, q1⟩ := hX2 1 _ rfl
  obtain ⟨a2, q2⟩ := hX2 2 _ rfl
  go_upto_region 3 with fail
  have hX3 := (hX2.set (i := 1) (by simp) (.int .i64 0)).set (i := 2) (by simp) (.int .i64 0)
  have hR3 := (hR2.far (X := w.heap.size) (i := 1) (by omega) (.int .i64 0)).far (X := w.heap.size) (i := 2) (by omega) (.int .i64 0)
  have hB3 : Below w.heap.size w ((w2.setCell ⟨w.heap.size, 1, none⟩ (.int .i64 0)).setCell ⟨w.heap.size, 2, none⟩ (.int .i64 0)) := (hB2.setCell (p := ⟨w.heap.size, 1, none⟩) (Nat.le_refl _) _).setCell (p := ⟨w.heap.size, 2, none⟩) (Nat.le_refl _) _
  have hs3 : w.heap.size + 2 ≤ ((w2.setCell ⟨w.heap.size, 1, none⟩ (.int .i64 0)).setCell ⟨w.heap.size, 2, none⟩ (.int .i64 0)).heap.size := by simpa using hs2
  clear hX2 hR2 hB2 hs2 a1 q1 a2 q2
  generalize (w2.setCell ⟨w.heap.size, 1, none⟩ (.int .i64 0)).setCell ⟨w.heap.size, 2, none⟩ (.int .i64 0) = w3 at *
  obtain ⟨c5, e5⟩ := hX3 5 _ rfl
  go_upto_region 4 with (first
    | (go_at_call 19; refine (g2 _).mono ?_; rintro e w4 ⟨rfl, b4⟩; have hX4 := hX3.on b4; obtain ⟨x5, y5⟩ := hX4 5 _ rfl))
  have hX5 := hX4.set (i := 5) (by simp) (.string sd)
  have hR5 := (hR3.on b4).far (X := w.heap.size) (i := 5) (by omega) (.string sd)
  have hB5 : Below w.heap.size w (w4.setCell ⟨w.heap.size, 5, none⟩ (.string sd)) := (hB3.trans (b4.mono (by omega))).setCell (Nat.le_refl _) _
  have hs5 : w.heap.size + 2 ≤ (w4.setCell ⟨w.heap.size, 5, none⟩ (.string sd)).heap.size := by simpa using Nat.le_trans hs3 b4.size
  clear hX3 hR3 hX4 x5 y5 c5 e5 b4 hB3 hs3
  generalize w4.setCell ⟨w.heap.size, 5, none⟩ (.string sd) = w5 at *
  obtain ⟨c6, e6⟩ := hX5 6 _ rfl
  go_upto_region 5 with (first
    | (go_at_call 19; refine (g3 _).mono ?_; rintro e w6 ⟨rfl, b6⟩; have hX6 := hX5.on b6; obtain ⟨x6, y6⟩ := hX6 6 _ rfl))
  have hX7 := hX6.set (i := 6) (by simp) (.string su)
  have hR7 := (hR5.on b6).far (X := w.heap.size) (i := 6) (by omega) (.string su)
  have hB7 : Below w.heap.size w (w6.setCell ⟨w.heap.size, 6, none⟩ (.string su)) := (hB5.trans (b6.mono (by omega))).setCell (Nat.le_refl _) _
  have hs7 : w.heap.size + 2 ≤ (w6.setCell ⟨w.heap.size, 6, none⟩ (.string su)).heap.size := by simpa using Nat.le_trans hs5 b6.size
  clear hX5 hR5 hX6 x6 y6 c6 e6 b6 hB5 hs5
  generalize w6.setCell ⟨w.heap.size, 6, none⟩ (.string su) = w7 at *
  have hE : Calls Try.prog 42 #[.slice p1 m p3, .func (.func 43) #[] #[]] w7 fun e w' => ∃ u1 u3, e = .returned (.slice u1 m u3) ∧ RdK (Nw w7.heap.size w') w' 6 (rOn (Nw w7.heap.size w') w') (l.map stO) (.slice u1 m u3) ∧ Below w7.heap.size w7 w' := by
    refine (eachOn_any (hs.stay kp_on (ok' := ok) (w' := w7) (fun b hb hl => ⟨hb, hB7.block b hl⟩)) (by omega) hok).mono ?_
    rintro e w' ⟨u, h1, h2, h3⟩
    obtain ⟨u1, u3, rfl, _⟩ := h2.form
    rw [List.length_map, hn] at h1 h2
    exact ⟨u1, u3, h1, h2, h3⟩
  obtain ⟨c9, e9⟩ := hX7 9 _ rfl
  go_upto_region 6 with (first
    | (go_at_call 42; refine hE.mono ?_; rintro e w8 ⟨u1, u3, rfl, hr, b8⟩; have hX8 := hX7.on b8; obtain ⟨x9, y9⟩ := hX8 9 _ rfl))
  have hX9 : Bn (w8.setCell ⟨w.heap.size, 9, none⟩ (.slice u1 m u3)) w.heap.size [.string sn, .int .i64 0, .int .i64 0, .bool sb, .bool se, .string sd, .string su, .int .i64 sw, .int .i64 sr, .slice u1 m u3, .slice p4 i p6] := hX8.set (i := 9) (by simp) (.slice u1 m u3)
  have hR9 := (hR7.on b8).far (X := w.heap.size) (i := 9) (by omega) (.slice u1 m u3)
  have hB9 : Below w.heap.size w (w8.setCell ⟨w.heap.size, 9, none⟩ (.slice u1 m u3)) := (hB7.trans (b8.mono (by omega))).setCell (Nat.le_refl _) _
  have hr9 := hr.stay kp_on (ok' := Nw (w.heap.size + 2) (w8.setCell ⟨w.heap.size, 9, none⟩ (.slice u1 m u3))) (w' := w8.setCell ⟨w.heap.size, 9, none⟩ (.slice u1 m u3)) (fun b hb hl => hb.to (by have := hb.1; omega) (Below.heap_setCell _ _ _ _ (fun e => by have e2 : b = w.heap.size := e; have := hb.1; omega)))
  clear hX7 hR7 hX8 x9 y9 c9 e9 b8 hB7 hs7 hr hE
  generalize w8.setCell ⟨w.heap.size, 9, none⟩ (.slice u1 m u3) = w9 at *
  obtain ⟨k0, _⟩ := hX9 0 _ rfl
  obtain ⟨r0, f0⟩ := hR9 0 _ rfl
  obtain ⟨k1, _⟩ := hX9 1 _ rfl
  obtain ⟨r1, f1⟩ := hR9 1 _ rfl
  obtain ⟨k2, _⟩ := hX9 2 _ rfl
  obtain ⟨r2, f2⟩ := hR9 2 _ rfl
  obtain ⟨k3, _⟩ := hX9 3 _ rfl
  obtain ⟨r3, f3⟩ := hR9 3 _ rfl
  obtain ⟨k4, _⟩ := hX9 4 _ rfl
  obtain ⟨r4, f4⟩ := hR9 4 _ rfl
  obtain ⟨k5, _⟩ := hX9 5 _ rfl
  obtain ⟨r5, f5⟩ := hR9 5 _ rfl
  obtain ⟨k6, _⟩ := hX9 6 _ rfl
  obtain ⟨r6, f6⟩ := hR9 6 _ rfl
  obtain ⟨k7, _⟩ := hX9 7 _ rfl
  obtain ⟨r7, f7⟩ := hR9 7 _ rfl
  obtain ⟨k8, _⟩ := hX9 8 _ rfl
  obtain ⟨r8, f8⟩ := hR9 8 _ rfl
  obtain ⟨k9, _⟩ := hX9 9 _ rfl
  obtain ⟨r9, f9⟩ := hR9 9 _ rfl
  obtain ⟨k10, _⟩ := hX9 10 _ rfl
  obtain ⟨r10, f10⟩ := hR9 10 _ rfl
  have hRz := ((((((((((hR9.set (i := 0) (by simp) (.string sn)).set (i := 1) (by simp) (.int .i64 0)).set (i := 2) (by simp) (.int .i64 0)).set (i := 3) (by simp) (.bool sb)).set (i := 4) (by simp) (.bool se)).set (i := 5) (by simp) (.string sd)).set (i := 6) (by simp) (.string su)).set (i := 7) (by simp) (.int .i64 sw)).set (i := 8) (by simp) (.int .i64 sr)).set (i := 9) (by simp) (.slice u1 m u3)).set (i := 10) (by simp) (.slice p4 i p6)
  have hbz := putL_below [.string sn, .int .i64 0, .int .i64 0, .bool sb, .bool se, .string sd, .string su, .int .i64 sw, .int .i64 sr, .slice u1 m u3, .slice p4 i p6] w9 (w.heap.size + 1) 0 hB9 (by omega)
  have hrz := hr9.stay kp_on (ok' := Nw w.heap.size (putL w9 (w.heap.size + 1) 0 [.string sn, .int .i64 0, .int .i64 0, .bool sb, .bool se, .string sd, .string su, .int .i64 sw, .int .i64 sr, .slice u1 m u3, .slice p4 i p6])) (w' := putL w9 (w.heap.size + 1) 0 [.string sn, .int .i64 0, .int .i64 0, .bool sb, .bool se, .string sd, .string su, .int .i64 sw, .int .i64 sr, .slice u1 m u3, .slice p4 i p6]) (fun b hb hl => hb.to (by have := hb.1; omega) (putL_heap _ _ _ _ _ (by have := hb.1; omega)))
  go_wp2
  exact bodyPost_ret (cst_res hRz rfl) rfl ⟨u1, u3, rfl, hrz, hbz⟩

theorem Try.infoESt : (Try.prog.info? 45).map (fun i => (i.zero, i.size, i.bytes)) = some (some (.agg #[.string ⟨#[]⟩, .int .i64 0, .int .i64 0, .bool false, .bool false, .string ⟨#[]⟩, .string ⟨#[]⟩, .int .i64 0, .int .i64 0, .slice none 0 0, .slice none 0 0]), 11, 136) := by kernel_rfl
def stH (h : HdC) : HdC := ((h.1.1, (0, 0)), h.2.1, h.2.2.1, h.2.2.2.1, h.2.2.2.2.map stO)
def HdOk (h : HdC) : Prop := h.1.1.length ≤ 140737488351232 ∧ h.2.2.1.1.length ≤ 140737488351232 ∧ h.2.2.1.2.length ≤ 140737488351232 ∧ h.2.2.2.2.length ≤ 100000 ∧ ∀ o ∈ h.2.2.2.2, OnOk o
/-- A state stripped by itself: what lies in it is as it was, in the memory that was. -/
def rHf (d : Nat) (okO : Nat → Prop) (w0 : World) (ok : Nat → Prop) (w : World) (t : St (d + 1)) (cs : List Value) : Prop := ∃ so si, cs = hdV (stH t.1) so si ∧ RdK ok w 6 (rOn ok w) (t.1.2.2.2.2.map stO) so ∧ RdK okO w0 11 (rSt d okO w0) t.2 si
theorem kp_hf (d : Nat) (okO : Nat → Prop) (w0 : World) : Kp (rHf d okO w0) := fun _ _ _ _ _ _ ⟨so, si, h, h1, h2⟩ hk => ⟨so, si, h, h1.stay kp_on hk, h2⟩
theorem stQ_at {ok : Nat → Prop} {w : World} {d : Nat} {l : List (St (d + 1))} {a : Option Addr} {n cap : Nat} (h : RdK ok w 11 (rSt (d + 1) ok w) l (.slice a n cap)) (j : Nat) (hj : j < l.length) : ∃ b off p1 p3 p4 p6, a = some ⟨b, off, none⟩ ∧ b < w.heap.size ∧ RdK ok w 6 (rOn ok w) l[j].1.2.2.2.2 (.slice p1 l[j].1.2.2.2.2.length p3) ∧ RdK ok w 11 (rSt d ok w) l[j].2 (.slice p4 l[j].2.length p6) ∧ ∀ i u, (hdV l[j].1 (.slice p1 l[j].1.2.2.2.2.length p3) (.slice p4 l[j].2.length p6))[i]? = some u → w.cell? ⟨b, off + j * 11 + i, none⟩ = some u := by
  obtain ⟨a1, cap1, he, h1, h2, h3⟩ := h
  simp only [Value.slice.injEq] at he
  obtain ⟨rfl, rfl, rfl⟩ := he
  obtain ⟨b, off, cs, ha, _, hb, hl, ⟨so, si, rfl, hs, hi⟩, hc⟩ := h3 j hj
  obtain ⟨s1, s3, rfl, _⟩ := hs.form
  obtain ⟨s4, s6, rfl, _⟩ := hi.form
  exact ⟨b, off, s1, s3, s4, s6, ha, hb, hs, hi, hc⟩
set_option maxRecDepth 100000 in
set_option maxHeartbeats 8000000 in
theorem eachSt_any {d : Nat} {ok : Nat → Prop} {w : World} {l : List (St (d + 1))} {v : Value} (h : RdK ok w 11 (rSt (d + 1) ok w) l v) (hl : l.length ≤ 100000) (hok : ∀ s ∈ l, HdOk s.1) :
    Calls Try.prog 39 #[v, .func (.func 40) #[] #[]] w fun e w' => e = .returned (.slice (some ⟨w.heap.size, 0, none⟩) l.length l.length) ∧ RowG w' w.heap.size 11 l.length (rHf d ok w) (l) ∧ Below w.heap.size w w' ∧ w.heap.size < w'.heap.size := by
  obtain ⟨ie, hie, hie0, hie1, hie2⟩ := info_parts Try.infoESt
  obtain ⟨a, cap, rfl, hlc, hcm⟩ := h.form
  unfold maxLen at hcm
  have HC := mkHid h
  have HK := mkHid hok
  obtain ⟨n, hn⟩ : ∃ n, l.length = n := ⟨_, rfl⟩
  rw [hn] at hlc hl ⊢
  have HN : Hid (l.length = n) := hn
  clear h hok hn
  have hmk := run_make (P := Try.prog) w 35 45 ie _ Try.underlying35 hie hie0 .i64 .i64 (n : Int) (n : Int) (by omega) (by omega) (by rw [hie2]; omega) (by omega)
  rw [Int.toNat_natCast, hie1] at hmk
  have hG0 : RowG (w.alloc (.cells (madeCells (.agg #[.string ⟨#[]⟩, .int .i64 0, .int .i64 0, .bool false, .bool false, .string ⟨#[]⟩, .string ⟨#[]⟩, .int .i64 0, .int .i64 0, .slice none 0 0, .slice none 0 0] : Value).cells (n * 11)) 45)) w.heap.size 11 n (rHf d ok w) ([] : List (St (d + 1))) := RowG.made w _ 11 n _ _
  have hb0 : Below w.heap.size w (w.alloc (.cells (madeCells (.agg #[.string ⟨#[]⟩, .int .i64 0, .int .i64 0, .bool false, .bool false, .string ⟨#[]⟩, .string ⟨#[]⟩, .int .i64 0, .int .i64 0, .slice none 0 0, .slice none 0 0] : Value).cells (n * 11)) 45)) := (Below.refl _ _).alloc (Nat.le_refl _) _
  have hs0 : (w.alloc (.cells (madeCells (.agg #[.string ⟨#[]⟩, .int .i64 0, .int .i64 0, .bool false, .bool false, .string ⟨#[]⟩, .string ⟨#[]⟩, .int .i64 0, .int .i64 0, .slice none 0 0, .slice none 0 0] : Value).cells (n * 11)) 45)).heap.size = w.heap.size + 1 := by simp
  generalize w.alloc (.cells (madeCells (.agg #[.string ⟨#[]⟩, .int .i64 0, .int .i64 0, .bool false, .bool false, .string ⟨#[]⟩, .string ⟨#[]⟩, .int .i64 0, .int .i64 0, .slice none 0 0, .slice none 0 0] : Value).cells (n * 11)) 45) = w0 at *
  go_enter Try.func39, Try.ntmps39
  go_wp2
  go_loopw [13] (fun ix wr => ∃ (i : Nat), i ≤ n ∧ ix = .int .i64 (i : Int) ∧ RowG wr w.heap.size 11 n (rHf d ok w) ((l).take i) ∧ Below w.heap.size w wr ∧ w.heap.size < wr.heap.size) (fun ix _ => n - (RowKit.intOf ix).toNat)
  case atStart => exact ⟨0, Nat.zero_le _, rfl, hG0, hb0, by omega⟩
  case round =>
    obtain ⟨i, hi, rfl, hRow, hb, hGs⟩ := hrel
    clear hG0 hb0 hs0 hmk
    by_cases hlt : i < n
    · have hil : i < l.length := by rw [HN.out]; exact hlt
      obtain ⟨b, off, p1, p3, p4, p6, rfl, hbl, hOn, hIn, hc⟩ := stQ_at HC.out i hil
      have hko := HK.out _ (List.getElem_mem hil)
      obtain ⟨t, ht⟩ : ∃ t, l[i] = t := ⟨_, rfl⟩
      rw [ht] at hOn hIn hc hko
      obtain ⟨m, hm⟩ : ∃ m, t.1.2.2.2.2.length = m := ⟨_, rfl⟩
      obtain ⟨ni, hni⟩ : ∃ m, t.2.length = m := ⟨_, rfl⟩
      rw [hm] at hOn hc
      rw [hni] at hIn hc
      obtain ⟨sn, hsn⟩ : ∃ s : ByteArray, ⟨t.1.1.1.toArray⟩ = s := ⟨_, rfl⟩
      obtain ⟨sd, hsd⟩ : ∃ s : ByteArray, ⟨t.1.2.2.1.1.toArray⟩ = s := ⟨_, rfl⟩
      obtain ⟨su, hsu⟩ : ∃ s : ByteArray, ⟨t.1.2.2.1.2.toArray⟩ = s := ⟨_, rfl⟩
      have hz1 : sn.size ≤ 140737488351232 := by rw [← hsn]; show t.1.1.1.toArray.size ≤ _; simpa using hko.1
      have hz2 : sd.size ≤ 140737488351232 := by rw [← hsd]; show t.1.2.2.1.1.toArray.size ≤ _; simpa using hko.2.1
      have hz3 : su.size ≤ 140737488351232 := by rw [← hsu]; show t.1.2.2.1.2.toArray.size ≤ _; simpa using hko.2.2.1
      obtain ⟨sl, hsl⟩ : ∃ x, t.1.1.2.1 = x := ⟨_, rfl⟩
      obtain ⟨sc, hsc⟩ : ∃ x, t.1.1.2.2 = x := ⟨_, rfl⟩
      obtain ⟨sb, hsb⟩ : ∃ x, t.1.2.1.1 = x := ⟨_, rfl⟩
      obtain ⟨se, hse⟩ : ∃ x, t.1.2.1.2 = x := ⟨_, rfl⟩
      obtain ⟨sw, hsw⟩ : ∃ x, t.1.2.2.2.1.1 = x := ⟨_, rfl⟩
      obtain ⟨sr, hsr⟩ : ∃ x, t.1.2.2.2.1.2 = x := ⟨_, rfl⟩
      have hv : ∀ so si, hdV t.1 so si = [.string sn, .int .i64 sl, .int .i64 sc, .bool sb, .bool se, .string sd, .string su, .int .i64 sw, .int .i64 sr, so, si] := fun so si => by
        unfold hdV sV
        rw [hsn, hsd, hsu, hsl, hsc, hsb, hse, hsw, hsr]
      have hv2 : ∀ so si, hdV (stH t.1) so si = [.string sn, .int .i64 0, .int .i64 0, .bool sb, .bool se, .string sd, .string su, .int .i64 sw, .int .i64 sr, so, si] := fun so si => by
        show [sV t.1.1.1, .int .i64 0, .int .i64 0, .bool t.1.2.1.1, .bool t.1.2.1.2, sV t.1.2.2.1.1, sV t.1.2.2.1.2, .int .i64 t.1.2.2.2.1.1, .int .i64 t.1.2.2.2.1.2, so, si] = _
        unfold sV
        rw [hsn, hsd, hsu, hsb, hse, hsw, hsr]
      rw [hv] at hc
      have HQ : Hid (l[i] = t) := ht
      have HV2 : Hid (∀ so si, hdV (stH t.1) so si = [.string sn, .int .i64 0, .int .i64 0, .bool sb, .bool se, .string sd, .string su, .int .i64 sw, .int .i64 sr, so, si]) := hv2
      have HM : Hid (t.1.2.2.2.2.length = m) := hm
      have HKO : Hid (HdOk t.1) := hko
      have HON : Hid (RdK ok w 6 (rOn ok w) t.1.2.2.2.2 (.slice p1 m p3)) := hOn
      have HIN : Hid (RdK ok w 11 (rSt d ok w) t.2 (.slice p4 ni p6)) := hIn
      clear ht hm hni hko hOn hIn hsn hsd hsu hsl hsc hsb hse hsw hsr hv hv2
      obtain ⟨acc, hac⟩ : ∃ acc, (l).take i = acc := ⟨_, rfl⟩
      have hla : acc.length = i := by rw [← hac]; simp [HN.out]; omega
      rw [hac] at hRow
      have HAC : Hid ((l).take i = acc) := hac
      clear hac
      have i1 : (i : Int) < (n : Int) := by omega
      have i2 : (0 : Int) ≤ (i : Int) := by omega
      have C0 := (hb.cell (p := ⟨b, off + i * 11 + 0, none⟩) hbl).trans (hc 0 _ rfl)
      have C1 := (hb.cell (p := ⟨b, off + i * 11 + 1, none⟩) hbl).trans (hc 1 _ rfl)
      have C2 := (hb.cell (p := ⟨b, off + i * 11 + 2, none⟩) hbl).trans (hc 2 _ rfl)
      have C3 := (hb.cell (p := ⟨b, off + i * 11 + 3, none⟩) hbl).trans (hc 3 _ rfl)
      have C4 := (hb.cell (p := ⟨b, off + i * 11 + 4, none⟩) hbl).trans (hc 4 _ rfl)
      have C5 := (hb.cell (p := ⟨b, off + i * 11 + 5, none⟩) hbl).trans (hc 5 _ rfl)
      have C6 := (hb.cell (p := ⟨b, off + i * 11 + 6, none⟩) hbl).trans (hc 6 _ rfl)
      have C7 := (hb.cell (p := ⟨b, off + i * 11 + 7, none⟩) hbl).trans (hc 7 _ rfl)
      have C8 := (hb.cell (p := ⟨b, off + i * 11 + 8, none⟩) hbl).trans (hc 8 _ rfl)
      have C9 := (hb.cell (p := ⟨b, off + i * 11 + 9, none⟩) hbl).trans (hc 9 _ rfl)
      have C10 := (hb.cell (p := ⟨b, off + i * 11 + 10, none⟩) hbl).trans (hc 10 _ rfl)
      rw [Nat.add_zero] at C0
      clear hc
      have hal := (Below.refl wr.heap.size wr).alloc (Nat.le_refl _) (.cells #[.string sn, .int .i64 sl, .int .i64 sc, .bool sb, .bool se, .string sd, .string su, .int .i64 sw, .int .i64 sr, .slice p1 m p3, .slice p4 ni p6] 45)
      have hX := Bn.new wr [.string sn, .int .i64 sl, .int .i64 sc, .bool sb, .bool se, .string sd, .string su, .int .i64 sw, .int .i64 sr, .slice p1 m p3, .slice p4 ni p6] 45 _ rfl
      have hRx := hRow.on (kp_hf d ok w) hGs hal
      have hbx := hb.trans (hal.mono hb.size)
      have hGx := Nat.lt_of_lt_of_le hGs hal.size
      have hcall : ∀ w1, Below w.heap.size w w1 → Calls Try.prog 40 #[.agg #[.string sn, .int .i64 sl, .int .i64 sc, .bool sb, .bool se, .string sd, .string su, .int .i64 sw, .int .i64 sr, .slice p1 m p3, .slice p4 ni p6]] w1 fun e w' => ∃ u1 u3, e = .returned (.agg #[.string sn, .int .i64 0, .int .i64 0, .bool sb, .bool se, .string sd, .string su, .int .i64 sw, .int .i64 sr, .slice u1 m u3, .slice p4 ni p6]) ∧ RdK (Nw w1.heap.size w') w' 6 (rOn (Nw w1.heap.size w') w') (t.1.2.2.2.2.map stO) (.slice u1 m u3) ∧ Below w1.heap.size w1 w' := fun w1 b1 => salone_any sn sl sc sb se sd su sw sr p1 m p3 p4 ni p6 t.1.2.2.2.2 hz1 hz2 hz3 (HON.out.stay kp_on (ok' := ok) (fun b hb hl => ⟨hb, b1.block b hl⟩)) HM.out (by have := HKO.out.2.2.2.1; rw [HM.out] at this; exact this) HKO.out.2.2.2.2
      go_upto_region 5 with fail
      clear C0 C1 C2 C3 C4 C5 C6 C7 C8 C9 C10 hal
      generalize wr.alloc (.cells #[.string sn, .int .i64 sl, .int .i64 sc, .bool sb, .bool se, .string sd, .string su, .int .i64 sw, .int .i64 sr, .slice p1 m p3, .slice p4 ni p6] 45) = wx at *
      obtain ⟨X, hXX⟩ : ∃ X, wr.heap.size = X := ⟨_, rfl⟩
      rw [hXX] at hX ⊢
      have HXX : Hid (wr.heap.size = X) := hXX
      clear hXX
      obtain ⟨x0, _⟩ := hX 0 _ rfl
      obtain ⟨x1, _⟩ := hX 1 _ rfl
      obtain ⟨x2, _⟩ := hX 2 _ rfl
      obtain ⟨x3, _⟩ := hX 3 _ rfl
      obtain ⟨x4, _⟩ := hX 4 _ rfl
      obtain ⟨x5, _⟩ := hX 5 _ rfl
      obtain ⟨x6, _⟩ := hX 6 _ rfl
      obtain ⟨x7, _⟩ := hX 7 _ rfl
      obtain ⟨x8, _⟩ := hX 8 _ rfl
      obtain ⟨x9, _⟩ := hX 9 _ rfl
      obtain ⟨x10, _⟩ := hX 10 _ rfl
      go_wp2_with (first
        | (go_at_call 40; refine (hcall _ hbx).mono ?_; rintro e w1 ⟨u1, u3, rfl, hr, b1⟩; have hp : rHf d ok w (Nw (w.heap.size + 1) w1) w1 t [.string sn, .int .i64 0, .int .i64 0, .bool sb, .bool se, .string sd, .string su, .int .i64 sw, .int .i64 sr, .slice u1 m u3, .slice p4 ni p6] := (⟨.slice u1 m u3, .slice p4 ni p6, (HV2.out _ _).symm, hr.stay kp_on (fun b hb hl => hb.to (Nat.lt_of_lt_of_le hGx hb.1) rfl), HIN.out⟩); clear hr; have hR1 := hRx.on (kp_hf d ok w) hGx b1; obtain ⟨⟨r0, q0⟩, z0⟩ := hR1.1 (i * 11 + 0) (mul_in hlt (by omega)); obtain ⟨⟨r1, q1⟩, z1⟩ := hR1.1 (i * 11 + 1) (mul_in hlt (by omega)); obtain ⟨⟨r2, q2⟩, z2⟩ := hR1.1 (i * 11 + 2) (mul_in hlt (by omega)); obtain ⟨⟨r3, q3⟩, z3⟩ := hR1.1 (i * 11 + 3) (mul_in hlt (by omega)); obtain ⟨⟨r4, q4⟩, z4⟩ := hR1.1 (i * 11 + 4) (mul_in hlt (by omega)); obtain ⟨⟨r5, q5⟩, z5⟩ := hR1.1 (i * 11 + 5) (mul_in hlt (by omega)); obtain ⟨⟨r6, q6⟩, z6⟩ := hR1.1 (i * 11 + 6) (mul_in hlt (by omega)); obtain ⟨⟨r7, q7⟩, z7⟩ := hR1.1 (i * 11 + 7) (mul_in hlt (by omega)); obtain ⟨⟨r8, q8⟩, z8⟩ := hR1.1 (i * 11 + 8) (mul_in hlt (by omega)); obtain ⟨⟨r9, q9⟩, z9⟩ := hR1.1 (i * 11 + 9) (mul_in hlt (by omega)); obtain ⟨⟨r10, q10⟩, z10⟩ := hR1.1 (i * 11 + 10) (mul_in hlt (by omega)); rw [Nat.add_zero] at q0 z0)
        | fail)
      have hP := hR1.put (kp_hf d ok w) (x := t) (cs := [.string sn, .int .i64 0, .int .i64 0, .bool sb, .bool se, .string sd, .string su, .int .i64 sw, .int .i64 sr, .slice u1 m u3, .slice p4 ni p6]) (by rw [hla]; exact hlt) rfl hp
      rw [hla] at hP
      have hb2 := putL_below [.string sn, .int .i64 0, .int .i64 0, .bool sb, .bool se, .string sd, .string su, .int .i64 sw, .int .i64 sr, .slice u1 m u3, .slice p4 ni p6] w1 w.heap.size (i * 11) (hbx.trans (b1.mono (Nat.le_of_lt hGx))) (Nat.le_refl _)
      have hs2 : w.heap.size < (putL w1 w.heap.size (i * 11) [.string sn, .int .i64 0, .int .i64 0, .bool sb, .bool se, .string sd, .string su, .int .i64 sw, .int .i64 sr, .slice u1 m u3, .slice p4 ni p6]).heap.size := by rw [putL_size]; exact Nat.lt_of_lt_of_le hGx b1.size
      have hac2 : (l).take (i + 1) = acc ++ [t] := by
        rw [List.take_succ_eq_append_getElem (by simp [HN.out]; omega), HAC.out]
        simp [HQ.out]
      clear x0 r0 q0 z0 x1 r1 q1 z1 x2 r2 q2 z2 x3 r3 q3 z3 x4 r4 q4 z4 x5 r5 q5 z5 x6 r6 q6 z6 x7 r7 q7 z7 x8 r8 q8 z8 x9 r9 q9 z9 x10 r10 q10 z10 hR1 hRx hp
      go_wp2
      go_roundw
      case rel => exact ⟨i + 1, hlt, by go_num, by rw [hac2]; exact hP, hb2, hs2⟩
      case measure => simp [RowKit.intOf]; omega
    · have i1 : ¬ (i : Int) < (n : Int) := by omega
      have hin : i = n := by omega
      have hfull : (l).take i = l := List.take_of_length_le (by simp [HN.out]; omega)
      rw [hfull] at hRow
      go_wp2
      go_ret
      exact ⟨rfl, hRow, hb, hGs⟩
end Go.Proofs.Ytoankfbccofllaa
