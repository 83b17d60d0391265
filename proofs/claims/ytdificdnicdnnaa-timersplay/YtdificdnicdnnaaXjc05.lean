import Derived.Test.YtdificdnicdnnaaXjc04
import Derived.Deep.Cut
import Derived.Test.YtdificdnicdnnaaXjc01
import Derived.ProofKit
import Derived.OpenShut
import Derived.ShutString
import Derived.ChangeOld
import Derived.SizedLaws
import Derived.Below

/- The law of timers: few, same; both timers side by side. -/
namespace Go.Proofs.Ytdificdnicdnnaa
open Go.RowKit Go.Lib Go.Maps
set_option linter.unusedSimpArgs false
set_option linter.unusedVariables false
attribute [local go_sem ↓] Go.wp_at_zero Go.wp_at_succ

def fewT (l : List TOp) : Bool := decide (l.length ≤ 200 ∧ ∀ x ∈ l, x.2.1.size ≤ 200)
theorem RdTo.on {w w' : World} {l : List TOp} {v : Value} (h : RdTo w l v) (hb : Below w.heap.size w w') : RdTo w' l v := RdK.keep h (fun _ _ _ h => h) (fun b _ hlt => ⟨trivial, hb.block b hlt⟩)
set_option maxRecDepth 100000 in
set_option maxHeartbeats 1000000 in
theorem tFew_any {w : World} {l : List TOp} {v : Value} (h : RdTo w l v) : Calls Try.prog 9 #[v] w fun e w' => e = .returned (.bool (fewT l)) ∧ w = w' := by
  obtain ⟨a, c, rfl, hlc, hcm, hcell⟩ := h
  unfold maxLen at hcm
  obtain ⟨R, hR⟩ : ∃ R, fewT l = R := ⟨_, rfl⟩
  rw [hR]
  have HL := hideD hcell
  have HR := hideD hR
  clear hcell hR
  go_enter Try.func9, Try.ntmps9
  go_wp2
  go_loopw [6] (fun ix wr => ∃ (j : Nat), j ≤ l.length ∧ ix = .int .i64 (j : Int) ∧ j ≤ 200 ∧ w = wr ∧ Hid (∀ i (h : i < l.length), i < j → (l[i]).2.1.size ≤ 200)) (fun ix _ => l.length - (RowKit.intOf ix).toNat)
  case atStart => exact ⟨0, Nat.zero_le _, rfl, by omega, rfl, hideD (fun i _ h => by omega)⟩
  case round =>
    obtain ⟨j, hj, rfl, hj2, rfl, HF⟩ := hrel
    by_cases hlt : j < l.length
    · obtain ⟨b, off, cs, ha, _, hbl, _, hcs0, hcs⟩ := HL.out j hlt
      subst ha
      have hcs0 : cs = [.int .i64 (l[j]).1, .string (l[j]).2.1, .int .i64 (l[j]).2.2] := hcs0
      subst hcs0
      have c1 := hcs 1 _ rfl
      have k1 : (j : Int) < (l.length : Int) := by omega
      have k2 : (0 : Int) ≤ (j : Int) := by omega
      have HB := hideD (show 200 < (l[j]).2.1.size → R = false from fun hs => by
        rw [← HR.out]
        exact decide_eq_false (fun e => by have := e.2 _ (List.getElem_mem hlt); omega))
      have HG := hideD (show (l[j]).2.1.size ≤ 200 → ∀ i (h : i < l.length), i < j + 1 → (l[i]).2.1.size ≤ 200 from fun hs i h hi => by
        by_cases e : i = j
        · subst e
          exact hs
        · exact HF.out i h (by omega))
      have H2 := hideD (show 200 ≤ j → R = false from fun hs => by
        rw [← HR.out]
        exact decide_eq_false (fun e => by have := e.1; omega))
      clear hcs
      generalize (l[j]).2.1 = ky at *
      by_cases h200 : 200 ≤ j
      · have k3 : (200 : Int) ≤ (j : Int) := by omega
        clear HF
        go_wp2
        go_ret
        exact ⟨by rw [H2.out h200]; rfl, rfl⟩
      · have k3 : ¬ (200 : Int) ≤ (j : Int) := by omega
        by_cases hs : 200 < ky.size
        · have k4 : (200 : Int) < (ky.size : Int) := by omega
          go_wp2
          go_ret
          exact ⟨by rw [HB.out hs]; rfl, rfl⟩
        · have k4 : ¬ (200 : Int) < (ky.size : Int) := by omega
          clear hs
          have HG2 := hideD (HG.out (by omega))
          go_wp2
          go_roundw
          case rel => exact ⟨j + 1, hlt, by go_num, by omega, by first | rfl | trivial, HG2⟩
          case measure => simp [RowKit.intOf]; omega
    · have k1 : ¬ (j : Int) < (l.length : Int) := by omega
      have e : R = true := by
        rw [← HR.out]
        exact decide_eq_true ⟨by omega, fun x hx => by
          obtain ⟨i, hi, rfl⟩ := List.getElem_of_mem hx
          exact HF.out i hi (by omega)⟩
      have HE := hideD e
      clear e
      go_wp2
      go_ret
      exact ⟨by rw [HE.out]; rfl, rfl⟩
theorem tstr_at {w : World} {base : Nat} {v : Value} {K : List ByteArray} (h : w.ownsRow base 9 1 v K.length (K.map Value.string)) {i : Nat} (hi : i < K.length) : ∃ g cap, v = .slice (some ⟨g, 0, none⟩) K.length cap ∧ w.cell? ⟨g, i, none⟩ = some (.string (K.getD i ByteArray.empty)) := by
  rcases h.2 with ⟨_, h2⟩ | ⟨g, cap, cur, e, _⟩
  · omega
  · have d0 := World.ownsRow.cells h (g := g) (by rw [e]; rfl) i (.string (K.getD i ByteArray.empty)) (by simp [hi])
    rw [add_plain, Nat.zero_add] at d0
    exact ⟨g, cap, e, d0⟩
set_option maxRecDepth 100000 in
set_option maxHeartbeats 1000000 in
theorem tSame_any {w : World} {b1 b2 : Nat} {v1 v2 : Value} {K : List ByteArray} (h1 : w.ownsRow b1 9 1 v1 K.length (K.map Value.string)) (h2 : w.ownsRow b2 9 1 v2 K.length (K.map Value.string)) :
    Calls Try.prog 15 #[v1, v2] w fun e w' => e = .returned (.bool true) ∧ ∃ k, w' = w.drewN k := by
  obtain ⟨a1, c1, rfl, hl1, hm1⟩ := srow_form h1
  obtain ⟨a2, c2, rfl, hl2, hm2⟩ := srow_form h2
  have H1 := hideD h1
  have H2 := hideD h2
  clear h1 h2
  unfold maxLen at hm1
  generalize hn : K.length = n at *
  have HN := hideD hn
  clear hn
  go_enter Try.func15, Try.ntmps15
  go_wp2
  go_loopw [13] (fun ix wr => ∃ (j : Nat) (m : Nat), j ≤ n ∧ ix = .int .i64 (j : Int) ∧ wr = w.drewN m) (fun ix _ => n - (RowKit.intOf ix).toNat)
  case atStart => exact ⟨0, 0, Nat.zero_le _, rfl, rfl⟩
  case round =>
    obtain ⟨j, m, hj, rfl, rfl⟩ := hrel
    by_cases hlt : j < n
    · have hnn := HN.out
      have hH1 := H1.out
      have hH2 := H2.out
      rw [← hnn] at hH1 hH2
      obtain ⟨g1, p1, e1, d1⟩ := tstr_at hH1 (i := j) (by omega)
      obtain ⟨g2, p2, e2, d2⟩ := tstr_at hH2 (i := j) (by omega)
      simp only [Value.slice.injEq] at e1 e2
      have q1 := e1.1
      have q2 := e2.1
      subst q1
      subst q2
      clear hH1 hH2 e1 e2 hnn
      have d1' : (w.drewN m).cell? ⟨g1, j, none⟩ = some (.string (K.getD j ByteArray.empty)) := d1
      have d2' : (w.drewN m).cell? ⟨g2, j, none⟩ = some (.string (K.getD j ByteArray.empty)) := d2
      generalize K.getD j ByteArray.empty = kj at *
      have k1 : (j : Int) < (n : Int) := by omega
      have k2 : (0 : Int) ≤ (j : Int) := by omega
      go_wp2
      go_quiet (fail)
      go_wp2
      go_roundw
      case rel => exact ⟨j + 1, _, hlt, by go_num, by rfl⟩
      case measure => simp [RowKit.intOf]; omega
    · have k1 : ¬ (j : Int) < (n : Int) := by omega
      go_wp2
      go_ret
      exact ⟨rfl, _, rfl⟩
end Go.Proofs.Ytdificdnicdnnaa

/- Both timers side by side. -/
namespace Go.Proofs.Ytdificdnicdnnaa
open Go.RowKit Go.Lib Go.Maps
set_option linter.unusedSimpArgs false
set_option linter.unusedVariables false

/-- The program's timers Q and the document's L, in blocks apart. -/
structure T2 (w : World) (A X Y : Nat) (F G : Nat → Prop) (Q L : List Tm) : Prop where
  p : ∃ v mv, PT w X F Q v mv
  q : ∃ u, QT w Y G L u
  f : ∀ j, F j → A ≤ j ∧ j < w.heap.size
  g : ∀ j, G j → A ≤ j ∧ j < w.heap.size
  d : ∀ j, F j → ¬ G j
  a : A ≤ w.heap.size
/-- What F has become. -/
def cN (F : Nat → Prop) (w w' : World) : Nat → Prop := fun j => nF F w j ∧ j < w'.heap.size
theorem T2.stepP {w w' : World} {A X Y : Nat} {F G : Nat → Prop} {Q Q' L : List Tm} (h : T2 w A X Y F G Q L) (hp : ∃ v mv, PT w' X (nF F w) Q' v mv) (hk : Kf F w w') : T2 w' A X Y (cN F w w') G Q' L := by
  obtain ⟨v, mv, hp⟩ := hp
  obtain ⟨u, hq⟩ := h.q
  refine ⟨⟨v, mv, hp.keep (fun _ _ _ => rfl) (fun j hj hf => ⟨hf, hj⟩)⟩, ⟨u, hq.keep (fun b hb hlt => hk.block b hlt (fun e => h.d b e hb)) (fun _ _ h => h)⟩, fun j hj => ?_, fun j hj => ⟨(h.g j hj).1, Nat.lt_of_lt_of_le (h.g j hj).2 hk.size⟩, fun j hj hg => ?_, Nat.le_trans h.a hk.size⟩
  · obtain ⟨hj, hl⟩ := hj
    rcases hj with hj | hj
    · exact ⟨(h.f j hj).1, hl⟩
    · exact ⟨Nat.le_trans h.a hj, hl⟩
  · obtain ⟨hj, hl⟩ := hj
    rcases hj with hj | hj
    · exact h.d j hj hg
    · have := (h.g j hg).2
      omega
theorem T2.stepQ {w w' : World} {A X Y : Nat} {F G : Nat → Prop} {Q L L' : List Tm} (h : T2 w A X Y F G Q L) (hp : ∃ u, QT w' Y (nF G w) L' u) (hk : Kf G w w') : T2 w' A X Y F (cN G w w') Q L' := by
  obtain ⟨u, hp⟩ := hp
  obtain ⟨v, mv, hq⟩ := h.p
  refine ⟨⟨v, mv, hq.keep (fun b hb hlt => hk.block b hlt (fun e => h.d b hb e)) (fun _ _ h => h)⟩, ⟨u, hp.keep (fun _ _ _ => rfl) (fun j hj hf => ⟨hf, hj⟩)⟩, fun j hj => ⟨(h.f j hj).1, Nat.lt_of_lt_of_le (h.f j hj).2 hk.size⟩, fun j hj => ?_, fun j hf hj => ?_, Nat.le_trans h.a hk.size⟩
  · obtain ⟨hj, hl⟩ := hj
    rcases hj with hj | hj
    · exact ⟨(h.g j hj).1, hl⟩
    · exact ⟨Nat.le_trans h.a hj, hl⟩
  · obtain ⟨hj, hl⟩ := hj
    rcases hj with hj | hj
    · exact h.d j hf hj
    · have := (h.f j hf).2
      omega
theorem T2.on {w w' : World} {A X Y : Nat} {F G : Nat → Prop} {Q L : List Tm} (h : T2 w A X Y F G Q L) (hb : Below w.heap.size w w') : T2 w' A X Y F G Q L := by
  obtain ⟨v, mv, hp⟩ := h.p
  obtain ⟨u, hq⟩ := h.q
  exact ⟨⟨v, mv, hp.on hb⟩, ⟨u, hq.on hb⟩, fun j hj => ⟨(h.f j hj).1, Nat.lt_of_lt_of_le (h.f j hj).2 hb.size⟩, fun j hj => ⟨(h.g j hj).1, Nat.lt_of_lt_of_le (h.g j hj).2 hb.size⟩, h.d, Nat.le_trans h.a hb.size⟩
theorem PT.wide {w w' : World} {X : Nat} {F : Nat → Prop} {Q : List Tm} {mv : Option Nat} (h : ∃ v', PT w' X F Q v' mv) : ∃ v mv, PT w' X (nF F w) Q v mv := by
  obtain ⟨v, h⟩ := h
  exact ⟨v, mv, h.keep (fun _ _ _ => rfl) (fun _ _ hj => .inl hj)⟩
theorem PT.wide2 {w w' : World} {X : Nat} {F : Nat → Prop} {Q : List Tm} (h : ∃ v' mv', PT w' X F Q v' mv') : ∃ v mv, PT w' X (nF F w) Q v mv := by
  obtain ⟨v, mv, h⟩ := h
  exact ⟨v, mv, h.keep (fun _ _ _ => rfl) (fun _ _ hj => .inl hj)⟩
theorem QT.wide {w w' : World} {Y : Nat} {G : Nat → Prop} {L : List Tm} {u : Value} (h : QT w' Y G L u) : ∃ u, QT w' Y (nF G w) L u := ⟨u, h.keep (fun _ _ _ => rfl) (fun _ _ hj => .inl hj)⟩
theorem del_len {L : List Tm} {j : Nat} (hj : j < L.length) : (L.take j ++ L.drop (j + 1)).length + 1 = L.length := by rw [List.length_append, List.length_take, List.length_drop]; omega
theorem ins_len (x : Tm) (L : List Tm) : (insQ x L).length = L.length + 1 := by rw [(ins_perm x L).length_eq]; rfl
/-- Set on both. -/
theorem pair_set {A X Y : Nat} {Q L : List Tm} (hs : Sq L Q) (hl : L.length ≤ 800) {k : ByteArray} (hk : k.size ≤ 1000) (d : Int) : ∃ Q' L', Sq L' Q' ∧ L'.length ≤ L.length + 1 ∧
    (∀ w F G, T2 w A X Y F G Q L → Calls Try.prog 11 #[.pointer (some ⟨X, 0, none⟩), .string k, .int .i64 d] w fun e w1 => e = .returned (.tuple #[]) ∧ T2 w1 A X Y (cN F w w1) G Q' L ∧ Kf F w w1) ∧
    (∀ w F G, T2 w A X Y F G Q' L → Calls Try.prog 12 #[.pointer (some ⟨Y, 0, none⟩), .string k, .int .i64 d] w fun e w2 => e = .returned (.tuple #[]) ∧ T2 w2 A X Y F (cN G w w2) Q' L' ∧ Kf G w w2) := by
  have hql := hs.len
  rcases hs.find k with ⟨hq, hl2⟩ | ⟨i, j, hi, hj, hki, he, hn⟩
  · refine ⟨addQ Q (k, d), insQ (k, d) L, hs.add (x := (k, d)) hl2, by rw [ins_len]; exact Nat.le_refl _, fun w F G h => ?_, fun w F G h => ?_⟩
    · obtain ⟨v, mv, hp⟩ := h.p
      refine (tSet_miss hp hk hq (by omega) d).mono ?_
      rintro e w1 ⟨rfl, h1, h2⟩
      exact ⟨rfl, h.stepP h1 h2, h2⟩
    · obtain ⟨u, hu⟩ := h.q
      refine (rSet_any (G := G) (L := L) (k := k) (d := d) ((rStop_miss hu hl2 (by omega)).mono ?_) (by omega)).mono ?_
      · rintro e w1 ⟨rfl, rfl⟩
        exact ⟨⟨_, rfl⟩, hu.wide, Kf.refl _ _⟩
      · rintro e w1 ⟨rfl, h1, h2⟩
        exact ⟨rfl, h.stepQ h1 h2, h2⟩
  · subst hki
    have hdl := del_len hj
    refine ⟨setQ Q i d, insQ ((tg Q i).1, d) (L.take j ++ L.drop (j + 1)), hs.due hi hj he d, by rw [ins_len]; omega, fun w F G h => ?_, fun w F G h => ?_⟩
    · obtain ⟨v, mv, hp⟩ := h.p
      refine (tSet_hit hp hi (by omega) d).mono ?_
      rintro e w1 ⟨rfl, h1, h2⟩
      exact ⟨rfl, h.stepP (PT.wide2 h1) h2, h2⟩
    · obtain ⟨u, hu⟩ := h.q
      refine (rSet_any (G := G) (L := L.take j ++ L.drop (j + 1)) (k := (tg Q i).1) (d := d) ((rStop_hit hu hj (congrArg Prod.fst he) hn (by omega)).mono ?_) (by omega)).mono ?_
      · rintro e w1 ⟨rfl, h1, h2⟩
        exact ⟨⟨_, rfl⟩, h1, h2⟩
      · rintro e w1 ⟨rfl, h1, h2⟩
        exact ⟨rfl, h.stepQ h1 h2, h2⟩
theorem pair_stop {A X Y : Nat} {Q L : List Tm} (hs : Sq L Q) (hl : L.length ≤ 800) {k : ByteArray} (hk : k.size ≤ 1000) : ∃ b Q' L', Sq L' Q' ∧ L'.length ≤ L.length ∧
    (∀ w F G, T2 w A X Y F G Q L → Calls Try.prog 13 #[.pointer (some ⟨X, 0, none⟩), .string k] w fun e w1 => e = .returned (.bool b) ∧ T2 w1 A X Y (cN F w w1) G Q' L ∧ Kf F w w1) ∧
    (∀ w F G, T2 w A X Y F G Q' L → Calls Try.prog 14 #[.pointer (some ⟨Y, 0, none⟩), .string k] w fun e w2 => e = .returned (.bool b) ∧ T2 w2 A X Y F (cN G w w2) Q' L' ∧ Kf G w w2) := by
  have hql := hs.len
  rcases hs.find k with ⟨hq, hl2⟩ | ⟨i, j, hi, hj, hki, he, hn⟩
  · refine ⟨false, Q, L, hs, Nat.le_refl _, fun w F G h => ?_, fun w F G h => ?_⟩
    · obtain ⟨v, mv, hp⟩ := h.p
      refine (tStop_miss hp hk hq).mono ?_
      rintro e w1 ⟨rfl, rfl⟩
      exact ⟨rfl, h.stepP (PT.wide2 ⟨v, mv, hp⟩) (Kf.refl _ _), Kf.refl _ _⟩
    · obtain ⟨u, hu⟩ := h.q
      refine (rStop_miss hu hl2 (by omega)).mono ?_
      rintro e w1 ⟨rfl, rfl⟩
      exact ⟨rfl, h.stepQ hu.wide (Kf.refl _ _), Kf.refl _ _⟩
  · subst hki
    have hdl := del_len hj
    refine ⟨true, remQ Q i, L.take j ++ L.drop (j + 1), hs.rem hi hj he, by omega, fun w F G h => ?_, fun w F G h => ?_⟩
    · obtain ⟨v, mv, hp⟩ := h.p
      refine (tStop_hit hp hi (by omega)).mono ?_
      rintro e w1 ⟨rfl, h1, h2⟩
      exact ⟨rfl, h.stepP (PT.wide h1) h2, h2⟩
    · obtain ⟨u, hu⟩ := h.q
      refine (rStop_hit hu hj (congrArg Prod.fst he) hn (by omega)).mono ?_
      rintro e w1 ⟨rfl, h1, h2⟩
      exact ⟨rfl, h.stepQ h1 h2, h2⟩
theorem takL_len (now : Int) : ∀ L : List Tm, (takL now L).2.length ≤ L.length
  | [] => Nat.le_refl _
  | x :: r => by
    unfold takL
    split
    · have := takL_len now r
      simp only [List.length_cons]
      omega
    · exact Nat.le_refl _
theorem pair_take {A X Y : Nat} {Q L : List Tm} (hs : Sq L Q) (hl : L.length ≤ 800) (now : Int) : ∃ (K : List ByteArray) (Q' L' : List Tm), Sq L' Q' ∧ L'.length ≤ L.length ∧
    (∀ w F G, T2 w A X Y F G Q L → Calls Try.prog 16 #[.pointer (some ⟨X, 0, none⟩), .int .i64 now] w fun e w1 => ∃ kv, e = .returned kv ∧ w1.ownsRow w.heap.size 9 1 kv K.length (K.map Value.string) ∧ T2 w1 A X Y (cN F w w1) G Q' L ∧ Kf F w w1) ∧
    (∀ w F G, T2 w A X Y F G Q' L → Calls Try.prog 17 #[.pointer (some ⟨Y, 0, none⟩), .int .i64 now] w fun e w2 => ∃ kv, e = .returned kv ∧ w2.ownsRow w.heap.size 9 1 kv K.length (K.map Value.string) ∧ T2 w2 A X Y F (cN G w w2) Q' L' ∧ Kf G w w2) := by
  have hql := hs.len
  obtain ⟨e1, e2⟩ := hs.take now
  refine ⟨(takL now L).1, (takQ now Q.length Q).2, (takL now L).2, e2, takL_len now L, fun w F G h => ?_, fun w F G h => ?_⟩
  · obtain ⟨v, mv, hp⟩ := h.p
    refine (tTake_any hp (by omega) now).mono ?_
    rintro e w1 ⟨kv, rfl, h1, h2, h3⟩
    rw [e1] at h1
    exact ⟨kv, rfl, h1, h.stepP (PT.wide h2) h3, h3⟩
  · obtain ⟨u, hu⟩ := h.q
    refine (rTake_any hu (by omega) now).mono ?_
    rintro e w1 ⟨kv, rfl, h1, h2, h3⟩
    exact ⟨kv, rfl, h1, h.stepQ h2 h3, h3⟩
theorem pair_due {w : World} {A X Y : Nat} {F G : Nat → Prop} {Q L : List Tm} (h : T2 w A X Y F G Q L) (hs : Sq L Q) (hl : L.length ≤ 800) {k : ByteArray} (hk : k.size ≤ 1000) : ∃ d b,
    (Calls Try.prog 18 #[.pointer (some ⟨X, 0, none⟩), .string k] w fun e w1 => e = .returned (.tuple #[.int .i64 d, .bool b]) ∧ w1 = w) ∧
    (Calls Try.prog 19 #[.pointer (some ⟨Y, 0, none⟩), .string k] w fun e w1 => e = .returned (.tuple #[.int .i64 d, .bool b]) ∧ w1 = w) := by
  obtain ⟨v, mv, hp⟩ := h.p
  obtain ⟨u, hu⟩ := h.q
  rcases hs.find k with ⟨hq, hl2⟩ | ⟨i, j, hi, hj, hki, he, hn⟩
  · exact ⟨0, false, tDue_miss hp hk hq, rDue_miss hu hl2 (by omega)⟩
  · subst hki
    refine ⟨(tg Q i).2, true, tDue_hit hp hi, ?_⟩
    have := rDue_hit hu hj (congrArg Prod.fst he) hn (by omega)
    rwa [he] at this
end Go.Proofs.Ytdificdnicdnnaa

/- TimersPlay: whatever is set, stopped and taken, both answer alike. -/
namespace Go.Proofs.Ytdificdnicdnnaa
open Go.RowKit Go.Lib Go.Maps
set_option linter.unusedSimpArgs false
set_option linter.unusedVariables false
attribute [local go_sem ↓] Go.wp_at_zero Go.wp_at_succ

theorem T2.start {w : World} {A X Y : Nat} (hA : A ≤ X) (hA2 : A ≤ Y) (hne : X ≠ Y) (hp : PT w X (fun j => j = X) [] (.slice none 0 0) none) (hq : QT w Y (fun j => j = Y) [] (.slice none 0 0)) : T2 w A X Y (fun j => j = X) (fun j => j = Y) [] [] :=
  ⟨⟨_, _, hp⟩, ⟨_, hq⟩, fun j hj => by subst hj; exact ⟨hA, hp.lt⟩, fun j hj => by subst hj; exact ⟨hA2, hq.c.lt⟩, fun j h1 h2 => hne (h1.symm.trans h2), by have := hp.lt; omega⟩
/-- What the last questions of a round see. -/
theorem T2.look {w : World} {A X Y : Nat} {F G : Nat → Prop} {Q L : List Tm} (h : T2 w A X Y F G Q L) (hs : Sq L Q) : ∃ (u : Value) (n cap : Nat) (a : Option Addr), u = .slice a n cap ∧ n = L.length ∧ w.cell? ⟨Y, 0, none⟩ = some u ∧
    (∀ m, Calls Try.prog 21 #[.pointer (some ⟨X, 0, none⟩)] (w.drewN m) fun e w' => e = .returned (.int .i64 (n : Int)) ∧ ∃ k, w' = w.drewN k) ∧
    (Calls Try.prog 20 #[.pointer (some ⟨X, 0, none⟩)] w fun e w' => e = .returned (.tuple #[.int .i64 (nxQ Q), .bool (decide (0 < n))]) ∧ w' = w) ∧
    ((n = 0 ∧ nxQ Q = 0) ∨ ∃ g, 0 < n ∧ a = some ⟨g, 0, none⟩ ∧ w.cell? ⟨g, 1, none⟩ = some (.int .i64 (nxQ Q))) := by
  obtain ⟨v, mv, hp⟩ := h.p
  obtain ⟨u, hu⟩ := h.q
  obtain ⟨a, cap, rfl, _, _⟩ := srow_form hu.o
  have hn := tNext_any hp
  have hlen := hs.len
  rw [hlen] at hn
  refine ⟨_, L.length, cap, a, rfl, rfl, (hu.c 0 _ rfl).1, fun m => ?_, hn, ?_⟩
  · have hp2 : PT (w.drewN m) X F Q v mv := hp.keep (fun _ _ _ => rfl) (fun _ _ h => h)
    refine (tLen_any hp2).mono ?_
    rintro e w' ⟨rfl, rfl⟩
    exact ⟨by rw [hlen], m, rfl⟩
  · by_cases h0 : 0 < L.length
    · obtain ⟨g, cap', e, _, _, _, hc⟩ := hu.at h0
      simp only [Value.slice.injEq] at e
      have hne : ¬ Q = [] := by intro e; rw [e] at hlen; simp at hlen; omega
      have d1 := hc (0 * 2 + 1) _ (celT_at h0).2
      rw [← hs.first] at d1
      refine .inr ⟨g, h0, e.1, ?_⟩
      unfold nxQ
      rw [if_neg hne]
      simpa using d1
    · have : Q = [] := List.eq_nil_of_length_eq_zero (by omega)
      refine .inl ⟨by omega, ?_⟩
      unfold nxQ
      rw [if_pos this]
set_option maxRecDepth 100000 in
set_option maxHeartbeats 8000000 in
theorem timersPlay_walk {w : World} {l : List TOp} {v : Value} (h : RdTo w l v) (z : Bool) : Calls Try.prog 4 #[v, .bool z] w fun e w' => e = .returned (.bool true) ∧ Below w.heap.size w w' := by
  have haw := fun W => tAwake_any W
  obtain ⟨R, hR⟩ : ∃ R, fewT l = R := ⟨_, rfl⟩
  have hfew := fun (W : World) (b : Below w.heap.size w W) => tFew_any (h.on b)
  simp only [hR] at hfew
  obtain ⟨a, c, rfl, hlc, hcm, hcell⟩ := h
  unfold maxLen at hcm
  have hb0 : Below w.heap.size w w := Below.refl _ _
  cases R with
  | false =>
    clear hR hcell
    go_enter Try.func4, Try.ntmps4
    go_wp2_with (first
      | (go_at_call 7; refine (haw _).mono ?_; rintro e w2 ⟨rfl, b2⟩; have hb0 := hb0.trans (b2.mono hb0.size))
      | (go_at_call 9; refine (hfew _ hb0).mono ?_; rintro e w3 ⟨rfl, rfl⟩)
      | fail)
    go_ret
    exact ⟨rfl, hb0⟩
  | true =>
    obtain ⟨hl200, hsz⟩ := of_decide_eq_true hR
    have HSZ := hideD hsz
    have HC := hideD hcell
    have hnew := fun W => tNew_any W
    clear hR hcell hsz
    cases z with
    | false =>
      go_enter Try.func4, Try.ntmps4
      go_upto_region 6 with (first
        | (go_at_call 7; refine (haw _).mono ?_; rintro e w2 ⟨rfl, b2⟩; have hb0 := hb0.trans (b2.mono hb0.size))
        | (go_at_call 9; refine (hfew _ hb0).mono ?_; rintro e w3 ⟨rfl, rfl⟩)
        | (go_at_call 10; refine (hnew _).mono ?_; rintro e w4 ⟨rfl, hp, b4⟩)
        | fail)
      have hsz := hb0.size
      have hsz4 := b4.size
      have al1 : Below w4.heap.size w4 (w4.alloc (.cells #[.slice none 0 0] 32)) := (Below.refl _ _).alloc (Nat.le_refl _) _
      have hxl := hp.lt
      have HT := hideD (T2.start (A := w.heap.size) (by omega) (by omega) (by omega) (hp.on al1) (qt_new w4))
      have HB := hideD ((hb0.trans (b4.mono hsz)).trans (al1.mono (by omega)))
      clear hp b4 al1 hxl hsz4 hsz hnew haw hfew hb0
      generalize w4.alloc (.cells #[.slice none 0 0] 32) = W0 at *
      generalize w4.heap.size = Y at *
      generalize w2.heap.size = X at *
      go_wp2
      go_loopw [31] (fun ix wr => ∃ (j : Nat) (Q L : List Tm) (F G : Nat → Prop), j ≤ l.length ∧ ix = .int .i64 (j : Int) ∧ Sq L Q ∧ L.length ≤ j ∧ T2 wr w.heap.size X Y F G Q L ∧ Below w.heap.size w wr) (fun ix _ => l.length - (RowKit.intOf ix).toNat)
      case atStart => exact ⟨0, [], [], _, _, Nat.zero_le _, rfl, Sq.nil, Nat.le_refl _, HT.out, HB.out⟩
      case round =>
        obtain ⟨j, Q, L, F, G, hj, rfl, hs, hLj, hT, hB⟩ := hrel
        clear HT HB
        by_cases hlt : j < l.length
        · have k1 : (j : Int) < (l.length : Int) := by omega
          have k2 : (0 : Int) ≤ (j : Int) := by omega
          obtain ⟨b, off, cs, ha, _, hbl, _, hcs0, hcs⟩ := HC.out j hlt
          subst ha
          have hcs0 : cs = [.int .i64 (l[j]).1, .string (l[j]).2.1, .int .i64 (l[j]).2.2] := hcs0
          subst hcs0
          have hks := HSZ.out _ (List.getElem_mem hlt)
          have c0 := (hB.cell (p := ⟨b, off + j * 3 + 0, none⟩) hbl).trans (hcs 0 _ rfl)
          have c1 := (hB.cell (p := ⟨b, off + j * 3 + 1, none⟩) hbl).trans (hcs 1 _ rfl)
          have c2 := (hB.cell (p := ⟨b, off + j * 3 + 2, none⟩) hbl).trans (hcs 2 _ rfl)
          rw [Nat.add_zero] at c0
          generalize l[j] = op at *
          obtain ⟨kd, ky, tm⟩ := op
          simp only at c0 c1 c2 hks
          have hk : ky.size ≤ 1000 := by omega
          have hL8 : L.length ≤ 800 := by omega
          clear hcs hcs0 hks
          have al : Below wr.heap.size wr (wr.alloc (.cells #[.int .i64 kd, .string ky, .int .i64 tm] 40)) := (Below.refl _ _).alloc (Nat.le_refl _) _
          have hO := Bn.new wr [.int .i64 kd, .string ky, .int .i64 tm] 40 _ rfl
          have hTa := hT.on al
          have hwr := hB.size
          have hBa := hB.trans (al.mono hwr)
          obtain ⟨o0, p0⟩ := hO 0 _ rfl
          obtain ⟨o1, p1⟩ := hO 1 _ rfl
          obtain ⟨o2, p2⟩ := hO 2 _ rfl
          have hPF : ¬ F wr.heap.size := fun e => by have := (hT.f _ e).2; omega
          have hPG : ¬ G wr.heap.size := fun e => by have := (hT.g _ e).2; omega
          have hPl : wr.heap.size < (wr.alloc (.cells #[.int .i64 kd, .string ky, .int .i64 tm] 40)).heap.size := by simp
          by_cases q1 : kd = 1
          · subst q1
            obtain ⟨Q', L', hs', hl', hP, hD⟩ := pair_set hs hL8 hk tm (A := w.heap.size) (X := X) (Y := Y)
            have h1 := hP _ F G hTa
            have hfa := hTa.f
            have hA := hTa.a
            clear hP hs hT hB al hL8 hTa p0 p1 p2
            go_upto_region 20 with (first
              | (go_at_call 11; refine h1.mono ?_; rintro e w1 ⟨rfl, hT1, hK1⟩; have h2 := hD _ _ _ hT1; have hO1 := hO.blk (hK1.block _ hPl hPF); obtain ⟨o11, _⟩ := hO1 1 _ rfl; obtain ⟨o12, _⟩ := hO1 2 _ rfl; have hB1 := hBa.trans (hK1.below (fun j hj => (hfa j hj).1) hA); have hPl1 := Nat.lt_of_lt_of_le hPl hK1.size; have hA1 := hT1.a; have hga := hT1.g; clear h1 hT1 hK1 hBa hPF hfa hO o0 o1 o2 hA hD hPl)
              | (go_at_call 12; refine h2.mono ?_; rintro e w2x ⟨rfl, hTc, hK2⟩; have hO2 := hO1.blk (hK2.block _ hPl1 hPG); obtain ⟨o1c, _⟩ := hO2 1 _ rfl; have hBc := hB1.trans (hK2.below (fun j hj => (hga j hj).1) hA1); clear h2 hK2 hB1 hga hO1 o11 o12 hA1 hO2 hPl1)
              | fail)
            have hsc := hs'
            have hLc : L'.length ≤ j + 1 := by omega
            clear hs' hl' hLj
            generalize cN F _ _ = F' at *
            generalize cN G _ _ = G' at *
            obtain ⟨dd, db, hd1, hd2⟩ := pair_due hTc hsc (by omega) hk
            obtain ⟨u, n, cap, au, rfl, hnL, hy0, hlen, hnx, hcase⟩ := hTc.look hsc
            have hnm : n ≤ 1000 := by omega
            have HH := hideD (And.intro hsc (And.intro hLc (And.intro hTc hBc)))
            have HY := hideD hy0
            clear hsc hLc hTc hBc hnL
            generalize nxQ Q' = nx at *
            rcases hcase with ⟨rfl, rfl⟩ | ⟨g, hn0, rfl, hg1⟩
            · go_wp2_with (first
                | (go_at_call 18; refine hd1.mono ?_; rintro e wd ⟨rfl, rfl⟩; clear hd1)
                | (go_at_call 19; refine hd2.mono ?_; rintro e wd ⟨rfl, rfl⟩; clear hd2)
                | (go_at_call 20; refine hnx.mono ?_; rintro e wd ⟨rfl, rfl⟩; clear hnx)
                | fail)
              go_quiet (exact hlen _)
              go_wp2
              go_roundw
              case rel => exact ⟨j + 1, Q', L', F', G', hlt, by go_num, HH.out.1, HH.out.2.1, HH.out.2.2.1.on ⟨rfl, rfl, rfl, Nat.le_refl _, fun _ _ => rfl⟩, HH.out.2.2.2.trans ⟨rfl, rfl, rfl, Nat.le_refl _, fun _ _ => rfl⟩⟩
              case measure => simp [RowKit.intOf]; omega
            · have hn1 : (0 : Int) < (n : Int) := by omega
              go_wp2_with (first
                | (go_at_call 18; refine hd1.mono ?_; rintro e wd ⟨rfl, rfl⟩; clear hd1)
                | (go_at_call 19; refine hd2.mono ?_; rintro e wd ⟨rfl, rfl⟩; clear hd2)
                | (go_at_call 20; refine hnx.mono ?_; rintro e wd ⟨rfl, rfl⟩; clear hnx)
                | fail)
              go_quiet (exact hlen _)
              go_wp2
              go_roundw
              case rel => exact ⟨j + 1, Q', L', F', G', hlt, by go_num, HH.out.1, HH.out.2.1, HH.out.2.2.1.on ⟨rfl, rfl, rfl, Nat.le_refl _, fun _ _ => rfl⟩, HH.out.2.2.2.trans ⟨rfl, rfl, rfl, Nat.le_refl _, fun _ _ => rfl⟩⟩
              case measure => simp [RowKit.intOf]; omega
          · by_cases q2 : kd = 2
            · subst q2
              obtain ⟨bb, Q', L', hs', hl', hP, hD⟩ := pair_stop hs hL8 hk (A := w.heap.size) (X := X) (Y := Y)
              have hTd := hTa.on (Below.refl _ _).drew
              have h1 := hP _ F G hTd
              have hfa := hTd.f
              have hA := hTd.a
              have hOd := hO.drew
              have hPd : wr.heap.size < (wr.alloc (.cells #[.int .i64 2, .string ky, .int .i64 tm] 40)).drew.heap.size := hPl
              have hBd := hBa.trans ((Below.refl _ _).drew (B := w.heap.size))
              obtain ⟨x1, _⟩ := hOd 1 _ rfl
              clear hP hs hT hB al hL8 hTa hTd p0 p1 p2 hBa hO hPl
              go_upto_region 15 with fail
              go_region_held (fun w' => w'.cell? ⟨wr.heap.size, 1, none⟩ = some (.string ky)) (first | exact x1 | exact o11 | exact o1c) (first
                | (go_at_call 13; refine h1.mono ?_; rintro e w1 ⟨rfl, hT1, hK1⟩; have h2 := hD _ _ _ hT1; have hO1 := hOd.blk (hK1.block _ hPd hPF); obtain ⟨o11, _⟩ := hO1 1 _ rfl; have hB1 := hBd.trans (hK1.below (fun j hj => (hfa j hj).1) hA); have hPl1 := Nat.lt_of_lt_of_le hPd hK1.size; have hA1 := hT1.a; have hga := hT1.g; clear h1 hT1 hK1 hBd hPF hfa hOd o0 o1 o2 hA hD hPd)
                | (go_at_call 14; refine h2.mono ?_; rintro e w2x ⟨rfl, hTc, hK2⟩; have hO2 := hO1.blk (hK2.block _ hPl1 hPG); obtain ⟨o1c, _⟩ := hO2 1 _ rfl; have hBc := hB1.trans (hK2.below (fun j hj => (hga j hj).1) hA1); clear h2 hK2 hB1 hga hO1 o11 hA1 hO2 hPl1)
                | fail)
              all_goals (
                have hsc := hs'
                have hLc : L'.length ≤ j + 1 := by omega
                clear hs' hl' hLj x1
                generalize cN F _ _ = F' at *
                generalize cN G _ _ = G' at *
                go_upto_region 20 with fail
                obtain ⟨dd, db, hd1, hd2⟩ := pair_due hTc hsc (by omega) hk
                obtain ⟨u, n, cap, au, rfl, hnL, hy0, hlen, hnx, hcase⟩ := hTc.look hsc
                have hnm : n ≤ 1000 := by omega
                have HH := hideD (And.intro hsc (And.intro hLc (And.intro hTc hBc)))
                have HY := hideD hy0
                clear hsc hLc hTc hBc hnL
                generalize nxQ Q' = nx at *
                rcases hcase with ⟨rfl, rfl⟩ | ⟨g, hn0, rfl, hg1⟩
                · go_wp2_with (first
                    | (go_at_call 18; refine hd1.mono ?_; rintro e wd ⟨rfl, rfl⟩; clear hd1)
                    | (go_at_call 19; refine hd2.mono ?_; rintro e wd ⟨rfl, rfl⟩; clear hd2)
                    | (go_at_call 20; refine hnx.mono ?_; rintro e wd ⟨rfl, rfl⟩; clear hnx)
                    | fail)
                  go_quiet (exact hlen _)
                  go_wp2
                  go_roundw
                  case rel => exact ⟨j + 1, Q', L', F', G', hlt, by go_num, HH.out.1, HH.out.2.1, HH.out.2.2.1.on ⟨rfl, rfl, rfl, Nat.le_refl _, fun _ _ => rfl⟩, HH.out.2.2.2.trans ⟨rfl, rfl, rfl, Nat.le_refl _, fun _ _ => rfl⟩⟩
                  case measure => simp [RowKit.intOf]; omega
                · have hn1 : (0 : Int) < (n : Int) := by omega
                  go_wp2_with (first
                    | (go_at_call 18; refine hd1.mono ?_; rintro e wd ⟨rfl, rfl⟩; clear hd1)
                    | (go_at_call 19; refine hd2.mono ?_; rintro e wd ⟨rfl, rfl⟩; clear hd2)
                    | (go_at_call 20; refine hnx.mono ?_; rintro e wd ⟨rfl, rfl⟩; clear hnx)
                    | fail)
                  go_quiet (exact hlen _)
                  go_wp2
                  go_roundw
                  case rel => exact ⟨j + 1, Q', L', F', G', hlt, by go_num, HH.out.1, HH.out.2.1, HH.out.2.2.1.on ⟨rfl, rfl, rfl, Nat.le_refl _, fun _ _ => rfl⟩, HH.out.2.2.2.trans ⟨rfl, rfl, rfl, Nat.le_refl _, fun _ _ => rfl⟩⟩
                  case measure => simp [RowKit.intOf]; omega
                )
            · by_cases q3 : kd = 3
              · subst q3
                obtain ⟨K, Q', L', hs', hl', hP, hD⟩ := pair_take hs hL8 tm (A := w.heap.size) (X := X) (Y := Y)
                have hTd := hTa.on (Below.refl _ _).drew
                have h1 := hP _ F G hTd
                have hfa := hTd.f
                have hgd := hTd.g
                have hA := hTd.a
                have hOd := hO.drew
                have hPd : wr.heap.size < (wr.alloc (.cells #[.int .i64 3, .string ky, .int .i64 tm] 40)).drew.heap.size := hPl
                have hBd := hBa.trans ((Below.refl _ _).drew (B := w.heap.size))
                obtain ⟨x1, _⟩ := hOd 2 _ rfl
                clear hP hs hT hB al hL8 hTa hTd p0 p1 p2 hBa hO hPl
                go_upto_region 18 with fail
                generalize hwa : (wr.alloc (.cells #[.int .i64 3, .string ky, .int .i64 tm] 40)) = wa at *
                clear hwa
                go_region_held (fun w' => w'.cell? ⟨wr.heap.size, 2, none⟩ = some (.int .i64 tm)) (first | exact x1 | exact o11 | exact o12 | exact o13) (first
                  | (go_at_call 16; refine h1.mono ?_; rintro e w1 ⟨kv, rfl, hr1, hT1, hK1⟩; have h2 := hD _ _ _ hT1; have hO1 := hOd.blk (hK1.block _ hPd hPF); obtain ⟨o11, _⟩ := hO1 2 _ rfl; have hB1 := hBd.trans (hK1.below (fun j hj => (hfa j hj).1) hA); have hPl1 := Nat.lt_of_lt_of_le hPd hK1.size; have hA1 := hT1.a; have hga := hT1.g; clear h1 hT1 hK1 hBd hPF hfa hOd o0 o1 o2 hA hD hPd)
                  | (go_at_call 17; refine h2.mono ?_; rintro e w2x ⟨kv2, rfl, hr2, hTc, hK2⟩; have hO2 := hO1.blk (hK2.block _ hPl1 hPG); obtain ⟨o12, _⟩ := hO2 2 _ rfl; have hBc := hB1.trans (hK2.below (fun j hj => (hga j hj).1) hA1); have hr3 := ownsRow_keep hr1 (fun q hq => hK2.block q (ownsRow_lt hr1 q hq).2 (fun e => by have h1 := (hgd q e).2; have h2 := (ownsRow_lt hr1 q hq).1; omega)); have hsm := tSame_any hr3 hr2; clear h2 hK2 hB1 hga hO1 o11 hA1 hPl1 hr1 hr2 hr3 hgd)
                  | (go_at_call 15; refine hsm.mono ?_; rintro e w3x ⟨rfl, kk, rfl⟩; have hO3 : Bn (w2x.drewN kk) wr.heap.size _ := hO2; obtain ⟨o13, _⟩ := hO3 2 _ rfl; obtain ⟨o1c, _⟩ := hO3 1 _ rfl; have hTc := hTc.on (w' := w2x.drewN kk) ⟨rfl, rfl, rfl, Nat.le_refl _, fun _ _ => rfl⟩; have hBc := hBc.trans (c := w2x.drewN kk) ⟨rfl, rfl, rfl, Nat.le_refl _, fun _ _ => rfl⟩; clear hsm hO2 hO3 o12)
                  | fail)
                all_goals (
                  have hsc := hs'
                  have hLc : L'.length ≤ j + 1 := by omega
                  clear hs' hl' hLj x1 o13
                  generalize cN F _ _ = F' at *
                  generalize cN G _ _ = G' at *
                  go_upto_region 20 with fail
                  generalize World.drewN _ _ = wz at *
                  obtain ⟨dd, db, hd1, hd2⟩ := pair_due hTc hsc (by omega) hk
                  obtain ⟨u, n, cap, au, rfl, hnL, hy0, hlen, hnx, hcase⟩ := hTc.look hsc
                  have hnm : n ≤ 1000 := by omega
                  have HH := hideD (And.intro hsc (And.intro hLc (And.intro hTc hBc)))
                  have HY := hideD hy0
                  clear hsc hLc hTc hBc hnL
                  generalize nxQ Q' = nx at *
                  rcases hcase with ⟨rfl, rfl⟩ | ⟨g, hn0, rfl, hg1⟩
                  · go_wp2_with (first
                      | (go_at_call 18; refine hd1.mono ?_; rintro e wd ⟨rfl, rfl⟩; clear hd1)
                      | (go_at_call 19; refine hd2.mono ?_; rintro e wd ⟨rfl, rfl⟩; clear hd2)
                      | (go_at_call 20; refine hnx.mono ?_; rintro e wd ⟨rfl, rfl⟩; clear hnx)
                      | fail)
                    go_quiet (exact hlen _)
                    go_wp2
                    go_roundw
                    case rel => exact ⟨j + 1, Q', L', F', G', hlt, by go_num, HH.out.1, HH.out.2.1, HH.out.2.2.1.on ⟨rfl, rfl, rfl, Nat.le_refl _, fun _ _ => rfl⟩, HH.out.2.2.2.trans ⟨rfl, rfl, rfl, Nat.le_refl _, fun _ _ => rfl⟩⟩
                    case measure => simp [RowKit.intOf]; omega
                  · have hn1 : (0 : Int) < (n : Int) := by omega
                    go_wp2_with (first
                      | (go_at_call 18; refine hd1.mono ?_; rintro e wd ⟨rfl, rfl⟩; clear hd1)
                      | (go_at_call 19; refine hd2.mono ?_; rintro e wd ⟨rfl, rfl⟩; clear hd2)
                      | (go_at_call 20; refine hnx.mono ?_; rintro e wd ⟨rfl, rfl⟩; clear hnx)
                      | fail)
                    go_quiet (exact hlen _)
                    go_wp2
                    go_roundw
                    case rel => exact ⟨j + 1, Q', L', F', G', hlt, by go_num, HH.out.1, HH.out.2.1, HH.out.2.2.1.on ⟨rfl, rfl, rfl, Nat.le_refl _, fun _ _ => rfl⟩, HH.out.2.2.2.trans ⟨rfl, rfl, rfl, Nat.le_refl _, fun _ _ => rfl⟩⟩
                    case measure => simp [RowKit.intOf]; omega
                  )
              · clear hPF hPG p0 p1 p2
                obtain ⟨Q', hQ'⟩ : ∃ Q', Q' = Q := ⟨_, rfl⟩
                obtain ⟨L', hL'⟩ : ∃ L', L' = L := ⟨_, rfl⟩
                obtain ⟨F', hF'⟩ : ∃ F', F' = F := ⟨_, rfl⟩
                obtain ⟨G', hG'⟩ : ∃ G', G' = G := ⟨_, rfl⟩
                subst hQ' hL' hF' hG'
                have HZ := hideD (And.intro hs (And.intro (show L'.length ≤ j + 1 by omega) (And.intro hTa hBa)))
                clear hs hTa hBa hT hB al hO hPl hL8 hLj
                go_upto_region 20 with fail
                obtain ⟨hsc, hLc, hTc, hBc⟩ := HZ.out
                clear HZ o0 o2
                generalize wr.alloc (.cells #[.int .i64 kd, .string ky, .int .i64 tm] 40) = wc at *
                obtain ⟨dd, db, hd1, hd2⟩ := pair_due hTc hsc (by omega) hk
                obtain ⟨u, n, cap, au, rfl, hnL, hy0, hlen, hnx, hcase⟩ := hTc.look hsc
                have hnm : n ≤ 1000 := by omega
                have HH := hideD (And.intro hsc (And.intro hLc (And.intro hTc hBc)))
                have HY := hideD hy0
                clear hsc hLc hTc hBc hnL
                generalize nxQ Q' = nx at *
                rcases hcase with ⟨rfl, rfl⟩ | ⟨g, hn0, rfl, hg1⟩
                · go_wp2_with (first
                    | (go_at_call 18; refine hd1.mono ?_; rintro e wd ⟨rfl, rfl⟩; clear hd1)
                    | (go_at_call 19; refine hd2.mono ?_; rintro e wd ⟨rfl, rfl⟩; clear hd2)
                    | (go_at_call 20; refine hnx.mono ?_; rintro e wd ⟨rfl, rfl⟩; clear hnx)
                    | fail)
                  go_quiet (exact hlen _)
                  go_wp2
                  go_roundw
                  case rel => exact ⟨j + 1, Q', L', F', G', hlt, by go_num, HH.out.1, HH.out.2.1, HH.out.2.2.1.on ⟨rfl, rfl, rfl, Nat.le_refl _, fun _ _ => rfl⟩, HH.out.2.2.2.trans ⟨rfl, rfl, rfl, Nat.le_refl _, fun _ _ => rfl⟩⟩
                  case measure => simp [RowKit.intOf]; omega
                · have hn1 : (0 : Int) < (n : Int) := by omega
                  go_wp2_with (first
                    | (go_at_call 18; refine hd1.mono ?_; rintro e wd ⟨rfl, rfl⟩; clear hd1)
                    | (go_at_call 19; refine hd2.mono ?_; rintro e wd ⟨rfl, rfl⟩; clear hd2)
                    | (go_at_call 20; refine hnx.mono ?_; rintro e wd ⟨rfl, rfl⟩; clear hnx)
                    | fail)
                  go_quiet (exact hlen _)
                  go_wp2
                  go_roundw
                  case rel => exact ⟨j + 1, Q', L', F', G', hlt, by go_num, HH.out.1, HH.out.2.1, HH.out.2.2.1.on ⟨rfl, rfl, rfl, Nat.le_refl _, fun _ _ => rfl⟩, HH.out.2.2.2.trans ⟨rfl, rfl, rfl, Nat.le_refl _, fun _ _ => rfl⟩⟩
                  case measure => simp [RowKit.intOf]; omega
        · have k1 : ¬ (j : Int) < (l.length : Int) := by omega
          go_wp2
          go_ret
          exact ⟨rfl, hB⟩
    | true =>
      go_enter Try.func4, Try.ntmps4
      go_upto_region 6 with (first
        | (go_at_call 7; refine (haw _).mono ?_; rintro e w2 ⟨rfl, b2⟩; have hb0 := hb0.trans (b2.mono hb0.size))
        | (go_at_call 9; refine (hfew _ hb0).mono ?_; rintro e w3 ⟨rfl, rfl⟩)
        | (go_at_call 10; refine (hnew _).mono ?_; rintro e w4 ⟨rfl, hp, b4⟩)
        | fail)
      have hsz := hb0.size
      have hsz4 := b4.size
      have al1 : Below w4.heap.size w4 (w4.alloc (.cells #[.slice none 0 0] 32)) := (Below.refl _ _).alloc (Nat.le_refl _) _
      have hs1 : (w4.alloc (.cells #[.slice none 0 0] 32)).heap.size = w4.heap.size + 1 := by simp
      have al2 : Below (w4.heap.size + 1) (w4.alloc (.cells #[.slice none 0 0] 32)) ((w4.alloc (.cells #[.slice none 0 0] 32)).alloc (.cells #[.slice none 0 0, .map none] 38)) := (Below.refl _ _).alloc (by omega) _
      have hp2 := pt_new (w4.alloc (.cells #[.slice none 0 0] 32))
      rw [hs1] at hp2
      have HT := hideD (T2.start (A := w.heap.size) (by omega) (by omega) (by omega) hp2 ((qt_new w4).on (by rw [hs1]; exact al2)))
      have HB := hideD ((hb0.trans (b4.mono hsz)).trans ((al1.mono (by omega)).trans (al2.mono (by omega))))
      clear hp b4 al1 al2 hp2 hs1 hsz4 hsz hnew haw hfew hb0
      generalize (w4.alloc (.cells #[.slice none 0 0] 32)).alloc (.cells #[.slice none 0 0, .map none] 38) = W0 at *
      generalize w4.heap.size + 1 = X at *
      generalize w4.heap.size = Y at *
      go_wp2
      go_loopw [31] (fun ix wr => ∃ (j : Nat) (Q L : List Tm) (F G : Nat → Prop), j ≤ l.length ∧ ix = .int .i64 (j : Int) ∧ Sq L Q ∧ L.length ≤ j ∧ T2 wr w.heap.size X Y F G Q L ∧ Below w.heap.size w wr) (fun ix _ => l.length - (RowKit.intOf ix).toNat)
      case atStart => exact ⟨0, [], [], _, _, Nat.zero_le _, rfl, Sq.nil, Nat.le_refl _, HT.out, HB.out⟩
      case round =>
        obtain ⟨j, Q, L, F, G, hj, rfl, hs, hLj, hT, hB⟩ := hrel
        clear HT HB
        by_cases hlt : j < l.length
        · have k1 : (j : Int) < (l.length : Int) := by omega
          have k2 : (0 : Int) ≤ (j : Int) := by omega
          obtain ⟨b, off, cs, ha, _, hbl, _, hcs0, hcs⟩ := HC.out j hlt
          subst ha
          have hcs0 : cs = [.int .i64 (l[j]).1, .string (l[j]).2.1, .int .i64 (l[j]).2.2] := hcs0
          subst hcs0
          have hks := HSZ.out _ (List.getElem_mem hlt)
          have c0 := (hB.cell (p := ⟨b, off + j * 3 + 0, none⟩) hbl).trans (hcs 0 _ rfl)
          have c1 := (hB.cell (p := ⟨b, off + j * 3 + 1, none⟩) hbl).trans (hcs 1 _ rfl)
          have c2 := (hB.cell (p := ⟨b, off + j * 3 + 2, none⟩) hbl).trans (hcs 2 _ rfl)
          rw [Nat.add_zero] at c0
          generalize l[j] = op at *
          obtain ⟨kd, ky, tm⟩ := op
          simp only at c0 c1 c2 hks
          have hk : ky.size ≤ 1000 := by omega
          have hL8 : L.length ≤ 800 := by omega
          clear hcs hcs0 hks
          have al : Below wr.heap.size wr (wr.alloc (.cells #[.int .i64 kd, .string ky, .int .i64 tm] 40)) := (Below.refl _ _).alloc (Nat.le_refl _) _
          have hO := Bn.new wr [.int .i64 kd, .string ky, .int .i64 tm] 40 _ rfl
          have hTa := hT.on al
          have hwr := hB.size
          have hBa := hB.trans (al.mono hwr)
          obtain ⟨o0, p0⟩ := hO 0 _ rfl
          obtain ⟨o1, p1⟩ := hO 1 _ rfl
          obtain ⟨o2, p2⟩ := hO 2 _ rfl
          have hPF : ¬ F wr.heap.size := fun e => by have := (hT.f _ e).2; omega
          have hPG : ¬ G wr.heap.size := fun e => by have := (hT.g _ e).2; omega
          have hPl : wr.heap.size < (wr.alloc (.cells #[.int .i64 kd, .string ky, .int .i64 tm] 40)).heap.size := by simp
          by_cases q1 : kd = 1
          · subst q1
            obtain ⟨Q', L', hs', hl', hP, hD⟩ := pair_set hs hL8 hk tm (A := w.heap.size) (X := X) (Y := Y)
            have h1 := hP _ F G hTa
            have hfa := hTa.f
            have hA := hTa.a
            clear hP hs hT hB al hL8 hTa p0 p1 p2
            go_upto_region 20 with (first
              | (go_at_call 11; refine h1.mono ?_; rintro e w1 ⟨rfl, hT1, hK1⟩; have h2 := hD _ _ _ hT1; have hO1 := hO.blk (hK1.block _ hPl hPF); obtain ⟨o11, _⟩ := hO1 1 _ rfl; obtain ⟨o12, _⟩ := hO1 2 _ rfl; have hB1 := hBa.trans (hK1.below (fun j hj => (hfa j hj).1) hA); have hPl1 := Nat.lt_of_lt_of_le hPl hK1.size; have hA1 := hT1.a; have hga := hT1.g; clear h1 hT1 hK1 hBa hPF hfa hO o0 o1 o2 hA hD hPl)
              | (go_at_call 12; refine h2.mono ?_; rintro e w2x ⟨rfl, hTc, hK2⟩; have hO2 := hO1.blk (hK2.block _ hPl1 hPG); obtain ⟨o1c, _⟩ := hO2 1 _ rfl; have hBc := hB1.trans (hK2.below (fun j hj => (hga j hj).1) hA1); clear h2 hK2 hB1 hga hO1 o11 o12 hA1 hO2 hPl1)
              | fail)
            have hsc := hs'
            have hLc : L'.length ≤ j + 1 := by omega
            clear hs' hl' hLj
            generalize cN F _ _ = F' at *
            generalize cN G _ _ = G' at *
            obtain ⟨dd, db, hd1, hd2⟩ := pair_due hTc hsc (by omega) hk
            obtain ⟨u, n, cap, au, rfl, hnL, hy0, hlen, hnx, hcase⟩ := hTc.look hsc
            have hnm : n ≤ 1000 := by omega
            have HH := hideD (And.intro hsc (And.intro hLc (And.intro hTc hBc)))
            have HY := hideD hy0
            clear hsc hLc hTc hBc hnL
            generalize nxQ Q' = nx at *
            rcases hcase with ⟨rfl, rfl⟩ | ⟨g, hn0, rfl, hg1⟩
            · go_wp2_with (first
                | (go_at_call 18; refine hd1.mono ?_; rintro e wd ⟨rfl, rfl⟩; clear hd1)
                | (go_at_call 19; refine hd2.mono ?_; rintro e wd ⟨rfl, rfl⟩; clear hd2)
                | (go_at_call 20; refine hnx.mono ?_; rintro e wd ⟨rfl, rfl⟩; clear hnx)
                | fail)
              go_quiet (exact hlen _)
              go_wp2
              go_roundw
              case rel => exact ⟨j + 1, Q', L', F', G', hlt, by go_num, HH.out.1, HH.out.2.1, HH.out.2.2.1.on ⟨rfl, rfl, rfl, Nat.le_refl _, fun _ _ => rfl⟩, HH.out.2.2.2.trans ⟨rfl, rfl, rfl, Nat.le_refl _, fun _ _ => rfl⟩⟩
              case measure => simp [RowKit.intOf]; omega
            · have hn1 : (0 : Int) < (n : Int) := by omega
              go_wp2_with (first
                | (go_at_call 18; refine hd1.mono ?_; rintro e wd ⟨rfl, rfl⟩; clear hd1)
                | (go_at_call 19; refine hd2.mono ?_; rintro e wd ⟨rfl, rfl⟩; clear hd2)
                | (go_at_call 20; refine hnx.mono ?_; rintro e wd ⟨rfl, rfl⟩; clear hnx)
                | fail)
              go_quiet (exact hlen _)
              go_wp2
              go_roundw
              case rel => exact ⟨j + 1, Q', L', F', G', hlt, by go_num, HH.out.1, HH.out.2.1, HH.out.2.2.1.on ⟨rfl, rfl, rfl, Nat.le_refl _, fun _ _ => rfl⟩, HH.out.2.2.2.trans ⟨rfl, rfl, rfl, Nat.le_refl _, fun _ _ => rfl⟩⟩
              case measure => simp [RowKit.intOf]; omega
          · by_cases q2 : kd = 2
            · subst q2
              obtain ⟨bb, Q', L', hs', hl', hP, hD⟩ := pair_stop hs hL8 hk (A := w.heap.size) (X := X) (Y := Y)
              have hTd := hTa.on (Below.refl _ _).drew
              have h1 := hP _ F G hTd
              have hfa := hTd.f
              have hA := hTd.a
              have hOd := hO.drew
              have hPd : wr.heap.size < (wr.alloc (.cells #[.int .i64 2, .string ky, .int .i64 tm] 40)).drew.heap.size := hPl
              have hBd := hBa.trans ((Below.refl _ _).drew (B := w.heap.size))
              obtain ⟨x1, _⟩ := hOd 1 _ rfl
              clear hP hs hT hB al hL8 hTa hTd p0 p1 p2 hBa hO hPl
              go_upto_region 15 with fail
              go_region_held (fun w' => w'.cell? ⟨wr.heap.size, 1, none⟩ = some (.string ky)) (first | exact x1 | exact o11 | exact o1c) (first
                | (go_at_call 13; refine h1.mono ?_; rintro e w1 ⟨rfl, hT1, hK1⟩; have h2 := hD _ _ _ hT1; have hO1 := hOd.blk (hK1.block _ hPd hPF); obtain ⟨o11, _⟩ := hO1 1 _ rfl; have hB1 := hBd.trans (hK1.below (fun j hj => (hfa j hj).1) hA); have hPl1 := Nat.lt_of_lt_of_le hPd hK1.size; have hA1 := hT1.a; have hga := hT1.g; clear h1 hT1 hK1 hBd hPF hfa hOd o0 o1 o2 hA hD hPd)
                | (go_at_call 14; refine h2.mono ?_; rintro e w2x ⟨rfl, hTc, hK2⟩; have hO2 := hO1.blk (hK2.block _ hPl1 hPG); obtain ⟨o1c, _⟩ := hO2 1 _ rfl; have hBc := hB1.trans (hK2.below (fun j hj => (hga j hj).1) hA1); clear h2 hK2 hB1 hga hO1 o11 hA1 hO2 hPl1)
                | fail)
              all_goals (
                have hsc := hs'
                have hLc : L'.length ≤ j + 1 := by omega
                clear hs' hl' hLj x1
                generalize cN F _ _ = F' at *
                generalize cN G _ _ = G' at *
                go_upto_region 20 with fail
                obtain ⟨dd, db, hd1, hd2⟩ := pair_due hTc hsc (by omega) hk
                obtain ⟨u, n, cap, au, rfl, hnL, hy0, hlen, hnx, hcase⟩ := hTc.look hsc
                have hnm : n ≤ 1000 := by omega
                have HH := hideD (And.intro hsc (And.intro hLc (And.intro hTc hBc)))
                have HY := hideD hy0
                clear hsc hLc hTc hBc hnL
                generalize nxQ Q' = nx at *
                rcases hcase with ⟨rfl, rfl⟩ | ⟨g, hn0, rfl, hg1⟩
                · go_wp2_with (first
                    | (go_at_call 18; refine hd1.mono ?_; rintro e wd ⟨rfl, rfl⟩; clear hd1)
                    | (go_at_call 19; refine hd2.mono ?_; rintro e wd ⟨rfl, rfl⟩; clear hd2)
                    | (go_at_call 20; refine hnx.mono ?_; rintro e wd ⟨rfl, rfl⟩; clear hnx)
                    | fail)
                  go_quiet (exact hlen _)
                  go_wp2
                  go_roundw
                  case rel => exact ⟨j + 1, Q', L', F', G', hlt, by go_num, HH.out.1, HH.out.2.1, HH.out.2.2.1.on ⟨rfl, rfl, rfl, Nat.le_refl _, fun _ _ => rfl⟩, HH.out.2.2.2.trans ⟨rfl, rfl, rfl, Nat.le_refl _, fun _ _ => rfl⟩⟩
                  case measure => simp [RowKit.intOf]; omega
                · have hn1 : (0 : Int) < (n : Int) := by omega
                  go_wp2_with (first
                    | (go_at_call 18; refine hd1.mono ?_; rintro e wd ⟨rfl, rfl⟩; clear hd1)
                    | (go_at_call 19; refine hd2.mono ?_; rintro e wd ⟨rfl, rfl⟩; clear hd2)
                    | (go_at_call 20; refine hnx.mono ?_; rintro e wd ⟨rfl, rfl⟩; clear hnx)
                    | fail)
                  go_quiet (exact hlen _)
                  go_wp2
                  go_roundw
                  case rel => exact ⟨j + 1, Q', L', F', G', hlt, by go_num, HH.out.1, HH.out.2.1, HH.out.2.2.1.on ⟨rfl, rfl, rfl, Nat.le_refl _, fun _ _ => rfl⟩, HH.out.2.2.2.trans ⟨rfl, rfl, rfl, Nat.le_refl _, fun _ _ => rfl⟩⟩
                  case measure => simp [RowKit.intOf]; omega
                )
            · by_cases q3 : kd = 3
              · subst q3
                obtain ⟨K, Q', L', hs', hl', hP, hD⟩ := pair_take hs hL8 tm (A := w.heap.size) (X := X) (Y := Y)
                have hTd := hTa.on (Below.refl _ _).drew
                have h1 := hP _ F G hTd
                have hfa := hTd.f
                have hgd := hTd.g
                have hA := hTd.a
                have hOd := hO.drew
                have hPd : wr.heap.size < (wr.alloc (.cells #[.int .i64 3, .string ky, .int .i64 tm] 40)).drew.heap.size := hPl
                have hBd := hBa.trans ((Below.refl _ _).drew (B := w.heap.size))
                obtain ⟨x1, _⟩ := hOd 2 _ rfl
                clear hP hs hT hB al hL8 hTa hTd p0 p1 p2 hBa hO hPl
                go_upto_region 18 with fail
                generalize hwa : (wr.alloc (.cells #[.int .i64 3, .string ky, .int .i64 tm] 40)) = wa at *
                clear hwa
                go_region_held (fun w' => w'.cell? ⟨wr.heap.size, 2, none⟩ = some (.int .i64 tm)) (first | exact x1 | exact o11 | exact o12 | exact o13) (first
                  | (go_at_call 16; refine h1.mono ?_; rintro e w1 ⟨kv, rfl, hr1, hT1, hK1⟩; have h2 := hD _ _ _ hT1; have hO1 := hOd.blk (hK1.block _ hPd hPF); obtain ⟨o11, _⟩ := hO1 2 _ rfl; have hB1 := hBd.trans (hK1.below (fun j hj => (hfa j hj).1) hA); have hPl1 := Nat.lt_of_lt_of_le hPd hK1.size; have hA1 := hT1.a; have hga := hT1.g; clear h1 hT1 hK1 hBd hPF hfa hOd o0 o1 o2 hA hD hPd)
                  | (go_at_call 17; refine h2.mono ?_; rintro e w2x ⟨kv2, rfl, hr2, hTc, hK2⟩; have hO2 := hO1.blk (hK2.block _ hPl1 hPG); obtain ⟨o12, _⟩ := hO2 2 _ rfl; have hBc := hB1.trans (hK2.below (fun j hj => (hga j hj).1) hA1); have hr3 := ownsRow_keep hr1 (fun q hq => hK2.block q (ownsRow_lt hr1 q hq).2 (fun e => by have h1 := (hgd q e).2; have h2 := (ownsRow_lt hr1 q hq).1; omega)); have hsm := tSame_any hr3 hr2; clear h2 hK2 hB1 hga hO1 o11 hA1 hPl1 hr1 hr2 hr3 hgd)
                  | (go_at_call 15; refine hsm.mono ?_; rintro e w3x ⟨rfl, kk, rfl⟩; have hO3 : Bn (w2x.drewN kk) wr.heap.size _ := hO2; obtain ⟨o13, _⟩ := hO3 2 _ rfl; obtain ⟨o1c, _⟩ := hO3 1 _ rfl; have hTc := hTc.on (w' := w2x.drewN kk) ⟨rfl, rfl, rfl, Nat.le_refl _, fun _ _ => rfl⟩; have hBc := hBc.trans (c := w2x.drewN kk) ⟨rfl, rfl, rfl, Nat.le_refl _, fun _ _ => rfl⟩; clear hsm hO2 hO3 o12)
                  | fail)
                all_goals (
                  have hsc := hs'
                  have hLc : L'.length ≤ j + 1 := by omega
                  clear hs' hl' hLj x1 o13
                  generalize cN F _ _ = F' at *
                  generalize cN G _ _ = G' at *
                  go_upto_region 20 with fail
                  generalize World.drewN _ _ = wz at *
                  obtain ⟨dd, db, hd1, hd2⟩ := pair_due hTc hsc (by omega) hk
                  obtain ⟨u, n, cap, au, rfl, hnL, hy0, hlen, hnx, hcase⟩ := hTc.look hsc
                  have hnm : n ≤ 1000 := by omega
                  have HH := hideD (And.intro hsc (And.intro hLc (And.intro hTc hBc)))
                  have HY := hideD hy0
                  clear hsc hLc hTc hBc hnL
                  generalize nxQ Q' = nx at *
                  rcases hcase with ⟨rfl, rfl⟩ | ⟨g, hn0, rfl, hg1⟩
                  · go_wp2_with (first
                      | (go_at_call 18; refine hd1.mono ?_; rintro e wd ⟨rfl, rfl⟩; clear hd1)
                      | (go_at_call 19; refine hd2.mono ?_; rintro e wd ⟨rfl, rfl⟩; clear hd2)
                      | (go_at_call 20; refine hnx.mono ?_; rintro e wd ⟨rfl, rfl⟩; clear hnx)
                      | fail)
                    go_quiet (exact hlen _)
                    go_wp2
                    go_roundw
                    case rel => exact ⟨j + 1, Q', L', F', G', hlt, by go_num, HH.out.1, HH.out.2.1, HH.out.2.2.1.on ⟨rfl, rfl, rfl, Nat.le_refl _, fun _ _ => rfl⟩, HH.out.2.2.2.trans ⟨rfl, rfl, rfl, Nat.le_refl _, fun _ _ => rfl⟩⟩
                    case measure => simp [RowKit.intOf]; omega
                  · have hn1 : (0 : Int) < (n : Int) := by omega
                    go_wp2_with (first
                      | (go_at_call 18; refine hd1.mono ?_; rintro e wd ⟨rfl, rfl⟩; clear hd1)
                      | (go_at_call 19; refine hd2.mono ?_; rintro e wd ⟨rfl, rfl⟩; clear hd2)
                      | (go_at_call 20; refine hnx.mono ?_; rintro e wd ⟨rfl, rfl⟩; clear hnx)
                      | fail)
                    go_quiet (exact hlen _)
                    go_wp2
                    go_roundw
                    case rel => exact ⟨j + 1, Q', L', F', G', hlt, by go_num, HH.out.1, HH.out.2.1, HH.out.2.2.1.on ⟨rfl, rfl, rfl, Nat.le_refl _, fun _ _ => rfl⟩, HH.out.2.2.2.trans ⟨rfl, rfl, rfl, Nat.le_refl _, fun _ _ => rfl⟩⟩
                    case measure => simp [RowKit.intOf]; omega
                  )
              · clear hPF hPG p0 p1 p2
                obtain ⟨Q', hQ'⟩ : ∃ Q', Q' = Q := ⟨_, rfl⟩
                obtain ⟨L', hL'⟩ : ∃ L', L' = L := ⟨_, rfl⟩
                obtain ⟨F', hF'⟩ : ∃ F', F' = F := ⟨_, rfl⟩
                obtain ⟨G', hG'⟩ : ∃ G', G' = G := ⟨_, rfl⟩
                subst hQ' hL' hF' hG'
                have HZ := hideD (And.intro hs (And.intro (show L'.length ≤ j + 1 by omega) (And.intro hTa hBa)))
                clear hs hTa hBa hT hB al hO hPl hL8 hLj
                go_upto_region 20 with fail
                obtain ⟨hsc, hLc, hTc, hBc⟩ := HZ.out
                clear HZ o0 o2
                generalize wr.alloc (.cells #[.int .i64 kd, .string ky, .int .i64 tm] 40) = wc at *
                obtain ⟨dd, db, hd1, hd2⟩ := pair_due hTc hsc (by omega) hk
                obtain ⟨u, n, cap, au, rfl, hnL, hy0, hlen, hnx, hcase⟩ := hTc.look hsc
                have hnm : n ≤ 1000 := by omega
                have HH := hideD (And.intro hsc (And.intro hLc (And.intro hTc hBc)))
                have HY := hideD hy0
                clear hsc hLc hTc hBc hnL
                generalize nxQ Q' = nx at *
                rcases hcase with ⟨rfl, rfl⟩ | ⟨g, hn0, rfl, hg1⟩
                · go_wp2_with (first
                    | (go_at_call 18; refine hd1.mono ?_; rintro e wd ⟨rfl, rfl⟩; clear hd1)
                    | (go_at_call 19; refine hd2.mono ?_; rintro e wd ⟨rfl, rfl⟩; clear hd2)
                    | (go_at_call 20; refine hnx.mono ?_; rintro e wd ⟨rfl, rfl⟩; clear hnx)
                    | fail)
                  go_quiet (exact hlen _)
                  go_wp2
                  go_roundw
                  case rel => exact ⟨j + 1, Q', L', F', G', hlt, by go_num, HH.out.1, HH.out.2.1, HH.out.2.2.1.on ⟨rfl, rfl, rfl, Nat.le_refl _, fun _ _ => rfl⟩, HH.out.2.2.2.trans ⟨rfl, rfl, rfl, Nat.le_refl _, fun _ _ => rfl⟩⟩
                  case measure => simp [RowKit.intOf]; omega
                · have hn1 : (0 : Int) < (n : Int) := by omega
                  go_wp2_with (first
                    | (go_at_call 18; refine hd1.mono ?_; rintro e wd ⟨rfl, rfl⟩; clear hd1)
                    | (go_at_call 19; refine hd2.mono ?_; rintro e wd ⟨rfl, rfl⟩; clear hd2)
                    | (go_at_call 20; refine hnx.mono ?_; rintro e wd ⟨rfl, rfl⟩; clear hnx)
                    | fail)
                  go_quiet (exact hlen _)
                  go_wp2
                  go_roundw
                  case rel => exact ⟨j + 1, Q', L', F', G', hlt, by go_num, HH.out.1, HH.out.2.1, HH.out.2.2.1.on ⟨rfl, rfl, rfl, Nat.le_refl _, fun _ _ => rfl⟩, HH.out.2.2.2.trans ⟨rfl, rfl, rfl, Nat.le_refl _, fun _ _ => rfl⟩⟩
                  case measure => simp [RowKit.intOf]; omega
        · have k1 : ¬ (j : Int) < (l.length : Int) := by omega
          go_wp2
          go_ret
          exact ⟨rfl, hB⟩
end Go.Proofs.Ytdificdnicdnnaa

/- An argument that is a slice of bytes, opened: the bytes that it reads as, each from 0 to 255, and their number within the form's reach. -/
namespace Go.Proofs.Ytdificdnicdnnaa
open Go.ChangeShapes Go.WideShapes Go.ChangeAt Go.RowKit

end Go.Proofs.Ytdificdnicdnnaa
