/- Items as triples; what takeItem does. -/
import Derived.Test.YtdbfblkdjijmmaaTakeT
namespace Go.Proofs.Ytdbfblkdjijmmaa
open Go.RowKit
set_option linter.unusedSimpArgs false
set_option linter.unusedVariables false

/-- An item: is it a text, its number, its text. -/
abbrev It := Bool × Int × ByteArray
def zIt : It := (false, 0, ⟨#[]⟩)
abbrev agg (x : It) : Value := .agg #[.bool x.1, .int .i64 x.2.1, .string x.2.2]
/-- What takeItem answers: the item, how many bytes it has, if there is one. -/
def takeI : List Int → It × Int × Bool
  | [] => (zIt, 0, false)
  | c :: r =>
    if c = 1 then (if (takeN r).2.2 = 0 then ((false, (takeN r).1, ⟨#[]⟩), 1 + (takeN r).2.1, true) else (zIt, 0, false))
    else if c = 2 then (if (takeT r).2.2 = 0 then ((true, 0, strOfNums (takeT r).1), 1 + (takeT r).2.1, true) else (zIt, 0, false))
    else (zIt, 0, false)
abbrev tupI (x : It × Int × Bool) : Value := .tuple #[agg x.1, .int .i64 x.2.1, .bool x.2.2]

theorem takeI_nil : takeI [] = (zIt, 0, false) := rfl
theorem takeI_num {r : List Int} {n k : Int} (h : (n, k, (0 : Int)) = takeN r) : takeI (1 :: r) = ((false, n, ⟨#[]⟩), 1 + k, true) := by simp [takeI, ← h]
theorem takeI_numNot {r : List Int} {n k e : Int} (h : (n, k, e) = takeN r) (he : ¬ e = 0) : takeI (1 :: r) = (zIt, 0, false) := by simp [takeI, ← h, he]
theorem takeI_txt {r : List Int} {t : List Int} {k : Int} (h : (t, k, (0 : Int)) = takeT r) : takeI (2 :: r) = ((true, 0, strOfNums t), 1 + k, true) := by simp [takeI, ← h]
theorem takeI_txtNot {r : List Int} {t : List Int} {k e : Int} (h : (t, k, e) = takeT r) (he : ¬ e = 0) : takeI (2 :: r) = (zIt, 0, false) := by simp [takeI, ← h, he]
theorem takeI_not {c : Int} {r : List Int} (h1 : ¬ c = 1) (h2 : ¬ c = 2) : takeI (c :: r) = (zIt, 0, false) := by simp [takeI, h1, h2]

theorem takeT_facts (bs : List Int) : 0 ≤ (takeT bs).2.1 ∧ (takeT bs).2.1 ≤ (bs.length : Int) := by
  obtain ⟨h0, h9, hl⟩ := takeN_facts bs
  unfold takeT
  by_cases h1 : (takeN bs).2.2 = 0
  · rw [if_neg (by simpa using h1)]
    by_cases h2 : (takeN bs).1 < 0
    · rw [if_pos h2]; simp
    · rw [if_neg h2]
      by_cases h3 : (bs.length : Int) - (takeN bs).2.1 < (takeN bs).1
      · rw [if_pos h3]; simp
      · rw [if_neg h3]; dsimp only; omega
  · rw [if_pos h1]; simp

set_option maxHeartbeats 1000000 in
theorem takeItem_any (v : Value) (bs : List Int) (w : World) (h : Rd w v bs) (hb : ∀ x ∈ bs, 0 ≤ x ∧ x ≤ 255) :
    Calls Try.prog 30 #[v] w fun e w' => e = .returned (tupI (takeI bs)) ∧ Below w.heap.size w w' := by
  cases bs with
  | nil =>
    obtain ⟨a, cap, rfl, hc, hm, hnone, hcell⟩ := h
    simp only [List.length_nil, takeI_nil]
    go_enter Try.func30, Try.ntmps30
    go_wp2
    exact bodyPost_ret (v := tupI (zIt, 0, false)) (by simp [results, Try.results30, go_sem, zIt]) rfl ⟨rfl, (Below.refl _ _).alloc (Nat.le_refl _) _⟩
  | cons c r =>
    obtain ⟨b, off, cap, rfl, hc, hm, hcell⟩ := h.lies (by simp)
    have hc0 : w.cell? ⟨b, off, none⟩ = some (.int .u8 c) := by simpa using hcell 0 (by simp)
    have hlt : b < w.heap.size := World.block_lt_of_cell? w _ hc0
    have hcb := hb c (by simp)
    have hbr : ∀ x ∈ r, 0 ≤ x ∧ x ≤ 255 := fun x hx => hb x (List.mem_cons_of_mem _ hx)
    have hrd : Rd w (.slice (if cap = 1 then some ⟨b, off, none⟩ else some ⟨b, off + 1, none⟩) r.length (cap - 1)) r := by
      have := Rd.behind hcell hc hm (Nat.le_refl r.length)
      rwa [List.take_of_length_le (Nat.le_refl _)] at this
    obtain ⟨a1, ha1⟩ : ∃ a1 : Option Addr, (if cap = 1 then some (⟨b, off, none⟩ : Addr) else some ⟨b, off + 1, none⟩) = a1 := ⟨_, rfl⟩
    rw [ha1] at hrd
    have hz : ((r.length : Int) + 1 == 0) = false := by simp; omega
    have h1 : ∀ o1 o2, _ := fun o1 o2 => takeNumber_any _ r _ (hrd.below (((Below.refl w.heap.size w).alloc (Nat.le_refl _) o1).alloc (by simp) o2) (Nat.le_refl _)) hbr
    have h2 : ∀ o1 o2, _ := fun o1 o2 => takeText_any _ r _ (hrd.below (((Below.refl w.heap.size w).alloc (Nat.le_refl _) o1).alloc (by simp) o2) (Nat.le_refl _)) hbr
    have f1 := takeN_facts r
    have f2 := takeT_facts r
    obtain ⟨⟨n, k, er⟩, hx⟩ : ∃ x, x = takeN r := ⟨_, rfl⟩
    obtain ⟨⟨t, k2, er2⟩, hx2⟩ : ∃ x, x = takeT r := ⟨_, rfl⟩
    rw [← hx] at h1 f1
    rw [← hx2] at h2 f2
    have HX : Hid ((n, k, er) = takeN r) := hx
    have HX2 : Hid ((t, k2, er2) = takeT r) := hx2
    simp only [List.length_cons] at hc ⊢
    unfold maxLen at hm
    clear hcell hb h hx hx2 hrd hbr
    dsimp only at f1 f2
    by_cases c1 : c = 1
    · subst c1
      clear h2 f2 HX2
      by_cases he : er = 0
      · subst he
        rw [takeI_num HX.out]
        clear HX
        go_enter Try.func30, Try.ntmps30
        go_wp2_with (first
          | (go_at_call 13; refine (h1 _ _).mono ?_; rintro e w' ⟨rfl, rfl⟩))
        exact bodyPost_ret (v := tupI ((false, n, ⟨#[]⟩), 1 + k, true)) (by simp [results, Try.results30, go_sem, zIt]) rfl ⟨rfl, ((Below.refl _ _).alloc (Nat.le_refl _) _).alloc (by simp) _⟩
      · rw [takeI_numNot HX.out he]
        clear HX
        go_enter Try.func30, Try.ntmps30
        go_wp2_with (first
          | (go_at_call 13; refine (h1 _ _).mono ?_; rintro e w' ⟨rfl, rfl⟩))
        exact bodyPost_ret (v := tupI (zIt, 0, false)) (by simp [results, Try.results30, go_sem, zIt]) rfl ⟨rfl, ((Below.refl _ _).alloc (Nat.le_refl _) _).alloc (by simp) _⟩
    · have c1' : (c == 1) = false := by simpa using c1
      clear h1 f1 HX
      by_cases c2 : c = 2
      · subst c2
        by_cases he : er2 = 0
        · subst he
          rw [takeI_txt HX2.out]
          clear HX2
          go_enter Try.func30, Try.ntmps30
          go_wp2_with (first
            | (go_at_call 15; refine (h2 _ _).mono ?_; rintro e w' ⟨rfl, rfl⟩))
          exact bodyPost_ret (v := tupI ((true, 0, strOfNums t), 1 + k2, true)) (by simp [results, Try.results30, go_sem, zIt]) rfl ⟨rfl, ((Below.refl _ _).alloc (Nat.le_refl _) _).alloc (by simp) _⟩
        · rw [takeI_txtNot HX2.out he]
          clear HX2
          go_enter Try.func30, Try.ntmps30
          go_wp2_with (first
            | (go_at_call 15; refine (h2 _ _).mono ?_; rintro e w' ⟨rfl, rfl⟩))
          exact bodyPost_ret (v := tupI (zIt, 0, false)) (by simp [results, Try.results30, go_sem, zIt]) rfl ⟨rfl, ((Below.refl _ _).alloc (Nat.le_refl _) _).alloc (by simp) _⟩
      · rw [takeI_not c1 c2]
        have c2' : (c == 2) = false := by simpa using c2
        clear h2 f2 HX2
        go_enter Try.func30, Try.ntmps30
        go_wp2
        exact bodyPost_ret (v := tupI (zIt, 0, false)) (by simp [results, Try.results30, go_sem, zIt]) rfl ⟨rfl, ((Below.refl _ _).alloc (Nat.le_refl _) _).alloc (by simp) _⟩

end Go.Proofs.Ytdbfblkdjijmmaa
