
/- Nodes: which one lies in which, by how deep they lie, and by their parents. Math alone. -/
import Derived.WalkKit
namespace Go.Proofs.Ytdekboacjjpjeaa
set_option linter.unusedVariables false

/-- The last one ahead of k that lies less than d deep. -/
def ppar (D : Nat → Int) (d : Int) : Nat → Int
  | 0 => -1
  | k + 1 => if D k < d then (k : Int) else ppar D d k
theorem ppar_lt (D : Nat → Int) (d : Int) : ∀ k : Nat, -1 ≤ ppar D d k ∧ ppar D d k < k
  | 0 => by unfold ppar; omega
  | k + 1 => by
    have := ppar_lt D d k
    unfold ppar
    split <;> omega
theorem ppar_mid (D : Nat → Int) (d : Int) : ∀ (k m : Nat), ppar D d k < m → m < k → d ≤ D m
  | 0, m, h, hm => by omega
  | k + 1, m, h, hm => by
    unfold ppar at h
    split at h
    · omega
    · rcases Nat.lt_or_ge m k with h2 | h2
      · exact ppar_mid D d k m h h2
      · have : m = k := by omega
        subst this; omega
theorem ppar_in (D : Nat → Int) (d : Int) : ∀ (k p : Nat), ppar D d k = p → D p < d
  | 0, p, h => by unfold ppar at h; omega
  | k + 1, p, h => by
    unfold ppar at h
    split at h
    · have : k = p := by omega
      subst this; assumption
    · exact ppar_in D d k p h
theorem ppar_uniq (D : Nat → Int) (d : Int) : ∀ (k : Nat) (p : Int), -1 ≤ p → p < k → (∀ m : Nat, p < m → m < k → d ≤ D m) → (∀ q : Nat, p = q → D q < d) → ppar D d k = p
  | 0, p, h1, h2, _, _ => by unfold ppar; omega
  | k + 1, p, h1, h2, h3, h4 => by
    unfold ppar
    by_cases hk : p = k
    · rw [if_pos (h4 k hk)]; exact hk.symm
    · rw [if_neg (by have := h3 k (by omega) (by omega); omega)]
      exact ppar_uniq D d k p h1 (by omega) (fun m a b => h3 m a (by omega)) h4
/-- The first one from j on, of f, that lies no more than d deep. -/
def pbeh (D : Nat → Int) (d : Int) : Nat → Nat → Nat
  | 0, j => j
  | f + 1, j => if d < D j then pbeh D d f (j + 1) else j
theorem pbeh_le (D : Nat → Int) (d : Int) : ∀ f j : Nat, j ≤ pbeh D d f j ∧ pbeh D d f j ≤ j + f
  | 0, j => by unfold pbeh; omega
  | f + 1, j => by
    have := pbeh_le D d f (j + 1)
    unfold pbeh
    split <;> omega
theorem pbeh_mid (D : Nat → Int) (d : Int) : ∀ f j m : Nat, j ≤ m → m < pbeh D d f j → d < D m
  | 0, j, m, h1, h2 => by unfold pbeh at h2; omega
  | f + 1, j, m, h1, h2 => by
    unfold pbeh at h2
    split at h2
    · rcases Nat.lt_or_ge j m with h | h
      · exact pbeh_mid D d f (j + 1) m h h2
      · have : m = j := by omega
        subst this; assumption
    · omega
theorem pbeh_end (D : Nat → Int) (d : Int) : ∀ f j : Nat, pbeh D d f j < j + f → D (pbeh D d f j) ≤ d
  | 0, j, h => by unfold pbeh at h; omega
  | f + 1, j, h => by
    unfold pbeh at h ⊢
    split at h
    · rename_i hd
      rw [if_pos hd]
      exact pbeh_end D d f (j + 1) (by omega)
    · rename_i hd
      rw [if_neg hd]; omega
/-- Each lies at most 1 deeper than the one ahead. -/
def nst (D : Nat → Int) (n : Nat) : Prop := ∀ i < n, 0 ≤ D i ∧ (i = 0 → D i ≤ 0) ∧ (0 < i → D i ≤ D (i - 1) + 1)
/-- What is told of the nodes follows of how deep they lie. -/
def FmP (n : Nat) (D P B : Nat → Int) (L : Nat → Bool) : Prop :=
  n ≤ 40 ∧ nst D n ∧ ∀ i < n, P i = ppar D (D i) i ∧ B i = (pbeh D (D i) (n - (i + 1)) (i + 1) : Nat) ∧ L i = decide (B i = (i : Int) + 1)
/-- Up from k by parents: is p met? -/
def okR (P : Nat → Int) (p : Int) : Nat → Int → Bool
  | 0, _ => false
  | f + 1, k => if k < 0 then false else if p = k then true else okR P p f (P k.toNat)
/-- How many there are, up from k. -/
def dpR (P : Nat → Int) : Nat → Int → Nat
  | 0, _ => 0
  | f + 1, k => if k < 0 then 0 else 1 + dpR P f (P k.toNat)
/-- Does i lie in j, by parents? -/
def lsR (P : Nat → Int) (j : Int) : Nat → Nat → Bool
  | 0, _ => false
  | f + 1, i => if 0 ≤ P i ∧ P i < i then (if P i = j then true else lsR P j f (P i).toNat) else false
/-- The first one from b on that does not lie in i. -/
def bhR (P : Nat → Int) (i : Int) : Nat → Nat → Nat
  | 0, b => b
  | f + 1, b => if lsR P i (b + 1) b then bhR P i f (b + 1) else b
def FmR (n : Nat) (D P B : Nat → Int) (L : Nat → Bool) : Prop :=
  n ≤ 40 ∧ ∀ i < n, (P i = -1 ∨ okR P (P i) i ((i : Int) - 1) = true) ∧ D i = (dpR P i (P i) : Nat) ∧ B i = (bhR P i (n - (i + 1)) (i + 1) : Nat) ∧ L i = decide (B i = (i : Int) + 1)
theorem lsR_more (P : Nat → Int) (j : Int) : ∀ (f i : Nat), i < f → lsR P j f i = lsR P j (i + 1) i
  | 0, i, h => by omega
  | f + 1, i, h => by
    unfold lsR
    by_cases hp : 0 ≤ P i ∧ P i < i
    · rw [if_pos hp, if_pos hp]
      by_cases hj : P i = j
      · rw [if_pos hj, if_pos hj]
      · rw [if_neg hj, if_neg hj, lsR_more P j f (P i).toNat (by omega)]
        exact (lsR_more P j i (P i).toNat (by omega)).symm
    · rw [if_neg hp, if_neg hp]
/-- Parents are as the depths have it, below n. -/
def Prn (n : Nat) (D P : Nat → Int) : Prop := ∀ i < n, P i = ppar D (D i) i
/-- p is c, or c lies in it, by depths. -/
def Anc (D : Nat → Int) (p c : Int) : Prop := 0 ≤ p ∧ p ≤ c ∧ ∀ m : Nat, p < m → m ≤ c → D p.toNat < D m
theorem anc_up {n : Nat} {D P : Nat → Int} (hP : Prn n D P) {c : Nat} (hc : c < n) {p : Int} (hp : p < c) : Anc D p c ↔ Anc D p (P c) := by
  have e := hP c hc
  have hl := ppar_lt D (D c) c
  rw [← e] at hl
  constructor
  · rintro ⟨h1, h2, h3⟩
    have hle : p ≤ P c := by
      rcases Int.lt_or_le (P c) p with h | h
      · have := ppar_mid D (D c) c p.toNat (by rw [← e]; omega) (by omega)
        have := h3 c (by omega) (by omega)
        omega
      · exact h
    exact ⟨h1, hle, fun m a b => h3 m a (by omega)⟩
  · rintro ⟨h1, h2, h3⟩
    refine ⟨h1, by omega, fun m a b => ?_⟩
    have hin := ppar_in D (D c) c (P c).toNat (by rw [← e]; omega)
    have hpc : D p.toNat ≤ D (P c).toNat := by
      rcases Int.lt_or_le p (P c) with h | h
      · have := h3 (P c).toNat (by omega) (by omega)
        omega
      · have : p = P c := by omega
        rw [this]; exact Int.le_refl _
    rcases Int.lt_or_le (P c) m with h | h
    · rcases Nat.lt_or_ge m c with h5 | h5
      · have := ppar_mid D (D c) c m (by rw [← e]; exact h) h5
        omega
      · have : m = c := by omega
        subst this; omega
    · have := h3 m a h
      exact this
theorem okR_anc {n : Nat} {D P : Nat → Int} (hP : Prn n D P) (p : Int) : ∀ (f : Nat) (c : Int), c < f → c < n → (okR P p f c = true ↔ Anc D p c)
  | 0, c, h, hn => by
    refine ⟨fun h => by simp [okR] at h, fun h => ?_⟩
    have := h.1; have := h.2.1; omega
  | f + 1, c, h, hn => by
    unfold okR
    by_cases h0 : c < 0
    · rw [if_pos h0]
      refine ⟨fun h => by simp at h, fun h => ?_⟩
      have := h.1; have := h.2.1; omega
    rw [if_neg h0]
    by_cases hpc : p = c
    · rw [if_pos hpc]
      exact ⟨fun _ => ⟨by omega, by omega, fun m a b => by omega⟩, fun _ => rfl⟩
    rw [if_neg hpc]
    have hl := ppar_lt D (D c.toNat) c.toNat
    rw [← hP c.toNat (by omega)] at hl
    rw [okR_anc hP p f (P c.toNat) (by omega) (by omega)]
    by_cases hlt : p < c
    · have := anc_up hP (c := c.toNat) (by omega) (p := p) (by omega)
      rw [Int.toNat_of_nonneg (by omega)] at this
      exact this.symm
    · refine ⟨fun h => ?_, fun h => ?_⟩
      · have := h.2.1; omega
      · have := h.2.1; omega
theorem lsR_anc {n : Nat} {D P : Nat → Int} (hP : Prn n D P) (j : Int) : ∀ (f i : Nat), i < f → i < n → (lsR P j f i = true ↔ (j < i ∧ Anc D j i))
  | 0, i, h, hn => by omega
  | f + 1, i, h, hn => by
    unfold lsR
    have hl := ppar_lt D (D i) i
    rw [← hP i hn] at hl
    by_cases hp : 0 ≤ P i ∧ P i < i
    · rw [if_pos hp]
      by_cases hj : P i = j
      · rw [if_pos hj]
        refine ⟨fun _ => ⟨by omega, (anc_up hP hn (by omega)).2 ?_⟩, fun _ => rfl⟩
        exact ⟨by omega, by omega, fun m a b => by omega⟩
      · rw [if_neg hj, lsR_anc hP j f (P i).toNat (by omega) (by omega)]
        rw [Int.toNat_of_nonneg hp.1]
        constructor
        · rintro ⟨a, b⟩
          exact ⟨by omega, (anc_up hP hn (by omega)).2 b⟩
        · rintro ⟨a, b⟩
          have b2 := (anc_up hP hn a).1 b
          have := b2.2.1
          exact ⟨by omega, b2⟩
    · rw [if_neg hp]
      refine ⟨fun h => by simp at h, fun h => ?_⟩
      have b2 := (anc_up hP hn h.1).1 h.2
      have := b2.1; have := b2.2.1; omega
theorem par_deep {n : Nat} {D P : Nat → Int} (hP : Prn n D P) (hn : nst D n) {i : Nat} (hi : i < n) : (P i = -1 → D i = 0) ∧ (0 ≤ P i → D i = D (P i).toNat + 1) := by
  have e := hP i hi
  have hl := ppar_lt D (D i) i
  rw [← e] at hl
  have h0 := hn 0 (by omega)
  have hi0 := hn i hi
  constructor
  · intro h
    rcases Nat.lt_or_ge 0 i with h2 | h2
    · have := ppar_mid D (D i) i 0 (by rw [← e]; omega) h2
      have := h0.2.1 rfl
      omega
    · have : i = 0 := by omega
      subst this
      have := h0.2.1 rfl
      omega
  · intro h
    have hin := ppar_in D (D i) i (P i).toNat (by rw [← e]; omega)
    have hs := hn ((P i).toNat + 1) (by omega)
    have hs2 := hs.2.2 (by omega)
    rw [Nat.add_sub_cancel] at hs2
    rcases Nat.lt_or_ge ((P i).toNat + 1) i with h2 | h2
    · have := ppar_mid D (D i) i ((P i).toNat + 1) (by rw [← e]; omega) h2
      omega
    · have : (P i).toNat + 1 = i := by omega
      rw [this] at hs2
      omega
theorem dpR_deep {n : Nat} {D P : Nat → Int} (hP : Prn n D P) (hn : nst D n) : ∀ (f : Nat) (c : Int), -1 ≤ c → c < f → c < n → (dpR P f c : Int) = if 0 ≤ c then D c.toNat + 1 else 0
  | 0, c, h0, h, hc => by unfold dpR; rw [if_neg (by omega)]; rfl
  | f + 1, c, h0, h, hc => by
    unfold dpR
    by_cases hz : c < 0
    · rw [if_pos hz, if_neg (by omega)]; rfl
    rw [if_neg hz, if_pos (by omega)]
    have hl := ppar_lt D (D c.toNat) c.toNat
    rw [← hP c.toNat (by omega)] at hl
    have IH := dpR_deep hP hn f (P c.toNat) (by omega) (by omega) (by omega)
    have hd := par_deep hP hn (i := c.toNat) (by omega)
    push_cast
    rw [IH]
    split
    · have := hd.2 (by assumption); omega
    · have := hd.1 (by omega); omega
theorem beh_same {n : Nat} {D P : Nat → Int} (hP : Prn n D P) {i : Nat} : ∀ (f b : Nat), i < b → b + f ≤ n → (∀ m : Nat, i < m → m < b → D i < D m) → pbeh D (D i) f b = bhR P i f b
  | 0, b, _, _, _ => by unfold pbeh bhR; rfl
  | f + 1, b, hb, hf, hm => by
    unfold pbeh bhR
    have hls := lsR_anc hP i (b + 1) b (by omega) (by omega)
    by_cases hd : D i < D b
    · have ht : lsR P i (b + 1) b = true := hls.2 ⟨by omega, by omega, by omega, fun m a c => by
        rw [Int.toNat_natCast]
        rcases Nat.lt_or_ge m b with h | h
        · exact hm m (by omega) h
        · have : m = b := by omega
          subst this; exact hd⟩
      rw [if_pos hd, if_pos ht]
      exact beh_same hP f (b + 1) (by omega) (by omega) (fun m a c => by
        rcases Nat.lt_or_ge m b with h | h
        · exact hm m a h
        · have : m = b := by omega
          subst this; exact hd)
    · have ht : ¬ lsR P i (b + 1) b = true := fun h => by
        have := (hls.1 h).2.2.2 b (by omega) (by omega)
        rw [Int.toNat_natCast] at this
        exact hd this
      rw [if_neg hd, if_neg ht]
theorem fm_same (n : Nat) (D P B : Nat → Int) (L : Nat → Bool) : FmP n D P B L ↔ FmR n D P B L := by
  constructor
  · rintro ⟨h40, hn, h⟩
    have hP : Prn n D P := fun i hi => (h i hi).1
    refine ⟨h40, fun i hi => ?_⟩
    obtain ⟨h1, h2, h3⟩ := h i hi
    have hl := ppar_lt D (D i) i
    rw [← h1] at hl
    have hd := par_deep hP hn hi
    refine ⟨?_, ?_, ?_, h3⟩
    · rcases Int.lt_or_le (P i) 0 with h0 | h0
      · left; omega
      · right
        rw [okR_anc hP (P i) i ((i : Int) - 1) (by omega) (by omega)]
        refine ⟨h0, by omega, fun m a b => ?_⟩
        have := ppar_mid D (D i) i m (by rw [← h1]; exact a) (by omega)
        have := hd.2 h0
        omega
    · rw [dpR_deep hP hn i (P i) (by omega) (by omega) (by omega)]
      split
      · have := hd.2 (by assumption); omega
      · have := hd.1 (by omega); omega
    · rw [h2, beh_same hP (n - (i + 1)) (i + 1) (by omega) (by omega) (fun m a b => by omega)]
  · rintro ⟨h40, h⟩
    have key : ∀ k ≤ n, Prn k D P ∧ nst D k := by
      intro k
      induction k with
      | zero => exact fun _ => ⟨fun i hi => by omega, fun i hi => by omega⟩
      | succ k IH =>
        intro hk
        obtain ⟨hP, hn⟩ := IH (by omega)
        obtain ⟨h1, h2, _, _⟩ := h k (by omega)
        have hA : P k = -1 ∨ Anc D (P k) ((k : Int) - 1) := by
          rcases h1 with h1 | h1
          · exact .inl h1
          · exact .inr ((okR_anc hP (P k) k ((k : Int) - 1) (by omega) (by omega)).1 h1)
        have hlt : -1 ≤ P k ∧ P k < k := by
          rcases hA with h | h
          · omega
          · have := h.1; have := h.2.1; omega
        rw [dpR_deep hP hn k (P k) (by omega) (by omega) (by omega)] at h2
        have hpar : P k = ppar D (D k) k := by
          refine (ppar_uniq D (D k) k (P k) hlt.1 hlt.2 (fun m a b => ?_) (fun q hq => ?_)).symm
          · rcases hA with h | h
            · rw [if_neg (by omega)] at h2
              have := (hn m b).1
              omega
            · rw [if_pos h.1] at h2
              have := h.2.2 m a (by omega)
              omega
          · rw [if_pos (by omega)] at h2
            have : (P k).toNat = q := by omega
            rw [this] at h2
            omega
        have hns : 0 ≤ D k ∧ (k = 0 → D k ≤ 0) ∧ (0 < k → D k ≤ D (k - 1) + 1) := by
          rcases hA with h | h
          · rw [if_neg (by omega)] at h2
            refine ⟨by omega, fun _ => by omega, fun h0 => ?_⟩
            have := (hn (k - 1) (by omega)).1
            omega
          · rw [if_pos h.1] at h2
            have hp0 := h.1
            have hp1 := h.2.1
            have := (hn (P k).toNat (by omega)).1
            refine ⟨by omega, fun h0 => by omega, fun h0 => ?_⟩
            rcases Int.lt_or_le (P k) ((k : Int) - 1) with h5 | h5
            · have := h.2.2 (k - 1) (by omega) (by omega)
              omega
            · have : (P k).toNat = k - 1 := by omega
              rw [this] at h2
              omega
        refine ⟨fun i hi => ?_, fun i hi => ?_⟩
        · rcases Nat.lt_or_ge i k with h5 | h5
          · exact hP i h5
          · have : i = k := by omega
            subst this; exact hpar
        · rcases Nat.lt_or_ge i k with h5 | h5
          · exact hn i h5
          · have : i = k := by omega
            subst this; exact hns
    obtain ⟨hP, hn⟩ := key n (Nat.le_refl _)
    refine ⟨h40, hn, fun i hi => ⟨hP i hi, ?_, (h i hi).2.2.2⟩⟩
    rw [(h i hi).2.2.1, beh_same hP (n - (i + 1)) (i + 1) (by omega) (by omega) (fun m a b => by omega)]
/-- Does i lie in j, as the program asks it? -/
def lsP (B : Nat → Int) (i j : Int) : Bool := decide (j < i) && decide (i < B j.toNat)
theorem FmP.par {n : Nat} {D P B : Nat → Int} {L : Nat → Bool} (h : FmP n D P B L) : Prn n D P := fun i hi => (h.2.2 i hi).1
theorem FmP.plt {n : Nat} {D P B : Nat → Int} {L : Nat → Bool} (h : FmP n D P B L) {i : Nat} (hi : i < n) : -1 ≤ P i ∧ P i < i := by
  rw [(h.2.2 i hi).1]; exact ppar_lt _ _ _
theorem FmP.beh {n : Nat} {D P B : Nat → Int} {L : Nat → Bool} (h : FmP n D P B L) {i : Nat} (hi : i < n) : (i : Int) < B i ∧ B i ≤ n := by
  rw [(h.2.2 i hi).2.1]
  have := pbeh_le D (D i) (n - (i + 1)) (i + 1)
  omega
theorem lsP_anc {n : Nat} {D P B : Nat → Int} {L : Nat → Bool} (h : FmP n D P B L) {i j : Nat} (hi : i < n) (hj : j < n) : lsP B i j = true ↔ ((j : Int) < i ∧ Anc D j i) := by
  have e := (h.2.2 j hj).2.1
  have hle := pbeh_le D (D j) (n - (j + 1)) (j + 1)
  unfold lsP
  rw [Bool.and_eq_true, decide_eq_true_eq, decide_eq_true_eq, Int.toNat_natCast, e]
  constructor
  · rintro ⟨h1, h2⟩
    refine ⟨h1, by omega, by omega, fun m a b => ?_⟩
    rw [Int.toNat_natCast]
    exact pbeh_mid D (D j) (n - (j + 1)) (j + 1) m (by omega) (by omega)
  · rintro ⟨h1, _, _, h3⟩
    refine ⟨h1, ?_⟩
    rcases Nat.lt_or_ge i (pbeh D (D j) (n - (j + 1)) (j + 1)) with h5 | h5
    · omega
    · have := pbeh_end D (D j) (n - (j + 1)) (j + 1) (by omega)
      have := h3 (pbeh D (D j) (n - (j + 1)) (j + 1)) (by omega) (by omega)
      rw [Int.toNat_natCast] at this
      omega
theorem ls_same {n : Nat} {D P B : Nat → Int} {L : Nat → Bool} (h : FmP n D P B L) {i j : Nat} (hi : i < n) (hj : j < n) : lsP B i j = lsR P j (i + 1) i := by
  have h1 := lsP_anc h hi hj
  have h2 := lsR_anc h.par j (i + 1) i (by omega) hi
  rw [Bool.eq_iff_iff, h1, h2]
/-- Up from k: the first one that j lies in. -/
def mtC (P B : Nat → Int) (j : Int) : Nat → Int → Int
  | 0, _ => -1
  | f + 1, k => if k < 0 then -1 else if lsP B j k then k else mtC P B j f (P k.toNat)
theorem mtC_more {n : Nat} {D P B : Nat → Int} {L : Nat → Bool} (h : FmP n D P B L) (j : Int) : ∀ (f : Nat) (k : Int), k < f → k < n → -1 ≤ k → mtC P B j f k = mtC P B j (k + 1).toNat k
  | 0, k, h1, h2, h3 => by
    have : k = -1 := by omega
    subst this; rfl
  | f + 1, k, h1, h2, h3 => by
    by_cases h0 : k < 0
    · have : k = -1 := by omega
      subst this
      unfold mtC; rw [if_pos (by omega)]; rfl
    have e : (k + 1).toNat = k.toNat + 1 := by omega
    rw [e]
    unfold mtC
    rw [if_neg h0, if_neg h0]
    have hl := h.plt (i := k.toNat) (by omega)
    rw [mtC_more h j f (P k.toNat) (by omega) (by omega) (by omega), mtC_more h j k.toNat (P k.toNat) (by omega) (by omega) (by omega)]
end Go.Proofs.Ytdekboacjjpjeaa
