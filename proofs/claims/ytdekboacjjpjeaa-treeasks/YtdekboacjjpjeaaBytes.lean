
/- Slices of bytes as lists of numbers: what it is to read one, to own one, to append to one with room or with a bound on its growth; laws over any program. -/
import Derived.WalkKit
import Derived.WalkLawsBesides
import Derived.WalkSpells
import Derived.OwnWalk
import Derived.Deep.AppendSrc
import Derived.Deep.DeepAppendWide
import Derived.Laws.BytesArg
import Derived.Laws.OwnMore
namespace Go.Proofs.Ytdekboacjjpjeaa
open Go.RowKit
set_option linter.unusedSimpArgs false
set_option linter.unusedVariables false

/-- The slice v of n elements takes r more: there is room for them, or all together and a quarter more are at most 2^48 bytes. -/
def Room (bytes : Nat) (v : Value) (n r : Nat) : Prop := (∃ a cap, v = .slice (some a) n cap ∧ n + r ≤ cap) ∨ (n + r + (n + r) / 4 + 192) * bytes ≤ 281474976710656

theorem Room.less {bytes : Nat} {v : Value} {n r q : Nat} (h : Room bytes v n r) (hq : q ≤ r) : Room bytes v n q := by
  rcases h with ⟨a, cap, rfl, hc⟩ | h
  · exact .inl ⟨a, cap, rfl, by omega⟩
  · exact .inr (Nat.le_trans (Nat.mul_le_mul_right _ (by omega)) h)

section
variable {P : Program} (w : World)

theorem run_append_room_src_own (t tx ty e : TypeId) (i : TypeInfo) (ht : P.underlying t = some (.slice e)) (hi : P.info? e = some i)
    (g sLen sCap : Nat) (cur : Array Value) (hg : w.heap[g]? = some (.cells cur e (0, 0))) (x : Value) (m : Nat) (news : List Value) (hs : Src P i.size tx x m news w)
    (hroom : sLen + m ≤ sCap) (hfit : sLen * i.size + news.length ≤ cur.size) :
    (Builtin.append_ #[t, tx] ty #[.slice (some ⟨g, 0, none⟩) sLen sCap, x]).run P w =
      .ok (.slice (some ⟨g, 0, none⟩) (sLen + m) sCap) (w.setRow g (cur.toList.take (sLen * i.size) ++ news ++ cur.toList.drop (sLen * i.size + news.length)).toArray) := by
  have hst := run_storeCells_at P g (sLen * i.size) e news 0 cur w hg (by simpa using hfit) hs.one
  simp only [Nat.add_zero] at hst
  rcases hs.kind with ⟨e', hk⟩ | hk <;> simp [Builtin.append_, run_underlying ht, run_underlying hk, sizeOf, typeInfo, hi, hs.len, hroom, hs.cells, Addr.add_lit, hst]

theorem run_append_nothing (t tx ty e : TypeId) (i : TypeInfo) (ht : P.underlying t = some (.slice e)) (hi : P.info? e = some i) (x : Value) (hs : Src P i.size tx x 0 [] w) :
    (Builtin.append_ #[t, tx] ty #[.slice none 0 0, x]).run P w = .ok (.slice none 0 0) w := by
  have hc := hs.cells
  rcases hs.kind with ⟨e', hk⟩ | hk <;> simp [Builtin.append_, run_underlying ht, run_underlying hk, sizeOf, typeInfo, hi, hs.len, hc]

/-- An append to a slice of the call's own: it has room, or what comes of it is small enough to grow. -/
theorem run_append_both (base : Nat) (t tx ty e : TypeId) (i : TypeInfo) (z : Value) (size bytes : Nat) (ht : P.underlying t = some (.slice e)) (hi : P.info? e = some i) (hz : i.zero = some z)
    (hsize : i.size = size) (hby : i.bytes = bytes) (hzs : z.cells.size = size)
    (v : Value) (n : Nat) (xs : List Value) (hown : w.ownsRow base e size v n xs)
    (x : Value) (m : Nat) (news : List Value) (hs : Src P size tx x m news w) (r : Nat) (hroom : Room bytes v n r) (hm : m ≤ r)
    (h63 : n + r ≤ maxLen) (hbase : base ≤ w.heap.size) :
    ∃ v' w', (Builtin.append_ #[t, tx] ty #[v, x]).run P w = .ok v' w' ∧ w'.ownsRow base e size v' (n + m) (xs ++ news) ∧ w.grownBy w' v.ownBlock ∧ Room bytes v' (n + m) (r - m) := by
  subst hsize
  subst hby
  have hl := hs.newsLen
  have h63' : n + m ≤ 9223372036854775807 := by simp only [maxLen] at h63; omega
  have h63m : n + m ≤ maxLen := by simp only [maxLen] at h63 ⊢; omega
  have hlen : (xs ++ news).length = (n + m) * i.size := by rw [List.length_append, hown.1, hl, Nat.add_mul]
  have grown : ∀ (old : Nat), old < n + m → ∀ (row : Option Nat),
      (w.drew.alloc (.cells ((xs ++ news).toArray ++ Builtin.zeroCells z.cells (grownCap w (n + m) old e - (n + m))) e)).ownsRow base e i.size
        (.slice (some ⟨w.heap.size, 0, none⟩) (n + m) (grownCap w (n + m) old e)) (n + m) (xs ++ news) ∧
      w.grownBy (w.drew.alloc (.cells ((xs ++ news).toArray ++ Builtin.zeroCells z.cells (grownCap w (n + m) old e - (n + m))) e)) row := by
    intro old ho row
    have hge := grownCap_ge w (n + m) old e
    have hcm : grownCap w (n + m) old e ≤ maxLen := grownCap_le_maxLen w (n + m) old e h63m
    refine ⟨⟨hlen, .inr ⟨w.heap.size, _, _, rfl, hbase, heap_alloc_new w.drew _, hge, hcm, ?_, ?_⟩⟩, ⟨rfl, rfl, rfl, by simp, fun k hk _ => Below.heap_alloc w.drew _ k hk⟩⟩
    · simp only [Array.size_append, List.size_toArray, size_zeroCells, hzs, hlen, ← Nat.add_mul]
      congr 1
      omega
    · simp only [Array.toList_append]
      rw [← hlen]
      exact List.take_left
  have bound : ∀ {a cap}, v = .slice a n cap → cap < n + m → (n + r + (n + r) / 4 + 192) * i.bytes ≤ 281474976710656 := by
    intro a cap hv hc
    rcases hroom with ⟨a', cap', hv', hc'⟩ | h
    · rw [hv] at hv'
      simp only [Value.slice.injEq] at hv'
      omega
    · exact h
  rcases hown.2 with ⟨rfl, rfl⟩ | ⟨g, cap, cur, rfl, hbg, hg, hnc, hcm, hcs, htake⟩
  · have hx : xs = [] := List.eq_nil_of_length_eq_zero (by simpa using hown.1)
    subst hx
    by_cases hm0 : m = 0
    · subst hm0
      have hn : news = [] := List.eq_nil_of_length_eq_zero (by simpa using hl)
      subst hn
      exact ⟨.slice none 0 0, w, run_append_nothing w t tx ty e i ht hi x hs, World.ownsRow_nil w base e i.size, World.grownBy.refl w _, by simpa using hroom⟩
    · have hb := bound rfl (by omega)
      have hr := run_append_grow_src (P := P) w t tx ty e i z ht hi hz none 0 0 [] (by simp [Builtin.firstCells]) x m news hs (by omega) (by omega) (growslice_fits_wide (by omega) (Nat.le_trans (Nat.mul_le_mul_right _ (by omega)) hb))
      have hgr := grown 0 (by omega) (Value.ownBlock (.slice none 0 0))
      simp only [Nat.zero_add, List.nil_append] at hgr hr ⊢
      exact ⟨_, _, hr, hgr.1, hgr.2, .inr (Nat.le_trans (Nat.mul_le_mul_right _ (by omega)) hb)⟩
  · by_cases hrm : n + m ≤ cap
    · have hfit : n * i.size + news.length ≤ cur.size := by rw [hl, hcs, ← Nat.add_mul]; exact Nat.mul_le_mul_right _ hrm
      have hr := run_append_room_src_own (P := P) w t tx ty e i ht hi g n cap cur hg x m news hs hrm hfit
      refine ⟨_, _, hr, ⟨hlen, .inr ⟨g, cap, _, rfl, hbg, setRow_heap w g cur _ e _ hg, hrm, hcm, ?_, ?_⟩⟩, ⟨rfl, rfl, rfl, by simp, fun k _ hk => setRow_other w g k _ (fun e => hk (by simp [Value.ownBlock, e]))⟩, ?_⟩
      · simp only [List.size_toArray, List.length_append, List.length_take, List.length_drop, Array.length_toList]
        omega
      · rw [htake, ← hlen]
        exact List.take_left
      · rcases hroom with ⟨a, c, hv, hc⟩ | h
        · simp only [Value.slice.injEq] at hv
          exact .inl ⟨_, _, rfl, by omega⟩
        · exact .inr (Nat.le_trans (Nat.mul_le_mul_right _ (by omega)) h)
    · have hb := bound rfl (by omega)
      have holds : ∀ j u, xs[j]? = some u → w.cell? ((⟨g, 0, none⟩ : Addr).add j) = some u := hown.cells (g := g) rfl
      have hr := run_append_grow_src (P := P) w t tx ty e i z ht hi hz (some ⟨g, 0, none⟩) n cap xs (run_firstCells_some w.drew i.size n ⟨g, 0, none⟩ n cap xs hown.1 (by simpa using holds)) x m news hs (by omega) (by omega)
        (growslice_fits_wide (by omega) (Nat.le_trans (Nat.mul_le_mul_right _ (by omega)) hb))
      have hgr := grown cap (by omega) (Value.ownBlock (.slice (some ⟨g, 0, none⟩) n cap))
      exact ⟨_, _, hr, hgr.1, hgr.2, .inr (Nat.le_trans (Nat.mul_le_mul_right _ (by omega)) hb)⟩

theorem wpList_append_both {ops : Array Oper} {rest : List Oper} {o : Oper} {a : Act} {Q : Exit → Act → World → Prop} (hgd : o.guard = none) (s x : Operand) (t tx : TypeId)
    (ho : o.op = .call { callee := .builtin .append, args := #[s, x], argTypes := #[t, tx] })
    (base : Nat) (e : TypeId) (i : TypeInfo) (z : Value) (size bytes : Nat) (ht : P.underlying t = some (.slice e)) (hi : P.info? e = some i) (hz : i.zero = some z)
    (hsize : i.size = size) (hby : i.bytes = bytes) (hzs : z.cells.size = size)
    (v : Value) (n : Nat) (xs : List Value) (hs : a.eval s = v) (hown : w.ownsRow base e size v n xs)
    (xv : Value) (m : Nat) (news : List Value) (hx : a.eval x = xv) (hsrc : Src P size tx xv m news w) (r : Nat) (hroom : Room bytes v n r) (hm : m ≤ r)
    (h63 : n + r ≤ maxLen) (hbase : base ≤ w.heap.size)
    (h : ∀ v' w', w'.ownsRow base e size v' (n + m) (xs ++ news) → w.grownBy w' v.ownBlock → Room bytes v' (n + m) (r - m) → wpList P ops Q rest (a.put o.dst v') w') : wpList P ops Q (o :: rest) a w := by
  refine wpList_plain hgd fun K hK => ?_
  obtain ⟨v', w', hr, h2, h3, h4⟩ := run_append_both (P := P) w base t tx o.type e i z size bytes ht hi hz hsize hby hzs v n xs hown xv m news hsrc r hroom hm h63 hbase
  unfold Oper.wp execOp
  simp only [ho, resolve, invoke, builtin, Sem.run_bind, Sem.run_pure, Result.andThen_ok, List.map_toArray, List.map_cons, List.map_nil, hs, hx, hr]
  exact hK _ _ (h v' w' h2 h3 h4)
end

/-- The slice value v reads, in w, as the bytes xs. -/
def Rd (w : World) (v : Value) (xs : List Int) : Prop :=
  ∃ a cap, v = .slice a xs.length cap ∧ xs.length ≤ cap ∧ cap ≤ maxLen ∧ (a = none → xs = [] ∧ cap = 0) ∧ ∀ x, a = some x → ∀ i, i < xs.length → w.cell? (x.add i) = some (.int .u8 (xs.getD i 0))

/-- The slice value v is the call's own, from block base on, and holds the bytes xs. -/
def Own (w : World) (base e : Nat) (v : Value) (xs : List Int) : Prop := w.ownsRow base e 1 v xs.length (xs.map (Value.int .u8))

theorem Own.rd {w : World} {base e : Nat} {v : Value} {xs : List Int} (h : Own w base e v xs) : Rd w v xs := by
  have hc := fun g => World.ownsRow.cells h (g := g)
  rcases h.2 with ⟨rfl, hn⟩ | ⟨g, cap, cur, rfl, hb, hg, hnc, hcm, hcs, htake⟩
  · have hx : xs = [] := List.eq_nil_of_length_eq_zero hn
    subst hx
    exact ⟨none, 0, rfl, by simp, by simp [maxLen], by simp, fun x hx => by cases hx⟩
  · refine ⟨some ⟨g, 0, none⟩, cap, rfl, hnc, hcm, by simp, ?_⟩
    intro x hx i hi
    obtain rfl := Option.some.inj hx
    exact hc g rfl i _ (by simp [hi])

theorem Rd.src {P : Program} {w : World} {v : Value} {xs : List Int} (h : Rd w v xs) {t e : TypeId} (ht : P.underlying t = some (.slice e)) : Src P 1 t v xs.length (xs.map (Value.int .u8)) w := by
  obtain ⟨a, cap, rfl, hc, _, hn, hcell⟩ := h
  cases a with
  | none =>
    obtain ⟨rfl, rfl⟩ := hn rfl
    exact Src.ofNil w ht 0
  | some x =>
    refine Src.ofSlice w ht x xs.length cap _ (by simp) ?_ (ints_oneCell _ _)
    intro j u hj
    have hjl : j < xs.length := by
      rcases Nat.lt_or_ge j xs.length with h | h
      · exact h
      · simp [List.getElem?_eq_none h] at hj
    rw [hcell x rfl j hjl]
    simp [hjl] at hj ⊢
    exact hj

theorem Rd.below {w w' : World} {v : Value} {xs : List Int} {B : Nat} (h : Rd w v xs) (hb : Below B w w') (hB : w.heap.size ≤ B) : Rd w' v xs := by
  obtain ⟨a, cap, rfl, hc, hm, hn, hcell⟩ := h
  refine ⟨a, cap, rfl, hc, hm, hn, fun x hx i hi => ?_⟩
  have h1 := hcell x hx i hi
  have hlt := World.block_lt_of_cell? w _ h1
  rw [hb.cell (by omega)]
  exact h1

theorem Rd.convert {P : Program} {w : World} {v : Value} {xs : List Int} (h : Rd w v xs) {t e d : TypeId} (ht : P.underlying t = some (.slice e)) (he : P.underlying e = some (.int .u8)) (hd : P.underlying d = some .string) :
    (convert t d v).run P w = .ok (.string (strOfNums xs)) w := by
  obtain ⟨a, cap, rfl, hc, _, hn, hcell⟩ := h
  cases a with
  | none =>
    obtain ⟨rfl, rfl⟩ := hn rfl
    rw [run_convert_bytes_nil w t e ht he _ _ d hd]
    rfl
  | some x =>
    have hl : (loadCells x xs.length).run P w = .ok (xs.map (Value.int .u8)).toArray w := by
      have := run_loadCells_list (P := P) w x (xs.map (Value.int .u8)) (fun j u hj => by
        have hjl : j < xs.length := by
          rcases Nat.lt_or_ge j xs.length with h | h
          · exact h
          · simp [List.getElem?_eq_none h] at hj
        rw [hcell x rfl j hjl]
        simp [hjl] at hj ⊢
        exact hj)
      simpa using this
    rw [run_convert_bytes_string w t d e _ _ cap ht he hd, run_bytesToString w _ _ cap xs hl, foldl_push_bytes]
    simp [strOfNums, ByteArray.empty, ByteArray.emptyWithCapacity]
    rfl

end Go.Proofs.Ytdekboacjjpjeaa
