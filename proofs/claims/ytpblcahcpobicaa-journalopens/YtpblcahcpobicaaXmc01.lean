import Derived.WalkKit
import Derived.WalkLawsBesides
import Derived.WalkSpells
import Derived.OwnWalk
import Derived.Deep.AppendSrc
import Derived.Deep.DeepAppendWide
import Derived.Laws.BytesArg
import Derived.Laws.OwnMore
import Derived.Deep.RegionHeldLaw
import Derived.Deep.DrawnRows
import Derived.Test.YtpblcahcpobicaaProg
import Derived.Lib.SlBytesConst
import Derived.Laws.BitsAllLaws
import Derived.BigQuiet
import Derived.Deep.QuietTactic
import Derived.Deep.RegionHeld

/- Slices of bytes as lists of numbers: what it is to read one, to own one, to append to one with room or with a bound on its growth; laws over any program. -/
namespace Go.Proofs.Ytpblcahcpobicaa
open Go.RowKit
set_option linter.unusedSimpArgs false
set_option linter.unusedVariables false

/-- The slice v of n elements takes r more: there is room for them, or all together and a quarter more are at most 2^48 bytes. -/
def Room (bytes : Nat) (v : Value) (n r : Nat) : Prop := (∃ a cap, v = .slice (some a) n cap ∧ n + r ≤ cap) ∨ (n + r + (n + r) / 4 + 192) * bytes ≤ 281474976710656

section
variable {P : Program} (w : World)

theorem run_append_room_src_own (t tx ty e : TypeId) (i : TypeInfo) (ht : P.underlying t = some (.slice e)) (hi : P.info? e = some i)
    (g sLen sCap : Nat) (cur : Array Value) (hg : w.heap[g]? = some (.cells cur e (0, 0))) (x : Value) (m : Nat) (news : List Value) (hs : Src P i.size tx x m news w)
    (hroom : sLen + m ≤ sCap) (hfit : sLen * i.size + news.length ≤ cur.size) :
    (Builtin.append_ #[t, tx] ty #[.slice (some ⟨g, 0, none⟩) sLen sCap, x]).run P w =
      .ok (.slice (some ⟨g, 0, none⟩) (sLen + m) sCap) (w.setRow g (cur.toList.take (sLen * i.size) ++ news ++ cur.toList.drop (sLen * i.size + news.length)).toArray) := by
  have hst := run_storeCells_at P g (sLen * i.size) e news 0 cur w hg (by simpa using hfit) hs.one
  simp only [Nat.add_zero] at hst
  rcases hs.kind with ⟨e', hk⟩ | hk <;> simp [Builtin.append_, run_underlying ht, run_underlying hk, sizeOf, typeInfo, hi, hs.len, hroom, hs.cells, Addr.add_lit, hst]

theorem run_append_nothing (t tx ty e : TypeId) (i : TypeInfo) (ht : P.underlying t = some (.slice e)) (hi : P.info? e = some i) (x : Value) (hs : Src P i.size tx x 0 [] w) :
    (Builtin.append_ #[t, tx] ty #[.slice none 0 0, x]).run P w = .ok (.slice none 0 0) w := by
  have hc := hs.cells
  rcases hs.kind with ⟨e', hk⟩ | hk <;> simp [Builtin.append_, run_underlying ht, run_underlying hk, sizeOf, typeInfo, hi, hs.len, hc]

/-- An append to a slice of the call's own: it has room, or what comes of it is small enough to grow. -/
theorem run_append_both (base : Nat) (t tx ty e : TypeId) (i : TypeInfo) (z : Value) (size bytes : Nat) (ht : P.underlying t = some (.slice e)) (hi : P.info? e = some i) (hz : i.zero = some z)
    (hsize : i.size = size) (hby : i.bytes = bytes) (hzs : z.cells.size = size)
    (v : Value) (n : Nat) (xs : List Value) (hown : w.ownsRow base e size v n xs)
    (x : Value) (m : Nat) (news : List Value) (hs : Src P size tx x m news w) (r : Nat) (hroom : Room bytes v n r) (hm : m ≤ r)
    (h63 : n + r ≤ maxLen) (hbase : base ≤ w.heap.size) :
    ∃ v' w', (Builtin.append_ #[t, tx] ty #[v, x]).run P w = .ok v' w' ∧ w'.ownsRow base e size v' (n + m) (xs ++ news) ∧ w.grownBy w' v.ownBlock ∧ Room bytes v' (n + m) (r - m) := by
  subst hsize
  subst hby
  have hl := hs.newsLen
  have h63' : n + m ≤ 9223372036854775807 := by simp only [maxLen] at h63; omega
  have h63m : n + m ≤ maxLen := by simp only [maxLen] at h63 ⊢; omega
  have hlen : (xs ++ news).length = (n + m) * i.size := by rw [List.length_append, hown.1, hl, Nat.add_mul]
  have grown : ∀ (old : Nat), old < n + m → ∀ (row : Option Nat),
      (w.drew.alloc (.cells ((xs ++ news).toArray ++ Builtin.zeroCells z.cells (grownCap w (n + m) old e - (n + m))) e)).ownsRow base e i.size
        (.slice (some ⟨w.heap.size, 0, none⟩) (n + m) (grownCap w (n + m) old e)) (n + m) (xs ++ news) ∧
      w.grownBy (w.drew.alloc (.cells ((xs ++ news).toArray ++ Builtin.zeroCells z.cells (grownCap w (n + m) old e - (n + m))) e)) row := by
    intro old ho row
    have hge := grownCap_ge w (n + m) old e
    have hcm : grownCap w (n + m) old e ≤ maxLen := grownCap_le_maxLen w (n + m) old e h63m
    refine ⟨⟨hlen, .inr ⟨w.heap.size, _, _, rfl, hbase, heap_alloc_new w.drew _, hge, hcm, ?_, ?_⟩⟩, ⟨rfl, rfl, rfl, by simp, fun k hk _ => Below.heap_alloc w.drew _ k hk⟩⟩
    · simp only [Array.size_append, List.size_toArray, size_zeroCells, hzs, hlen, ← Nat.add_mul]
      congr 1
      omega
    · simp only [Array.toList_append]
      rw [← hlen]
      exact List.take_left
  have bound : ∀ {a cap}, v = .slice a n cap → cap < n + m → (n + r + (n + r) / 4 + 192) * i.bytes ≤ 281474976710656 := by
    intro a cap hv hc
    rcases hroom with ⟨a', cap', hv', hc'⟩ | h
    · rw [hv] at hv'
      simp only [Value.slice.injEq] at hv'
      omega
    · exact h
  rcases hown.2 with ⟨rfl, rfl⟩ | ⟨g, cap, cur, rfl, hbg, hg, hnc, hcm, hcs, htake⟩
  · have hx : xs = [] := List.eq_nil_of_length_eq_zero (by simpa using hown.1)
    subst hx
    by_cases hm0 : m = 0
    · subst hm0
      have hn : news = [] := List.eq_nil_of_length_eq_zero (by simpa using hl)
      subst hn
      exact ⟨.slice none 0 0, w, run_append_nothing w t tx ty e i ht hi x hs, World.ownsRow_nil w base e i.size, World.grownBy.refl w _, by simpa using hroom⟩
    · have hb := bound rfl (by omega)
      have hr := run_append_grow_src (P := P) w t tx ty e i z ht hi hz none 0 0 [] (by simp [Builtin.firstCells]) x m news hs (by omega) (by omega) (growslice_fits_wide (by omega) (Nat.le_trans (Nat.mul_le_mul_right _ (by omega)) hb))
      have hgr := grown 0 (by omega) (Value.ownBlock (.slice none 0 0))
      simp only [Nat.zero_add, List.nil_append] at hgr hr ⊢
      exact ⟨_, _, hr, hgr.1, hgr.2, .inr (Nat.le_trans (Nat.mul_le_mul_right _ (by omega)) hb)⟩
  · by_cases hrm : n + m ≤ cap
    · have hfit : n * i.size + news.length ≤ cur.size := by rw [hl, hcs, ← Nat.add_mul]; exact Nat.mul_le_mul_right _ hrm
      have hr := run_append_room_src_own (P := P) w t tx ty e i ht hi g n cap cur hg x m news hs hrm hfit
      refine ⟨_, _, hr, ⟨hlen, .inr ⟨g, cap, _, rfl, hbg, setRow_heap w g cur _ e _ hg, hrm, hcm, ?_, ?_⟩⟩, ⟨rfl, rfl, rfl, by simp, fun k _ hk => setRow_other w g k _ (fun e => hk (by simp [Value.ownBlock, e]))⟩, ?_⟩
      · simp only [List.size_toArray, List.length_append, List.length_take, List.length_drop, Array.length_toList]
        omega
      · rw [htake, ← hlen]
        exact List.take_left
      · rcases hroom with ⟨a, c, hv, hc⟩ | h
        · simp only [Value.slice.injEq] at hv
          exact .inl ⟨_, _, rfl, by omega⟩
        · exact .inr (Nat.le_trans (Nat.mul_le_mul_right _ (by omega)) h)
    · have hb := bound rfl (by omega)
      have holds : ∀ j u, xs[j]? = some u → w.cell? ((⟨g, 0, none⟩ : Addr).add j) = some u := hown.cells (g := g) rfl
      have hr := run_append_grow_src (P := P) w t tx ty e i z ht hi hz (some ⟨g, 0, none⟩) n cap xs (run_firstCells_some w.drew i.size n ⟨g, 0, none⟩ n cap xs hown.1 (by simpa using holds)) x m news hs (by omega) (by omega)
        (growslice_fits_wide (by omega) (Nat.le_trans (Nat.mul_le_mul_right _ (by omega)) hb))
      have hgr := grown cap (by omega) (Value.ownBlock (.slice (some ⟨g, 0, none⟩) n cap))
      exact ⟨_, _, hr, hgr.1, hgr.2, .inr (Nat.le_trans (Nat.mul_le_mul_right _ (by omega)) hb)⟩

theorem wpList_append_both {ops : Array Oper} {rest : List Oper} {o : Oper} {a : Act} {Q : Exit → Act → World → Prop} (hgd : o.guard = none) (s x : Operand) (t tx : TypeId)
    (ho : o.op = .call { callee := .builtin .append, args := #[s, x], argTypes := #[t, tx] })
    (base : Nat) (e : TypeId) (i : TypeInfo) (z : Value) (size bytes : Nat) (ht : P.underlying t = some (.slice e)) (hi : P.info? e = some i) (hz : i.zero = some z)
    (hsize : i.size = size) (hby : i.bytes = bytes) (hzs : z.cells.size = size)
    (v : Value) (n : Nat) (xs : List Value) (hs : a.eval s = v) (hown : w.ownsRow base e size v n xs)
    (xv : Value) (m : Nat) (news : List Value) (hx : a.eval x = xv) (hsrc : Src P size tx xv m news w) (r : Nat) (hroom : Room bytes v n r) (hm : m ≤ r)
    (h63 : n + r ≤ maxLen) (hbase : base ≤ w.heap.size)
    (h : ∀ v' w', w'.ownsRow base e size v' (n + m) (xs ++ news) → w.grownBy w' v.ownBlock → Room bytes v' (n + m) (r - m) → wpList P ops Q rest (a.put o.dst v') w') : wpList P ops Q (o :: rest) a w := by
  refine wpList_plain hgd fun K hK => ?_
  obtain ⟨v', w', hr, h2, h3, h4⟩ := run_append_both (P := P) w base t tx o.type e i z size bytes ht hi hz hsize hby hzs v n xs hown xv m news hsrc r hroom hm h63 hbase
  unfold Oper.wp execOp
  simp only [ho, resolve, invoke, builtin, Sem.run_bind, Sem.run_pure, Result.andThen_ok, List.map_toArray, List.map_cons, List.map_nil, hs, hx, hr]
  exact hK _ _ (h v' w' h2 h3 h4)
end

/-- The slice value v reads, in w, as the bytes xs. -/
def Rd (w : World) (v : Value) (xs : List Int) : Prop :=
  ∃ a cap, v = .slice a xs.length cap ∧ xs.length ≤ cap ∧ cap ≤ maxLen ∧ (a = none → xs = [] ∧ cap = 0) ∧ ∀ x, a = some x → ∀ i, i < xs.length → w.cell? (x.add i) = some (.int .u8 (xs.getD i 0))

/-- The slice value v is the call's own, from block base on, and holds the bytes xs. -/
def Own (w : World) (base e : Nat) (v : Value) (xs : List Int) : Prop := w.ownsRow base e 1 v xs.length (xs.map (Value.int .u8))

theorem Own.rd {w : World} {base e : Nat} {v : Value} {xs : List Int} (h : Own w base e v xs) : Rd w v xs := by
  have hc := fun g => World.ownsRow.cells h (g := g)
  rcases h.2 with ⟨rfl, hn⟩ | ⟨g, cap, cur, rfl, hb, hg, hnc, hcm, hcs, htake⟩
  · have hx : xs = [] := List.eq_nil_of_length_eq_zero hn
    subst hx
    exact ⟨none, 0, rfl, by simp, by simp [maxLen], by simp, fun x hx => by cases hx⟩
  · refine ⟨some ⟨g, 0, none⟩, cap, rfl, hnc, hcm, by simp, ?_⟩
    intro x hx i hi
    obtain rfl := Option.some.inj hx
    exact hc g rfl i _ (by simp [hi])

theorem Rd.src {P : Program} {w : World} {v : Value} {xs : List Int} (h : Rd w v xs) {t e : TypeId} (ht : P.underlying t = some (.slice e)) : Src P 1 t v xs.length (xs.map (Value.int .u8)) w := by
  obtain ⟨a, cap, rfl, hc, _, hn, hcell⟩ := h
  cases a with
  | none =>
    obtain ⟨rfl, rfl⟩ := hn rfl
    exact Src.ofNil w ht 0
  | some x =>
    refine Src.ofSlice w ht x xs.length cap _ (by simp) ?_ (ints_oneCell _ _)
    intro j u hj
    have hjl : j < xs.length := by
      rcases Nat.lt_or_ge j xs.length with h | h
      · exact h
      · simp [List.getElem?_eq_none h] at hj
    rw [hcell x rfl j hjl]
    simp [hjl] at hj ⊢
    exact hj

theorem Rd.below {w w' : World} {v : Value} {xs : List Int} {B : Nat} (h : Rd w v xs) (hb : Below B w w') (hB : w.heap.size ≤ B) : Rd w' v xs := by
  obtain ⟨a, cap, rfl, hc, hm, hn, hcell⟩ := h
  refine ⟨a, cap, rfl, hc, hm, hn, fun x hx i hi => ?_⟩
  have h1 := hcell x hx i hi
  have hlt := World.block_lt_of_cell? w _ h1
  rw [hb.cell (by omega)]
  exact h1

theorem Rd.convert {P : Program} {w : World} {v : Value} {xs : List Int} (h : Rd w v xs) {t e d : TypeId} (ht : P.underlying t = some (.slice e)) (he : P.underlying e = some (.int .u8)) (hd : P.underlying d = some .string) :
    (convert t d v).run P w = .ok (.string (strOfNums xs)) w := by
  obtain ⟨a, cap, rfl, hc, _, hn, hcell⟩ := h
  cases a with
  | none =>
    obtain ⟨rfl, rfl⟩ := hn rfl
    rw [run_convert_bytes_nil w t e ht he _ _ d hd]
    rfl
  | some x =>
    have hl : (loadCells x xs.length).run P w = .ok (xs.map (Value.int .u8)).toArray w := by
      have := run_loadCells_list (P := P) w x (xs.map (Value.int .u8)) (fun j u hj => by
        have hjl : j < xs.length := by
          rcases Nat.lt_or_ge j xs.length with h | h
          · exact h
          · simp [List.getElem?_eq_none h] at hj
        rw [hcell x rfl j hjl]
        simp [hjl] at hj ⊢
        exact hj)
      simpa using this
    rw [run_convert_bytes_string w t d e _ _ cap ht he hd, run_bytesToString w _ _ cap xs hl, foldl_push_bytes]
    simp [strOfNums, ByteArray.empty, ByteArray.emptyWithCapacity]
    rfl



theorem Try.info5 : (Try.prog.info? 5).map (fun i => (i.zero, i.size, i.bytes)) = some (some (.int .u8 0), 1, 1) := by kernel_rfl

/-- A slice of bytes that isn't empty: where it lies. -/
theorem Rd.lies {w : World} {v : Value} {bs : List Int} (h : Rd w v bs) (hn : 0 < bs.length) :
    ∃ b off cap, v = .slice (some ⟨b, off, none⟩) bs.length cap ∧ bs.length ≤ cap ∧ cap ≤ maxLen ∧ ∀ i, i < bs.length → w.cell? ⟨b, off + i, none⟩ = some (.int .u8 (bs.getD i 0)) := by
  obtain ⟨a, cap, rfl, hc, hm, hnone, hcell⟩ := h
  cases a with
  | none => have := (hnone rfl).1; subst this; simp at hn
  | some x =>
    obtain ⟨b, off, spot⟩ := x
    have h0 := hcell _ rfl 0 hn
    have hspot : spot = none := by simpa [Addr.add] using World.cell?_spot h0
    subst hspot
    refine ⟨b, off, cap, rfl, hc, hm, fun i hi => ?_⟩
    have := hcell _ rfl i hi
    have hp : (⟨b, off, none⟩ : Addr).add i = ⟨b, off + i, none⟩ := by unfold Addr.add; split <;> simp_all
    rw [hp] at this
    exact this

theorem Rd.of_lies {w : World} {b off len cap : Nat} {bs : List Int} (hl : bs.length = len) (hc : len ≤ cap) (hm : cap ≤ maxLen) (h : ∀ i, i < len → w.cell? ⟨b, off + i, none⟩ = some (.int .u8 (bs.getD i 0))) :
    Rd w (.slice (some ⟨b, off, none⟩) len cap) bs := by
  subst hl
  refine ⟨_, cap, rfl, hc, hm, by simp, fun x hx i hi => ?_⟩
  obtain rfl := Option.some.inj hx
  have hp : (⟨b, off, none⟩ : Addr).add i = ⟨b, off + i, none⟩ := by unfold Addr.add; split <;> simp_all
  rw [hp]
  exact h i hi

theorem rd_conv {w : World} {v : Value} {xs : List Int} (h : Rd w v xs) : (convert 41 9 v).run Try.prog w = .ok (.string (strOfNums xs)) w :=
  h.convert Try.underlying41 Try.underlying5 Try.underlying9

theorem slice_to (b off len cap h : Nat) (hh : h ≤ cap) (w : World) :
    (Instr.slice 41 (.slice (some ⟨b, off, none⟩) len cap) none (some (.int .i64 (h : Int))) none).run Try.prog w = .ok (.slice (some ⟨b, off, none⟩) h cap) w := by
  have h1 : (0 : Int) ≤ (h : Int) := by omega
  have h2 : (h : Int) ≤ (cap : Int) := by omega
  go_simp

theorem rd_lit (w : World) (zs : List Int) (h : zs.length ≤ maxLen) : Rd (w.alloc (.cells (zs.map (Value.int .u8)).toArray 5)) (.slice (some ⟨w.heap.size, 0, none⟩) zs.length zs.length) zs := by
  have h1 := World.ownsRow_lit (base := w.heap.size) (e := 5) (size := 1) w (zs.map (Value.int .u8)).toArray zs.length (Nat.le_refl _) h (by simp)
  have h2 : Own (w.alloc (.cells (zs.map (Value.int .u8)).toArray 5)) w.heap.size 5 (.slice (some ⟨w.heap.size, 0, none⟩) zs.length zs.length) zs := by simpa [Own] using h1
  exact h2.rd

/-- A part of a slice of bytes. -/
theorem Rd.part {w : World} {b off len cap k n : Nat} {bs : List Int} (hl : bs.length = len) (h : ∀ i, i < len → w.cell? ⟨b, off + i, none⟩ = some (.int .u8 (bs.getD i 0))) (hc : len ≤ cap) (hm : cap ≤ maxLen) (hkn : k + n ≤ len) :
    Rd w (.slice (if cap = k then some ⟨b, off, none⟩ else some ⟨b, off + k, none⟩) n (cap - k)) ((bs.drop k).take n) := by
  have hln : ((bs.drop k).take n).length = n := by rw [List.length_take, List.length_drop]; omega
  by_cases h1 : cap = k
  · rw [if_pos h1]
    have : n = 0 := by omega
    subst this
    exact Rd.of_lies (by simp) (by omega) (by omega) (fun i hi => by omega)
  · rw [if_neg h1]
    refine Rd.of_lies hln (by omega) (by omega) (fun i hi => ?_)
    rw [show off + k + i = off + (k + i) by omega, h (k + i) (by omega)]
    simp [List.getD, hi]

/-- The first j bytes of a slice. -/
theorem Rd.first {w : World} {b off len cap j : Nat} {xs : List Int} (hl : xs.length = len) (h : Rd w (.slice (some ⟨b, off, none⟩) len cap) xs) (hj : j < len) : Rd w (.slice (some ⟨b, off, none⟩) j cap) (xs.take j) := by
  subst hl
  obtain ⟨b', off', cap', e, hc, hm, hcell⟩ := h.lies (by omega)
  simp only [Value.slice.injEq, Option.some.injEq, Addr.mk.injEq, and_true, true_and] at e
  obtain ⟨⟨rfl, rfl⟩, rfl⟩ := e
  have hlj : (xs.take j).length = j := by rw [List.length_take]; omega
  refine Rd.of_lies hlj (by omega) hm (fun i hi => ?_)
  rw [hcell i (by omega)]
  simp [List.getD, hi]

theorem own_nil (w : World) : (w.alloc (.cells #[] 5)).ownsRow w.heap.size 5 1 (.slice (some ⟨w.heap.size, 0, none⟩) 0 0) 0 [] := World.ownsRow_lit w #[] 0 (Nat.le_refl _) (by simp [maxLen]) (by simp)

theorem rd_src {w : World} {v : Value} {xs : List Int} {m : Nat} (h : Rd w v xs) (hm : xs.length = m) (o : Obj) : Src Try.prog 1 41 v m (xs.map (Value.int .u8)) (w.alloc o) := by
  subst hm
  exact (h.below ((Below.refl _ _).alloc (Nat.le_refl _) o) (Nat.le_refl _)).src Try.underlying41

theorem bel_first {w w' : World} (hg : (w.alloc (.cells #[] 5)).grownBy w' (Value.ownBlock (.slice (some ⟨w.heap.size, 0, none⟩) 0 0))) : Below w.heap.size w w' :=
  ((Below.refl _ _).alloc (Nat.le_refl _) _).grown hg (by simp) (fun k hk => by simp [Value.ownBlock] at hk; omega)


/-- One bit of a sum's step. -/
def stpC (s : Int) : Int := if (bits .and .u16 s 32768 != 0) = true then bits .xor .u16 (IntKind.u16.wrap (s * 2)) 4129 else IntKind.u16.wrap (s * 2)
def stps : Nat → Int → Int
  | 0, s => s
  | k + 1, s => stps k (stpC s)
/-- A byte more. -/
def smd (s c : Int) : Int := stps 8 (bits .xor .u16 s (IntKind.u16.wrap (IntKind.u16.wrap c * 256)))
/-- The sum of all bytes behind s. -/
def smF (s : Int) (xs : List Int) : Int := xs.foldl smd s
def sm (xs : List Int) : Int := smF 65535 xs

theorem smd_start (s c : Int) : stps (8 - 0) (bits .xor .u16 s (IntKind.u16.wrap (IntKind.u16.wrap c * 256))) = smd s c := by unfold smd; rfl
theorem stp_yes {s : Int} (h : (bits .and .u16 s 32768 != 0) = true) : stpC s = bits .xor .u16 (IntKind.u16.wrap (s * 2)) 4129 := by unfold stpC; rw [if_pos h]
theorem stp_no {s : Int} (h : (bits .and .u16 s 32768 != 0) = false) : stpC s = IntKind.u16.wrap (s * 2) := by unfold stpC; rw [h]; rfl
theorem stps_next {k : Nat} {s g : Int} (h : stps (8 - k) s = g) (hk : k < 8) : stps (8 - (k + 1)) (stpC s) = g := by
  rw [← h, show 8 - k = (8 - (k + 1)) + 1 by omega]; rfl
theorem stps_last {k : Nat} {s g : Int} (h : stps (8 - k) s = g) (hk : 8 ≤ k) : s = g := by
  rw [← h, show 8 - k = 0 by omega]; rfl

theorem smF_next {xs : List Int} {k : Nat} {s g c : Int} (h : smF s (xs.drop k) = g) (hk : k < xs.length) (hc : xs.getD k 0 = c) : smF (smd s c) (xs.drop (k + 1)) = g := by
  have e : xs.getD k 0 = xs[k] := by simp [List.getD, hk]
  rw [← h, ← hc, e, List.drop_eq_getElem_cons (i := k) hk]
  rfl
theorem smF_last {xs : List Int} {k : Nat} {s g : Int} (h : smF s (xs.drop k) = g) (hk : xs.length ≤ k) : s = g := by
  rw [← h, List.drop_eq_nil_of_le hk]; rfl

theorem summed_any (s c : Int) (w : World) :
    Calls Try.prog 85 #[.int .u16 s, .int .u8 c] w fun e w' => e = .returned (.int .u16 (smd s c)) ∧ w = w' := by
  go_enter Try.func85, Try.ntmps85
  go_wp2
  go_loop [0, 11] (fun u t => ∃ (k : Nat) (s' : Int), k ≤ 8 ∧ t = .int .i64 k ∧ u = .int .u16 s' ∧ Hid (stps (8 - k) s' = smd s c)) (fun _ t => 8 - (intOf t).toNat)
  case atStart => exact ⟨0, _, by omega, rfl, rfl, smd_start s c⟩
  case round =>
    obtain ⟨k, s', hk8, rfl, rfl, hw⟩ := hrel
    go_wp2
    · go_round
      case rel => exact ⟨k + 1, _, by omega, by go_num, rfl, (stp_yes ‹_›) ▸ stps_next hw.out (by omega)⟩
      case measure => simp [intOf]; omega
    · go_round
      case rel => exact ⟨k + 1, _, by omega, by go_num, rfl, (stp_no ‹_›) ▸ stps_next hw.out (by omega)⟩
      case measure => simp [intOf]; omega
    · go_ret
      rw [stps_last hw.out (by omega)]
      exact ⟨rfl, rfl⟩

theorem sum_any (v : Value) (xs : List Int) (w : World) (hr : Rd w v xs) :
    Calls Try.prog 77 #[v] w fun e w' => e = .returned (.int .u16 (sm xs)) ∧ w = w' := by
  have hs : Hid (smF 65535 (xs.drop 0) = sm xs) := rfl
  have hS := summed_any
  have hN : ∀ (k : Nat) (s g c : Int), smF s (xs.drop k) = g → k < xs.length → xs.getD k 0 = c → smF (smd s c) (xs.drop (k + 1)) = g := fun k s g c => smF_next
  have hT := smd_start
  obtain ⟨F, hF⟩ : ∃ F, F = smd := ⟨_, rfl⟩
  rw [← hF] at hS hN hT
  obtain ⟨G, hG⟩ : ∃ G, G = smF := ⟨_, rfl⟩
  have hE : ∀ (k : Nat) (s g : Int), smF s (xs.drop k) = g → xs.length ≤ k → s = g := fun k s g => smF_last
  rw [← hG] at hs hN hE
  clear hF hG
  obtain ⟨a, cap, rfl, hc, hm, hnone, hcell⟩ := hr
  have hmx : (xs.length : Int) ≤ 9223372036854775807 := by unfold maxLen at hm; omega
  go_enter Try.func77, Try.ntmps77
  go_wp2
  go_loop [3, 8] (fun u t => ∃ (k : Nat) (s : Int), k ≤ xs.length ∧ t = .int .i64 k ∧ u = .int .u16 s ∧ Hid (G s (xs.drop k) = sm xs)) (fun _ t => xs.length - (intOf t).toNat)
  case atStart => exact ⟨0, _, by omega, rfl, rfl, hs⟩
  case round =>
    obtain ⟨k, s, hk, rfl, rfl, hw⟩ := hrel
    by_cases hlt : k < xs.length
    · cases a with
      | none => have := (hnone rfl).1; subst this; simp at hlt
      | some x =>
        have hx := hcell x rfl k hlt
        have hk' : (k : Int) < (xs.length : Int) := by omega
        have hk0 : (0 : Int) ≤ k := by omega
        go_wp2_with (first
          | (go_at_call 85; refine (hS _ _ _).mono ?_; rintro e w' ⟨rfl, rfl⟩))
        go_round
        case rel => exact ⟨k + 1, _, by omega, by go_num, rfl, hN _ _ _ _ hw.out hlt (by simp [List.getD, hlt])⟩
        case measure => simp [intOf]; omega
    · have hk' : ¬ (k : Int) < (xs.length : Int) := by omega
      go_wp2
      go_ret
      rw [hE _ _ _ hw.out (by omega)]
      exact ⟨rfl, rfl⟩

set_option maxHeartbeats 400000 in
theorem refSum_any (v : Value) (xs : List Int) (w : World) (hr : Rd w v xs) :
    Calls Try.prog 79 #[v] w fun e w' => e = .returned (.int .u16 (sm xs)) ∧ w = w' := by
  have hs : Hid (smF 65535 (xs.drop 0) = sm xs) := rfl
  have hS := summed_any
  have hN : ∀ (k : Nat) (s g c : Int), smF s (xs.drop k) = g → k < xs.length → xs.getD k 0 = c → smF (smd s c) (xs.drop (k + 1)) = g := fun k s g c => smF_next
  have hT := smd_start
  obtain ⟨F, hF⟩ : ∃ F, F = smd := ⟨_, rfl⟩
  rw [← hF] at hS hN hT
  obtain ⟨G, hG⟩ : ∃ G, G = smF := ⟨_, rfl⟩
  have hE : ∀ (k : Nat) (s g : Int), smF s (xs.drop k) = g → xs.length ≤ k → s = g := fun k s g => smF_last
  rw [← hG] at hs hN hE
  clear hF hG
  obtain ⟨a, cap, rfl, hc, hm, hnone, hcell⟩ := hr
  have hmx : (xs.length : Int) ≤ 9223372036854775807 := by unfold maxLen at hm; omega
  go_enter Try.func79, Try.ntmps79
  go_wp2
  go_loop [3, 7] (fun u t => ∃ (k : Nat) (s : Int), k ≤ xs.length ∧ t = .int .i64 k ∧ u = .int .u16 s ∧ Hid (G s (xs.drop k) = sm xs)) (fun _ t => xs.length - (intOf t).toNat)
  case atStart => exact ⟨0, _, by omega, rfl, rfl, hs⟩
  case round =>
    obtain ⟨k, s, hk, rfl, rfl, hw⟩ := hrel
    by_cases hlt : k < xs.length
    · cases a with
      | none => have := (hnone rfl).1; subst this; simp at hlt
      | some x =>
        have hx := hcell x rfl k hlt
        obtain ⟨c, hcc⟩ : ∃ c, xs.getD k 0 = c := ⟨_, rfl⟩
        rw [hcc] at hx
        clear hcell
        have hk' : (k : Int) < (xs.length : Int) := by omega
        have hk0 : (0 : Int) ≤ k := by omega
        go_wp2
        go_loop [3, 18] (fun u t => ∃ (j : Nat) (s' : Int), j ≤ 8 ∧ t = .int .i64 j ∧ u = .int .u16 s' ∧ Hid (stps (8 - j) s' = F s c)) (fun _ t => 8 - (intOf t).toNat)
        case atStart => exact ⟨0, _, by omega, rfl, rfl, hT s c⟩
        case round =>
          obtain ⟨j, s', hj8, rfl, rfl, hj⟩ := hrel
          go_wp2
          · go_round
            case rel => exact ⟨j + 1, _, by omega, by go_num, rfl, (stp_yes ‹_›) ▸ stps_next hj.out (by omega)⟩
            case measure => simp [intOf]; omega
          · go_round
            case rel => exact ⟨j + 1, _, by omega, by go_num, rfl, (stp_no ‹_›) ▸ stps_next hj.out (by omega)⟩
            case measure => simp [intOf]; omega
          · go_round
            case rel => exact ⟨k + 1, _, by omega, by go_num, rfl, by rw [stps_last hj.out (by omega)]; exact hN _ _ _ _ hw.out hlt hcc⟩
            case measure => simp [intOf]; omega
    · have hk' : ¬ (k : Int) < (xs.length : Int) := by omega
      go_wp2
      go_ret
      rw [hE _ _ _ hw.out (by omega)]
      exact ⟨rfl, rfl⟩
end Go.Proofs.Ytpblcahcpobicaa

/- What addTwo, two, and both Seals do. -/
namespace Go.Proofs.Ytpblcahcpobicaa
open Go.RowKit
set_option linter.unusedSimpArgs false
set_option linter.unusedVariables false
set_option maxRecDepth 100000

/-- A number in two bytes, the highest first. -/
def tw (n : Int) : List Int := [IntKind.u8.wrap (n / 256), IntKind.u8.wrap n]
/-- A sealed record's head: the length, and its sum. -/
def hd (n : Int) : List Int := tw n ++ tw (sm (tw n))
/-- A sealed record. -/
def rcd (xs : List Int) : List Int := hd xs.length ++ xs ++ tw (sm (hd xs.length ++ xs))
def sealS (xs : List Int) : List Int × Int := if xs.length = 0 then ([], 1) else if 14000 < xs.length then ([], 4) else (rcd xs, 0)

theorem tw_length (n : Int) : (tw n).length = 2 := rfl
theorem hd_length (n : Int) : (hd n).length = 4 := rfl
theorem rcd_length (xs : List Int) : (rcd xs).length = xs.length + 6 := by simp [rcd, hd_length, tw_length]; omega

theorem sealS_arg {xs : List Int} (h : xs.length = 0) : sealS xs = ([], 1) := by unfold sealS; rw [if_pos h]
theorem sealS_long {xs : List Int} (h : 14000 < xs.length) : sealS xs = ([], 4) := by unfold sealS; rw [if_neg (by omega), if_pos h]
theorem sealS_ok {xs : List Int} (h : xs.length ≠ 0) (h2 : ¬ 14000 < xs.length) : sealS xs = (rcd xs, 0) := by unfold sealS; rw [if_neg h, if_neg h2]
theorem own_none (w : World) (base : Nat) : Own w base 5 (.slice none 0 0) [] := World.ownsRow_nil w base 5 1

theorem Own.below {w w' : World} {base : Nat} {e : TypeId} {v : Value} {xs : List Int} {B : Nat} (h : Own w base e v xs) (hb : Below B w w') (hB : w.heap.size ≤ B) : Own w' base e v xs := by
  refine ⟨h.1, ?_⟩
  rcases h.2 with hn | ⟨g, cap, cur, rfl, hbg, hg, rest⟩
  · exact .inl hn
  · refine .inr ⟨g, cap, cur, rfl, hbg, ?_, rest⟩
    rw [hb.block g (by have := (Array.getElem?_eq_some_iff.1 hg).1; omega)]
    exact hg

theorem own_cat {w : World} {base : Nat} {v : Value} {xs ys : List Int} {m : Nat} (hm : m = ys.length) (h : w.ownsRow base 5 1 v (xs.length + m) (xs.map (Value.int .u8) ++ ys.map (Value.int .u8))) : Own w base 5 v (xs ++ ys) := by
  subst hm
  unfold Own
  rw [List.length_append, List.map_append]
  exact h

set_option maxHeartbeats 400000 in
theorem addTwo_any (base : Nat) (v : Value) (xs : List Int) (n : Int) (w : World) (hown : Own w base 5 v xs) (hl : xs.length + 2 ≤ 1000000) (hbase : base ≤ w.heap.size) :
    Calls Try.prog 76 #[v, .int .u16 n] w fun e w' => ∃ v', e = .returned v' ∧ Own w' base 5 v' (xs ++ tw n) ∧ Below base w w' := by
  obtain ⟨i0, hi, hz0, hz1, hz2⟩ := info_parts Try.info5
  have hoa := hown.alloc (.cells #[.int .u8 (IntKind.u8.wrap (n / 256)), .int .u8 (IntKind.u8.wrap n)] 5)
  have hsrc : Src Try.prog 1 41 (.slice (some ⟨w.heap.size, 0, none⟩) 2 2) 2 [.int .u8 (IntKind.u8.wrap (n / 256)), .int .u8 (IntKind.u8.wrap n)] (w.alloc (.cells #[.int .u8 (IntKind.u8.wrap (n / 256)), .int .u8 (IntKind.u8.wrap n)] 5)) :=
    (rd_lit w (tw n) (by simp [tw, maxLen])).src Try.underlying41
  go_enter Try.func76, Try.ntmps76
  go_wp2_with (first
    | (at_builtin; refine wpList_append_both _ rfl (.tmp 5) (.tmp 11) 41 41 rfl base 5 i0 (.int .u8 0) 1 1 Try.underlying41 hi hz0 hz1 hz2 rfl v xs.length _ rfl hoa _ 2 _ rfl hsrc 2 (.inr (by omega)) (Nat.le_refl _) (by unfold maxLen; omega) (by simp; omega) ?_))
  intro v1 w1 hown1 hgrow1 _
  go_wp2
  go_ret
  exact ⟨v1, rfl, own_cat (ys := tw n) rfl hown1, ((Below.refl base w).alloc hbase _).grown hgrow1 (by simp; omega) (fun k hk => (hown.lt k hk).1)⟩

theorem refTwo_any (n : Int) (w : World) :
    Calls Try.prog 78 #[.int .u16 n] w fun e w' => ∃ v', e = .returned v' ∧ Own w' w.heap.size 5 v' (tw n) ∧ Below w.heap.size w w' := by
  have ho : Own (w.alloc (.cells #[.int .u8 (IntKind.u8.wrap (n / 256)), .int .u8 (IntKind.u8.wrap n)] 5)) w.heap.size 5 (.slice (some ⟨w.heap.size, 0, none⟩) 2 2) (tw n) :=
    World.ownsRow_lit (base := w.heap.size) (e := 5) (size := 1) w ((tw n).map (Value.int .u8)).toArray 2 (Nat.le_refl _) (by simp [maxLen]) (by simp [tw])
  go_enter Try.func78, Try.ntmps78
  go_wp2
  go_ret
  exact ⟨_, rfl, ho, (Below.refl _ _).alloc (Nat.le_refl _) _⟩

set_option maxHeartbeats 1000000 in
theorem seal_any (v : Value) (xs : List Int) (w : World) (hr : Rd w v xs) :
    Calls Try.prog 64 #[v] w fun e w' => ∃ u, e = .returned (.tuple #[u, .int .i64 (sealS xs).2]) ∧ Own w' w.heap.size 5 u (sealS xs).1 ∧ Below w.heap.size w w' := by
  obtain ⟨i0, hi, hz0, hz1, hz2⟩ := info_parts Try.info5
  obtain ⟨a, cap, rfl, hc, hm, hnone, hcell⟩ := id hr
  clear hcell hnone
  by_cases h0 : xs.length = 0
  · have h0' : ((xs.length : Int) == 0) = true := by simp [h0]
    rw [sealS_arg h0]
    go_enter Try.func64, Try.ntmps64
    go_wp2
    go_ret2
    exact ⟨_, rfl, own_none _ _, Below.refl _ _⟩
  · have h0' : ((xs.length : Int) == 0) = false := beq_eq_false_iff_ne.2 (by omega)
    by_cases h1 : 14000 < xs.length
    · have h1' : (xs.length : Int) > 14000 := by omega
      rw [sealS_long h1]
      go_enter Try.func64, Try.ntmps64
      go_wp2
      go_ret2
      exact ⟨_, rfl, own_none _ _, Below.refl _ _⟩
    · have h1' : ¬ (xs.length : Int) > 14000 := by omega
      have hw : IntKind.u16.wrap (xs.length : Int) = xs.length := by rw [IntKind.wrap_u16]; omega
      rw [sealS_ok h0 h1]
      go_enter Try.func64, Try.ntmps64
      go_wp2_with (first
        | (at_make; refine wpList_make_own _ rfl (.const (.int .i64 0)) (.tmp 14) 41 rfl w.heap.size 5 i0 (.int .u8 0) 1 Try.underlying41 hi hz0 hz1 .i64 .i64 _ (xs.length + 6) rfl rfl ?c1 ?c2 ?c3 ?c4 ?_))
      case c1 => omega
      case c2 => omega
      case c3 => unfold maxLen; omega
      intro w1 ho1 hg1
      have b1 : Below w.heap.size w w1 := (Below.refl _ _).grown hg1 (Nat.le_refl _) (fun k hk => by cases hk)
      clear hg1
      have ho1' : Own w1 w.heap.size 5 _ [] := ho1
      go_wp2_with (first
        | (go_at_call 76; refine (addTwo_any w.heap.size _ [] (xs.length : Int) _ ho1' (by simp) b1.size).mono ?_; rintro e w2 ⟨v2, rfl, ho2, hb2⟩; rw [List.nil_append] at ho2; have b2 := b1.trans hb2; have h7 := sum_any _ _ _ ho2.rd; clear ho1' ho1 hb2 b1)
        | (go_at_call 77; refine h7.mono ?_; rintro e w' ⟨rfl, rfl⟩; clear h7)
        | (go_at_call 76; refine (addTwo_any w.heap.size _ _ _ _ ho2 (by simp [tw_length]) b2.size).mono ?_; rintro e w3 ⟨v3, rfl, ho3, hb3⟩; have ho3' : Own w3 w.heap.size 5 v3 (hd xs.length) := ho3; have b3 := b2.trans hb3; have r3 := hr.below b3 (Nat.le_refl _); clear ho2 ho3 hb3 b2)
        | (at_builtin; refine wpList_append_both _ rfl (.tmp 25) (.tmp 26) 41 41 rfl w.heap.size 5 i0 (.int .u8 0) 1 1 Try.underlying41 hi hz0 hz1 hz2 rfl v3 4 _ rfl ho3' _ xs.length _ rfl (r3.src Try.underlying41) xs.length (.inr (by omega)) (Nat.le_refl _) (by unfold maxLen; omega) b3.size ?_; intro v4 w4 ho4' hg4 _; have ho4 : Own w4 w.heap.size 5 v4 (hd xs.length ++ xs) := own_cat rfl ho4'; have b4 := b3.grown hg4 b3.size (fun k hk => (World.ownsRow.lt ho3' k hk).1); have h7 := sum_any _ _ _ ho4.rd; clear ho3' ho4' hg4 b3 r3)
        | (go_at_call 76; refine (addTwo_any w.heap.size _ _ _ _ ho4 (by simp [hd_length]; omega) b4.size).mono ?_; rintro e w5 ⟨v5, rfl, ho5, hb5⟩; have b5 := b4.trans hb5))
      go_ret2
      exact ⟨_, rfl, ho5, b5⟩


/-- The number that the first two bytes tell. -/
def tv (xs : List Int) : Int := xs.getD 0 0 * 256 + xs.getD 1 0

/-- What opening answers: the payload, how many bytes the record has, the error. -/
def openS (xs : List Int) : List Int × Int × Int :=
  if xs.length < 4 then ([], 0, 5)
  else if tv xs < 1 ∨ 14000 < tv xs ∨ tv (xs.drop 2) ≠ sm (xs.take 2) then ([], 0, 9)
  else if (xs.length : Int) < tv xs + 6 then ([], 0, 5)
  else if tv (xs.drop (4 + (tv xs).toNat)) ≠ sm (xs.take (4 + (tv xs).toNat)) then ([], 0, 9)
  else ((xs.drop 4).take (tv xs).toNat, tv xs + 6, 0)

theorem openS_short {xs : List Int} (h : xs.length < 4) : openS xs = ([], 0, 5) := by unfold openS; rw [if_pos h]
theorem openS_bad {xs : List Int} (h : ¬ xs.length < 4) (h2 : tv xs < 1 ∨ 14000 < tv xs ∨ tv (xs.drop 2) ≠ sm (xs.take 2)) : openS xs = ([], 0, 9) := by unfold openS; rw [if_neg h, if_pos h2]
theorem openS_ends {xs : List Int} (h : ¬ xs.length < 4) (h1 : ¬ tv xs < 1) (h2 : ¬ 14000 < tv xs) (h3 : tv (xs.drop 2) = sm (xs.take 2)) (h4 : (xs.length : Int) < tv xs + 6) : openS xs = ([], 0, 5) := by
  unfold openS; rw [if_neg h, if_neg (by rintro (h | h | h) <;> contradiction), if_pos h4]
theorem openS_sum {xs : List Int} {n : Nat} (h : ¬ xs.length < 4) (hn : tv xs = n) (h1 : ¬ tv xs < 1) (h2 : ¬ 14000 < tv xs) (h3 : tv (xs.drop 2) = sm (xs.take 2)) (h4 : ¬ (xs.length : Int) < tv xs + 6) (h5 : tv (xs.drop (4 + n)) ≠ sm (xs.take (4 + n))) : openS xs = ([], 0, 9) := by
  have e : (tv xs).toNat = n := by omega
  unfold openS; rw [if_neg h, if_neg (by rintro (h | h | h) <;> contradiction), if_neg h4, e, if_pos h5]
theorem openS_ok {xs : List Int} {n : Nat} (h : ¬ xs.length < 4) (hn : tv xs = n) (h1 : ¬ tv xs < 1) (h2 : ¬ 14000 < tv xs) (h3 : tv (xs.drop 2) = sm (xs.take 2)) (h4 : ¬ (xs.length : Int) < tv xs + 6) (h5 : tv (xs.drop (4 + n)) = sm (xs.take (4 + n))) : openS xs = ((xs.drop 4).take n, (n : Int) + 6, 0) := by
  have e : (tv xs).toNat = n := by omega
  unfold openS; rw [if_neg h, if_neg (by rintro (h | h | h) <;> contradiction), if_neg h4, e, if_neg (by simp [h5]), hn]

theorem or_two (m n : Nat) (hn : n < 256) : m * 256 ||| n = m * 256 + n := by
  have := Nat.two_pow_add_eq_or_of_lt (i := 8) (b := n) (by omega) m
  rw [Nat.mul_comm] at this
  exact this.symm

theorem two_bits {a b : Int} (ha : 0 ≤ a ∧ a ≤ 255) (hb : 0 ≤ b ∧ b ≤ 255) : bits .or .u16 (IntKind.u16.wrap (IntKind.u16.wrap a * 256)) (IntKind.u16.wrap b) = a * 256 + b := by
  obtain ⟨m, rfl⟩ : ∃ m : Nat, a = m := ⟨a.toNat, by omega⟩
  obtain ⟨n, rfl⟩ : ∃ n : Nat, b = n := ⟨b.toNat, by omega⟩
  have h1 : IntKind.u16.wrap (IntKind.u16.wrap (m : Int) * 256) = ((m * 256 : Nat) : Int) := by rw [IntKind.wrap_u16, IntKind.wrap_u16]; omega
  have h2 : IntKind.u16.wrap (n : Int) = (n : Int) := by rw [IntKind.wrap_u16]; omega
  rw [h1, h2, u16_or_nat _ _ (by omega) (by omega), or_two m n (by omega)]
  omega

theorem getD_bytes {xs : List Int} (hy : ∀ x ∈ xs, 0 ≤ x ∧ x ≤ 255) (i : Nat) : 0 ≤ xs.getD i 0 ∧ xs.getD i 0 ≤ 255 := by
  rcases Nat.lt_or_ge i xs.length with h | h
  · exact hy _ (by simp [List.getD, h])
  · simp [List.getD, List.getElem?_eq_none h]

theorem tv_bounds {xs : List Int} (hy : ∀ x ∈ xs, 0 ≤ x ∧ x ≤ 255) : 0 ≤ tv xs ∧ tv xs ≤ 65535 := by
  have h0 := getD_bytes hy 0
  have h1 := getD_bytes hy 1
  unfold tv; omega

theorem Rd.drewN {w : World} {v : Value} {xs : List Int} (h : Rd w v xs) (n : Nat) : Rd (w.drewN n) v xs := h.below (below_drewN (Below.refl w.heap.size w) n) (Nat.le_refl _)

theorem two_any (v : Value) (xs : List Int) (w : World) (hr : Rd w v xs) (hy : ∀ x ∈ xs, 0 ≤ x ∧ x ≤ 255) (hl : 2 ≤ xs.length) :
    Calls Try.prog 83 #[v] w fun e w' => e = .returned (.int .u16 (tv xs)) ∧ ∃ m, w' = w.drewN m := by
  obtain ⟨b, off, cap, rfl, hc, hm, hcell⟩ := hr.lies (by omega)
  have c0 := hcell 0 (by omega)
  have c1 := hcell 1 (by omega)
  have hv := two_bits (getD_bytes hy 0) (getD_bytes hy 1)
  have HV : Hid (xs.getD 0 0 * 256 + xs.getD 1 0 = tv xs) := rfl
  obtain ⟨x0, hx0⟩ : ∃ x, x = xs.getD 0 0 := ⟨_, rfl⟩
  obtain ⟨x1, hx1⟩ : ∃ x, x = xs.getD 1 0 := ⟨_, rfl⟩
  rw [← hx0] at c0 hv HV
  rw [← hx1] at c1 hv HV
  have hl' : (1 : Int) < (xs.length : Int) := by omega
  have hl'' : (0 : Int) < (xs.length : Int) := by omega
  rw [Nat.add_zero] at c0
  clear hcell hx0 hx1 hr hy
  go_enter Try.func83, Try.ntmps83
  go_wp2
  go_quiet (fail)
  go_wp2
  go_ret
  rw [← HV.out]
  exact ⟨rfl, nq, rfl⟩

set_option maxHeartbeats 400000 in
theorem cloneO_any (v : Value) (xs : List Int) (w : World) (hr : Rd w v xs) (hl : 1 ≤ xs.length) (hl2 : xs.length ≤ 1000000) :
    Calls Try.prog 59 #[v] w fun e w' => ∃ u, e = .returned u ∧ Own w' w.heap.size 5 u xs ∧ Below w.heap.size w w' := by
  obtain ⟨i0, hi, hz0, hz1, hz2⟩ := info_parts Try.info5
  obtain ⟨b, off, cap, rfl, hc, hm, hcell⟩ := hr.lies (by omega)
  clear hcell
  have hq := Lib.run_eql_slice_nil (P := Try.prog) w 41 5 (some ⟨b, off, none⟩) xs.length cap 0 0 Try.underlying41
  go_enter Try.func59, Try.ntmps59
  go_wp2_with (first
    | (at_builtin; refine wpList_append_both _ rfl (.tmp 5) (.tmp 6) 41 41 rfl w.heap.size 5 i0 (.int .u8 0) 1 1 Try.underlying41 hi hz0 hz1 hz2 rfl _ 0 [] rfl (own_nil w) _ xs.length _ rfl (rd_src hr rfl _) xs.length (.inr (by omega)) (Nat.le_refl _) (by unfold maxLen; omega) (by simp) ?_))
  intro v3 w3 ho3 hg3 _
  have b3 := bel_first hg3
  go_wp2
  go_ret
  exact ⟨_, rfl, ho3, b3⟩

/-- A part of a slice, by the numbers it is cut at. -/
theorem cut_to {w : World} {b off len cap h : Nat} {xs : List Int} (hl : xs.length = len) (hr : Rd w (.slice (some ⟨b, off, none⟩) len cap) xs) (hh : h ≤ len) (hi : Int) (hhi : hi = (h : Int)) :
    ∃ s, (∀ w' : World, (Instr.slice 41 (.slice (some ⟨b, off, none⟩) len cap) none (some (.int .i64 hi)) none).run Try.prog w' = .ok s w') ∧ ∀ w', Rd w' (.slice (some ⟨b, off, none⟩) len cap) xs → Rd w' s (xs.take h) := by
  subst hl
  subst hhi
  have hc : xs.length ≤ cap := by obtain ⟨a', cap', e, hc, _⟩ := hr; simp only [Value.slice.injEq] at e; omega
  refine ⟨_, fun w' => slice_to b off xs.length cap h (by omega) w', fun w' hr' => ?_⟩
  rcases Nat.lt_or_ge h xs.length with h1 | h1
  · exact hr'.first rfl h1
  · have e : h = xs.length := by omega
    subst e
    rw [List.take_length]
    exact hr'

theorem slice_lo (b off len cap lo : Nat) (hlo : lo ≤ len) (hc : len ≤ cap) (w : World) :
    (Instr.slice 41 (.slice (some ⟨b, off, none⟩) len cap) (some (.int .i64 (lo : Int))) none none).run Try.prog w = .ok (.slice (if cap = lo then some ⟨b, off, none⟩ else some ⟨b, off + lo, none⟩) (len - lo) (cap - lo)) w := by
  have h1 : (0 : Int) ≤ (lo : Int) := by omega
  have h2 : (lo : Int) ≤ (len : Int) := by omega
  have h3 : (len : Int) ≤ (cap : Int) := by omega
  go_simp
theorem slice_lh (b off len cap lo hi : Nat) (hlo : lo ≤ hi) (hc : hi ≤ cap) (w : World) :
    (Instr.slice 41 (.slice (some ⟨b, off, none⟩) len cap) (some (.int .i64 (lo : Int))) (some (.int .i64 (hi : Int))) none).run Try.prog w = .ok (.slice (if cap = lo then some ⟨b, off, none⟩ else some ⟨b, off + lo, none⟩) (hi - lo) (cap - lo)) w := by
  have h1 : (0 : Int) ≤ (lo : Int) := by omega
  have h2 : (lo : Int) ≤ (hi : Int) := by omega
  have h3 : (hi : Int) ≤ (cap : Int) := by omega
  go_simp

theorem cut_lo {w : World} {b off len cap k : Nat} {xs : List Int} (hl : xs.length = len) (hr : Rd w (.slice (some ⟨b, off, none⟩) len cap) xs) (hk : k ≤ len) (lo : Int) (hlo : lo = (k : Int)) :
    ∃ s, (∀ w' : World, (Instr.slice 41 (.slice (some ⟨b, off, none⟩) len cap) (some (.int .i64 lo)) none none).run Try.prog w' = .ok s w') ∧ ∀ w', Rd w' (.slice (some ⟨b, off, none⟩) len cap) xs → Rd w' s (xs.drop k) := by
  subst hl
  subst hlo
  have hc : xs.length ≤ cap ∧ cap ≤ maxLen := by obtain ⟨a', cap', e, hc, hm, _⟩ := hr; simp only [Value.slice.injEq] at e; exact ⟨by omega, by omega⟩
  refine ⟨_, fun w' => slice_lo b off xs.length cap k hk hc.1 w', fun w' hr' => ?_⟩
  have h0 : Rd w' (.slice (if cap = k then some ⟨b, off, none⟩ else some ⟨b, off + k, none⟩) (xs.length - k) (cap - k)) ((xs.drop k).take (xs.length - k)) := by
    rcases Nat.eq_zero_or_pos xs.length with h0 | h0
    · have hk0 : k = 0 := by omega
      subst hk0
      have hx : xs = [] := List.eq_nil_of_length_eq_zero h0
      subst hx
      obtain ⟨a', cap', e, hc', hm', _⟩ := hr'
      simp only [Value.slice.injEq] at e
      split
      · exact Rd.of_lies (by simp) (by simp) (by omega) (fun i hi => by simp at hi)
      · exact Rd.of_lies (by simp) (by simp) (by omega) (fun i hi => by simp at hi)
    · obtain ⟨b', off', cap', e, hc', hm', hcell⟩ := hr'.lies h0
      simp only [Value.slice.injEq, Option.some.injEq, Addr.mk.injEq, and_true, true_and] at e
      obtain ⟨⟨rfl, rfl⟩, rfl⟩ := e
      exact Rd.part rfl hcell hc' hm' (by omega)
  rwa [List.take_of_length_le (by simp)] at h0

theorem cut_lh {w : World} {b off len cap k h : Nat} {xs : List Int} (hl : xs.length = len) (hr : Rd w (.slice (some ⟨b, off, none⟩) len cap) xs) (h0 : 0 < len) (hk : k ≤ h) (hh : h ≤ len) (lo hi : Int) (hlo : lo = (k : Int)) (hhi : hi = (h : Int)) :
    ∃ s, (∀ w' : World, (Instr.slice 41 (.slice (some ⟨b, off, none⟩) len cap) (some (.int .i64 lo)) (some (.int .i64 hi)) none).run Try.prog w' = .ok s w') ∧ ∀ w', Rd w' (.slice (some ⟨b, off, none⟩) len cap) xs → Rd w' s ((xs.drop k).take (h - k)) := by
  subst hl
  subst hlo
  subst hhi
  have hc : xs.length ≤ cap := by obtain ⟨a', cap', e, hc, hm, _⟩ := hr; simp only [Value.slice.injEq] at e; omega
  refine ⟨_, fun w' => slice_lh b off xs.length cap k h hk (by omega) w', fun w' hr' => ?_⟩
  obtain ⟨b', off', cap', e, hc', hm', hcell⟩ := hr'.lies h0
  simp only [Value.slice.injEq, Option.some.injEq, Addr.mk.injEq, and_true, true_and] at e
  obtain ⟨⟨rfl, rfl⟩, rfl⟩ := e
  exact Rd.part rfl hcell hc' hm' (by omega)

theorem sum_quiet (v : Value) (xs : List Int) (w : World) (n : Nat) (hr : Rd w v xs) : Calls Try.prog 77 #[v] (w.drewN n) fun e w' => e = .returned (.int .u16 (sm xs)) ∧ ∃ m, w' = w.drewN m :=
  (sum_any v xs _ (hr.drewN n)).mono fun _ _ ⟨h1, h2⟩ => ⟨h1, n, h2.symm⟩
theorem two_quiet (v : Value) (xs : List Int) (w : World) (n : Nat) (hr : Rd w v xs) (hy : ∀ x ∈ xs, 0 ≤ x ∧ x ≤ 255) (hl : 2 ≤ xs.length) : Calls Try.prog 83 #[v] (w.drewN n) fun e w' => e = .returned (.int .u16 (tv xs)) ∧ ∃ m, w' = w.drewN m :=
  Calls.quiet_of (two_any v xs _ (hr.drewN n) hy hl)

theorem drop_bytes {xs : List Int} (hy : ∀ x ∈ xs, 0 ≤ x ∧ x ≤ 255) (k : Nat) : ∀ x ∈ xs.drop k, 0 ≤ x ∧ x ≤ 255 := fun x hx => hy x (List.mem_of_mem_drop hx)

theorem Own.base {w : World} {base base' e : Nat} {v : Value} {xs : List Int} (h : Own w base e v xs) (hb : base' ≤ base) : Own w base' e v xs :=
  ⟨h.1, h.2.elim Or.inl (fun ⟨g, cap, cur, hv, hg, r⟩ => Or.inr ⟨g, cap, cur, hv, Nat.le_trans hb hg, r⟩)⟩

set_option maxHeartbeats 1000000 in
theorem open_any (v : Value) (xs : List Int) (w : World) (hr : Rd w v xs) (hy : ∀ x ∈ xs, 0 ≤ x ∧ x ≤ 255) :
    Calls Try.prog 73 #[v] w fun e w' => ∃ u, e = .returned (.tuple #[u, .int .i64 (openS xs).2.1, .int .i64 (openS xs).2.2]) ∧ Own w' w.heap.size 5 u (openS xs).1 ∧ Below w.heap.size w w' := by
  by_cases h4 : xs.length < 4
  · rw [openS_short h4]
    obtain ⟨a, cap, rfl, hc, hm, hnone, hcell⟩ := id hr
    clear hcell hnone
    have h4' : (xs.length : Int) < 4 := by omega
    go_enter Try.func73, Try.ntmps73
    go_wp2
    go_ret3
    exact ⟨_, rfl, own_none _ _, Below.refl _ _⟩
  obtain ⟨b, off, cap, rfl, hc, hm, _⟩ := hr.lies (by omega)
  have h4' : ¬ (xs.length : Int) < 4 := by omega
  have htb := tv_bounds hy
  obtain ⟨n, hn⟩ : ∃ n : Nat, tv xs = n := ⟨(tv xs).toNat, by omega⟩
  have h16 := two_any _ xs w hr hy (by omega)
  rw [hn] at h16 htb
  have hwn : IntKind.i64.wrap (n : Int) = n := by rw [IntKind.wrap_i64]; omega
  by_cases hA : n < 1
  · rw [openS_bad h4 (.inl (by omega))]
    have hA' : (n : Int) < 1 := by omega
    go_enter Try.func73, Try.ntmps73
    go_wp2_with (first
      | (go_at_call 83; refine h16.mono ?_; rintro e w1 ⟨rfl, m, hw1⟩; have r1 := hr.drewN m; have b1 := below_drewN (Below.refl w.heap.size w) m; rw [← hw1] at r1 b1; clear hw1))
    go_quiet (fail)
    go_wp2
    go_ret3
    exact ⟨_, rfl, own_none _ _, below_drewN b1 _⟩
  have hA' : decide ((n : Int) < 1) = false := decide_eq_false (by omega)
  by_cases hB : 14000 < n
  · rw [openS_bad h4 (.inr (.inl (by omega)))]
    have hB' : (n : Int) > 14000 := by omega
    go_enter Try.func73, Try.ntmps73
    go_wp2_with (first
      | (go_at_call 83; refine h16.mono ?_; rintro e w1 ⟨rfl, m, hw1⟩; have r1 := hr.drewN m; have b1 := below_drewN (Below.refl w.heap.size w) m; rw [← hw1] at r1 b1; clear hw1))
    go_quiet (fail)
    go_wp2
    go_ret3
    exact ⟨_, rfl, own_none _ _, below_drewN b1 _⟩
  have hB' : decide (14000 < (n : Int)) = false := decide_eq_false (by omega)
  obtain ⟨s2, es2, rs2⟩ := cut_lo rfl hr (k := 2) (by omega) 2 rfl
  obtain ⟨s3, es3, rs3⟩ := cut_to rfl hr (h := 2) (by omega) 2 rfl
  have q2 := fun w1 (r1 : Rd w1 (.slice (some ⟨b, off, none⟩) xs.length cap) xs) k => two_quiet s2 (xs.drop 2) w1 k (rs2 _ r1) (drop_bytes hy 2) (by simp; omega)
  have q3 := fun w1 (r1 : Rd w1 (.slice (some ⟨b, off, none⟩) xs.length cap) xs) k => sum_quiet s3 (xs.take 2) w1 k (rs3 _ r1)
  obtain ⟨t2, ht2⟩ : ∃ t, t = tv (xs.drop 2) := ⟨_, rfl⟩
  obtain ⟨t3, ht3⟩ : ∃ t, t = sm (xs.take 2) := ⟨_, rfl⟩
  rw [← ht2] at q2
  rw [← ht3] at q3
  by_cases hC : t2 = t3
  case neg =>
    rw [openS_bad h4 (.inr (.inr (by rw [← ht2, ← ht3]; exact hC)))]
    have hC' : (t2 != t3) = true := by simpa using hC
    clear rs2 rs3
    go_enter Try.func73, Try.ntmps73
    go_wp2_with (first
      | (go_at_call 83; refine h16.mono ?_; rintro e w1 ⟨rfl, m, hw1⟩; have r1 := hr.drewN m; have b1 := below_drewN (Below.refl w.heap.size w) m; rw [← hw1] at r1 b1; clear hw1))
    go_quiet (first
      | (exact q2 w1 r1 _)
      | (exact q3 w1 r1 _))
    go_wp2
    go_ret3
    exact ⟨_, rfl, own_none _ _, below_drewN b1 _⟩
  have hC' : (t2 != t3) = false := by simpa using hC
  rw [ht2, ht3] at hC
  have hw4 : IntKind.i64.wrap (4 + (n : Int)) = 4 + n := by rw [IntKind.wrap_i64]; omega
  have hw6 : IntKind.i64.wrap (4 + (n : Int) + 2) = 4 + n + 2 := by rw [IntKind.wrap_i64]; omega
  by_cases hD : xs.length < 4 + n + 2
  · rw [openS_ends h4 (by omega) (by omega) hC (by omega)]
    have hD' : (xs.length : Int) < 4 + n + 2 := by omega
    clear rs2 rs3
    go_enter Try.func73, Try.ntmps73
    go_wp2_with (first
      | (go_at_call 83; refine h16.mono ?_; rintro e w1 ⟨rfl, m, hw1⟩; have r1 := hr.drewN m; have b1 := below_drewN (Below.refl w.heap.size w) m; rw [← hw1] at r1 b1; clear hw1))
    go_quiet (first
      | (exact q2 w1 r1 _)
      | (exact q3 w1 r1 _))
    go_wp2
    go_ret3
    exact ⟨_, rfl, own_none _ _, below_drewN b1 _⟩
  have hD' : ¬ (xs.length : Int) < 4 + n + 2 := by omega
  obtain ⟨s4, es4, rs4⟩ := cut_lo rfl hr (k := 4 + n) (by omega) (4 + (n : Int)) (by omega)
  obtain ⟨s5, es5, rs5⟩ := cut_to rfl hr (h := 4 + n) (by omega) (4 + (n : Int)) (by omega)
  obtain ⟨s6, es6, rs6⟩ := cut_lh rfl hr (k := 4) (h := 4 + n) (by omega) (by omega) (by omega) 4 (4 + (n : Int)) rfl (by omega)
  have q4 := fun w1 (r1 : Rd w1 (.slice (some ⟨b, off, none⟩) xs.length cap) xs) k => two_quiet s4 (xs.drop (4 + n)) w1 k (rs4 _ r1) (drop_bytes hy _) (by simp; omega)
  have q5 := fun w1 (r1 : Rd w1 (.slice (some ⟨b, off, none⟩) xs.length cap) xs) k => sum_quiet s5 (xs.take (4 + n)) w1 k (rs5 _ r1)
  have q6 := fun w1 (r1 : Rd w1 (.slice (some ⟨b, off, none⟩) xs.length cap) xs) => cloneO_any s6 _ w1 (rs6 _ r1) (by simp; omega) (by simp; omega)
  rw [show 4 + n - 4 = n by omega] at q6
  obtain ⟨t4, ht4⟩ : ∃ t, t = tv (xs.drop (4 + n)) := ⟨_, rfl⟩
  obtain ⟨t5, ht5⟩ : ∃ t, t = sm (xs.take (4 + n)) := ⟨_, rfl⟩
  rw [← ht4] at q4
  rw [← ht5] at q5
  clear rs2 rs3 rs4 rs5 rs6
  by_cases hE : t4 = t5
  case neg =>
    rw [openS_sum h4 hn (by omega) (by omega) hC (by omega) (by rw [← ht4, ← ht5]; exact hE)]
    have hE' : (t4 != t5) = true := by simpa using hE
    go_enter Try.func73, Try.ntmps73
    go_wp2_with (first
      | (go_at_call 83; refine h16.mono ?_; rintro e w1 ⟨rfl, m, hw1⟩; have r1 := hr.drewN m; have b1 := below_drewN (Below.refl w.heap.size w) m; rw [← hw1] at r1 b1; clear hw1))
    go_quiet (first
      | (exact q2 w1 r1 _)
      | (exact q3 w1 r1 _))
    have r2 := r1.drewN nq
    have b2 := below_drewN b1 nq
    generalize w1.drewN nq = w2 at r2 b2 ⊢
    go_wp2
    go_quiet (first
      | (exact q4 w2 r2 _)
      | (exact q5 w2 r2 _))
    go_wp2
    go_ret3
    exact ⟨_, rfl, own_none _ _, below_drewN b2 _⟩
  have hE' : (t4 != t5) = false := by simpa using hE
  rw [ht4, ht5] at hE
  rw [openS_ok h4 hn (by omega) (by omega) hC (by omega) hE]
  go_enter Try.func73, Try.ntmps73
  go_wp2_with (first
    | (go_at_call 83; refine h16.mono ?_; rintro e w1 ⟨rfl, m, hw1⟩; have r1 := hr.drewN m; have b1 := below_drewN (Below.refl w.heap.size w) m; rw [← hw1] at r1 b1; clear hw1))
  go_quiet (first
    | (exact q2 w1 r1 _)
    | (exact q3 w1 r1 _))
  have r2 := r1.drewN nq
  have b2 := below_drewN b1 nq
  generalize w1.drewN nq = w2 at r2 b2 ⊢
  go_wp2
  go_quiet (first
    | (exact q4 w2 r2 _)
    | (exact q5 w2 r2 _))
  have r3 := r2.drewN nq
  have b3 := below_drewN b2 nq
  generalize w2.drewN nq = w3 at r3 b3 ⊢
  go_wp2_with (first
    | (go_at_call 59; refine (q6 w3 r3).mono ?_; rintro e w4 ⟨u4, rfl, o4, b4⟩))
  go_ret3
  refine ⟨u4, ?_, o4.base b3.size, b3.trans (b4.mono b3.size)⟩
  show Ending.returned (.tuple #[u4, .int .i64 (4 + (n : Int) + 2), .int .i64 0]) = _
  rw [show (4 : Int) + n + 2 = n + 6 by omega]
end Go.Proofs.Ytpblcahcpobicaa

/- Sums are of 16 bits, and a byte that is another makes another sum. -/
namespace Go.Proofs.Ytpblcahcpobicaa
open Go.RowKit
set_option linter.unusedSimpArgs false
set_option linter.unusedVariables false

def In16 (s : Int) : Prop := 0 ≤ s ∧ s < 65536

def fN (s : Nat) : Nat := if 32768 ≤ s then (2 * s - 65536) ^^^ 4129 else 2 * s

theorem and_top (s : Nat) (h : s < 65536) : s &&& 32768 = if 32768 ≤ s then 32768 else 0 := by
  apply Nat.eq_of_testBit_eq
  intro i
  rw [Nat.testBit_and, show (32768 : Nat) = 2 ^ 15 by decide]
  by_cases hi : i = 15
  · subst hi
    rw [Nat.testBit_eq_decide_div_mod_eq]
    by_cases hs : 2 ^ 15 ≤ s
    · rw [if_pos hs]
      have : s / 2 ^ 15 % 2 = 1 := by omega
      rw [this]; simp
    · rw [if_neg hs]
      have : s / 2 ^ 15 % 2 = 0 := by omega
      rw [this]; simp
  · have e : Nat.testBit (2 ^ 15) i = false := by rw [Nat.testBit_two_pow]; simp; omega
    rw [e]
    by_cases hs : 2 ^ 15 ≤ s
    · rw [if_pos hs, e]; simp
    · rw [if_neg hs]; simp

theorem stp_nat (s : Nat) (h : s < 65536) : stpC (s : Int) = (fN s : Nat) := by
  have ha : bits .and .u16 (s : Int) 32768 = ((s &&& 32768 : Nat) : Int) := u16_and_nat s 32768 h (by decide)
  have hw : IntKind.u16.wrap ((s : Int) * 2) = ((2 * s % 65536 : Nat) : Int) := by rw [IntKind.wrap_u16]; omega
  rw [and_top s h] at ha
  unfold fN
  by_cases ht : 32768 ≤ s
  · rw [if_pos ht] at ha ⊢
    rw [stp_yes (by rw [ha]; rfl), hw]
    have e : 2 * s % 65536 = 2 * s - 65536 := by omega
    rw [e]
    exact u16_xor_nat (2 * s - 65536) 4129 (by omega) (by decide)
  · rw [if_neg ht] at ha ⊢
    rw [stp_no (by rw [ha]; rfl), hw]
    congr 1
    omega

theorem fN_lt {s : Nat} (h : s < 65536) : fN s < 65536 := by
  unfold fN
  split
  · exact Nat.xor_lt_two_pow (n := 16) (by omega) (by decide)
  · omega

theorem nat_of {s : Int} (h : In16 s) : ∃ n : Nat, s = n ∧ n < 65536 := ⟨s.toNat, by have := h.1; omega, by have := h.2; have := h.1; omega⟩
theorem in_of {n : Nat} (h : n < 65536) : In16 (n : Int) := ⟨by omega, by omega⟩

theorem stp_in {s : Int} (h : In16 s) : In16 (stpC s) := by
  obtain ⟨n, rfl, hn⟩ := nat_of h
  rw [stp_nat n hn]
  exact in_of (fN_lt hn)
theorem stps_in : ∀ (k : Nat) {s : Int}, In16 s → In16 (stps k s)
  | 0, _, h => h
  | k + 1, _, h => stps_in k (stp_in h)
/-- What a byte is xored into. -/
theorem mix_nat (s c : Nat) (hs : s < 65536) (hc : c < 256) : bits .xor .u16 (s : Int) (IntKind.u16.wrap (IntKind.u16.wrap (c : Int) * 256)) = ((s ^^^ c * 256 : Nat) : Int) := by
  have e : IntKind.u16.wrap (IntKind.u16.wrap (c : Int) * 256) = ((c * 256 : Nat) : Int) := by rw [IntKind.wrap_u16, IntKind.wrap_u16]; omega
  rw [e]
  exact u16_xor_nat s (c * 256) hs (by omega)
theorem smd_nat (s c : Nat) (hs : s < 65536) (hc : c < 256) : smd (s : Int) (c : Int) = stps 8 ((s ^^^ c * 256 : Nat) : Int) := by
  rw [← smd_start, mix_nat s c hs hc]
theorem mix_lt {s c : Nat} (hs : s < 65536) (hc : c < 256) : s ^^^ c * 256 < 65536 := Nat.xor_lt_two_pow (n := 16) hs (by omega)

theorem byte_nat {c : Int} (h : 0 ≤ c ∧ c ≤ 255) : ∃ n : Nat, c = n ∧ n < 256 := ⟨c.toNat, by omega, by omega⟩
theorem smd_in {s c : Int} (hs : In16 s) (hc : 0 ≤ c ∧ c ≤ 255) : In16 (smd s c) := by
  obtain ⟨m, rfl, hm⟩ := nat_of hs
  obtain ⟨n, rfl, hn⟩ := byte_nat hc
  rw [smd_nat m n hm hn]
  exact stps_in 8 (in_of (mix_lt hm hn))
theorem smF_in : ∀ (xs : List Int) {s : Int}, In16 s → (∀ x ∈ xs, 0 ≤ x ∧ x ≤ 255) → In16 (smF s xs)
  | [], _, h, _ => h
  | c :: r, _, h, hy => smF_in r (smd_in h (hy c (by simp))) (fun x hx => hy x (by simp [hx]))
theorem sm_in {xs : List Int} (hy : ∀ x ∈ xs, 0 ≤ x ∧ x ≤ 255) : In16 (sm xs) := smF_in xs ⟨by decide, by decide⟩ hy
end Go.Proofs.Ytpblcahcpobicaa

/- What the document's Open does. -/
namespace Go.Proofs.Ytpblcahcpobicaa
open Go.RowKit
set_option linter.unusedSimpArgs false
set_option linter.unusedVariables false
set_option maxRecDepth 100000
attribute [local go_sem ↓] Go.wp_at_zero Go.wp_at_succ

theorem or_i64 {x0 x1 : Int} (g0 : 0 ≤ x0 ∧ x0 ≤ 255) (g1 : 0 ≤ x1 ∧ x1 ≤ 255) : bits .or .i64 (x0 * 256) x1 = x0 * 256 + x1 := by
  obtain ⟨m, rfl⟩ : ∃ m : Nat, x0 = m := ⟨x0.toNat, by omega⟩
  obtain ⟨n, rfl⟩ : ∃ n : Nat, x1 = n := ⟨x1.toNat, by omega⟩
  show IntKind.i64.wrap ((BitVec.ofInt 64 ((m : Int) * 256) ||| BitVec.ofInt 64 (n : Int)).toNat : Nat) = _
  rw [BitVec.toNat_or, BitVec.toNat_ofInt, BitVec.toNat_ofInt]
  have e1 : (((m : Int) * 256) % ((2 ^ 64 : Nat) : Int)).toNat = m * 256 := by omega
  have e2 : ((n : Int) % ((2 ^ 64 : Nat) : Int)).toNat = n := by omega
  rw [e1, e2, or_two m n (by omega), IntKind.wrap_i64]
  omega

theorem byte_inj {a b : Int} (ha : 0 ≤ a ∧ a ≤ 255) (hb : 0 ≤ b ∧ b ≤ 255) (h : UInt8.ofNat a.toNat = UInt8.ofNat b.toNat) : a = b := by
  have := congrArg UInt8.toNat h
  simp at this
  omega

theorem str_inj : ∀ {xs ys : List Int}, (∀ x ∈ xs, 0 ≤ x ∧ x ≤ 255) → (∀ x ∈ ys, 0 ≤ x ∧ x ≤ 255) → xs.map (fun n => UInt8.ofNat n.toNat) = ys.map (fun n => UInt8.ofNat n.toNat) → xs = ys
  | [], [], _, _, _ => rfl
  | [], _ :: _, _, _, h => by simp at h
  | _ :: _, [], _, _, h => by simp at h
  | a :: r, b :: t, hx, hy, h => by
    simp only [List.map_cons, List.cons.injEq] at h
    rw [byte_inj (hx a (by simp)) (hy b (by simp)) h.1, str_inj (fun x h => hx x (by simp [h])) (fun x h => hy x (by simp [h])) h.2]

theorem str_beq {xs ys : List Int} (hx : ∀ x ∈ xs, 0 ≤ x ∧ x ≤ 255) (hy : ∀ x ∈ ys, 0 ≤ x ∧ x ≤ 255) : ((strOfNums xs).toList == (strOfNums ys).toList) = decide (xs = ys) := by
  by_cases h : xs = ys
  · subst h; simp
  · rw [decide_eq_false h, ByteArray.toList_eq, ByteArray.toList_eq]
    exact beq_eq_false_iff_ne.2 fun e => h (str_inj hx hy e)

theorem tw_bytes (n : Int) : ∀ x ∈ tw n, 0 ≤ x ∧ x ≤ 255 := by
  intro x hx
  simp only [tw, List.mem_cons, List.not_mem_nil, or_false] at hx
  rcases hx with rfl | rfl <;> rw [IntKind.wrap_u8] <;> omega

theorem tw_tv {m : Int} (hm : In16 m) {ys : List Int} (hy : ∀ x ∈ ys, 0 ≤ x ∧ x ≤ 255) (hl : 2 ≤ ys.length) : (tw m = ys.take 2) = (tv ys = m) := by
  match ys, hl with
  | a :: b :: r, _ =>
    have ha := hy a (by simp)
    have hb := hy b (by simp)
    obtain ⟨h0, h1⟩ := hm
    have e1 : IntKind.u8.wrap (m / 256) = m / 256 := by rw [IntKind.wrap_u8]; omega
    have e2 : IntKind.u8.wrap m = m % 256 := by rw [IntKind.wrap_u8]
    simp only [tw, tv, e1, e2, List.take, List.cons.injEq, and_true, List.getD_cons_zero, List.getD_cons_succ]
    apply propext
    constructor
    · rintro ⟨rfl, rfl⟩; omega
    · intro h; constructor <;> omega

theorem str_two {m : Int} (hm : In16 m) {ys : List Int} (hy : ∀ x ∈ ys, 0 ≤ x ∧ x ≤ 255) (hl : 2 ≤ ys.length) : ((strOfNums (tw m)).toList == (strOfNums (ys.take 2)).toList) = decide (tv ys = m) := by
  rw [str_beq (tw_bytes m) (fun x hx => hy x (List.mem_of_mem_take hx))]
  simp only [tw_tv hm hy hl]

theorem take_bytes {xs : List Int} (hy : ∀ x ∈ xs, 0 ≤ x ∧ x ≤ 255) (k : Nat) : ∀ x ∈ xs.take k, 0 ≤ x ∧ x ≤ 255 := fun x hx => hy x (List.mem_of_mem_take hx)

set_option maxHeartbeats 1000000 in
theorem refOpen_any (v : Value) (xs : List Int) (w : World) (hr : Rd w v xs) (hy : ∀ x ∈ xs, 0 ≤ x ∧ x ≤ 255) :
    Calls Try.prog 84 #[v] w fun e w' => ∃ u, e = .returned (.tuple #[u, .int .i64 (openS xs).2.1, .int .i64 (openS xs).2.2]) ∧ Own w' w.heap.size 5 u (openS xs).1 ∧ Below w.heap.size w w' := by
  by_cases h4 : xs.length < 4
  · rw [openS_short h4]
    obtain ⟨a, cap, rfl, hc, hm, hnone, hcell⟩ := id hr
    clear hcell hnone
    have h4' : (xs.length : Int) < 4 := by omega
    go_enter Try.func84, Try.ntmps84
    go_wp2
    go_ret3
    exact ⟨_, rfl, own_none _ _, Below.refl _ _⟩
  obtain ⟨b, off, cap, rfl, hc, hm, hcell⟩ := hr.lies (by omega)
  have h4' : ¬ (xs.length : Int) < 4 := by omega
  have c0 := hcell 0 (by omega)
  have c1 := hcell 1 (by omega)
  rw [Nat.add_zero] at c0
  have g0 := getD_bytes hy 0
  have g1 := getD_bytes hy 1
  have hv := or_i64 g0 g1
  have hn' : xs.getD 0 0 * 256 + xs.getD 1 0 = tv xs := rfl
  have htb := tv_bounds hy
  obtain ⟨n, hn⟩ : ∃ n : Nat, tv xs = n := ⟨(tv xs).toNat, by omega⟩
  rw [hn', hn] at hv
  obtain ⟨x0, hx0⟩ : ∃ x, x = xs.getD 0 0 := ⟨_, rfl⟩
  obtain ⟨x1, hx1⟩ : ∃ x, x = xs.getD 1 0 := ⟨_, rfl⟩
  rw [← hx0] at c0 g0 hv
  rw [← hx1] at c1 g1 hv
  rw [hn] at htb
  clear hcell hx0 hx1 hn'
  have hl' : (1 : Int) < (xs.length : Int) := by omega
  have hl'' : (0 : Int) < (xs.length : Int) := by omega
  by_cases hA : n < 1
  · rw [openS_bad h4 (.inl (by omega))]
    have hA' : (n : Int) < 1 := by omega
    go_enter Try.func84, Try.ntmps84
    go_wp2
    go_quiet (fail)
    have b1 := below_drewN (Below.refl w.heap.size w) nq
    generalize w.drewN nq = w1 at b1 ⊢
    go_wp2
    go_quiet (fail)
    go_wp2
    go_ret3
    exact ⟨_, rfl, own_none _ _, below_drewN b1 _⟩
  have hA' : decide ((n : Int) < 1) = false := decide_eq_false (by omega)
  by_cases hB : 14000 < n
  · rw [openS_bad h4 (.inr (.inl (by omega)))]
    have hB' : (n : Int) > 14000 := by omega
    go_enter Try.func84, Try.ntmps84
    go_wp2
    go_quiet (fail)
    have b1 := below_drewN (Below.refl w.heap.size w) nq
    generalize w.drewN nq = w1 at b1 ⊢
    go_wp2
    go_quiet (fail)
    go_wp2
    go_ret3
    exact ⟨_, rfl, own_none _ _, below_drewN b1 _⟩
  have hB' : decide (14000 < (n : Int)) = false := decide_eq_false (by omega)
  obtain ⟨s2, es2, rs2⟩ := cut_lh rfl hr (k := 2) (h := 4) (by omega) (by omega) (by omega) 2 4 rfl rfl
  obtain ⟨s3, es3, rs3⟩ := cut_to rfl hr (h := 2) (by omega) 2 rfl
  have hst := str_two (sm_in (take_bytes hy 2)) (drop_bytes hy 2) (by simp; omega)
  have cv2 := fun w1 r1 => rd_conv (rs2 w1 r1)
  have q3 := fun w1 r1 => refSum_any s3 _ w1 (rs3 w1 r1)
  obtain ⟨t3, ht3⟩ : ∃ t, t = sm (xs.take 2) := ⟨_, rfl⟩
  obtain ⟨B, hB2⟩ : ∃ B, B = strOfNums ((xs.drop 2).take 2) := ⟨_, rfl⟩
  obtain ⟨A, hA2⟩ : ∃ A, A = strOfNums (tw t3) := ⟨_, rfl⟩
  rw [← ht3] at q3 hst
  rw [← hA2, ← hB2] at hst
  rw [show 4 - 2 = 2 by omega, ← hB2] at cv2
  clear rs2 rs3
  have HT3 : Hid (t3 = sm (xs.take 2)) := ht3
  have HA2 : Hid (A = strOfNums (tw t3)) := hA2
  clear ht3 hA2 hB2
  by_cases hC : tv (xs.drop 2) = t3
  case neg =>
    rw [openS_bad h4 (.inr (.inr (by rw [← HT3.out]; exact hC)))]
    rw [decide_eq_false hC] at hst
    go_enter Try.func84, Try.ntmps84
    go_wp2
    go_quiet (fail)
    have b1 := below_drewN (Below.refl w.heap.size w) nq
    have r1 := hr.drewN nq
    generalize w.drewN nq = w1 at b1 r1 ⊢
    go_wp2
    have d1 := r1.below (Below.drew (Below.refl w1.heap.size w1)) (Nat.le_refl _)
    have e1 := b1.trans (Below.drew (Below.refl w.heap.size w1))
    go_region_held (fun w' => Rd w' (.slice (some ⟨b, off, none⟩) xs.length cap) xs ∧ Below w.heap.size w w' ∧ (convert 41 9 s2).run Try.prog w' = .ok (.string B) w')
      (first
        | exact ⟨d1, e1, cv2 _ d1⟩
        | exact ⟨r2, b2, cv2 _ r2⟩)
      (first
        | (go_at_call 79; refine (q3 _ d1).mono ?_; rintro e w' ⟨rfl, rfl⟩)
        | (go_at_call 78; refine (refTwo_any t3 w1.drew).mono ?_; rintro e w2 ⟨v2, rfl, o2, hb2⟩; have b2 := e1.trans (hb2.mono e1.size); have r2 := d1.below hb2 (Nat.le_refl _); have k2 := rd_conv o2.rd; rw [← HA2.out] at k2))
    all_goals go_wp2
    all_goals go_ret3
    all_goals exact ⟨_, rfl, own_none _ _, b2⟩
  rw [decide_eq_true hC] at hst
  rw [HT3.out] at hC
  obtain ⟨i0, hi, hz0, hz1, hz2⟩ := info_parts Try.info5
  have hw4 : IntKind.i64.wrap (4 + (n : Int)) = 4 + n := by rw [IntKind.wrap_i64]; omega
  have hw6 : IntKind.i64.wrap (6 + (n : Int)) = 6 + n := by rw [IntKind.wrap_i64]; omega
  by_cases hD : xs.length < 6 + n
  · rw [openS_ends h4 (by omega) (by omega) hC (by omega)]
    have hD' : (xs.length : Int) < 6 + n := by omega
    clear hC
    go_enter Try.func84, Try.ntmps84
    go_wp2
    go_quiet (fail)
    have b1 := below_drewN (Below.refl w.heap.size w) nq
    have r1 := hr.drewN nq
    generalize w.drewN nq = w1 at b1 r1 ⊢
    go_wp2
    have d1 := r1.below (Below.drew (Below.refl w1.heap.size w1)) (Nat.le_refl _)
    have e1 := b1.trans (Below.drew (Below.refl w.heap.size w1))
    go_region_held (fun w' => Rd w' (.slice (some ⟨b, off, none⟩) xs.length cap) xs ∧ Below w.heap.size w w' ∧ (convert 41 9 s2).run Try.prog w' = .ok (.string B) w')
      (first
        | exact ⟨d1, e1, cv2 _ d1⟩
        | exact ⟨r2, b2, cv2 _ r2⟩)
      (first
        | (go_at_call 79; refine (q3 _ d1).mono ?_; rintro e w' ⟨rfl, rfl⟩)
        | (go_at_call 78; refine (refTwo_any t3 w1.drew).mono ?_; rintro e w2 ⟨v2, rfl, o2, hb2⟩; have b2 := e1.trans (hb2.mono e1.size); have r2 := d1.below hb2 (Nat.le_refl _); have k2 := rd_conv o2.rd; rw [← HA2.out] at k2))
    all_goals go_wp2
    all_goals go_ret3
    all_goals exact ⟨_, rfl, own_none _ _, b2⟩
  have hD' : ¬ (xs.length : Int) < 6 + n := by omega
  obtain ⟨s5, es5, rs5⟩ := cut_to rfl hr (h := 4 + n) (by omega) (4 + (n : Int)) (by omega)
  obtain ⟨s4, es4, rs4⟩ := cut_lh rfl hr (k := 4 + n) (h := 6 + n) (by omega) (by omega) (by omega) (4 + (n : Int)) (6 + (n : Int)) (by omega) (by omega)
  obtain ⟨s6, es6, rs6⟩ := cut_lh rfl hr (k := 4) (h := 4 + n) (by omega) (by omega) (by omega) 4 (4 + (n : Int)) rfl (by omega)
  have hst5 := str_two (sm_in (take_bytes hy (4 + n))) (drop_bytes hy (4 + n)) (by simp; omega)
  have cv4 := fun w1 r1 => rd_conv (rs4 w1 r1)
  have q5 := fun w1 r1 => refSum_any s5 _ w1 (rs5 w1 r1)
  rw [show 4 + n - 4 = n by omega] at rs6
  have hl6 : ((xs.drop 4).take n).length = n := by simp; omega
  obtain ⟨t5, ht5⟩ : ∃ t, t = sm (xs.take (4 + n)) := ⟨_, rfl⟩
  obtain ⟨D, hD2⟩ : ∃ D, D = strOfNums ((xs.drop (4 + n)).take 2) := ⟨_, rfl⟩
  obtain ⟨C, hC2⟩ : ∃ C, C = strOfNums (tw t5) := ⟨_, rfl⟩
  rw [← ht5] at q5 hst5
  rw [← hC2, ← hD2] at hst5
  rw [show 6 + n - (4 + n) = 2 by omega, ← hD2] at cv4
  have HT5 : Hid (t5 = sm (xs.take (4 + n))) := ht5
  have HC2 : Hid (C = strOfNums (tw t5)) := hC2
  have HL6 : Hid (((xs.drop 4).take n).length = n) := hl6
  clear ht5 hC2 hD2 rs4 rs5 hl6
  by_cases hE : tv (xs.drop (4 + n)) = t5
  case neg =>
    rw [openS_sum h4 hn (by omega) (by omega) hC (by omega) (by rw [← HT5.out]; exact hE)]
    rw [decide_eq_false hE] at hst5
    clear hC rs6
    go_enter Try.func84, Try.ntmps84
    go_wp2
    go_quiet (fail)
    have b1 := below_drewN (Below.refl w.heap.size w) nq
    have r1 := hr.drewN nq
    generalize w.drewN nq = w1 at b1 r1 ⊢
    go_wp2
    have d1 := r1.below (Below.drew (Below.refl w1.heap.size w1)) (Nat.le_refl _)
    have e1 := b1.trans (Below.drew (Below.refl w.heap.size w1))
    go_region_held (fun w' => Rd w' (.slice (some ⟨b, off, none⟩) xs.length cap) xs ∧ Below w.heap.size w w' ∧ (convert 41 9 s2).run Try.prog w' = .ok (.string B) w')
      (first
        | exact ⟨d1, e1, cv2 _ d1⟩
        | exact ⟨r2, b2, cv2 _ r2⟩)
      (first
        | (go_at_call 79; refine (q3 _ d1).mono ?_; rintro e w' ⟨rfl, rfl⟩)
        | (go_at_call 78; refine (refTwo_any t3 w1.drew).mono ?_; rintro e w2 ⟨v2, rfl, o2, hb2⟩; have b2 := e1.trans (hb2.mono e1.size); have r2 := d1.below hb2 (Nat.le_refl _); have k2 := rd_conv o2.rd; rw [← HA2.out] at k2))
    clear k2
    go_wp2
    have d2 := r2.below (Below.drew (Below.refl w2.heap.size w2)) (Nat.le_refl _)
    have e2 := b2.trans (Below.drew (Below.refl w.heap.size w2))
    go_region_held (fun w' => Rd w' (.slice (some ⟨b, off, none⟩) xs.length cap) xs ∧ Below w.heap.size w w' ∧ (convert 41 9 s4).run Try.prog w' = .ok (.string D) w')
      (first
        | exact ⟨d2, e2, cv4 _ d2⟩
        | exact ⟨r3, b3, cv4 _ r3⟩)
      (first
        | (go_at_call 79; refine (q5 _ d2).mono ?_; rintro e w' ⟨rfl, rfl⟩)
        | (go_at_call 78; refine (refTwo_any t5 w2.drew).mono ?_; rintro e w3 ⟨v3, rfl, o3, hb3⟩; have b3 := e2.trans (hb3.mono e2.size); have r3 := d2.below hb3 (Nat.le_refl _); have k3 := rd_conv o3.rd; rw [← HC2.out] at k3))
    all_goals go_wp2
    all_goals go_ret3
    all_goals exact ⟨_, rfl, own_none _ _, b3⟩
  rw [decide_eq_true hE] at hst5
  rw [HT5.out] at hE
  rw [openS_ok h4 hn (by omega) (by omega) hC (by omega) hE]
  clear hC hE
  go_enter Try.func84, Try.ntmps84
  go_wp2
  go_quiet (fail)
  have b1 := below_drewN (Below.refl w.heap.size w) nq
  have r1 := hr.drewN nq
  generalize w.drewN nq = w1 at b1 r1 ⊢
  go_wp2
  have d1 := r1.below (Below.drew (Below.refl w1.heap.size w1)) (Nat.le_refl _)
  have e1 := b1.trans (Below.drew (Below.refl w.heap.size w1))
  go_region_held (fun w' => Rd w' (.slice (some ⟨b, off, none⟩) xs.length cap) xs ∧ Below w.heap.size w w' ∧ (convert 41 9 s2).run Try.prog w' = .ok (.string B) w')
    (first
      | exact ⟨d1, e1, cv2 _ d1⟩
      | exact ⟨r2, b2, cv2 _ r2⟩)
    (first
      | (go_at_call 79; refine (q3 _ d1).mono ?_; rintro e w' ⟨rfl, rfl⟩)
      | (go_at_call 78; refine (refTwo_any t3 w1.drew).mono ?_; rintro e w2 ⟨v2, rfl, o2, hb2⟩; have b2 := e1.trans (hb2.mono e1.size); have r2 := d1.below hb2 (Nat.le_refl _); have k2 := rd_conv o2.rd; rw [← HA2.out] at k2))
  clear k2
  go_wp2
  have d2 := r2.below (Below.drew (Below.refl w2.heap.size w2)) (Nat.le_refl _)
  have e2 := b2.trans (Below.drew (Below.refl w.heap.size w2))
  go_region_held (fun w' => Rd w' (.slice (some ⟨b, off, none⟩) xs.length cap) xs ∧ Below w.heap.size w w' ∧ (convert 41 9 s4).run Try.prog w' = .ok (.string D) w')
    (first
      | exact ⟨d2, e2, cv4 _ d2⟩
      | exact ⟨r3, b3, cv4 _ r3⟩)
    (first
      | (go_at_call 79; refine (q5 _ d2).mono ?_; rintro e w' ⟨rfl, rfl⟩)
      | (go_at_call 78; refine (refTwo_any t5 w2.drew).mono ?_; rintro e w3 ⟨v3, rfl, o3, hb3⟩; have b3 := e2.trans (hb3.mono e2.size); have r3 := d2.below hb3 (Nat.le_refl _); have k3 := rd_conv o3.rd; rw [← HC2.out] at k3))
  clear k3
  go_wp2_with (first
    | (at_builtin; refine wpList_append_both _ rfl (.tmp 56) (.tmp 60) 41 41 rfl w3.heap.size 5 i0 (.int .u8 0) 1 1 Try.underlying41 hi hz0 hz1 hz2 rfl _ 0 [] rfl (own_nil w3) _ n _ rfl (rd_src (rs6 w3 r3) HL6.out _) n (.inr (by omega)) (Nat.le_refl _) (by unfold maxLen; omega) (by simp) ?_))
  intro v4 w4 ho4 hg4 _
  have o4 : Own w4 w3.heap.size 5 v4 ((xs.drop 4).take n) := by unfold Own; rw [HL6.out, List.map_take, List.map_drop]; exact ho4
  have b4 := bel_first hg4
  clear ho4 hg4
  go_wp2
  go_ret3
  refine ⟨v4, ?_, o4.base b3.size, b3.trans (b4.mono b3.size)⟩
  show Ending.returned (.tuple #[v4, .int .i64 (6 + (n : Int)), .int .i64 0]) = _
  rw [show (6 : Int) + n = n + 6 by omega]
end Go.Proofs.Ytpblcahcpobicaa

/- Expressions as trees: what the document says of them. Math alone. -/
namespace Go.Proofs.Ytpblcahcpobicaa
set_option linter.unusedSimpArgs false
set_option linter.unusedVariables false

/-- Trees at most so many parts deep: a kind, a number, a text, parts. -/
def T : Nat → Type
  | 0 => Empty
  | d + 1 => Int × Int × ByteArray × List (T d)
abbrev mkT {d : Nat} (k n : Int) (s : ByteArray) (ps : List (T d)) : T (d + 1) := ((k, n, s, ps) : Int × Int × ByteArray × List (T d))
theorem T.open {d : Nat} (t : T (d + 1)) : ∃ k n s ps, t = mkT k n s ps := by
  have t' : Int × Int × ByteArray × List (T d) := t
  exact ⟨(show Int × Int × ByteArray × List (T d) from t).1, (show Int × Int × ByteArray × List (T d) from t).2.1, (show Int × Int × ByteArray × List (T d) from t).2.2.1, (show Int × Int × ByteArray × List (T d) from t).2.2.2, rfl⟩
/-- A function of trees, by what it makes of a node and of its parts. -/
def fold {α : Type} (f : Int → Int → ByteArray → List α → α) : (d : Nat) → T d → α
  | 0, t => Empty.elim t
  | d + 1, t => f (show Int × Int × ByteArray × List (T d) from t).1 (show Int × Int × ByteArray × List (T d) from t).2.1 (show Int × Int × ByteArray × List (T d) from t).2.2.1 (((show Int × Int × ByteArray × List (T d) from t).2.2.2).map (fold f d))
theorem fold_mk {α : Type} (f : Int → Int → ByteArray → List α → α) {d : Nat} (k n : Int) (s : ByteArray) (ps : List (T d)) : fold f (d + 1) (mkT k n s ps) = f k n s (ps.map (fold f d)) := rfl

/-- How many nodes there are in all. -/
def cnt : (d : Nat) → T d → Nat := fold (fun _ _ _ l => l.sum + 1)
/-- A node that is none. -/
def none0 {d : Nat} : T (d + 1) := mkT 0 0 ⟨#[]⟩ []
/-- Clean: as many parts as its kind has, and nothing else. -/
def Cl : (d : Nat) → T d → Prop
  | 0, t => Empty.elim t
  | d + 1, t =>
    let x := (show Int × Int × ByteArray × List (T d) from t)
    (x.1 = 1 ∧ x.2.2.1 = ⟨#[]⟩ ∧ x.2.2.2 = []) ∨ (x.1 = 2 ∧ x.2.1 = 0 ∧ x.2.2.2 = []) ∨ ((x.1 = 3 ∨ x.1 = 4) ∧ x.2.1 = 0 ∧ x.2.2.1 = ⟨#[]⟩ ∧ ∃ p, x.2.2.2 = [p] ∧ Cl d p) ∨
    (x.1 = 5 ∧ x.2.1 = 0 ∧ ∃ p q, x.2.2.2 = [p, q] ∧ Cl d p ∧ Cl d q) ∨ (x.1 = 0 ∧ x.2.1 = 0 ∧ x.2.2.1 = ⟨#[]⟩ ∧ x.2.2.2 = [])
theorem Cl.cases {d : Nat} {t : T (d + 1)} (h : Cl (d + 1) t) : (∃ n, t = mkT 1 n ⟨#[]⟩ []) ∨ (∃ s, t = mkT 2 0 s []) ∨ (∃ k p, (k = 3 ∨ k = 4) ∧ t = mkT k 0 ⟨#[]⟩ [p] ∧ Cl d p) ∨
    (∃ s p q, t = mkT 5 0 s [p, q] ∧ Cl d p ∧ Cl d q) ∨ t = none0 := by
  obtain ⟨k, n, s, ps, rfl⟩ := T.open t
  rcases h with ⟨h1, h2, h3⟩ | ⟨h1, h2, h3⟩ | ⟨h1, h2, h3, p, h4, h5⟩ | ⟨h1, h2, p, q, h3, h4, h5⟩ | ⟨h1, h2, h3, h4⟩
  · left; exact ⟨n, by simp only at h1 h2 h3; subst h1 h2 h3; rfl⟩
  · right; left; exact ⟨s, by simp only at h1 h2 h3; subst h1 h2 h3; rfl⟩
  · right; right; left; exact ⟨k, p, h1, by simp only at h2 h3 h4; subst h2 h3 h4; rfl, h5⟩
  · right; right; right; left; exact ⟨s, p, q, by simp only at h1 h2 h3; subst h1 h2 h3; rfl, h4, h5⟩
  · right; right; right; right; simp only at h1 h2 h3 h4; subst h1 h2 h3 h4; rfl
theorem cl_none {d : Nat} : Cl (d + 1) (none0 : T (d + 1)) := .inr (.inr (.inr (.inr ⟨rfl, rfl, rfl, rfl⟩)))
end Go.Proofs.Ytpblcahcpobicaa
