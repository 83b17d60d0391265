import Derived.Test.YtifgbioacknjpaaGreatDoorWsc07
import Derived.Lib.FrozenHead
import Derived.Lib.OthersKept
import Derived.Shelf.Strings.Repeat
import Derived.Test.YtifgbioacknjpaaGreatDoorRows
import Derived.Test.YtifgbioacknjpaaGreatDoorWsc06
import Derived.Test.YtifgbioacknjpaaGreatDoorWsc05
import Derived.Shelf.LaysM
import Derived.Shelf.Strconv.Itoa4
import Derived.Deep.RegionHeldLaw
import Derived.Test.YtifgbioacknjpaaGreatDoorWsc02
import Derived.Deep.Slices
import Derived.ProofKit
import Derived.OpenShut
import Derived.ShutString
import Derived.ChangeOld
import Derived.SizedLaws
import Derived.Below
import Derived.Lib.ParseIntBCases
import Derived.Lib.AtoiAll

/- A strings.Builder that lies in package show's writer: what its methods do. -/
namespace Go.Proofs.YtifgbioacknjpaaGreatDoor
open Go.RowKit Go.Lib
set_option linter.unusedSimpArgs false
set_option linter.unusedVariables false
attribute [local go_sem ↓] Go.wp_at_zero Go.wp_at_succ

theorem Tryz.sizeSB : (Tryz.prog.info? 72).map (·.size) = some 2 := by kernel_rfl
theorem Tryz.liesSB : liesAt Tryz.prog Tryz.prog.depth 74 (2 / Tryz.prog.cellsOf 74) 0 72 1 = true := by kernel_rfl
theorem Tryz.undPB : Tryz.prog.underlying 69 = some (.pointer 72) := by kernel_rfl
set_option maxHeartbeats 1000000 in
set_option maxRecDepth 100000 in
theorem wCheck_used (b : Nat) (w : World) (h0 : w.cell? ⟨b, 0, none⟩ = some (.pointer (some ⟨b, 0, none⟩))) :
    Calls Tryz.prog 157 #[.pointer (some ⟨b, 0, none⟩)] w fun e w' => e = .returned (.tuple #[]) ∧ w' = w := by
  obtain ⟨j, hj, _⟩ := Option.map_eq_some_iff.1 Tryz.sizeSB
  go_enter Tryz.func157, Tryz.ntmps157
  go_wp2
  rw [Lib.run_neq_ptr_same w _ Tryz.undPB hj]
  go_wp2
  go_end0
  exact ⟨rfl, rfl⟩
theorem Tryz.undUP : Tryz.prog.underlying 245 = some .unsafePointer := by kernel_rfl
theorem Tryz.noEsc (x : Value) (w : World) : (callFunc 177 #[x]).run Tryz.prog w = .ok (.value x) w := by
  rw [run_callFunc_extern Tryz.func177 (by kernel_rfl) (by kernel_rfl) (by kernel_rfl) (e := Extern.AbiNoEscape.same) (by kernel_rfl)]
  rw [Lib.run_noEscape]
  rfl
set_option maxHeartbeats 1000000 in
set_option maxRecDepth 100000 in
theorem wCheck_new (b : Nat) (w : World) (h0 : w.cell? ⟨b, 0, none⟩ = some (.pointer none)) (hsh : w.shape? b = some (74, 2)) (hfz : w.frozen? ⟨b, 0, none⟩ = false) :
    Calls Tryz.prog 157 #[.pointer (some ⟨b, 0, none⟩)] w fun e w' => e = .returned (.tuple #[]) ∧ w' = w.setCell ⟨b, 0, none⟩ (.pointer (some ⟨b, 0, none⟩)) := by
  obtain ⟨j, hj, hjs⟩ := Option.map_eq_some_iff.1 Tryz.sizeSB
  have hv := Lib.run_to_unsafe (P := Tryz.prog) w ⟨b, 0, none⟩ Tryz.undPB Tryz.undUP hj (by rw [hjs]; decide) hsh (Nat.zero_lt_succ 1)
  have hb := Lib.run_from_unsafe (P := Tryz.prog) w ⟨b, 0, none⟩ Tryz.undUP Tryz.undPB hj hsh Tryz.liesSB
  have hn := Tryz.noEsc (.pointer (some ⟨b, 0, none⟩)) w
  go_enter Tryz.func157, Tryz.ntmps157
  go_wp2
  go_end0
  exact ⟨rfl, rfl⟩
/-- The writer at block b: it holds the bytes l; all below B is not its own. -/
abbrev Wr (B b : Nat) (l : List UInt8) (w : World) : Prop := Lib.IsBuilderF 74 5 B b (Lib.byteCells l) w
theorem wCheck_any {B b : Nat} {bs : List Value} {w : World} (h : Lib.IsBuilderF 74 5 B b bs w) :
    Calls Tryz.prog 157 #[.pointer (some ⟨b, 0, none⟩)] w fun e w' => e = .returned (.tuple #[]) ∧ Lib.BuilderAtF 74 5 B b (.pointer (some ⟨b, 0, none⟩)) bs w' ∧ Below B w w' ∧ Lib.OthersKept 5 (some b) w w' := by
  cases h with
  | inl h =>
    refine (wCheck_new b w h.cell0 h.shape h.frozen0).mono ?_
    rintro e w' ⟨he, hw⟩
    subst hw
    exact ⟨he, h.used _, (Below.refl B w).setCell (p := ⟨b, 0, none⟩) h.1 _, (Lib.OthersKept.refl _ _ w).setCell ⟨b, 0, none⟩ rfl _⟩
  | inr h =>
    refine (wCheck_used b w h.cell0).mono ?_
    rintro e w' ⟨he, hw⟩
    subst hw
    exact ⟨he, h, Below.refl B _, Lib.OthersKept.refl _ _ _⟩
/-- What a builder's block holds. -/
theorem wr_form {B b : Nat} {bs : List Value} {w : World} (h : Lib.IsBuilderF 74 5 B b bs w) : ∃ p a cap, w.heap[b]? = some (.cells #[p, .slice a bs.length cap] 74 (0, 0)) := by
  have key : ∀ p, Lib.BuilderAtF 74 5 B b p bs w → ∃ p a cap, w.heap[b]? = some (.cells #[p, .slice a bs.length cap] 74 (0, 0)) := by
    rintro p ⟨_, v, hb, ho, _⟩
    rcases ho.2 with ⟨hv, h0⟩ | ⟨g, cap, cur, fz, hv, _⟩
    · exact ⟨p, none, 0, by rw [hb, hv, h0]⟩
    · exact ⟨p, some ⟨g, 0, none⟩, cap, by rw [hb, hv]⟩
  exact h.elim (key _) (key _)
set_option maxHeartbeats 1000000 in
set_option maxRecDepth 100000 in
theorem wLen_any {B b : Nat} {bs : List Value} {w : World} (h : Lib.IsBuilderF 74 5 B b bs w) :
    Calls Tryz.prog 135 #[.pointer (some ⟨b, 0, none⟩)] w fun e w' => e = .returned (.int .i64 bs.length) ∧ w' = w := by
  obtain ⟨p, a, cap, hb⟩ := wr_form h
  have c1 : w.cell? ⟨b, 1, none⟩ = some (.slice a bs.length cap) := by rw [Lib.cell_of_heap hb]; rfl
  clear h hb
  go_enter Tryz.func135, Tryz.ntmps135
  go_wp2
  go_ret
  exact ⟨rfl, rfl⟩

theorem Tryz.infoU8 : (Tryz.prog.info? 5).map (fun i => (i.zero, i.size, i.bytes)) = some (some (.int .u8 0), 1, 1) := by kernel_rfl
theorem Tryz.undBs : Tryz.prog.underlying 70 = some (.slice 5) := by kernel_rfl
theorem Tryz.undStr : Tryz.prog.underlying 9 = some .string := by kernel_rfl
set_option maxHeartbeats 2000000 in
set_option maxRecDepth 100000 in
theorem wWrite_any {B b : Nat} {bs : List Value} {w : World} (s : ByteArray) (h : Lib.IsBuilderF 74 5 B b bs w) (hl : bs.length + s.size ≤ 140737488355328) (hB : B ≤ w.heap.size) :
    Calls Tryz.prog 136 #[.pointer (some ⟨b, 0, none⟩), .string s] w fun e w' => e = .returned (.tuple #[.int .i64 s.size, .nilIface]) ∧ Lib.IsBuilderF 74 5 B b (bs ++ Lib.strCells s) w' ∧ Below B w w' ∧ Lib.OthersKept 5 (some b) w w' := by
  obtain ⟨iu, hiu, hz, hs1, hb1⟩ := info_parts Tryz.infoU8
  have hch := fun w' (hw : Lib.IsBuilderF 74 5 B b bs w') => wCheck_any hw
  go_enter Tryz.func136, Tryz.ntmps136
  go_wp2_with (go_at_call 157; refine (hch _ h).mono ?_)
  rintro e w1 ⟨rfl, ⟨hBb, v, hbk, how, hnb⟩, hb1', hk1⟩
  have hsz := hb1'.size
  have hlt : b < w1.heap.size := by
    apply Decidable.byContradiction
    intro hn
    rw [Array.getElem?_eq_none (by omega)] at hbk
    cases hbk
  have x0 : w1.cell? ⟨b, 0, none⟩ = some (.pointer (some ⟨b, 0, none⟩)) := by rw [Lib.cell_of_heap hbk]; rfl
  have x1 : w1.cell? ⟨b, 1, none⟩ = some v := by rw [Lib.cell_of_heap hbk]; rfl
  go_wp2_with (at_builtin; refine Lib.wpList_append_own_stringF _ rfl _ _ 70 9 rfl B 5 iu Tryz.undBs Tryz.undStr hiu hz hs1 hb1 _ _ _ rfl how s rfl ?q1 ?q2 ?q3 ?_)
  case q1 => unfold maxLen; omega
  case q2 => omega
  case q3 => omega
  intro v' w2 how2 hgr _
  have hbk2 : w2.heap[b]? = some (.cells #[.pointer (some ⟨b, 0, none⟩), v] 74 (0, 0)) := (hgr.block b hlt (fun e => hnb e.symm)).trans hbk
  have y0 : w2.cell? ⟨b, 0, none⟩ = some (.pointer (some ⟨b, 0, none⟩)) := by rw [Lib.cell_of_heap hbk2]; rfl
  have y1 : w2.cell? ⟨b, 1, none⟩ = some v := by rw [Lib.cell_of_heap hbk2]; rfl
  have yf : w2.frozen? ⟨b, 1, none⟩ = false := Lib.frozen_of_heap hbk2 1
  obtain ⟨a2, n2, c2, rfl⟩ : ∃ a2 n2 c2, v' = .slice a2 n2 c2 := by
    rcases how2.2 with ⟨hv, _⟩ | ⟨g, cap, cur, fz, hv, _⟩
    · exact ⟨_, _, _, hv⟩
    · exact ⟨_, _, _, hv⟩
  go_wp2
  go_ret2
  refine ⟨rfl, .inr ?_, ?_, ?_⟩
  · exact Lib.BuilderAtF.put (T := 74) (e := 5) hBb hbk2 (bs' := bs ++ Lib.strCells s) (by simpa [Lib.strCells_length] using how2) (by decide)
  · exact (hb1'.grown hgr (by omega) (fun k hk => (how.lt k hk).1)).setCell (p := ⟨b, 1, none⟩) hBb _
  · exact (hk1.grown hgr (Lib.ownsRowF_kind how)).setCell ⟨b, 1, none⟩ rfl _

/-- What is written where l was: nothing, if that is too long already. -/
def wpL (l s : List UInt8) : List UInt8 := if l.length ≤ 12000 then l ++ s else l
/-- What a part of the writer leaves of the world. -/
abbrev Wx (B b : Nat) (l : List UInt8) (w w' : World) : Prop := Wr B b l w' ∧ Below B w w' ∧ Lib.OthersKept 5 (some b) w w'
theorem Wx.trans {B b : Nat} {l l' : List UInt8} {w w1 w2 : World} (h : Wx B b l w w1) (k : Wx B b l' w1 w2) : Wx B b l' w w2 := ⟨k.1, h.2.1.trans k.2.1, h.2.2.trans k.2.2⟩
set_option maxHeartbeats 2000000 in
set_option maxRecDepth 100000 in
theorem put_any {B b : Nat} {l : List UInt8} {w : World} (s : ByteArray) (h : Wr B b l w) (hs : s.size ≤ 140737488340000) (hB : B ≤ w.heap.size) :
    Calls Tryz.prog 100 #[.pointer (some ⟨b, 0, none⟩), .string s] w fun e w' => e = .returned (.tuple #[]) ∧ Wx B b (wpL l (bl s)) w w' := by
  have hn := wLen_any h
  rw [Lib.byteCells_length] at hn
  have hlen := Lib.byteCells_length l
  by_cases hl : l.length ≤ 12000
  · have hw := wWrite_any s h (by rw [hlen]; omega) hB
    have e : wpL l (bl s) = l ++ bl s := if_pos hl
    rw [e]
    have e2 : Lib.byteCells (l ++ bl s) = Lib.byteCells l ++ Lib.strCells s := Lib.byteCells_append _ _
    unfold Wx Wr
    rw [e2]
    have i1 : (l.length : Int) ≤ 12000 := by omega
    generalize Lib.byteCells l ++ Lib.strCells s = bs' at *
    generalize (l.length : Int) = n at *
    clear h hlen e e2 hl
    go_enter Tryz.func100, Tryz.ntmps100
    go_wp2_with (first
      | (go_at_call 135; refine hn.mono ?_; rintro e w1 ⟨rfl, hw1⟩; subst hw1)
      | (go_at_call 136; refine hw.mono ?_; rintro e w2 ⟨rfl, hr⟩)
      | fail)
    go_end0
    exact ⟨rfl, hr⟩
  · have e : wpL l (bl s) = l := if_neg hl
    rw [e]
    have HH := mkHid h
    have i1 : ¬ (l.length : Int) ≤ 12000 := by omega
    generalize (l.length : Int) = n at *
    clear h hlen e hl
    go_enter Tryz.func100, Tryz.ntmps100
    go_wp2_with (first
      | (go_at_call 135; refine hn.mono ?_; rintro e w1 ⟨rfl, hw1⟩; subst hw1)
      | fail)
    go_end0
    exact ⟨rfl, HH.out, Below.refl B _, Lib.OthersKept.refl _ _ _⟩
end Go.Proofs.YtifgbioacknjpaaGreatDoor

/- Contracts of the library at this program. -/
namespace Go.Proofs.YtifgbioacknjpaaGreatDoor
open Go.Shelf
set_option linter.unusedVariables false

def renR : Ren := { f := fun x => match x with | 105 => 134 | 212 => 154 | 99 => 155 | 165 => 156 | 166 => 136 | 170 => 135 | 169 => 35 | 263 => 173 | 264 => 174 | 206 => 175 | 240 => 157 | 241 => 176 | 276 => 177 | 277 => 191 | n => n, t := fun x => match x with | 9 => 9 | 3 => 3 | 4 => 4 | 20 => 20 | 0 => 0 | 46 => 209 | 109 => 221 | 5 => 5 | 72 => 72 | 76 => 191 | 51 => 207 | 146 => 241 | 53 => 176 | 148 => 243 | 70 => 69 | 37 => 70 | 75 => 190 | 127 => 129 | 164 => 245 | 80 => 76 | n => n, g := fun x => x }
theorem laysR : Lays.n105 Tryz.prog renR :=
  { mixed := by kernel_rfl, f99 := Tryz.func155.trans (congrArg some (by kernel_rfl)), f105 := Tryz.func134.trans (congrArg some (by kernel_rfl)), f165 := Tryz.func156.trans (congrArg some (by kernel_rfl)), f166 := Tryz.func136.trans (congrArg some (by kernel_rfl)), f169 := Tryz.func35.trans (congrArg some (by kernel_rfl)), f170 := Tryz.func135.trans (congrArg some (by kernel_rfl)), f206 := Tryz.func175.trans (congrArg some (by kernel_rfl)), f212 := Tryz.func154.trans (congrArg some (by kernel_rfl)), f240 := Tryz.func157.trans (congrArg some (by kernel_rfl)), f241 := Tryz.func176.trans (congrArg some (by kernel_rfl)), f263 := Tryz.func173.trans (congrArg some (by kernel_rfl)), f264 := Tryz.func174.trans (congrArg some (by kernel_rfl)), f276 := Tryz.func177.trans (congrArg some (by kernel_rfl)), f277 := Tryz.func191.trans (congrArg some (by kernel_rfl)), t0 := Tryz.underlying0, a0 := Tryz.isAgg0, z0 := Tryz.sizeOf0, v0 := Tryz.zeroValue0, t3 := Tryz.underlying3, a3 := Tryz.isAgg3, z3 := Tryz.sizeOf3, v3 := Tryz.zeroValue3, t4 := Tryz.underlying4, a4 := Tryz.isAgg4, z4 := Tryz.sizeOf4, v4 := Tryz.zeroValue4, t5 := Tryz.underlying5, a5 := Tryz.isAgg5, z5 := Tryz.sizeOf5, v5 := Tryz.zeroValue5, t9 := Tryz.underlying9, a9 := Tryz.isAgg9, z9 := Tryz.sizeOf9, v9 := Tryz.zeroValue9, t20 := Tryz.underlying20, a20 := Tryz.isAgg20, z20 := Tryz.sizeOf20, v20 := Tryz.zeroValue20, t37 := Tryz.underlying70, a37 := Tryz.isAgg70, z37 := Tryz.sizeOf70, v37 := Tryz.zeroValue70, t46 := Tryz.underlying209, a46 := Tryz.isAgg209, z46 := Tryz.sizeOf209, v46 := Tryz.zeroValue209, t51 := Tryz.underlying207, a51 := Tryz.isAgg207, z51 := Tryz.sizeOf207, v51 := Tryz.zeroValue207, t53 := Tryz.underlying176, a53 := Tryz.isAgg176, z53 := Tryz.sizeOf176, v53 := Tryz.zeroValue176, t70 := Tryz.underlying69, a70 := Tryz.isAgg69, z70 := Tryz.sizeOf69, v70 := Tryz.zeroValue69, t72 := Tryz.underlying72, a72 := Tryz.isAgg72, z72 := Tryz.sizeOf72, v72 := Tryz.zeroValue72, t75 := Tryz.underlying190, a75 := Tryz.isAgg190, z75 := Tryz.sizeOf190, v75 := Tryz.zeroValue190, t76 := Tryz.underlying191, a76 := Tryz.isAgg191, z76 := Tryz.sizeOf191, v76 := Tryz.zeroValue191, t109 := Tryz.underlying221, a109 := Tryz.isAgg221, z109 := Tryz.sizeOf221, v109 := Tryz.zeroValue221, t127 := Tryz.underlying129, a127 := Tryz.isAgg129, z127 := Tryz.sizeOf129, v127 := Tryz.zeroValue129, t146 := Tryz.underlying241, a146 := Tryz.isAgg241, z146 := Tryz.sizeOf241, v146 := Tryz.zeroValue241, t148 := Tryz.underlying243, a148 := Tryz.isAgg243, z148 := Tryz.sizeOf243, v148 := Tryz.zeroValue243, t164 := Tryz.underlying245, a164 := Tryz.isAgg245, z164 := Tryz.sizeOf245, v164 := Tryz.zeroValue245 }
end Go.Proofs.YtifgbioacknjpaaGreatDoor

/- Package show's writer: begin, line. -/
namespace Go.Proofs.YtifgbioacknjpaaGreatDoor
open Go.RowKit Go.Lib
set_option linter.unusedSimpArgs false
set_option linter.unusedVariables false
attribute [local go_sem ↓] Go.wp_at_zero Go.wp_at_succ

theorem extraR : Builder.Extra Tryz.prog renR := { sizeBuilder := by kernel_rfl, liesBuilder := by kernel_rfl, t5 := Tryz.underlying5, a5 := Tryz.isAgg5, z5 := Tryz.sizeOf5, v5 := Tryz.zeroValue5, infoByte := by kernel_rfl, cellsByte := by kernel_rfl, sizeByte := by kernel_rfl, neB5 := by decide }
theorem others_below {e : TypeId} {bo : Option Nat} {w w' : World} (hb : Below w.heap.size w w') : Lib.OthersKept e bo w w' := fun i o hi _ _ => by
  have hl : i < w.heap.size := by
    apply Decidable.byContradiction
    intro hn
    rw [Array.getElem?_eq_none (by omega)] at hi
    cases hi
  exact (hb.block i hl).trans hi
theorem Wr.below {B b : Nat} {l : List UInt8} {w w' : World} (h : Wr B b l w) (hb : Below w.heap.size w w') : Wr B b l w' := by
  have keep : ∀ (i : Nat) (o : Obj), w.heap[i]? = some o → w'.heap[i]? = some o := fun i o hi => by
    have hl : i < w.heap.size := by
      apply Decidable.byContradiction
      intro hn
      rw [Array.getElem?_eq_none (by omega)] at hi
      cases hi
    exact (hb.block i hl).trans hi
  have key : ∀ p, Lib.BuilderAtF 74 5 B b p (Lib.byteCells l) w → Lib.BuilderAtF 74 5 B b p (Lib.byteCells l) w' := by
    rintro p ⟨h1, v, h2, ⟨h3, h4⟩, h5⟩
    refine ⟨h1, v, keep _ _ h2, ⟨h3, ?_⟩, h5⟩
    rcases h4 with h4 | ⟨g, cap, cur, fz, a1, a2, a3, a4⟩
    · exact .inl h4
    · exact .inr ⟨g, cap, cur, fz, a1, a2, keep _ _ a3, a4⟩
  exact h.imp (key _) (key _)
theorem tabs_any (n : Nat) (hn : n ≤ 1000) (w : World) : Calls Tryz.prog 134 #[.string ⟨#[9]⟩, .int .i64 (n : Int)] w fun e w' => e = .returned (.string ⟨(List.replicate n (9 : UInt8)).toArray⟩) ∧ Below w.heap.size w w' := by
  have hs : (⟨#[9]⟩ : ByteArray).size = 1 := rfl
  have h := Any.strings_Repeat laysR extraR ⟨#[9]⟩ n w (by omega) (by rw [hs]; omega)
  have e : Lib.repeatL (⟨#[9]⟩ : ByteArray).data.toList n = List.replicate n (9 : UInt8) := by
    show Lib.repeatL [9] n = _
    clear h hn
    induction n with
    | zero => rfl
    | succ n ih => rw [List.replicate_succ, ← ih]; rfl
  rw [e] at h
  exact h
set_option maxHeartbeats 2000000 in
set_option maxRecDepth 100000 in
theorem begin_any {B b : Nat} {l : List UInt8} {w : World} (n : Nat) (h : Wr B b l w) (hn : n ≤ 1000) (hB : B ≤ w.heap.size) :
    Calls Tryz.prog 99 #[.pointer (some ⟨b, 0, none⟩), .int .i64 (n : Int)] w fun e w' => e = .returned (.tuple #[]) ∧ Wx B b (wpL l (List.replicate n 9)) w w' := by
  have ht := tabs_any n hn w
  have hp : ∀ w1, Below w.heap.size w w1 → Calls Tryz.prog 100 #[.pointer (some ⟨b, 0, none⟩), .string ⟨(List.replicate n (9 : UInt8)).toArray⟩] w1 fun e w' => e = .returned (.tuple #[]) ∧ Wx B b (wpL l (List.replicate n 9)) w w' := fun w1 b1 => by
    have h1 : Wr B b l w1 := Wr.below h b1
    refine (put_any (l := l) ⟨(List.replicate n (9 : UInt8)).toArray⟩ h1 (by show (List.replicate n (9 : UInt8)).toArray.size ≤ _; simp; omega) (Nat.le_trans hB b1.size)).mono ?_
    rintro e w' ⟨he, hw⟩
    refine ⟨he, ?_, (b1.mono hB).trans hw.2.1, (others_below b1).trans hw.2.2⟩
    have e : bl (⟨(List.replicate n (9 : UInt8)).toArray⟩ : ByteArray) = List.replicate n 9 := by unfold bl; simp
    rw [e] at hw
    exact hw.1
  generalize (⟨(List.replicate n (9 : UInt8)).toArray⟩ : ByteArray) = t at *
  clear h
  go_enter Tryz.func99, Tryz.ntmps99
  go_wp2_with (first
    | (go_at_call 134; refine ht.mono ?_; rintro e w1 ⟨rfl, b1⟩)
    | (go_at_call 100; refine (hp _ b1).mono ?_; rintro e w2 ⟨rfl, hr⟩)
    | fail)
  go_end0
  exact ⟨rfl, hr⟩
/-- One more put, behind what was written since w. -/
theorem putX {B b : Nat} {w : World} (hB : B ≤ w.heap.size) (t : ByteArray) (l : List UInt8) (w1 : World) (k : Wx B b l w w1) (ht : t.size ≤ 140737488340000) : Calls Tryz.prog 100 #[.pointer (some ⟨b, 0, none⟩), .string t] w1 fun e w' => e = .returned (.tuple #[]) ∧ Wx B b (wpL l (bl t)) w w' := by
  refine (put_any t k.1 ht (Nat.le_trans hB k.2.1.size)).mono ?_
  rintro e w' ⟨he, hw⟩
  exact ⟨he, k.trans hw⟩
/-- A line. -/
def wlL (l : List UInt8) (n : Nat) (s : List UInt8) : List UInt8 := wpL (wpL (wpL l (List.replicate n 9)) s) [10]
set_option maxHeartbeats 2000000 in
set_option maxRecDepth 100000 in
theorem line_any {B b : Nat} {l : List UInt8} {w : World} (n : Nat) (s : ByteArray) (h : Wr B b l w) (hn : n ≤ 1000) (hs : s.size ≤ 140737488340000) (hB : B ≤ w.heap.size) :
    Calls Tryz.prog 62 #[.pointer (some ⟨b, 0, none⟩), .int .i64 (n : Int), .string s] w fun e w' => e = .returned (.tuple #[]) ∧ Wx B b (wlL l n (bl s)) w w' := by
  have h1 := begin_any n h hn hB
  have hp := fun t l' w1 k ht => putX (B := B) (b := b) (w := w) hB t l' w1 k ht
  have hd : (⟨#[10]⟩ : ByteArray).size ≤ 140737488340000 := by decide
  clear h
  go_enter Tryz.func62, Tryz.ntmps62
  go_wp2_with (first
    | (go_at_call 99; refine h1.mono ?_; rintro e w1 ⟨rfl, k⟩)
    | (go_at_call 100; refine (hp _ _ _ k (by assumption)).mono ?_; clear k; rintro e w2 ⟨rfl, k⟩)
    | fail)
  go_end0
  exact ⟨rfl, k⟩
end Go.Proofs.YtifgbioacknjpaaGreatDoor

/- What is put, part by part: all of it, or more than 12000 bytes. -/
namespace Go.Proofs.YtifgbioacknjpaaGreatDoor
open Go.RowKit Go.Lib

theorem wpL_stop : ∀ (cs : List (List UInt8)) (l : List UInt8), 12000 < l.length → cs.foldl wpL l = l
  | [], _, _ => rfl
  | c :: cs, l, h => by
    have e : wpL l c = l := if_neg (by omega)
    rw [List.foldl_cons, e]
    exact wpL_stop cs l h
theorem wpL_all : ∀ (cs : List (List UInt8)) (l : List UInt8), (l ++ cs.flatten).length ≤ 12000 → cs.foldl wpL l = l ++ cs.flatten
  | [], l, _ => by simp
  | c :: cs, l, h => by
    rw [List.flatten_cons, ← List.append_assoc] at h ⊢
    have h1 : l.length ≤ 12000 := by rw [List.length_append, List.length_append] at h; omega
    have e : wpL l c = l ++ c := if_pos h1
    rw [List.foldl_cons, e]
    exact wpL_all cs (l ++ c) h
theorem wpL_long : ∀ (cs : List (List UInt8)) (l : List UInt8), 12000 < (l ++ cs.flatten).length → 12000 < (cs.foldl wpL l).length
  | [], l, h => by simpa using h
  | c :: cs, l, h => by
    by_cases h1 : l.length ≤ 12000
    · have e : wpL l c = l ++ c := if_pos h1
      rw [List.foldl_cons, e]
      refine wpL_long cs (l ++ c) ?_
      rw [List.flatten_cons, ← List.append_assoc] at h
      exact h
    · rw [wpL_stop (c :: cs) l (by omega)]
      omega
end Go.Proofs.YtifgbioacknjpaaGreatDoor

/- A formed chart's pieces fit. Math alone. -/
namespace Go.Proofs.YtifgbioacknjpaaGreatDoor
open Go.RowKit Go.Lib
set_option linter.unusedSimpArgs false
set_option linter.unusedVariables false

theorem kw_sp {s : List UInt8} (h : nameS s = true) {r : List Pq} {post : List UInt8} (hr : FitQ r post) : FitQ (kwQ s :: spQ :: r) post :=
  ⟨show Fits (1, s) (32 :: (txQ r ++ post)) from fits_name h (post_blank _), .inl rfl, hr⟩
theorem kw_nl {s : List UInt8} (h : nameS s = true) {r : List Pq} {post : List UInt8} (hr : FitQ r post) : FitQ (kwQ s :: nlQ :: r) post :=
  ⟨show Fits (1, s) (10 :: (txQ r ++ post)) from fits_name h (post_line _), .inr (.inr rfl), hr⟩
theorem nu_sp {n : Int} (h : nbB n = true) {r : List Pq} {post : List UInt8} (hr : FitQ r post) : FitQ (nuQ n :: spQ :: r) post := by
  unfold nbB at h
  rw [decide_eq_true_eq] at h
  exact ⟨show Fits (2, dcN n) (32 :: (txQ r ++ post)) from (fits_num (num_dc h.1 h.2) (post_blank _)).1, .inl rfl, hr⟩
theorem nu_nl {n : Int} (h : 0 ≤ n ∧ n ≤ 1000000000) {r : List Pq} {post : List UInt8} (hr : FitQ r post) : FitQ (nuQ n :: nlQ :: r) post :=
  ⟨show Fits (2, dcN n) (10 :: (txQ r ++ post)) from (fits_num (num_dc h.1 h.2) (post_line _)).1, .inr (.inr rfl), hr⟩
theorem br_nl {c : UInt8} (h : c = 123 ∨ c = 125) {r : List Pq} {post : List UInt8} (hr : FitQ r post) : FitQ (sgQ c :: nlQ :: r) post :=
  ⟨fits_brace h _, .inr (.inr rfl), hr⟩
theorem eq_sp {r : List Pq} {post : List UInt8} (hr : FitQ r post) : FitQ (sgQ 61 :: spQ :: r) post :=
  ⟨show Fits (3, [61]) (32 :: (txQ r ++ post)) from fits_eq _, .inl rfl, hr⟩
theorem post_sets (l : List (List UInt8 × Sx)) {post : List UInt8} (h : Post post) : Post (txQ ((l.map setQ).flatten) ++ post) := by
  cases l with
  | nil => exact h
  | cons s r =>
    rw [List.map_cons, List.flatten_cons, txQ_app, List.append_assoc]
    exact post_blank _
theorem fitQ_set {s : List UInt8 × Sx} (hf : setF s = true) (hc : ClX s.2) {post : List UInt8} (h : Post post) : FitQ (setQ s) post := by
  unfold setF at hf
  rw [Bool.and_eq_true] at hf
  exact ⟨.inl rfl, kw_sp (by decide) (kw_sp (plain_name hf.1) (eq_sp (fitQ_ex hc hf.2 h)))⟩
theorem fitQ_sets : ∀ (l : List (List UInt8 × Sx)), l.all setF = true → (∀ s ∈ l, ClX s.2) → ∀ {post : List UInt8}, Post post → FitQ ((l.map setQ).flatten) post
  | [], _, _, _, _ => trivial
  | s :: r, hf, hc, post, h => by
    rw [List.all_cons, Bool.and_eq_true] at hf
    rw [List.map_cons, List.flatten_cons]
    exact fitQ_app _ _ _ (fitQ_set hf.1 (hc s List.mem_cons_self) (post_sets r h)) (fitQ_sets r hf.2 (fun x hx => hc x (List.mem_cons_of_mem _ hx)) h)
theorem onF_parts {o : OnC} (h : onF o = true) : plainB o.1 = true ∧ (o.2.1.1 = true → exF o.2.1.2 = true) ∧ plainB o.2.2.1 = true ∧ o.2.2.2.1.all setF = true := by
  unfold onF at h
  simp only [Bool.and_eq_true, Bool.or_eq_true, Bool.not_eq_true'] at h
  exact ⟨h.1, fun e => h.2.1.elim (fun q => by rw [e] at q; cases q) id, h.2.2.1, h.2.2.2⟩
theorem fitQ_on {o : OnC} (n : Nat) (hf : onF o = true) (hc : OnCl o) (post : List UInt8) : FitQ (onQ n o) post := by
  obtain ⟨h1, h2, h3, h4⟩ := onF_parts hf
  have e1 : FitQ ((o.2.2.2.1.map setQ).flatten ++ [nlQ]) post := fitQ_app _ _ _ (fitQ_sets _ h4 hc.2 (post_line _)) ⟨.inr (.inr rfl), trivial⟩
  have hp : Post (txQ ((o.2.2.2.1.map setQ).flatten ++ [nlQ]) ++ post) := by
    rw [txQ_app, List.append_assoc]
    exact post_sets _ (post_line _)
  have e2 : FitQ ([spQ, kwQ wGo, spQ, kwQ o.2.2.1] ++ ((o.2.2.2.1.map setQ).flatten ++ [nlQ])) post := ⟨.inl rfl, kw_sp (by decide) ⟨fits_name (plain_name h3) hp, e1⟩⟩
  have hp2 : Post (txQ ([spQ, kwQ wGo, spQ, kwQ o.2.2.1] ++ ((o.2.2.2.1.map setQ).flatten ++ [nlQ])) ++ post) := by
    rw [txQ_app, List.append_assoc]
    exact post_blank _
  have e3 : FitQ (grdQ o.2.1 ++ ([spQ, kwQ wGo, spQ, kwQ o.2.2.1] ++ ((o.2.2.2.1.map setQ).flatten ++ [nlQ]))) post := by
    unfold grdQ
    split
    · next hb => exact fitQ_app _ _ _ ⟨.inl rfl, kw_sp (by decide) (fitQ_ex (hc.1 hb) (h2 hb) hp2)⟩ e2
    · exact e2
  have hp3 : Post (txQ (grdQ o.2.1 ++ ([spQ, kwQ wGo, spQ, kwQ o.2.2.1] ++ ((o.2.2.2.1.map setQ).flatten ++ [nlQ]))) ++ post) := by
    unfold grdQ
    split
    · rw [txQ_app, List.append_assoc]
      exact post_blank _
    · exact hp2
  exact fitQ_app _ _ _ (fitQ_tb n _) (kw_sp (by decide) ⟨fits_name (plain_name h1) hp3, e3⟩)
theorem fitQ_all {α : Type} {f : α → List Pq} : ∀ (l : List α), (∀ x ∈ l, ∀ post, FitQ (f x) post) → ∀ post, FitQ ((l.map f).flatten) post
  | [], _, _ => trivial
  | x :: r, h, post => by
    rw [List.map_cons, List.flatten_cons]
    exact fitQ_app _ _ _ (h x List.mem_cons_self _) (fitQ_all r (fun y hy => h y (List.mem_cons_of_mem _ hy)) post)
theorem kndF_step {h : HdC} (hf : kndF h = true) (hs : stepB h = true) : h.2.1.1 = false ∧ h.2.1.2 = false ∧ plainB h.2.2.1.1 = true ∧ plainB h.2.2.1.2 = true ∧ nbB h.2.2.2.1.1 = true ∧ nbB h.2.2.2.1.2 = true := by
  unfold kndF at hf
  rw [if_pos hs] at hf
  simp only [Bool.and_eq_true, Bool.not_eq_true'] at hf
  exact ⟨hf.1.1.1.1.1, hf.1.1.1.1.2, hf.1.1.1.2, hf.1.1.2, hf.1.2, hf.2⟩
theorem step_do {h : HdC} (hd : h.2.2.1.1 ≠ []) : stepB h = true := by
  unfold stepB
  rw [decide_eq_false hd]; rfl
theorem nb_of {n : Int} (h : nbB n = true) : 0 ≤ n ∧ n ≤ 1000000000 := by
  unfold nbB at h
  rwa [decide_eq_true_eq] at h
theorem fitQ_knd {h : HdC} (n : Nat) (hf : kndF h = true) (post : List UInt8) : FitQ (kndQ n h) post := by
  unfold kndQ
  split
  · exact fitQ_app _ _ _ (fitQ_tb n _) (kw_nl (by decide) trivial)
  · split
    · exact fitQ_app _ _ _ (fitQ_tb n _) (kw_nl (by decide) trivial)
    · split
      · next hd =>
        obtain ⟨_, _, h3, h4, h5, h6⟩ := kndF_step hf (step_do hd)
        exact fitQ_app _ _ _ (fitQ_tb n _) (kw_sp (by decide) (kw_sp (plain_name h3) (kw_sp (by decide) (kw_sp (plain_name h4) (kw_sp (by decide) (nu_sp h5 (kw_sp (by decide) (nu_nl (nb_of h6) trivial))))))))
      · trivial
theorem stF_parts {d : Nat} {n : Nat} {t : St (d + 1)} (h : stF (d + 1) n t = true) : n ≤ 6 ∧ plainB t.1.1.1 = true ∧ kndF t.1 = true ∧ t.1.2.2.2.2.all onF = true ∧ t.2.all (stF d (n + 1)) = true := by
  have h' : (decide (n ≤ 6) && plainB t.1.1.1 && kndF t.1 && t.1.2.2.2.2.all onF && t.2.all (stF d (n + 1))) = true := h
  simp only [Bool.and_eq_true, decide_eq_true_eq] at h'
  exact ⟨h'.1.1.1.1, h'.1.1.1.2, h'.1.1.2, h'.1.2, h'.2⟩
theorem fitQ_st : ∀ (d n : Nat) (t : St d), stF d n t = true → StCl d t → ∀ post, FitQ (stQ d n t) post
  | 0, _, t, _, _ => Empty.elim t
  | d + 1, n, t, hf, hc => fun post => by
    obtain ⟨h1, h2, h3, h4, h5⟩ := stF_parts hf
    rw [List.all_eq_true] at h4 h5
    have e1 : FitQ (tbQ n ++ [sgQ 125, nlQ]) post := fitQ_app _ _ _ (fitQ_tb n _) (br_nl (.inr rfl) trivial)
    have e2 : FitQ ((t.2.map (stQ d (n + 1))).flatten ++ (tbQ n ++ [sgQ 125, nlQ])) post := fitQ_app _ _ _ (fitQ_all _ (fun x hx => fitQ_st d (n + 1) x (h5 x hx) (hc.2 x hx)) _) e1
    have e3 : FitQ ((t.1.2.2.2.2.map (onQ (n + 1))).flatten ++ ((t.2.map (stQ d (n + 1))).flatten ++ (tbQ n ++ [sgQ 125, nlQ]))) post := fitQ_app _ _ _ (fitQ_all _ (fun x hx => fitQ_on (n + 1) (h4 x hx) (hc.1 x hx)) _) e2
    have e4 := fitQ_app _ _ _ (fitQ_knd (n + 1) h3 _) e3
    exact fitQ_app _ _ _ (fitQ_tb n _) (kw_sp (by decide) (kw_sp (plain_name h2) (br_nl (.inl rfl) e4)))
theorem fitQ_var {v : List UInt8 × Int × Pl} (hf : varF v = true) (post : List UInt8) : FitQ (varQ v) post := by
  unfold varF at hf
  rw [Bool.and_eq_true, decide_eq_true_eq] at hf
  have e1 : FitQ (nmQ v.2.1 ++ [nlQ]) post := by
    unfold nmQ
    split
    · exact ⟨fits_neg _, nu_nl (by omega) trivial⟩
    · exact nu_nl (by omega) trivial
  exact fitQ_app _ _ _ (fitQ_tb 1 _) (kw_sp (by decide) (kw_sp (plain_name hf.1) (eq_sp e1)))
theorem chF_parts {d : Nat} {c : ChX d} (h : chF d c = true) : plainB c.1.1 = true ∧ nbB c.2.1 = true ∧ c.2.2.1.all varF = true ∧ c.2.2.2.all (stF d 1) = true := by
  unfold chF at h
  simp only [Bool.and_eq_true] at h
  exact ⟨h.1.1.1, h.1.1.2, h.1.2, h.2⟩
theorem fitQ_ch {d : Nat} {c : ChX d} (hf : chF d c = true) (hc : ∀ t ∈ c.2.2.2, StCl d t) : FitQ (chQ d c) [] := by
  obtain ⟨h1, h2, h3, h4⟩ := chF_parts hf
  rw [List.all_eq_true] at h3 h4
  have e1 : FitQ [sgQ 125, nlQ] [] := br_nl (.inr rfl) trivial
  have e2 := fitQ_app _ _ _ (fitQ_all _ (fun x hx => fitQ_st d 1 x (h4 x hx) (hc x hx)) _) e1
  have e3 := fitQ_app _ _ _ (fitQ_all _ (fun x hx => fitQ_var (h3 x hx)) _) e2
  exact kw_sp (by decide) (kw_sp (plain_name h1) (nu_sp h2 (br_nl (.inl rfl) e3)))

def lnW (n : Nat) (s : List UInt8) : List (List UInt8) := [List.replicate n 9, s, [10]]
def exW (x : Sx) : List UInt8 := (prC x.1 x.2).1
def doW (h : HdC) : List UInt8 := [100, 111, 32] ++ h.2.2.1.1 ++ [32, 117, 110, 100, 111, 32] ++ h.2.2.1.2 ++ [32, 97, 116, 32] ++ dcN h.2.2.2.1.1 ++ [32, 114, 101, 116, 114, 105, 101, 115, 32] ++ dcN h.2.2.2.1.2
def kndW (n : Nat) (h : HdC) : List (List UInt8) :=
  if h.2.1.1 = true then lnW n [97, 108, 108] else if h.2.1.2 = true then lnW n [101, 110, 100] else if h.2.2.1.1 ≠ [] then lnW n (doW h) else []
def setW (s : List UInt8 × Sx) : List UInt8 := [32, 115, 101, 116, 32] ++ s.1 ++ [32, 61, 32] ++ exW s.2
def grdW (g : Bool × Sx) : List (List UInt8) := if g.1 = true then [[32, 105, 102, 32] ++ exW g.2] else []
def onW (n : Nat) (o : OnC) : List (List UInt8) := [List.replicate n 9, [111, 110, 32] ++ o.1] ++ (grdW o.2.1 ++ ([[32, 103, 111, 32] ++ o.2.2.1] ++ (o.2.2.2.1.map setW ++ [[10]])))
def stnW (s : List UInt8) : List UInt8 := [115, 116, 97, 116, 101, 32] ++ s ++ [32, 123]
def stW : (d : Nat) → Nat → St d → List (List UInt8)
  | 0, _, t => Empty.elim t
  | d + 1, n, t => lnW n (stnW t.1.1.1) ++ (kndW (n + 1) t.1 ++ ((t.1.2.2.2.2.map (onW (n + 1))).flatten ++ ((t.2.map (stW d (n + 1))).flatten ++ lnW n [125])))
def znW (n : Int) : List UInt8 := if n < 0 then 45 :: dcN (-n) else dcN n
def varW (v : List UInt8 × Int × Pl) : List (List UInt8) := lnW 1 ([118, 97, 114, 32] ++ v.1 ++ [32, 61, 32] ++ znW v.2.1)
def chnW (s : List UInt8) (n : Int) : List UInt8 := [99, 104, 97, 114, 116, 32] ++ s ++ [32] ++ dcN n ++ [32, 123]
def chW (d : Nat) (c : ChX d) : List (List UInt8) := lnW 0 (chnW c.1.1 c.2.1) ++ ((c.2.2.1.map varW).flatten ++ ((c.2.2.2.map (stW d 1)).flatten ++ lnW 0 [125]))
theorem exW_tx {x : Sx} (h : exF x = true) : exW x = txQ (exQ x) := by
  have h2 : fmX x = true ∧ plX x = true := by unfold exF at h; rwa [Bool.and_eq_true] at h
  have e : prC x.1 x.2 = (txtC x.1 x.2, 0) := if_pos h2
  unfold exW exQ
  rw [e, txQ_qE]; rfl
theorem txQ_tb (n : Nat) : txQ (tbQ n) = List.replicate n 9 := by
  induction n with
  | zero => rfl
  | succ n ih => rw [List.replicate_succ, ← ih]; rfl
theorem lnW_fl (n : Nat) (s : List UInt8) : (lnW n s).flatten = List.replicate n 9 ++ (s ++ [10]) := by simp [lnW]
theorem setW_tx {s : List UInt8 × Sx} (h : setF s = true) : setW s = txQ (setQ s) := by
  unfold setF at h
  rw [Bool.and_eq_true] at h
  unfold setW setQ
  rw [txQ_app, exW_tx h.2]
  simp [txQ, pieQ, spQ, kwQ, sgQ, wSet]
theorem grdW_tx {g : Bool × Sx} (h : g.1 = true → exF g.2 = true) : (grdW g).flatten = txQ (grdQ g) := by
  unfold grdW grdQ
  by_cases hg : g.1 = true
  · rw [if_pos hg, if_pos hg, txQ_app, exW_tx (h hg)]
    simp [txQ, pieQ, spQ, kwQ, wIf]
  · rw [if_neg hg, if_neg hg]; rfl
theorem flat_tx {α : Type} {f : α → List (List UInt8)} {g : α → List Pq} : ∀ (l : List α), (∀ x ∈ l, (f x).flatten = txQ (g x)) → (l.map f).flatten.flatten = txQ (l.map g).flatten
  | [], _ => rfl
  | x :: r, h => by
    rw [List.map_cons, List.map_cons, List.flatten_cons, List.flatten_cons, List.flatten_append, txQ_app, h x (by simp), flat_tx r (fun y hy => h y (by simp [hy]))]
theorem sets_tx : ∀ (l : List (List UInt8 × Sx)), l.all setF = true → (l.map setW).flatten = txQ (l.map setQ).flatten
  | [], _ => rfl
  | x :: r, h => by
    rw [List.all_cons, Bool.and_eq_true] at h
    rw [List.map_cons, List.map_cons, List.flatten_cons, List.flatten_cons, txQ_app, setW_tx h.1, sets_tx r h.2]
theorem onW_tx (n : Nat) {o : OnC} (h : onF o = true) : (onW n o).flatten = txQ (onQ n o) := by
  obtain ⟨h1, h2, h3, h4⟩ := onF_parts h
  unfold onW onQ
  rw [List.flatten_append, List.flatten_append, List.flatten_append, List.flatten_append, grdW_tx h2, sets_tx _ h4]
  simp only [txQ_app, txQ_tb]
  simp [txQ, pieQ, spQ, kwQ, nlQ, wOn, wGo]
theorem kndW_tx (n : Nat) (h : HdC) : (kndW n h).flatten = txQ (kndQ n h) := by
  unfold kndW kndQ
  by_cases h1 : h.2.1.1 = true
  · rw [if_pos h1, if_pos h1, lnW_fl, txQ_app, txQ_tb]; rfl
  · rw [if_neg h1, if_neg h1]
    by_cases h2 : h.2.1.2 = true
    · rw [if_pos h2, if_pos h2, lnW_fl, txQ_app, txQ_tb]; rfl
    · rw [if_neg h2, if_neg h2]
      by_cases h3 : h.2.2.1.1 ≠ []
      · rw [if_pos h3, if_pos h3, lnW_fl, txQ_app, txQ_tb]
        simp [txQ, pieQ, spQ, kwQ, nuQ, nlQ, doW, wDo, wUndo, wAt, wRetries]
      · rw [if_neg h3, if_neg h3]; rfl
theorem stW_tx : ∀ (d n : Nat) (t : St d), stF d n t = true → (stW d n t).flatten = txQ (stQ d n t)
  | 0, _, t, _ => Empty.elim t
  | d + 1, n, t, h => by
    obtain ⟨h1, h2, h3, h4, h5⟩ := stF_parts h
    show (lnW n (stnW t.1.1.1) ++ (kndW (n + 1) t.1 ++ ((t.1.2.2.2.2.map (onW (n + 1))).flatten ++ ((t.2.map (stW d (n + 1))).flatten ++ lnW n [125])))).flatten = txQ (tbQ n ++ ([kwQ wState, spQ, kwQ t.1.1.1, spQ, sgQ 123, nlQ] ++ (kndQ (n + 1) t.1 ++ ((t.1.2.2.2.2.map (onQ (n + 1))).flatten ++ ((t.2.map (stQ d (n + 1))).flatten ++ (tbQ n ++ [sgQ 125, nlQ]))))))
    rw [List.flatten_append, List.flatten_append, List.flatten_append, List.flatten_append, kndW_tx, lnW_fl, lnW_fl,
      flat_tx (g := onQ (n + 1)) _ (fun o ho => onW_tx _ (List.all_eq_true.1 h4 o ho)), flat_tx (g := stQ d (n + 1)) _ (fun x hx => stW_tx d (n + 1) x (List.all_eq_true.1 h5 x hx))]
    simp only [txQ_app, txQ_tb]
    simp [txQ, pieQ, spQ, kwQ, sgQ, nlQ, wState, stnW]
theorem varW_tx (v : List UInt8 × Int × Pl) : (varW v).flatten = txQ (varQ v) := by
  unfold varW varQ znW nmQ
  rw [lnW_fl]
  simp only [txQ_app, txQ_tb]
  by_cases h : v.2.1 < 0
  · simp [h, txQ, pieQ, spQ, kwQ, sgQ, nuQ, nlQ, wVar]
  · simp [h, txQ, pieQ, spQ, kwQ, sgQ, nuQ, nlQ, wVar]
theorem chW_tx {d : Nat} {c : ChX d} (h : chF d c = true) : (chW d c).flatten = txQ (chQ d c) := by
  obtain ⟨h1, h2, h3, h4⟩ := chF_parts h
  unfold chW chQ
  rw [List.flatten_append, List.flatten_append, List.flatten_append, lnW_fl, lnW_fl, flat_tx (g := varQ) _ (fun v _ => varW_tx v), flat_tx (g := stQ d 1) _ (fun x hx => stW_tx d 1 x (List.all_eq_true.1 h4 x hx))]
  simp only [txQ_app]
  simp [txQ, pieQ, spQ, kwQ, sgQ, nuQ, nlQ, wChart, chnW]
/-- What is written: the chart's text, or more than 12000 bytes. -/
theorem wr_short {d : Nat} {c : ChX d} (h : chF d c = true) (hl : (txQ (chQ d c)).length ≤ 12000) : (chW d c).foldl wpL [] = txQ (chQ d c) := by
  rw [← chW_tx h] at hl ⊢
  rw [wpL_all _ _ (by simpa using hl)]; rfl
theorem wr_long {d : Nat} {c : ChX d} (h : chF d c = true) (hl : ¬ (txQ (chQ d c)).length ≤ 12000) : 12000 < ((chW d c).foldl wpL []).length := by
  rw [← chW_tx h] at hl
  refine wpL_long _ _ ?_
  rw [List.nil_append]; omega
end Go.Proofs.YtifgbioacknjpaaGreatDoor

/- Package show's writer: textOf. -/
namespace Go.Proofs.YtifgbioacknjpaaGreatDoor
open Go.RowKit Go.Lib
set_option linter.unusedSimpArgs false
set_option linter.unusedVariables false
attribute [local go_sem ↓] Go.wp_at_zero Go.wp_at_succ

theorem textO_any {x : Sx} (h : ExOk x) (hn : cntX x ≤ 1000) (w : World) (hw : Pow w) : Calls Tryz.prog 137 #[exX x] w fun e w' => e = .returned (.string ⟨(prC x.1 x.2).1.toArray⟩) ∧ Below w.heap.size w w' := by
  have h1 := printP w h.1 (by unfold cntX at hn; exact hn) h.2.2 hw
  have h2 : Calls Tryz.prog 146 #[exX x] w fun e w' => e = .returned (.tuple #[.string ⟨(prC x.1 x.2).1.toArray⟩, .int .i64 (prC x.1 x.2).2]) ∧ Below w.heap.size w w' := h1
  clear h1
  generalize exX x = v at *
  generalize (⟨(prC x.1 x.2).1.toArray⟩ : ByteArray) = t at *
  generalize (prC x.1 x.2).2 = n at *
  go_enter Tryz.func137, Tryz.ntmps137
  go_wp2_with (first
    | (go_at_call 146; refine h2.mono ?_; rintro e w1 ⟨rfl, b1⟩)
    | fail)
  go_ret
  exact ⟨rfl, b1⟩
/-- One more line, behind what was written since w. -/
theorem lineX {B b : Nat} {w : World} (hB : B ≤ w.heap.size) (n : Nat) (t : ByteArray) (l : List UInt8) (w1 : World) (k : Wx B b l w w1) (hn : n ≤ 1000) (ht : t.size ≤ 140737488340000) : Calls Tryz.prog 62 #[.pointer (some ⟨b, 0, none⟩), .int .i64 (n : Int), .string t] w1 fun e w' => e = .returned (.tuple #[]) ∧ Wx B b (wlL l n (bl t)) w w' := by
  refine (line_any n t k.1 hn ht (Nat.le_trans hB k.2.1.size)).mono ?_
  rintro e w' ⟨he, hw⟩
  exact ⟨he, k.trans hw⟩
theorem beginX {B b : Nat} {w : World} (hB : B ≤ w.heap.size) (n : Nat) (l : List UInt8) (w1 : World) (k : Wx B b l w w1) (hn : n ≤ 1000) : Calls Tryz.prog 99 #[.pointer (some ⟨b, 0, none⟩), .int .i64 (n : Int)] w1 fun e w' => e = .returned (.tuple #[]) ∧ Wx B b (wpL l (List.replicate n 9)) w w' := by
  refine (begin_any n k.1 hn (Nat.le_trans hB k.2.1.size)).mono ?_
  rintro e w' ⟨he, hw⟩
  exact ⟨he, k.trans hw⟩
/-- What touches nothing that was keeps the writer. -/
theorem Wx.on {B b : Nat} {l : List UInt8} {w w1 w2 : World} (k : Wx B b l w w1) (hB : B ≤ w.heap.size) (h : Below w1.heap.size w1 w2) : Wx B b l w w2 := ⟨Wr.below k.1 h, k.2.1.trans (h.mono (Nat.le_trans hB k.2.1.size)), k.2.2.trans (others_below h)⟩
end Go.Proofs.YtifgbioacknjpaaGreatDoor

/- Contracts of the library at this program. -/
namespace Go.Proofs.YtifgbioacknjpaaGreatDoor
open Go.Shelf
set_option linter.unusedVariables false

def renI : Ren := { f := fun x => match x with | 171 => 37 | 243 => 67 | 246 => 68 | 283 => 109 | 284 => 110 | 285 => 111 | 286 => 112 | 129 => 139 | 317 => 138 | 318 => 140 | 319 => 141 | 320 => 142 | 337 => 158 | 338 => 159 | n => n, t := fun x => match x with | 3 => 3 | 9 => 9 | 2 => 2 | 4 => 4 | 171 => 175 | 0 => 0 | 53 => 176 | 37 => 70 | 5 => 5 | 173 => 179 | 212 => 206 | 51 => 207 | 20 => 20 | 213 => 208 | 46 => 209 | 232 => 247 | 233 => 248 | n => n, g := fun x => match x with | 17 => 0 | 18 => 3 | 19 => 4 | n => n }
theorem laysI : LaysM.n171 Tryz.prog renI :=
  { mixed := by kernel_rfl, f129 := Tryz.func139.trans (congrArg some (by kernel_rfl)), f171 := Tryz.func37.trans (congrArg some (by kernel_rfl)), f243 := Tryz.func67.trans (congrArg some (by kernel_rfl)), f246 := Tryz.func68.trans (congrArg some (by kernel_rfl)), f283 := Tryz.func109.trans (congrArg some (by kernel_rfl)), f284 := Tryz.func110.trans (congrArg some (by kernel_rfl)), f285 := Tryz.func111.trans (congrArg some (by kernel_rfl)), f286 := Tryz.func112.trans (congrArg some (by kernel_rfl)), f317 := Tryz.func138.trans (congrArg some (by kernel_rfl)), f318 := Tryz.func140.trans (congrArg some (by kernel_rfl)), f319 := Tryz.func141.trans (congrArg some (by kernel_rfl)), f320 := Tryz.func142.trans (congrArg some (by kernel_rfl)), f337 := Tryz.func158.trans (congrArg some (by kernel_rfl)), f338 := Tryz.func159.trans (congrArg some (by kernel_rfl)), t0 := Tryz.underlying0, a0 := Tryz.isAgg0, z0 := Tryz.sizeOf0, v0 := Tryz.zeroValue0, t2 := Tryz.underlying2, a2 := Tryz.isAgg2, z2 := Tryz.sizeOf2, v2 := Tryz.zeroValue2, t3 := Tryz.underlying3, a3 := Tryz.isAgg3, z3 := Tryz.sizeOf3, v3 := Tryz.zeroValue3, t4 := Tryz.underlying4, a4 := Tryz.isAgg4, z4 := Tryz.sizeOf4, v4 := Tryz.zeroValue4, t5 := Tryz.underlying5, a5 := Tryz.isAgg5, z5 := Tryz.sizeOf5, v5 := Tryz.zeroValue5, t9 := Tryz.underlying9, a9 := Tryz.isAgg9, z9 := Tryz.sizeOf9, v9 := Tryz.zeroValue9, t20 := Tryz.underlying20, a20 := Tryz.isAgg20, z20 := Tryz.sizeOf20, v20 := Tryz.zeroValue20, t37 := Tryz.underlying70, a37 := Tryz.isAgg70, z37 := Tryz.sizeOf70, v37 := Tryz.zeroValue70, t46 := Tryz.underlying209, a46 := Tryz.isAgg209, z46 := Tryz.sizeOf209, v46 := Tryz.zeroValue209, t51 := Tryz.underlying207, a51 := Tryz.isAgg207, z51 := Tryz.sizeOf207, v51 := Tryz.zeroValue207, t53 := Tryz.underlying176, a53 := Tryz.isAgg176, z53 := Tryz.sizeOf176, v53 := Tryz.zeroValue176, t171 := Tryz.underlying175, a171 := Tryz.isAgg175, z171 := Tryz.sizeOf175, v171 := Tryz.zeroValue175, t173 := Tryz.underlying179, a173 := Tryz.isAgg179, z173 := Tryz.sizeOf179, v173 := Tryz.zeroValue179, t212 := Tryz.underlying206, a212 := Tryz.isAgg206, z212 := Tryz.sizeOf206, v212 := Tryz.zeroValue206, t213 := Tryz.underlying208, a213 := Tryz.isAgg208, z213 := Tryz.sizeOf208, t232 := Tryz.underlying247, a232 := Tryz.isAgg247, z232 := Tryz.sizeOf247, v232 := Tryz.zeroValue247, t233 := Tryz.underlying248, a233 := Tryz.isAgg248, z233 := Tryz.sizeOf248, v233 := Tryz.zeroValue248, g17 := by kernel_rfl, g18 := by kernel_rfl, g19 := by kernel_rfl, i0 := by kernel_rfl, i2 := by kernel_rfl, i3 := by kernel_rfl, i4 := by kernel_rfl, i5 := by kernel_rfl, i9 := by kernel_rfl, i20 := by kernel_rfl, i37 := by kernel_rfl, i46 := by kernel_rfl, i51 := by kernel_rfl, i53 := by kernel_rfl, i171 := by kernel_rfl, i173 := by kernel_rfl, i212 := by kernel_rfl, i232 := by kernel_rfl, i233 := by kernel_rfl, m17 := by kernel_rfl, m18 := by kernel_rfl, m19 := by kernel_rfl }
end Go.Proofs.YtifgbioacknjpaaGreatDoor

/- Package show's writer: Itoa; sums of texts. -/
namespace Go.Proofs.YtifgbioacknjpaaGreatDoor
open Go.RowKit Go.Lib
set_option linter.unusedSimpArgs false
set_option linter.unusedVariables false

theorem itoa_any {n : Int} (h0 : 0 ≤ n) (h1 : n ≤ 1000000000) (w : World) (hp : Pow w) :
    Calls Tryz.prog 37 #[.int .i64 n] w fun e w' => e = .returned (.string ⟨(dcN n).toArray⟩) ∧ Below w.heap.size w w' := by
  refine (Go.Proofs.Any.strconv_Itoa laysI n (by omega) (by omega) w hp).mono ?_
  rintro e w' ⟨rfl, k, os, rfl⟩
  refine ⟨?_, below_grow _ w (Nat.le_refl _) k os⟩
  unfold Lib.itoa dcN
  rw [if_neg (by omega)]
/-- A variable's value, which may be less than nothing. -/
theorem fmtZ_any {n : Int} (h0 : -1000000000 ≤ n) (h1 : n ≤ 1000000000) (w : World) (hp : Pow w) :
    Calls Tryz.prog 38 #[.int .i64 n, .int .i64 10] w fun e w' => e = .returned (.string ⟨(if n < 0 then 45 :: dcN (-n) else dcN n).toArray⟩) ∧ Below w.heap.size w w' := by
  refine (Go.Proofs.Any.strconv_FormatInt_10 laysF n (by omega) (by omega) w hp).mono ?_
  rintro e w' ⟨rfl, k, os, rfl⟩
  refine ⟨?_, below_grow _ w (Nat.le_refl _) k os⟩
  unfold Lib.itoa dcN
  by_cases h : n < 0
  · rw [if_pos h, if_pos h, show n.natAbs = (-n).toNat from by omega]
  · rw [if_neg h, if_neg h]
end Go.Proofs.YtifgbioacknjpaaGreatDoor

/- Package show's writer: kind, but for a step's. -/
namespace Go.Proofs.YtifgbioacknjpaaGreatDoor
open Go.RowKit Go.Lib
set_option linter.unusedSimpArgs false
set_option linter.unusedVariables false
attribute [local go_sem ↓] Go.wp_at_zero Go.wp_at_succ

set_option maxRecDepth 100000 in
set_option maxHeartbeats 8000000 in
theorem kind_all {B b : Nat} {l : List UInt8} {w : World} (n : Nat) (sn : ByteArray) (sl sc : Int) (se : Bool) (sd su : ByteArray) (sw sr : Int) (p1 : Option Addr) (m p3 : Nat) (p4 : Option Addr) (ni p6 : Nat) (h : Wr B b l w) (hB : B ≤ w.heap.size) (hn : n ≤ 1000)  : Calls Tryz.prog 101 #[.pointer (some ⟨b, 0, none⟩), .int .i64 (n : Int), .agg #[.string sn, .int .i64 sl, .int .i64 sc, .bool true, .bool se, .string sd, .string su, .int .i64 sw, .int .i64 sr, .slice p1 m p3, .slice p4 ni p6]] w fun e w' => e = .returned (.tuple #[]) ∧ Wx B b (wlL l n [97, 108, 108]) w w' := by
  have hal : Below w.heap.size w (w.alloc (.cells #[.string sn, .int .i64 sl, .int .i64 sc, .bool true, .bool se, .string sd, .string su, .int .i64 sw, .int .i64 sr, .slice p1 m p3, .slice p4 ni p6] 49)) := (Below.refl w.heap.size w).alloc (Nat.le_refl _) _
  have hX : Bn (w.alloc (.cells #[.string sn, .int .i64 sl, .int .i64 sc, .bool true, .bool se, .string sd, .string su, .int .i64 sw, .int .i64 sr, .slice p1 m p3, .slice p4 ni p6] 49)) w.heap.size [.string sn, .int .i64 sl, .int .i64 sc, .bool true, .bool se, .string sd, .string su, .int .i64 sw, .int .i64 sr, .slice p1 m p3, .slice p4 ni p6] := Bn.new w [.string sn, .int .i64 sl, .int .i64 sc, .bool true, .bool se, .string sd, .string su, .int .i64 sw, .int .i64 sr, .slice p1 m p3, .slice p4 ni p6] 49 _ rfl
  have k0 : Wx B b l w (w.alloc (.cells #[.string sn, .int .i64 sl, .int .i64 sc, .bool true, .bool se, .string sd, .string su, .int .i64 sw, .int .i64 sr, .slice p1 m p3, .slice p4 ni p6] 49)) := ⟨Wr.below h hal, hal.mono hB, others_below hal⟩
  have hl := lineX hB n ⟨#[97, 108, 108]⟩ l _ k0 hn (by decide)
  clear k0
  go_enter Tryz.func101, Tryz.ntmps101
  go_upto_region 1 with fail
  generalize (w.alloc (.cells #[.string sn, .int .i64 sl, .int .i64 sc, .bool true, .bool se, .string sd, .string su, .int .i64 sw, .int .i64 sr, .slice p1 m p3, .slice p4 ni p6] 49)) = wx at *
  clear h
  obtain ⟨x3, _⟩ := hX 3 _ rfl
  go_wp2_with (first
    | (go_at_call 62; refine hl.mono ?_; rintro e w2 ⟨rfl, k⟩)
    | fail)
  go_end0
  exact ⟨rfl, k⟩
set_option maxRecDepth 100000 in
set_option maxHeartbeats 8000000 in
theorem kind_end {B b : Nat} {l : List UInt8} {w : World} (n : Nat) (sn : ByteArray) (sl sc : Int) (sd su : ByteArray) (sw sr : Int) (p1 : Option Addr) (m p3 : Nat) (p4 : Option Addr) (ni p6 : Nat) (h : Wr B b l w) (hB : B ≤ w.heap.size) (hn : n ≤ 1000)  : Calls Tryz.prog 101 #[.pointer (some ⟨b, 0, none⟩), .int .i64 (n : Int), .agg #[.string sn, .int .i64 sl, .int .i64 sc, .bool false, .bool true, .string sd, .string su, .int .i64 sw, .int .i64 sr, .slice p1 m p3, .slice p4 ni p6]] w fun e w' => e = .returned (.tuple #[]) ∧ Wx B b (wlL l n [101, 110, 100]) w w' := by
  have hal : Below w.heap.size w (w.alloc (.cells #[.string sn, .int .i64 sl, .int .i64 sc, .bool false, .bool true, .string sd, .string su, .int .i64 sw, .int .i64 sr, .slice p1 m p3, .slice p4 ni p6] 49)) := (Below.refl w.heap.size w).alloc (Nat.le_refl _) _
  have hX : Bn (w.alloc (.cells #[.string sn, .int .i64 sl, .int .i64 sc, .bool false, .bool true, .string sd, .string su, .int .i64 sw, .int .i64 sr, .slice p1 m p3, .slice p4 ni p6] 49)) w.heap.size [.string sn, .int .i64 sl, .int .i64 sc, .bool false, .bool true, .string sd, .string su, .int .i64 sw, .int .i64 sr, .slice p1 m p3, .slice p4 ni p6] := Bn.new w [.string sn, .int .i64 sl, .int .i64 sc, .bool false, .bool true, .string sd, .string su, .int .i64 sw, .int .i64 sr, .slice p1 m p3, .slice p4 ni p6] 49 _ rfl
  have k0 : Wx B b l w (w.alloc (.cells #[.string sn, .int .i64 sl, .int .i64 sc, .bool false, .bool true, .string sd, .string su, .int .i64 sw, .int .i64 sr, .slice p1 m p3, .slice p4 ni p6] 49)) := ⟨Wr.below h hal, hal.mono hB, others_below hal⟩
  have hl := lineX hB n ⟨#[101, 110, 100]⟩ l _ k0 hn (by decide)
  clear k0
  go_enter Tryz.func101, Tryz.ntmps101
  go_upto_region 1 with fail
  generalize (w.alloc (.cells #[.string sn, .int .i64 sl, .int .i64 sc, .bool false, .bool true, .string sd, .string su, .int .i64 sw, .int .i64 sr, .slice p1 m p3, .slice p4 ni p6] 49)) = wx at *
  clear h
  obtain ⟨x3, _⟩ := hX 3 _ rfl
  obtain ⟨x4, _⟩ := hX 4 _ rfl
  go_wp2_with (first
    | (go_at_call 62; refine hl.mono ?_; rintro e w2 ⟨rfl, k⟩)
    | fail)
  go_end0
  exact ⟨rfl, k⟩
set_option maxRecDepth 100000 in
set_option maxHeartbeats 8000000 in
theorem kind_no {B b : Nat} {l : List UInt8} {w : World} (n : Nat) (sn : ByteArray) (sl sc : Int) (sd su : ByteArray) (sw sr : Int) (p1 : Option Addr) (m p3 : Nat) (p4 : Option Addr) (ni p6 : Nat) (h : Wr B b l w) (hB : B ≤ w.heap.size) (hn : n ≤ 1000) (hd : sd.toList = []) : Calls Tryz.prog 101 #[.pointer (some ⟨b, 0, none⟩), .int .i64 (n : Int), .agg #[.string sn, .int .i64 sl, .int .i64 sc, .bool false, .bool false, .string sd, .string su, .int .i64 sw, .int .i64 sr, .slice p1 m p3, .slice p4 ni p6]] w fun e w' => e = .returned (.tuple #[]) ∧ Wx B b (l) w w' := by
  have hal : Below w.heap.size w (w.alloc (.cells #[.string sn, .int .i64 sl, .int .i64 sc, .bool false, .bool false, .string sd, .string su, .int .i64 sw, .int .i64 sr, .slice p1 m p3, .slice p4 ni p6] 49)) := (Below.refl w.heap.size w).alloc (Nat.le_refl _) _
  have hX : Bn (w.alloc (.cells #[.string sn, .int .i64 sl, .int .i64 sc, .bool false, .bool false, .string sd, .string su, .int .i64 sw, .int .i64 sr, .slice p1 m p3, .slice p4 ni p6] 49)) w.heap.size [.string sn, .int .i64 sl, .int .i64 sc, .bool false, .bool false, .string sd, .string su, .int .i64 sw, .int .i64 sr, .slice p1 m p3, .slice p4 ni p6] := Bn.new w [.string sn, .int .i64 sl, .int .i64 sc, .bool false, .bool false, .string sd, .string su, .int .i64 sw, .int .i64 sr, .slice p1 m p3, .slice p4 ni p6] 49 _ rfl
  have k0 : Wx B b l w (w.alloc (.cells #[.string sn, .int .i64 sl, .int .i64 sc, .bool false, .bool false, .string sd, .string su, .int .i64 sw, .int .i64 sr, .slice p1 m p3, .slice p4 ni p6] 49)) := ⟨Wr.below h hal, hal.mono hB, others_below hal⟩
  go_enter Tryz.func101, Tryz.ntmps101
  go_upto_region 1 with fail
  generalize (w.alloc (.cells #[.string sn, .int .i64 sl, .int .i64 sc, .bool false, .bool false, .string sd, .string su, .int .i64 sw, .int .i64 sr, .slice p1 m p3, .slice p4 ni p6] 49)) = wx at *
  clear h
  obtain ⟨x3, _⟩ := hX 3 _ rfl
  obtain ⟨x4, _⟩ := hX 4 _ rfl
  obtain ⟨x5, _⟩ := hX 5 _ rfl
  go_wp2
  go_end0
  exact ⟨rfl, k0⟩

theorem add_ex (a b : ByteArray) (h : a.size + b.size ≤ 2000000) : ∃ c : ByteArray, bl c = bl a ++ bl b ∧ c.size = a.size + b.size ∧ ∀ W, (Op.stringOp .add a b).run Tryz.prog W = .ok (.string c) W := by
  have e : bl (a ++ b) = bl a ++ bl b := by unfold bl; rw [ByteArray.data_append, Array.toList_append]
  refine ⟨a ++ b, e, by simp, fun W => add_ok a b _ ?_ e W⟩
  unfold bl
  rw [Array.length_toList, Array.length_toList]
  exact h
theorem blk_new (w : World) (o : Obj) : (w.alloc o).heap[w.heap.size]? = some o := by
  show (w.heap.push o)[w.heap.size]? = some o
  simp
theorem Wr.lt {B b : Nat} {l : List UInt8} {w : World} (h : Wr B b l w) : b < w.heap.size := by
  have key : ∀ p, Lib.BuilderAtF 74 5 B b p (Lib.byteCells l) w → b < w.heap.size := by
    rintro p ⟨h1, v, h2, _⟩
    exact (Array.getElem?_eq_some_iff.1 h2).1
  exact h.elim (key _) (key _)
/-- A block that is neither the writer nor a row of bytes stays. -/
theorem keepX {b X T : Nat} {cs : Array Value} {fz : Nat × Nat} {w w' : World} (k : Lib.OthersKept 5 (some b) w w') (hO : w.heap[X]? = some (.cells cs T fz)) (hb : b ≠ X) (hT : T ≠ 5) : w'.heap[X]? = w.heap[X]? := by
  rw [hO]
  refine k X _ hO (fun e => hb (Option.some.inj e).symm) (fun c f e => ?_)
  injection e with _ e2 _
  exact hT e2
theorem dc_len {n : Int} (h : 0 ≤ n ∧ n ≤ 1000000000) : (dcN n).length ≤ 10 := by
  have := num_dc h.1 h.2
  unfold numB at this
  simp only [Bool.and_eq_true, decide_eq_true_eq] at this
  omega
theorem bl_mk (l : List UInt8) : bl (⟨l.toArray⟩ : ByteArray) = l := by unfold bl; simp
theorem size_mk (l : List UInt8) : (⟨l.toArray⟩ : ByteArray).size = l.length := by show l.toArray.size = _; simp
/-- A text that is a letter. -/
theorem letter_of (l : List UInt8) : ∃ t : ByteArray, (⟨l.toArray⟩ : ByteArray) = t ∧ bl t = l ∧ t.size = l.length := ⟨_, rfl, bl_mk l, size_mk l⟩
end Go.Proofs.YtifgbioacknjpaaGreatDoor

/- The text of a chart as the document lays it, part by part. -/
namespace Go.Proofs.YtifgbioacknjpaaGreatDoor
open Go.RowKit Go.Lib
set_option linter.unusedSimpArgs false
set_option linter.unusedVariables false

theorem add_okW (a b c : ByteArray) (h : (bl a).length + (bl b).length ≤ 35184372088832) (hc : bl c = bl a ++ bl b) (W : World) : (Op.stringOp .add a b).run Tryz.prog W = .ok (.string c) W := by
  have hs : a.size + b.size ≤ 35184372088832 := by
    unfold bl at h
    rw [Array.length_toList, Array.length_toList] at h
    exact h
  have hcc : c = a ++ b := by
    refine ByteArray.ext (Array.toList_inj.1 ?_)
    rw [ByteArray.data_append, Array.toList_append]
    exact hc
  rw [hcc]
  rw [run_string_add_if]
  rw [if_neg (by omega)]
/-- One part more of a text: what is there, and what is left. -/
theorem pre_add (o p : ByteArray) (X T : List UInt8) (h : bl o ++ (bl p ++ X) = T) (hl : T.length ≤ 17592186044416) : ∃ c : ByteArray, Hid (bl c ++ X = T) ∧ ∀ W, (Op.stringOp .add o p).run Tryz.prog W = .ok (.string c) W := by
  have e : bl (o ++ p) = bl o ++ bl p := by unfold bl; rw [ByteArray.data_append, Array.toList_append]
  refine ⟨o ++ p, ?_, fun W => add_okW o p _ ?_ e W⟩
  · show _ = _
    rw [e, List.append_assoc]; exact h
  · have h2 := congrArg List.length h
    simp only [List.length_append] at h2
    omega
theorem map_flat {α : Type} (f : α → List (List UInt8)) : ∀ l : List α, (l.map f).flatten.flatten = (l.map (fun x => (f x).flatten)).flatten
  | [] => rfl
  | x :: r => by rw [List.map_cons, List.map_cons, List.flatten_cons, List.flatten_cons, List.flatten_append, map_flat f r]
def onTd (n : Nat) (o : OnC) : List UInt8 := (onW n o).flatten
def stTd (d n : Nat) (t : St d) : List UInt8 := (stW d n t).flatten
def grdTd (g : Bool × Sx) : List UInt8 := if g.1 = true then [32, 105, 102, 32] ++ exW g.2 else []
def kndTd (n : Nat) (h : HdC) : List UInt8 :=
  if h.2.1.1 = true then List.replicate n 9 ++ [97, 108, 108, 10] else if h.2.1.2 = true then List.replicate n 9 ++ [101, 110, 100, 10] else if h.2.2.1.1 ≠ [] then
    List.replicate n 9 ++ ([100, 111, 32] ++ (h.2.2.1.1 ++ ([32, 117, 110, 100, 111, 32] ++ (h.2.2.1.2 ++ ([32, 97, 116, 32] ++ (dcN h.2.2.2.1.1 ++ ([32, 114, 101, 116, 114, 105, 101, 115, 32] ++ (dcN h.2.2.2.1.2 ++ [10])))))))) else []
theorem setW_eq (s : List UInt8 × Sx) : setW s = [32, 115, 101, 116, 32] ++ (s.1 ++ ([32, 61, 32] ++ exW s.2)) := by simp [setW]
theorem onTd_eq (n : Nat) (o : OnC) : onTd n o = List.replicate n 9 ++ ([111, 110, 32] ++ (o.1 ++ (grdTd o.2.1 ++ ([32, 103, 111, 32] ++ (o.2.2.1 ++ ((o.2.2.2.1.map setW).flatten ++ [10])))))) := by
  unfold onTd onW grdW grdTd
  by_cases h : o.2.1.1 = true
  · rw [if_pos h, if_pos h]; simp
  · rw [if_neg h, if_neg h]; simp
theorem kndTd_eq (n : Nat) (h : HdC) : (kndW n h).flatten = kndTd n h := by
  unfold kndW kndTd
  by_cases h1 : h.2.1.1 = true
  · rw [if_pos h1, if_pos h1]; simp [lnW]
  · rw [if_neg h1, if_neg h1]
    by_cases h2 : h.2.1.2 = true
    · rw [if_pos h2, if_pos h2]; simp [lnW]
    · rw [if_neg h2, if_neg h2]
      by_cases h3 : h.2.2.1.1 ≠ []
      · rw [if_pos h3, if_pos h3]; simp [lnW, doW]
      · rw [if_neg h3, if_neg h3]; rfl
theorem stTd_eq (d n : Nat) (t : St (d + 1)) : stTd (d + 1) n t = List.replicate n 9 ++ ([115, 116, 97, 116, 101, 32] ++ (t.1.1.1 ++ ([32, 123, 10] ++ (kndTd (n + 1) t.1 ++ ((t.1.2.2.2.2.map (onTd (n + 1))).flatten ++ ((t.2.map (stTd d (n + 1))).flatten ++ (List.replicate n 9 ++ [125, 10]))))))) := by
  show (lnW n (stnW t.1.1.1) ++ (kndW (n + 1) t.1 ++ ((t.1.2.2.2.2.map (onW (n + 1))).flatten ++ ((t.2.map (stW d (n + 1))).flatten ++ lnW n [125])))).flatten = _
  rw [List.flatten_append, List.flatten_append, List.flatten_append, List.flatten_append, kndTd_eq, map_flat, map_flat]
  have e1 : (fun x => (onW (n + 1) x).flatten) = onTd (n + 1) := rfl
  have e2 : (fun x => (stW d (n + 1) x).flatten) = stTd d (n + 1) := rfl
  rw [e1, e2]
  simp [lnW, stnW]
theorem chTd_eq (d : Nat) (c : ChX d) : (chW d c).flatten = [99, 104, 97, 114, 116, 32] ++ (c.1.1 ++ ([32] ++ (dcN c.2.1 ++ ([32, 123, 10] ++ ((c.2.2.1.map (fun v => (varW v).flatten)).flatten ++ ((c.2.2.2.map (stTd d 1)).flatten ++ [125, 10])))))) := by
  unfold chW
  rw [List.flatten_append, List.flatten_append, List.flatten_append, map_flat, map_flat]
  have e2 : (fun x => (stW d 1 x).flatten) = stTd d 1 := rfl
  rw [e2]
  simp [lnW, chnW]
theorem varTd_eq (v : List UInt8 × Int × Pl) : (varW v).flatten = [9, 118, 97, 114, 32] ++ (v.1 ++ ([32, 61, 32] ++ (znW v.2.1 ++ [10]))) := by simp [varW, lnW]
theorem drop_step {α : Type} {l : List α} {g : Nat} (h : g < l.length) : l.drop g = l[g] :: l.drop (g + 1) := List.drop_eq_getElem_cons h

abbrev Vr := ByteArray × Int
/-- The slice v reads as the variables vs. -/
def RdV (w : World) (v : Value) (vs : List Vr) : Prop :=
  ∃ a cap, v = .slice a vs.length cap ∧ vs.length ≤ cap ∧ cap ≤ maxLen ∧ (a = none → vs = []) ∧
    ∀ x, a = some x → ∀ (i : Nat) (h : i < vs.length), w.cell? (x.add (i * 2)) = some (.string (vs[i]).1) ∧ w.cell? (x.add (i * 2 + 1)) = some (.int .i64 (vs[i]).2)
theorem RdV.below {w w' : World} {v : Value} {vs : List Vr} {B : Nat} (h : RdV w v vs) (hb : Below B w w') (hB : w.heap.size ≤ B) : RdV w' v vs := by
  obtain ⟨a, cap, rfl, hc, hm, hn, hcell⟩ := h
  refine ⟨a, cap, rfl, hc, hm, hn, fun x hx i hi => ?_⟩
  obtain ⟨h1, h2⟩ := hcell x hx i hi
  have hk : ∀ p u, w.cell? p = some u → w'.cell? p = some u := fun p u hp => by rw [hb.cell (Nat.lt_of_lt_of_le (World.block_lt_of_cell? w _ hp) hB)]; exact hp
  exact ⟨hk _ _ h1, hk _ _ h2⟩
theorem RdV.form {w : World} {v : Value} {vs : List Vr} (h : RdV w v vs) : ∃ a cap, v = .slice a vs.length cap ∧ vs.length ≤ cap ∧ cap ≤ 9223372036854775807 ∧
    ∀ (i : Nat) (hi : i < vs.length), ∃ b off, a = some ⟨b, off, none⟩ ∧ b < w.heap.size ∧ w.cell? ⟨b, off + i * 2, none⟩ = some (.string (vs[i]).1) ∧ w.cell? ⟨b, off + i * 2 + 1, none⟩ = some (.int .i64 (vs[i]).2) := by
  obtain ⟨a, cap, rfl, hc, hm, hn, hcell⟩ := h
  refine ⟨a, cap, rfl, hc, by unfold maxLen at hm; omega, fun i hi => ?_⟩
  cases a with
  | none => have := hn rfl; subst this; simp at hi
  | some x =>
    obtain ⟨b, off, spot⟩ := x
    obtain ⟨h1, h2⟩ := hcell _ rfl i hi
    obtain ⟨z1, _⟩ := hcell _ rfl 0 (by omega)
    have hspot : spot = none := by simpa [Addr.add] using World.cell?_spot z1
    subst hspot
    rw [add_plain] at h1 h2
    exact ⟨b, off, rfl, World.block_lt_of_cell? w _ h1, h1, h2⟩

end Go.Proofs.YtifgbioacknjpaaGreatDoor

/- Arguments that are trees of nodes, or lists of variables, opened. -/
namespace Go.Proofs.YtifgbioacknjpaaGreatDoor
open Go.ChangeShapes Go.WideShapes Go.ChangeAt Go.RowKit
set_option linter.unusedSimpArgs false
set_option linter.unusedVariables false

theorem half2 (g : Nat) : (g + 2) / 2 = g / 2 + 1 := by omega
theorem pick {α : Type} {p : Nat → α → Prop} : ∀ (n : Nat), (∀ i, i < n → ∃ a, p i a) → ∃ l : List α, l.length = n ∧ ∀ (i : Nat) (h : i < l.length), p i l[i]
  | 0, _ => ⟨[], rfl, fun i h => absurd h (by simp)⟩
  | n + 1, H => by
    obtain ⟨l, hl, hp⟩ := pick n (fun i hi => H i (by omega))
    obtain ⟨a, ha⟩ := H n (by omega)
    refine ⟨l ++ [a], by simp [hl], fun i h => ?_⟩
    rcases Nat.lt_or_ge i l.length with hi | hi
    · rw [List.getElem_append_left hi]; exact hp i hi
    · have : i = n := by simp at h; omega
      subst this
      have e : (l ++ [a])[i]'h = a := by simp [← hl]
      rw [e]; exact ha
set_option maxRecDepth 100000 in
theorem open_node {H : Type} {enc : TypeId × Value → H} {W : World} : ∀ (m fuel : Nat), fuel ≤ m → ∀ {cs : List Value} {x : DataW H × List MemPlace}, DataW.trod enc Tryz.prog W 0 (fun _ => true) true fuel 104 cs = some x →
    ∃ (d : Nat) (t : T d) (c0 c1 c2 c3 : Value), d = fuel / 2 ∧ cs = [c0, c1, c2, c3] ∧ RdT (fun _ => True) W d t (.agg #[c0, c1, c2, c3])
  | 0, fuel, hf, cs, x, h => by
    obtain rfl : fuel = 0 := by omega
    simp [DataW.trod] at h
  | m + 1, fuel, hf, cs, x, h => by
    obtain ⟨xs, n, rfl, rfl, hl, hlen, hfd⟩ := DataW.trod_struct Tryz.underlying104 h
    have hc : Tryz.prog.cellsOf 104 = 4 := by kernel_rfl
    have cI : Tryz.prog.cellsOf 3 = 1 := by kernel_rfl
    have cL : Tryz.prog.cellsOf 2 = 1 := by kernel_rfl
    have c9 : Tryz.prog.cellsOf 9 = 1 := by kernel_rfl
    have cP : Tryz.prog.cellsOf 102 = 1 := by kernel_rfl
    rw [hc] at hl
    have f0 : DataW.trod enc Tryz.prog W 0 (fun _ => true) true n 3 ((cs.drop 0).take (Tryz.prog.cellsOf 3)) = xs[0]? := hfd 0 _ rfl
    have f1 : DataW.trod enc Tryz.prog W 0 (fun _ => true) true n 2 ((cs.drop 1).take (Tryz.prog.cellsOf 2)) = xs[1]? := hfd 1 _ rfl
    have f2 : DataW.trod enc Tryz.prog W 0 (fun _ => true) true n 9 ((cs.drop 2).take (Tryz.prog.cellsOf 9)) = xs[2]? := hfd 2 _ rfl
    have f3 : DataW.trod enc Tryz.prog W 0 (fun _ => true) true n 102 ((cs.drop 3).take (Tryz.prog.cellsOf 102)) = xs[3]? := hfd 3 _ rfl
    rw [cI] at f0
    rw [cL] at f1
    rw [c9] at f2
    rw [cP] at f3
    match cs, hl, xs, hlen with
    | [a, b, c, e], _, [y0, y1, y2, y3], _ =>
      simp only [List.drop_zero, List.take_succ_cons, List.take_zero, List.drop_succ_cons, List.getElem?_cons_zero, List.getElem?_cons_succ] at f0 f1 f2 f3
      obtain ⟨k, e0, rfl, _⟩ := DataW.trod_int Tryz.underlying3 f0
      obtain ⟨nn, e1, rfl, _⟩ := DataW.trod_int Tryz.underlying2 f1
      obtain ⟨s, e2, rfl, _⟩ := DataW.trod_string Tryz.underlying9 f2
      simp only [List.cons.injEq, and_true] at e0 e1 e2
      subst e0 e1 e2
      obtain ⟨g, rfl⟩ : ∃ g, n = g + 1 := by
        cases n with
        | zero => simp [DataW.trod] at f3
        | succ g => exact ⟨g, rfl⟩
      rcases DataW.trod_slice Tryz.underlying102 f3 with ⟨hcs, _⟩ | ⟨ad, len, cap, elems, rest, n', hn', hcs, _, _, hlc, hcm, hel, helt, _, _⟩
      · simp only [List.cons.injEq, and_true] at hcs
        subst hcs
        refine ⟨g / 2 + 1, mkT k nn s [], _, _, _, _, (half2 g).symm, rfl, rdT_mk.2 ⟨_, rfl, none, 0, rfl, by simp, by simp [maxLen], fun _ => rfl, fun x hx => by cases hx⟩⟩
      · obtain rfl : n' = g := by omega
        simp only [List.cons.injEq, and_true] at hcs
        subst hcs
        rw [hc] at helt
        have hall : ∀ i, i < len → ∃ q : T (n' / 2) × Value × Value × Value × Value, W.cells? 0 (ad.add (i * 4)) 4 = some [q.2.1, q.2.2.1, q.2.2.2.1, q.2.2.2.2] ∧ RdT (fun _ => True) W (n' / 2) q.1 (.agg #[q.2.1, q.2.2.1, q.2.2.2.1, q.2.2.2.2]) := by
          intro i hi
          have h1 := helt i hi
          rw [List.getElem?_eq_getElem (by omega)] at h1
          obtain ⟨cs', h2, h3⟩ := Option.bind_eq_some_iff.1 h1
          obtain ⟨d, t, c0, c1, c2, c3, rfl, rfl, hr⟩ := open_node m n' (by omega) h3
          exact ⟨(t, c0, c1, c2, c3), h2, hr⟩
        obtain ⟨l, hll, hfy⟩ := pick len hall
        refine ⟨n' / 2 + 1, mkT k nn s (l.map (fun q => q.1)), _, _, _, _, (half2 n').symm, rfl, rdT_mk.2 ⟨_, rfl, some ad, cap, by simp [hll], by simpa [hll] using hlc, hcm, by simp, ?_⟩⟩
        intro z hz i hi
        obtain rfl := Option.some.inj hz
        have hi' : i < l.length := by simpa using hi
        obtain ⟨g1, g2⟩ := hfy i hi'
        obtain ⟨_, _, hcell⟩ := World.cells?_some g1
        have k0 := hcell 0 (by omega)
        have k1 := hcell 1 (by omega)
        have k2 := hcell 2 (by omega)
        have k3 := hcell 3 (by omega)
        rw [Go.Deep.add_add] at k0 k1 k2 k3
        simp only [Nat.add_zero] at k0
        refine ⟨trivial, (l[i]).2.1, (l[i]).2.2.1, (l[i]).2.2.2.1, (l[i]).2.2.2.2, ?_, by simpa using k0, by simpa using k1, by simpa using k2, by simpa using k3⟩
        simp only [List.getElem_map]
        exact g2

end Go.Proofs.YtifgbioacknjpaaGreatDoor

/- The number that digits spell, as strconv.ParseInt tells it. Math alone. -/
namespace Go.Proofs.YtifgbioacknjpaaGreatDoor
open Go.RowKit Go.Lib
set_option linter.unusedSimpArgs false
set_option linter.unusedVariables false


end Go.Proofs.YtifgbioacknjpaaGreatDoor

/- What the document's level and Reserved do. -/
namespace Go.Proofs.YtifgbioacknjpaaGreatDoor
open Go.RowKit Go.Lib
set_option linter.unusedSimpArgs false
set_option linter.unusedVariables false
attribute [local go_sem ↓] Go.wp_at_zero Go.wp_at_succ

set_option maxRecDepth 100000 in
set_option maxHeartbeats 2000000 in
theorem rLevel_any (s : ByteArray) (w : World) : Calls Tryz.prog 161 #[.string s] w fun e w' => e = .returned (.int .i64 (lv (bl s) : Int)) ∧ w = w' := by
  have hS : ∀ x, (s.toList == x) = (bl s == x) := fun x => by rw [ByteArray.toList_eq]
  obtain ⟨l, hl⟩ : ∃ l, bl s = l := ⟨_, rfl⟩
  rw [hl]
  simp only [hl] at hS
  clear hl
  have q0 : (s.toList == [124, 124]) = (l == [124, 124]) := hS _
  have q1 : (s.toList == [38, 38]) = (l == [38, 38]) := hS _
  have q2 : (s.toList == [60]) = (l == [60]) := hS _
  have q3 : (s.toList == [60, 61]) = (l == [60, 61]) := hS _
  have q4 : (s.toList == [61, 61]) = (l == [61, 61]) := hS _
  have q5 : (s.toList == [33, 61]) = (l == [33, 61]) := hS _
  have q6 : (s.toList == [43]) = (l == [43]) := hS _
  have q7 : (s.toList == [45]) = (l == [45]) := hS _
  have q8 : (s.toList == [42]) = (l == [42]) := hS _
  clear hS
  cases r0 : (l == [124, 124])
  case true => rw [r0] at q0; clear q1 q2 q3 q4 q5 q6 q7 q8; go_enter Tryz.func161, Tryz.ntmps161; go_wp2; go_ret; exact ⟨by rw [eq_of_beq r0]; rfl, rfl⟩
  rw [r0] at q0
  cases r1 : (l == [38, 38])
  case true => rw [r1] at q1; clear q2 q3 q4 q5 q6 q7 q8; go_enter Tryz.func161, Tryz.ntmps161; go_wp2; go_ret; exact ⟨by rw [eq_of_beq r1]; rfl, rfl⟩
  rw [r1] at q1
  cases r2 : (l == [60])
  case true => rw [r2] at q2; clear q3 q4 q5 q6 q7 q8; go_enter Tryz.func161, Tryz.ntmps161; go_wp2; go_ret; exact ⟨by rw [eq_of_beq r2]; rfl, rfl⟩
  rw [r2] at q2
  cases r3 : (l == [60, 61])
  case true => rw [r3] at q3; clear q4 q5 q6 q7 q8; go_enter Tryz.func161, Tryz.ntmps161; go_wp2; go_ret; exact ⟨by rw [eq_of_beq r3]; rfl, rfl⟩
  rw [r3] at q3
  cases r4 : (l == [61, 61])
  case true => rw [r4] at q4; clear q5 q6 q7 q8; go_enter Tryz.func161, Tryz.ntmps161; go_wp2; go_ret; exact ⟨by rw [eq_of_beq r4]; rfl, rfl⟩
  rw [r4] at q4
  cases r5 : (l == [33, 61])
  case true => rw [r5] at q5; clear q6 q7 q8; go_enter Tryz.func161, Tryz.ntmps161; go_wp2; go_ret; exact ⟨by rw [eq_of_beq r5]; rfl, rfl⟩
  rw [r5] at q5
  cases r6 : (l == [43])
  case true => rw [r6] at q6; clear q7 q8; go_enter Tryz.func161, Tryz.ntmps161; go_wp2; go_ret; exact ⟨by rw [eq_of_beq r6]; rfl, rfl⟩
  rw [r6] at q6
  cases r7 : (l == [45])
  case true => rw [r7] at q7; clear q8; go_enter Tryz.func161, Tryz.ntmps161; go_wp2; go_ret; exact ⟨by rw [eq_of_beq r7]; rfl, rfl⟩
  rw [r7] at q7
  cases r8 : (l == [42])
  case true => rw [r8] at q8; go_enter Tryz.func161, Tryz.ntmps161; go_wp2; go_ret; exact ⟨by rw [eq_of_beq r8]; rfl, rfl⟩
  rw [r8] at q8
  go_enter Tryz.func161, Tryz.ntmps161
  go_wp2
  go_ret
  have e : lv l = 0 := by simp [lv, beq_eq_false_iff_ne.1 r0, beq_eq_false_iff_ne.1 r1, beq_eq_false_iff_ne.1 r2, beq_eq_false_iff_ne.1 r3, beq_eq_false_iff_ne.1 r4, beq_eq_false_iff_ne.1 r5, beq_eq_false_iff_ne.1 r6, beq_eq_false_iff_ne.1 r7, beq_eq_false_iff_ne.1 r8]
  exact ⟨by rw [e]; rfl, rfl⟩
set_option maxRecDepth 100000 in
set_option maxHeartbeats 2000000 in
theorem rReserved_any (s : ByteArray) (w : World) : Calls Tryz.prog 80 #[.string s] w fun e w' => e = .returned (.bool (rsvB (bl s))) ∧ w = w' := by
  have hS : ∀ x, (s.toList == x) = (bl s == x) := fun x => by rw [ByteArray.toList_eq]
  obtain ⟨l, hl⟩ : ∃ l, bl s = l := ⟨_, rfl⟩
  rw [hl]
  simp only [hl] at hS
  clear hl
  have q0 : (s.toList == [99, 104, 97, 114, 116]) = (l == [99, 104, 97, 114, 116]) := hS _
  have q1 : (s.toList == [118, 97, 114]) = (l == [118, 97, 114]) := hS _
  have q2 : (s.toList == [115, 116, 97, 116, 101]) = (l == [115, 116, 97, 116, 101]) := hS _
  have q3 : (s.toList == [97, 108, 108]) = (l == [97, 108, 108]) := hS _
  have q4 : (s.toList == [101, 110, 100]) = (l == [101, 110, 100]) := hS _
  have q5 : (s.toList == [100, 111]) = (l == [100, 111]) := hS _
  have q6 : (s.toList == [117, 110, 100, 111]) = (l == [117, 110, 100, 111]) := hS _
  have q7 : (s.toList == [97, 116]) = (l == [97, 116]) := hS _
  have q8 : (s.toList == [114, 101, 116, 114, 105, 101, 115]) = (l == [114, 101, 116, 114, 105, 101, 115]) := hS _
  have q9 : (s.toList == [111, 110]) = (l == [111, 110]) := hS _
  have q10 : (s.toList == [105, 102]) = (l == [105, 102]) := hS _
  have q11 : (s.toList == [103, 111]) = (l == [103, 111]) := hS _
  have q12 : (s.toList == [115, 101, 116]) = (l == [115, 101, 116]) := hS _
  clear hS
  cases r0 : (l == [99, 104, 97, 114, 116])
  case true => rw [r0] at q0; clear q1 q2 q3 q4 q5 q6 q7 q8 q9 q10 q11 q12; go_enter Tryz.func80, Tryz.ntmps80; go_wp2; go_ret; exact ⟨by rw [eq_of_beq r0]; rfl, rfl⟩
  rw [r0] at q0
  cases r1 : (l == [118, 97, 114])
  case true => rw [r1] at q1; clear q2 q3 q4 q5 q6 q7 q8 q9 q10 q11 q12; go_enter Tryz.func80, Tryz.ntmps80; go_wp2; go_ret; exact ⟨by rw [eq_of_beq r1]; rfl, rfl⟩
  rw [r1] at q1
  cases r2 : (l == [115, 116, 97, 116, 101])
  case true => rw [r2] at q2; clear q3 q4 q5 q6 q7 q8 q9 q10 q11 q12; go_enter Tryz.func80, Tryz.ntmps80; go_wp2; go_ret; exact ⟨by rw [eq_of_beq r2]; rfl, rfl⟩
  rw [r2] at q2
  cases r3 : (l == [97, 108, 108])
  case true => rw [r3] at q3; clear q4 q5 q6 q7 q8 q9 q10 q11 q12; go_enter Tryz.func80, Tryz.ntmps80; go_wp2; go_ret; exact ⟨by rw [eq_of_beq r3]; rfl, rfl⟩
  rw [r3] at q3
  cases r4 : (l == [101, 110, 100])
  case true => rw [r4] at q4; clear q5 q6 q7 q8 q9 q10 q11 q12; go_enter Tryz.func80, Tryz.ntmps80; go_wp2; go_ret; exact ⟨by rw [eq_of_beq r4]; rfl, rfl⟩
  rw [r4] at q4
  cases r5 : (l == [100, 111])
  case true => rw [r5] at q5; clear q6 q7 q8 q9 q10 q11 q12; go_enter Tryz.func80, Tryz.ntmps80; go_wp2; go_ret; exact ⟨by rw [eq_of_beq r5]; rfl, rfl⟩
  rw [r5] at q5
  cases r6 : (l == [117, 110, 100, 111])
  case true => rw [r6] at q6; clear q7 q8 q9 q10 q11 q12; go_enter Tryz.func80, Tryz.ntmps80; go_wp2; go_ret; exact ⟨by rw [eq_of_beq r6]; rfl, rfl⟩
  rw [r6] at q6
  cases r7 : (l == [97, 116])
  case true => rw [r7] at q7; clear q8 q9 q10 q11 q12; go_enter Tryz.func80, Tryz.ntmps80; go_wp2; go_ret; exact ⟨by rw [eq_of_beq r7]; rfl, rfl⟩
  rw [r7] at q7
  cases r8 : (l == [114, 101, 116, 114, 105, 101, 115])
  case true => rw [r8] at q8; clear q9 q10 q11 q12; go_enter Tryz.func80, Tryz.ntmps80; go_wp2; go_ret; exact ⟨by rw [eq_of_beq r8]; rfl, rfl⟩
  rw [r8] at q8
  cases r9 : (l == [111, 110])
  case true => rw [r9] at q9; clear q10 q11 q12; go_enter Tryz.func80, Tryz.ntmps80; go_wp2; go_ret; exact ⟨by rw [eq_of_beq r9]; rfl, rfl⟩
  rw [r9] at q9
  cases r10 : (l == [105, 102])
  case true => rw [r10] at q10; clear q11 q12; go_enter Tryz.func80, Tryz.ntmps80; go_wp2; go_ret; exact ⟨by rw [eq_of_beq r10]; rfl, rfl⟩
  rw [r10] at q10
  cases r11 : (l == [103, 111])
  case true => rw [r11] at q11; clear q12; go_enter Tryz.func80, Tryz.ntmps80; go_wp2; go_ret; exact ⟨by rw [eq_of_beq r11]; rfl, rfl⟩
  rw [r11] at q11
  cases r12 : (l == [115, 101, 116])
  case true => rw [r12] at q12; go_enter Tryz.func80, Tryz.ntmps80; go_wp2; go_ret; exact ⟨by rw [eq_of_beq r12]; rfl, rfl⟩
  rw [r12] at q12
  go_enter Tryz.func80, Tryz.ntmps80
  go_wp2
  go_ret
  have e : rsvB l = false := by simp [rsvB, rsv13, beq_eq_false_iff_ne.1 r0, beq_eq_false_iff_ne.1 r1, beq_eq_false_iff_ne.1 r2, beq_eq_false_iff_ne.1 r3, beq_eq_false_iff_ne.1 r4, beq_eq_false_iff_ne.1 r5, beq_eq_false_iff_ne.1 r6, beq_eq_false_iff_ne.1 r7, beq_eq_false_iff_ne.1 r8, beq_eq_false_iff_ne.1 r9, beq_eq_false_iff_ne.1 r10, beq_eq_false_iff_ne.1 r11, beq_eq_false_iff_ne.1 r12]
  exact ⟨by rw [e]; rfl, rfl⟩
end Go.Proofs.YtifgbioacknjpaaGreatDoor
