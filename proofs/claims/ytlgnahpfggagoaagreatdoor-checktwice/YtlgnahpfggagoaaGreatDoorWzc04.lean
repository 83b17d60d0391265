import Derived.Test.YtlgnahpfggagoaaGreatDoorRows
import Derived.Test.YtlgnahpfggagoaaGreatDoorWzc01
import Derived.Deep.RegionHeld
import Derived.Deep.DrawnRows
import Derived.WalkSmall
import Derived.Test.YtlgnahpfggagoaaGreatDoorWzc03
import Derived.BigQuiet
import Derived.Deep.QuietTactic
import Derived.RangeFuncNested
import Derived.RangeFuncBound
import Derived.RangeFuncCalls
import Derived.RangeFuncLeaves
import Derived.WalkKit
import Derived.Deep.RegionHeldLaw
import Derived.Deep.DeepCutAuto
import Derived.Shelf.Abstract
import Derived.Shelf.RegionOpen
import Derived.OwnWalkIn
import Derived.TacticsInMore
import Derived.LoopNIn
import Derived.LoopIn
import Derived.Sort.LoopGhostIn
import Derived.Maps.OwnIn
import Derived.OrdersIn
import Derived.OrdersHeld
import Derived.TacticsIn
import Derived.Test.YtlgnahpfggagoaaGreatDoorWzc02
/- The expression of a tree. -/
namespace Go.Proofs.YtlgnahpfggagoaaGreatDoor
open Go.RowKit
set_option linter.unusedSimpArgs false
set_option linter.unusedVariables false
/-- The expression of a tree. -/
def exV:(d:Nat)→T d→Value:=fold (fun k n s l=>
 if k=1 then .iface 104 (.agg #[.int .i64 n]) else if k=2 then .iface 106 (.agg #[.string s]) else if k=3 then .iface 108 (.agg #[l.getD 0 .nilIface]) else if k=4 then .iface 109 (.agg #[l.getD 0 .nilIface])
 else if k=5 then .iface 111 (.agg #[.string s,l.getD 0 .nilIface,l.getD 1 .nilIface]) else .nilIface)
def exP {d:Nat}(ps:List (T d)) (i:Nat):Value:=(ps.map (exV d)).getD i .nilIface
theorem exV_mk {d:Nat}(k n:Int) (s:ByteArray) (ps:List (T d)):exV (d+1) (mkT k n s ps) =
  if k=1 then .iface 104 (.agg #[.int .i64 n]) else if k=2 then .iface 106 (.agg #[.string s]) else if k=3 then .iface 108 (.agg #[exP ps 0]) else if k=4 then .iface 109 (.agg #[exP ps 0])
  else if k=5 then .iface 111 (.agg #[.string s,exP ps 0,exP ps 1]) else .nilIface:=rfl
theorem exV_form:∀ (d:Nat) (t:T d),exV d t=.nilIface∨∃ u x,exV d t=.iface u x
 | 0,t=>Empty.elim t
 | d+1,t=>by
  obtain ⟨k,n,s,ps,rfl⟩:=T.open t
  rw [exV_mk]
  repeat' split
  all_goals first | exact .inl rfl | exact .inr ⟨_,_,rfl⟩
theorem exP_form {d:Nat}(ps:List (T d)) (i:Nat):exP ps i=.nilIface∨∃ u x,exP ps i=.iface u x:=by
 unfold exP
 rw [List.getD_eq_getElem?_getD,List.getElem?_map]
 cases ps[i]? with
 | none=>exact .inl rfl
 | some p=>exact exV_form d p
end Go.Proofs.YtlgnahpfggagoaaGreatDoor
/- What an expression is by itself: topOf. -/
namespace Go.Proofs.YtlgnahpfggagoaaGreatDoor
open Go.RowKit Go.Lib
set_option linter.unusedSimpArgs false
set_option linter.unusedVariables false
attribute [local go_sem ↓] Go.wp_at_zero Go.wp_at_succ
/-- The slice v holds the values l, from a block's first cell on. -/
def Kids (w:World) (v:Value) (l:List Value):Prop:=
 (v=.slice none 0 0∧l=[])∨∃ g,v=.slice (some ⟨g,0,none⟩) l.length l.length∧∀ (i:Nat) (h:i < l.length),w.cell? ⟨g,i,none⟩=some l[i]
abbrev topV (k n:Int) (s:ByteArray) (v:Value):Value:=.agg #[.int .i64 k,.int .i64 n,.string s,v]
def Ifc (x:Value):Prop:=x=.nilIface∨∃ u y,x=.iface u y
theorem as_lit_lit (v:Value) (w:World):(Instr.typeAssert (.iface 104 v) 76 104 true).run Tryz.prog w=.ok (.tuple #[v,.bool true]) w:=by kernel_rfl
theorem as_ref_lit (v:Value) (w:World):(Instr.typeAssert (.iface 106 v) 76 104 true).run Tryz.prog w=.ok (.tuple #[.agg #[.int .i64 0],.bool false]) w:=by kernel_rfl
theorem as_ref_ref (v:Value) (w:World):(Instr.typeAssert (.iface 106 v) 76 106 true).run Tryz.prog w=.ok (.tuple #[v,.bool true]) w:=by kernel_rfl
theorem as_not_lit (v:Value) (w:World):(Instr.typeAssert (.iface 108 v) 76 104 true).run Tryz.prog w=.ok (.tuple #[.agg #[.int .i64 0],.bool false]) w:=by kernel_rfl
theorem as_not_ref (v:Value) (w:World):(Instr.typeAssert (.iface 108 v) 76 106 true).run Tryz.prog w=.ok (.tuple #[.agg #[.string ⟨#[]⟩],.bool false]) w:=by kernel_rfl
theorem as_not_not (v:Value) (w:World):(Instr.typeAssert (.iface 108 v) 76 108 true).run Tryz.prog w=.ok (.tuple #[v,.bool true]) w:=by kernel_rfl
theorem as_neg_lit (v:Value) (w:World):(Instr.typeAssert (.iface 109 v) 76 104 true).run Tryz.prog w=.ok (.tuple #[.agg #[.int .i64 0],.bool false]) w:=by kernel_rfl
theorem as_neg_ref (v:Value) (w:World):(Instr.typeAssert (.iface 109 v) 76 106 true).run Tryz.prog w=.ok (.tuple #[.agg #[.string ⟨#[]⟩],.bool false]) w:=by kernel_rfl
theorem as_neg_not (v:Value) (w:World):(Instr.typeAssert (.iface 109 v) 76 108 true).run Tryz.prog w=.ok (.tuple #[.agg #[.nilIface],.bool false]) w:=by kernel_rfl
theorem as_neg_neg (v:Value) (w:World):(Instr.typeAssert (.iface 109 v) 76 109 true).run Tryz.prog w=.ok (.tuple #[v,.bool true]) w:=by kernel_rfl
theorem as_bin_lit (v:Value) (w:World):(Instr.typeAssert (.iface 111 v) 76 104 true).run Tryz.prog w=.ok (.tuple #[.agg #[.int .i64 0],.bool false]) w:=by kernel_rfl
theorem as_bin_ref (v:Value) (w:World):(Instr.typeAssert (.iface 111 v) 76 106 true).run Tryz.prog w=.ok (.tuple #[.agg #[.string ⟨#[]⟩],.bool false]) w:=by kernel_rfl
theorem as_bin_not (v:Value) (w:World):(Instr.typeAssert (.iface 111 v) 76 108 true).run Tryz.prog w=.ok (.tuple #[.agg #[.nilIface],.bool false]) w:=by kernel_rfl
theorem as_bin_neg (v:Value) (w:World):(Instr.typeAssert (.iface 111 v) 76 109 true).run Tryz.prog w=.ok (.tuple #[.agg #[.nilIface],.bool false]) w:=by kernel_rfl
theorem as_bin_bin (v:Value) (w:World):(Instr.typeAssert (.iface 111 v) 76 111 true).run Tryz.prog w=.ok (.tuple #[v,.bool true]) w:=by kernel_rfl
attribute [local go_sem] as_lit_lit as_ref_lit as_ref_ref as_not_lit as_not_ref as_not_not as_neg_lit as_neg_ref as_neg_not as_neg_neg as_bin_lit as_bin_ref as_bin_not as_bin_neg as_bin_bin
theorem cell1_new (w:World) (a:Value) (t:TypeId) (n:Nat) (hn:n=w.heap.size):(w.alloc (.cells #[a] t)).cell? ⟨n,0,none⟩=some a:=by subst hn;simp
theorem cell2_new (w:World) (a b:Value) (t:TypeId) (n:Nat) (hn:n=w.heap.size):(w.alloc (.cells #[a,b] t)).cell? ⟨n,0,none⟩=some a∧(w.alloc (.cells #[a,b] t)).cell? ⟨n,1,none⟩=some b:=by subst hn;simp
theorem kids0 (w:World):Kids w (.slice none 0 0) []:=.inl ⟨rfl,rfl⟩
theorem kids1 {w:World}{g:Nat}{x:Value}(h:w.cell? ⟨g,0,none⟩=some x):Kids w (.slice (some ⟨g,0,none⟩) 1 1) [x]:=.inr ⟨g,rfl,fun i hi=>by
 match i,hi with
 | 0,_=>exact h⟩
theorem kids2 {w:World}{g:Nat}{x y:Value}(h:w.cell? ⟨g,0,none⟩=some x) (h':w.cell? ⟨g,1,none⟩=some y):Kids w (.slice (some ⟨g,0,none⟩) 2 2) [x,y]:=.inr ⟨g,rfl,fun i hi=>by
 match i,hi with
 | 0,_=>exact h
 | 1,_=>exact h'⟩
theorem Kids.below {w w':World}{v:Value}{l:List Value}{B:Nat}(h:Kids w v l) (hb:Below B w w') (hB:w.heap.size≤B):Kids w' v l:=by
 rcases h with h | ⟨g,hv,hc⟩
 ·exact .inl h
 ·exact .inr ⟨g,hv,fun i hi=>by rw [hb.cell (p:=⟨g,i,none⟩) (Nat.lt_of_lt_of_le (World.block_lt_of_cell? w _ (hc i hi)) hB)];exact hc i hi⟩
theorem top_nil (w:World):Calls Tryz.prog 123 #[.nilIface] w fun e w'=>∃ sl,e=.returned (topV 0 0 ⟨#[]⟩ sl)∧Kids w' sl []∧Below w.heap.size w w':=by
 go_enter Tryz.func123,Tryz.ntmps123
 go_wp2
 refine bodyPost_ret (v:=topV 0 0 ⟨#[]⟩ (.slice none 0 0)) (by simp [results,Tryz.results123,go_sem]) rfl ⟨_,rfl,kids0 _,?_⟩
 ·(repeat (refine Below.alloc ?_ (by simp <;> omega) _));exact Below.refl _ _
theorem top_lit (n:Int) (w:World):Calls Tryz.prog 123 #[.iface 104 (.agg #[.int .i64 n])] w fun e w'=>∃ sl,e=.returned (topV 1 n ⟨#[]⟩ sl)∧Kids w' sl []∧Below w.heap.size w w':=by
 go_enter Tryz.func123,Tryz.ntmps123
 go_wp2
 refine bodyPost_ret (v:=topV 1 n ⟨#[]⟩ (.slice none 0 0)) (by simp [results,Tryz.results123,go_sem]) rfl ⟨_,rfl,kids0 _,?_⟩
 ·(repeat (refine Below.alloc ?_ (by simp <;> omega) _));exact Below.refl _ _
theorem top_ref (s:ByteArray) (w:World):Calls Tryz.prog 123 #[.iface 106 (.agg #[.string s])] w fun e w'=>∃ sl,e=.returned (topV 2 0 s sl)∧Kids w' sl []∧Below w.heap.size w w':=by
 go_enter Tryz.func123,Tryz.ntmps123
 go_wp2
 refine bodyPost_ret (v:=topV 2 0 s (.slice none 0 0)) (by simp [results,Tryz.results123,go_sem]) rfl ⟨_,rfl,kids0 _,?_⟩
 ·(repeat (refine Below.alloc ?_ (by simp <;> omega) _));exact Below.refl _ _
theorem top_not (x:Value) (hx:Ifc x) (w:World):Calls Tryz.prog 123 #[.iface 108 (.agg #[x])] w fun e w'=>∃ sl,e=.returned (topV 3 0 ⟨#[]⟩ sl)∧Kids w' sl [x]∧Below w.heap.size w w':=by
 rcases hx with rfl | ⟨u,y,rfl⟩
 ·go_enter Tryz.func123,Tryz.ntmps123
  go_wp2
  refine bodyPost_ret (v:=topV 3 0 ⟨#[]⟩ (.slice (some ⟨w.heap.size+4,0,none⟩) 1 1)) (by simp [results,Tryz.results123,go_sem]) rfl ⟨_,rfl,kids1 ?_,?_⟩
  ·exact cell1_new _ _ _ _ (by simp)
  ·(repeat (refine Below.alloc ?_ (by simp <;> omega) _));exact Below.refl _ _
 ·go_enter Tryz.func123,Tryz.ntmps123
  go_wp2
  refine bodyPost_ret (v:=topV 3 0 ⟨#[]⟩ (.slice (some ⟨w.heap.size+4,0,none⟩) 1 1)) (by simp [results,Tryz.results123,go_sem]) rfl ⟨_,rfl,kids1 ?_,?_⟩
  ·exact cell1_new _ _ _ _ (by simp)
  ·(repeat (refine Below.alloc ?_ (by simp <;> omega) _));exact Below.refl _ _
theorem top_neg (x:Value) (hx:Ifc x) (w:World):Calls Tryz.prog 123 #[.iface 109 (.agg #[x])] w fun e w'=>∃ sl,e=.returned (topV 4 0 ⟨#[]⟩ sl)∧Kids w' sl [x]∧Below w.heap.size w w':=by
 rcases hx with rfl | ⟨u,y,rfl⟩
 ·go_enter Tryz.func123,Tryz.ntmps123
  go_wp2
  refine bodyPost_ret (v:=topV 4 0 ⟨#[]⟩ (.slice (some ⟨w.heap.size+5,0,none⟩) 1 1)) (by simp [results,Tryz.results123,go_sem]) rfl ⟨_,rfl,kids1 ?_,?_⟩
  ·exact cell1_new _ _ _ _ (by simp)
  ·(repeat (refine Below.alloc ?_ (by simp <;> omega) _));exact Below.refl _ _
 ·go_enter Tryz.func123,Tryz.ntmps123
  go_wp2
  refine bodyPost_ret (v:=topV 4 0 ⟨#[]⟩ (.slice (some ⟨w.heap.size+5,0,none⟩) 1 1)) (by simp [results,Tryz.results123,go_sem]) rfl ⟨_,rfl,kids1 ?_,?_⟩
  ·exact cell1_new _ _ _ _ (by simp)
  ·(repeat (refine Below.alloc ?_ (by simp <;> omega) _));exact Below.refl _ _
theorem top_bin (s:ByteArray) (x x':Value) (hx:Ifc x) (hx':Ifc x') (w:World):Calls Tryz.prog 123 #[.iface 111 (.agg #[.string s,x,x'])] w fun e w'=>∃ sl,e=.returned (topV 5 0 s sl)∧Kids w' sl [x,x']∧Below w.heap.size w w':=by
 rcases hx with rfl | ⟨u,y,rfl⟩ <;> rcases hx' with rfl | ⟨u',y',rfl⟩
 ·go_enter Tryz.func123,Tryz.ntmps123
  go_wp2
  refine bodyPost_ret (v:=topV 5 0 s (.slice (some ⟨w.heap.size+6,0,none⟩) 2 2)) (by simp [results,Tryz.results123,go_sem]) rfl ⟨_,rfl,kids2 ?_ ?_,?_⟩
  ·exact (cell2_new _ _ _ _ _ (by simp)).1
  ·exact (cell2_new _ _ _ _ _ (by simp)).2
  ·(repeat (refine Below.alloc ?_ (by simp <;> omega) _));exact Below.refl _ _
 ·go_enter Tryz.func123,Tryz.ntmps123
  go_wp2
  refine bodyPost_ret (v:=topV 5 0 s (.slice (some ⟨w.heap.size+6,0,none⟩) 2 2)) (by simp [results,Tryz.results123,go_sem]) rfl ⟨_,rfl,kids2 ?_ ?_,?_⟩
  ·exact (cell2_new _ _ _ _ _ (by simp)).1
  ·exact (cell2_new _ _ _ _ _ (by simp)).2
  ·(repeat (refine Below.alloc ?_ (by simp <;> omega) _));exact Below.refl _ _
 ·go_enter Tryz.func123,Tryz.ntmps123
  go_wp2
  refine bodyPost_ret (v:=topV 5 0 s (.slice (some ⟨w.heap.size+6,0,none⟩) 2 2)) (by simp [results,Tryz.results123,go_sem]) rfl ⟨_,rfl,kids2 ?_ ?_,?_⟩
  ·exact (cell2_new _ _ _ _ _ (by simp)).1
  ·exact (cell2_new _ _ _ _ _ (by simp)).2
  ·(repeat (refine Below.alloc ?_ (by simp <;> omega) _));exact Below.refl _ _
 ·go_enter Tryz.func123,Tryz.ntmps123
  go_wp2
  refine bodyPost_ret (v:=topV 5 0 s (.slice (some ⟨w.heap.size+6,0,none⟩) 2 2)) (by simp [results,Tryz.results123,go_sem]) rfl ⟨_,rfl,kids2 ?_ ?_,?_⟩
  ·exact (cell2_new _ _ _ _ _ (by simp)).1
  ·exact (cell2_new _ _ _ _ _ (by simp)).2
  ·(repeat (refine Below.alloc ?_ (by simp <;> omega) _));exact Below.refl _ _
theorem ifc_ex {d:Nat}(t:T d):Ifc (exV d t):=exV_form d t
/-- What an expression is by itself. -/
theorem top_any {d:Nat}{t:T (d+1)}(hc:Cl (d+1) t):∃ k n s ps,t=mkT k n s ps∧∀ w,Calls Tryz.prog 123 #[exV (d+1) t] w fun e w'=>∃ sl,e=.returned (topV k n s sl)∧Kids w' sl (ps.map (exV d))∧Below w.heap.size w w':=by
 rcases hc.cases with ⟨n,rfl⟩ | ⟨s,rfl⟩ | ⟨k,p,hk,rfl,hp⟩ | ⟨s,p,q,rfl,hp,hq⟩ | rfl
 ·exact ⟨1,n,_,[],rfl,fun w=>top_lit n w⟩
 ·exact ⟨2,0,s,[],rfl,fun w=>top_ref s w⟩
 ·rcases hk with rfl | rfl
  ·exact ⟨3,0,_,[p],rfl,fun w=>top_not (exV d p) (ifc_ex p) w⟩
  ·exact ⟨4,0,_,[p],rfl,fun w=>top_neg (exV d p) (ifc_ex p) w⟩
 ·exact ⟨5,0,s,[p,q],rfl,fun w=>top_bin s (exV d p) (exV d q) (ifc_ex p) (ifc_ex q) w⟩
 ·exact ⟨0,0,_,[],rfl,fun w=>top_nil w⟩
end Go.Proofs.YtlgnahpfggagoaaGreatDoor
/- Rows of expressions that are left to be asked: in memory, popped, grown. -/
namespace Go.Proofs.YtlgnahpfggagoaaGreatDoor
open Go.RowKit Go.Lib
set_option linter.unusedSimpArgs false
set_option linter.unusedVariables false
theorem fld_i (a b c e:Value) (w:World):(Instr.field 172 (.agg #[a,b,c,e]) 3).run Tryz.prog w=.ok e w:=by kernel_rfl
abbrev Sg:=(d:Nat) × T d
def exS (x:Sg):Value:=exV x.1 x.2
def cntS (x:Sg):Nat:=cnt x.1 x.2
def ClS (x:Sg):Prop:=Cl x.1 x.2
/-- The slice v, of the call's own from block base on, holds the expressions st. -/
def Stk (w:World) (base:Nat) (v:Value) (st:List Sg):Prop:=w.ownsRow base 76 1 v st.length (st.map exS)
theorem own_on {w w':World}{base e size:Nat}{v:Value}{n:Nat}{xs:List Value}{B:Nat}(h:w.ownsRow base e size v n xs) (hb:Below B w w') (hB:w.heap.size≤B):w'.ownsRow base e size v n xs:=by
 refine ⟨h.1,?_⟩
 rcases h.2 with hn | ⟨g,cap,cur,rfl,hbg,hg,rest⟩
 ·exact .inl hn
 ·exact .inr ⟨g,cap,cur,rfl,hbg,by rw [hb.block g (by have:=(Array.getElem?_eq_some_iff.1 hg).1;omega)];exact hg,rest⟩
theorem Stk.on {w w':World}{base:Nat}{v:Value}{st:List Sg}{B:Nat}(h:Stk w base v st) (hb:Below B w w') (hB:w.heap.size≤B):Stk w' base v st:=own_on h hb hB
theorem exS_form (x:Sg):exS x=.nilIface∨∃ u y,exS x=.iface u y:=exV_form x.1 x.2
/-- The last one taken off. -/
theorem Stk.pop {w:World}{base:Nat}{v:Value}{st:List Sg}{x:Sg}(h:Stk w base v (st++[x])):∃ g cap,v=.slice (some ⟨g,0,none⟩) (st.length+1) cap∧st.length+1≤cap∧cap≤maxLen∧base≤g∧g < w.heap.size∧
  w.cell? ⟨g,st.length,none⟩=some (exS x)∧Stk w base (.slice (some ⟨g,0,none⟩) st.length cap) st:=by
 unfold Stk at h
 rw [List.length_append,List.length_singleton,List.map_append,List.map_singleton] at h
 have hc:=fun g=>World.ownsRow.cells h (g:=g)
 rcases h.2 with ⟨_,h2⟩ | ⟨g,cap,cur,rfl,hb,hg,hnc,hcm,hcs,htake⟩
 ·omega
 ·have h1:=hc g rfl st.length (exS x) (by simp)
  rw [show (⟨g,0,none⟩:Addr).add st.length=⟨g,st.length,none⟩ by unfold Addr.add;split <;> simp_all] at h1
  refine ⟨g,cap,rfl,hnc,hcm,hb,(Array.getElem?_eq_some_iff.1 hg).1,h1,by simp,.inr ⟨g,cap,cur,rfl,hb,hg,by omega,hcm,hcs,?_⟩⟩
  have h3:=congrArg (List.take st.length) htake
  rw [List.take_take] at h3
  simp only [Nat.mul_one] at h3 ⊢
  rw [Nat.min_eq_left (by omega),List.take_left' (by simp)] at h3
  exact h3
theorem Stk.nil {w:World}{base:Nat}{v:Value}(h:Stk w base v []):∃ a cap,v=.slice a 0 cap:=by
 rcases h.2 with ⟨h1,_⟩ | ⟨g,cap,cur,rfl,_⟩
 ·exact ⟨_,_,h1⟩
 ·exact ⟨_,_,rfl⟩
theorem Tryz.infoE:(Tryz.prog.info? 76).map (fun i=>(i.zero,i.size,i.bytes))=some (some .nilIface,1,16):=by kernel_rfl
theorem Kids.form {w:World}{sl:Value}{l:List Value}(h:Kids w sl l):∃ a,sl=.slice a l.length l.length:=by
 rcases h with ⟨rfl,rfl⟩ | ⟨g,rfl,_⟩
 ·exact ⟨_,rfl⟩
 ·exact ⟨_,rfl⟩
theorem Kids.at {w:World}{a:Option Addr}{m c j:Nat}{l:List Value}(h:Kids w (.slice a m c) l) (hj:j < l.length):∃ g,a=some ⟨g,0,none⟩∧w.cell? ⟨g,j,none⟩=some l[j]:=by
 rcases h with ⟨h1,rfl⟩ | ⟨g,h1,hc⟩
 ·simp at hj
 ·simp only [Value.slice.injEq] at h1
  exact ⟨g,h1.1,hc j hj⟩
theorem Kids.src {w:World}{sl:Value}{l:List Value}(h:Kids w sl l) (hf:∀ v∈l,Ifc v):Src Tryz.prog 1 170 sl l.length l w:=by
 rcases h with ⟨rfl,rfl⟩ | ⟨g,rfl,hc⟩
 ·exact Src.ofNil w Tryz.underlying170 0
 ·refine Src.ofSlice w Tryz.underlying170 _ _ _ l (by simp) (fun j u hu=>?_) (fun u hu=>?_)
  ·have hj:j < l.length:=(List.getElem?_eq_some_iff.1 hu).1
   rw [List.getElem?_eq_getElem hj] at hu
   rw [show (⟨g,0,none⟩:Addr).add j=⟨g,j,none⟩ by unfold Addr.add;split <;> simp_all,hc j hj,hu]
  ·rcases hf u hu with rfl | ⟨t,y,rfl⟩ <;> rfl
/-- The parts of a tree, each with its depth. -/
def kidS {d:Nat}(ps:List (T d)):List Sg:=ps.map (fun p=>⟨d,p⟩)
theorem kidS_ex {d:Nat}(ps:List (T d)):(kidS ps).map exS=ps.map (exV d):=by unfold kidS;rw [List.map_map];rfl
theorem kidS_cnt {d:Nat}(ps:List (T d)):((kidS ps).map cntS).sum=(ps.map (cnt d)).sum:=by unfold kidS;rw [List.map_map];rfl
theorem kidS_len {d:Nat}(ps:List (T d)):(kidS ps).length=ps.length:=by simp [kidS]
theorem Stk.push {w:World}{base:Nat}{v:Value}{st:List Sg}{d:Nat}{ps:List (T d)}{n:Nat}(hn:n=st.length+ps.length) (h:w.ownsRow base 76 1 v n (st.map exS++ps.map (exV d))):Stk w base v (st++kidS ps):=by
 unfold Stk
 rw [List.length_append,List.map_append,kidS_ex,kidS_len,← hn]
 exact h
theorem ifc_map {d:Nat}(ps:List (T d)):∀ v∈ps.map (exV d),Ifc v:=fun v hv=>by
 obtain ⟨p,_,rfl⟩:=List.mem_map.1 hv
 exact ifc_ex p
/-- What is asked of a tree's parts. -/
theorem Cl.parts {d:Nat}{k n:Int}{s:ByteArray}{ps:List (T d)}(h:Cl (d+1) (mkT k n s ps)):ps.length≤2∧∀ p∈ps,Cl d p:=by
 rcases h with ⟨_,_,h3⟩ | ⟨_,_,h3⟩ | ⟨_,_,_,p,h4,h5⟩ | ⟨_,_,p,q,h3,h4,h5⟩ | ⟨_,_,_,h4⟩
 ·simp only at h3;subst h3;simp
 ·simp only at h3;subst h3;simp
 ·simp only at h4;subst h4;simpa using h5
 ·simp only at h3;subst h3;simp [h4,h5]
 ·simp only at h4;subst h4;simp
theorem last_of {α:Type}{l:List α}(h:l≠[]):∃ a x,l=a++[x]:=⟨l.dropLast,l.getLast h,(List.dropLast_concat_getLast h).symm⟩
end Go.Proofs.YtlgnahpfggagoaaGreatDoor
/- The program's reader in memory: its operands, and the signs that wait; what is small. -/
namespace Go.Proofs.YtlgnahpfggagoaaGreatDoor
open Go.RowKit Go.Lib
set_option linter.unusedSimpArgs false
set_option linter.unusedVariables false
attribute [local go_sem ↓] Go.wp_at_zero Go.wp_at_succ
def exX (x:Sx):Value:=exV x.1 x.2
theorem exX_form (x:Sx):exX x=.nilIface∨∃ u y,exX x=.iface u y:=exV_form x.1 x.2
theorem exX_mk2 (s:ByteArray) (x y:Sx):exX (mk2 s x y)=.iface 111 (.agg #[.string s,exX x,exX y]):=foldS_mk2 _ s x y
theorem exX_not (x:Sx):exX (mk1 3 x)=.iface 108 (.agg #[exX x]):=rfl
theorem exX_neg (x:Sx):exX (mk1 4 x)=.iface 109 (.agg #[exX x]):=rfl
theorem exX_lit (n:Int):exX (mk0 1 n ⟨#[]⟩)=.iface 104 (.agg #[.int .i64 n]):=rfl
theorem exX_ref (s:ByteArray):exX (mk0 2 0 s)=.iface 106 (.agg #[.string s]):=rfl
theorem exX_no:exX noX=.nilIface:=rfl
/-- A sign's cells. -/
def cel2 (s:Sg2):List Value:=[.string ⟨s.1.toArray⟩,.int .i64 (s.2:Int)]
def cels2 (l:List Sg2):List Value:=l.flatMap cel2
theorem cels2_app (a b:List Sg2):cels2 (a++b)=cels2 a++cels2 b:=by simp [cels2]
theorem cels2_len (l:List Sg2):(cels2 l).length=l.length*2:=by
 induction l with
 | nil=>rfl
 | cons a r ih=>simp [cels2,cel2] at ih ⊢;omega
/-- The reader in block X: its two rows lie behind it, apart. -/
structure Rdr (w:World) (X:Nat) (y:Yd) (vv ww:Value):Prop where
 b:B4 w X vv ww (.int .i64 (y.o:Int)) (.bool y.b)
 v:w.ownsRow (X+1) 76 1 vv y.V.length (y.V.reverse.map exX)
 w:w.ownsRow (X+1) 240 2 ww y.W.length (cels2 y.W.reverse)
 a:∀ g,vv.ownBlock=some g→ww.ownBlock≠some g
theorem own_keep {w w':World}{base e size n:Nat}{v:Value}{xs:List Value}(h:w.ownsRow base e size v n xs) (hk:∀ g,v.ownBlock=some g→w'.heap[g]?=w.heap[g]?):w'.ownsRow base e size v n xs:=ownsRow_keep h hk
theorem Rdr.on {w w':World}{X:Nat}{y:Yd}{vv ww:Value}(h:Rdr w X y vv ww) (hb:Below w.heap.size w w'):Rdr w' X y vv ww:=
 ⟨h.b.keep hb,own_on h.v hb (Nat.le_refl _),own_on h.w hb (Nat.le_refl _),h.a⟩
theorem Rdr.drew {w:World}{X:Nat}{y:Yd}{vv ww:Value}(h:Rdr w X y vv ww):Rdr w.drew X y vv ww:=⟨⟨h.b.c0,h.b.c1,h.b.c2,h.b.c3,h.b.f0,h.b.f1,h.b.f2,h.b.f3⟩,h.v,h.w,h.a⟩
theorem Rdr.drewN {w:World}{X:Nat}{y:Yd}{vv ww:Value}(h:Rdr w X y vv ww) (m:Nat):Rdr (w.drewN m) X y vv ww:=h.on ⟨rfl,rfl,rfl,Nat.le_refl _,fun _ _=>rfl⟩
theorem Rdr.lt {w:World}{X:Nat}{y:Yd}{vv ww:Value}(h:Rdr w X y vv ww):X < w.heap.size:=h.b.lt
/-- Nothing has turned but the reader, its two rows, and new blocks; the rows are where they were, or new. -/
structure Fr2 (X:Nat) (vv ww:Value) (w w':World) (vv' ww':Value):Prop where
 size:w.heap.size≤w'.heap.size
 block:∀ k,k < w.heap.size→k≠X→vv.ownBlock≠some k→ww.ownBlock≠some k→w'.heap[k]?=w.heap[k]?
 lv:∀ g,vv'.ownBlock=some g→vv.ownBlock=some g∨w.heap.size≤g
 lw:∀ g,ww'.ownBlock=some g→ww.ownBlock=some g∨w.heap.size≤g
theorem Fr2.refl (X:Nat) (vv ww:Value) (w:World):Fr2 X vv ww w w vv ww:=⟨Nat.le_refl _,fun _ _ _ _ _=>rfl,fun _ h=>.inl h,fun _ h=>.inl h⟩
theorem Fr2.on {X:Nat}{vv ww vv' ww':Value}{w w1 w2:World}(h:Fr2 X vv ww w w1 vv' ww') (hb:Below w1.heap.size w1 w2):Fr2 X vv ww w w2 vv' ww':=
 ⟨Nat.le_trans h.size hb.size,fun k hk a b c=>(hb.block k (Nat.lt_of_lt_of_le hk h.size)).trans (h.block k hk a b c),h.lv,h.lw⟩
theorem Fr2.setX {X:Nat}{vv ww vv' ww':Value}{w w1:World}(h:Fr2 X vv ww w w1 vv' ww') (i:Nat) (u:Value):Fr2 X vv ww w (w1.setCell ⟨X,i,none⟩ u) vv' ww':=
 ⟨by simpa using h.size,fun k hk a b c=>(Below.heap_setCell _ _ _ _ (fun e=>a e)).trans (h.block k hk a b c),h.lv,h.lw⟩
theorem Fr2.setV {X g:Nat}{vv ww vv' ww':Value}{w w1:World}(h:Fr2 X vv ww w w1 vv' ww') (hg:vv'.ownBlock=some g) (i:Nat) (u:Value):Fr2 X vv ww w (w1.setCell ⟨g,i,none⟩ u) vv' ww':=
 ⟨by simpa using h.size,fun k hk a b c=>(Below.heap_setCell _ _ _ _ (fun e=>by
  rcases h.lv g hg with q | q
  ·exact b (by rw [q];exact congrArg some e.symm)
  ·have:k=g:=e
   omega)).trans (h.block k hk a b c),h.lv,h.lw⟩
theorem Fr2.rows {X:Nat}{vv ww vv' ww' vv2 ww2:Value}{w w1:World}(h:Fr2 X vv ww w w1 vv' ww') (hv:vv2.ownBlock=vv'.ownBlock) (hw:ww2.ownBlock=ww'.ownBlock):Fr2 X vv ww w w1 vv2 ww2:=
 ⟨h.size,h.block,fun g hg=>h.lv g (hv ▸ hg),fun g hg=>h.lw g (hw ▸ hg)⟩
theorem Fr2.trans {X:Nat}{vv ww v1 u1 v2 u2:Value}{w w1 w2:World}(h:Fr2 X vv ww w w1 v1 u1) (k:Fr2 X v1 u1 w1 w2 v2 u2):Fr2 X vv ww w w2 v2 u2:=by
 refine ⟨Nat.le_trans h.size k.size,fun j hj a b c=>?_,fun g hg=>?_,fun g hg=>?_⟩
 ·rw [k.block j (Nat.lt_of_lt_of_le hj h.size) a (fun e=>?_) (fun e=>?_),h.block j hj a b c]
  ·rcases h.lv j e with q | q
   ·exact b q
   ·omega
  ·rcases h.lw j e with q | q
   ·exact c q
   ·omega
 ·rcases k.lv g hg with q | q
  ·exact h.lv g q
  ·exact .inr (Nat.le_trans h.size q)
 ·rcases k.lw g hg with q | q
  ·exact h.lw g q
  ·exact .inr (Nat.le_trans h.size q)
theorem own_form {w:World}{base e size n:Nat}{v:Value}{xs:List Value}(h:w.ownsRow base e size v n xs):∃ a cap,v=.slice a n cap∧n≤cap:=by
 rcases h.2 with ⟨h1,h2⟩ | ⟨g,cap,cur,h1,_,_,h3,_⟩
 ·exact ⟨none,0,by rw [h1,h2],by omega⟩
 ·exact ⟨_,_,h1,h3⟩
/-- The last sign that waits, in memory. -/
theorem own_last2 {w:World}{base e:Nat}{v:Value}{s:Sg2}{W:List Sg2}(h:w.ownsRow base e 2 v (s :: W).length (cels2 (s :: W).reverse)):∃ g cap,v=.slice (some ⟨g,0,none⟩) (W.length+1) cap∧W.length+1≤cap∧cap≤maxLen∧base≤g∧g < w.heap.size∧
  w.cell? ⟨g,W.length*2,none⟩=some (.string ⟨s.1.toArray⟩)∧w.cell? ⟨g,W.length*2+1,none⟩=some (.int .i64 (s.2:Int))∧w.ownsRow base e 2 (.slice (some ⟨g,0,none⟩) W.length cap) W.length (cels2 W.reverse):=by
 rw [List.length_cons,List.reverse_cons,cels2_app] at h
 have hl:(cels2 W.reverse).length=W.length*2:=by rw [cels2_len,List.length_reverse]
 have hc:=fun g=>World.ownsRow.cells h (g:=g)
 have h':=h
 rcases h.2 with ⟨_,h2⟩ | ⟨g,cap,cur,rfl,hb,hg,hnc,hcm,hcs,htake⟩
 ·omega
 ·have c0:=hc g rfl (W.length*2) (.string ⟨s.1.toArray⟩) (by rw [List.getElem?_append_right (by omega),hl,Nat.sub_self];rfl)
  have c1:=hc g rfl (W.length*2+1) (.int .i64 (s.2:Int)) (by rw [List.getElem?_append_right (by omega),hl,Nat.add_sub_cancel_left];rfl)
  have hp:∀ i,(⟨g,0,none⟩:Addr).add i=⟨g,i,none⟩:=fun i=>by unfold Addr.add;split <;> simp_all
  rw [hp] at c0 c1
  exact ⟨g,cap,rfl,hnc,hcm,hb,(Array.getElem?_eq_some_iff.1 hg).1,c0,c1,ownsRow_pop hl h'⟩
theorem own_nil {w:World}{base e size:Nat}{v:Value}{xs:List Value}(h:w.ownsRow base e size v 0 xs):∃ a cap,v=.slice a 0 cap:=by
 obtain ⟨a,cap,rfl,_⟩:=own_form h
 exact ⟨a,cap,rfl⟩
set_option maxHeartbeats 1000000 in
theorem last_any {w:World}{X:Nat}{y:Yd}{vv ww:Value}(h:Rdr w X y vv ww) (hl:y.W.length≤4000):Calls Tryz.prog 174 #[.pointer (some ⟨X,0,none⟩)] w fun e w'=>e=.returned (.int .i64 (topL y.W:Int))∧∃ m,w'=w.drewN m:=by
 have hc:=h.b.c1
 have hw:=h.w
 clear h
 obtain ⟨V,W,o,b⟩:=y
 simp only at hc hw hl ⊢
 cases W with
 | nil=>
  obtain ⟨a,cap,rfl⟩:=own_nil hw
  clear hw
  go_enter Tryz.func174,Tryz.ntmps174
  go_wp2
  go_ret
  exact ⟨rfl,0,rfl⟩
 | cons s W=>
  obtain ⟨g,cap,rfl,h1,h2,h3,h4,c0,c1,_⟩:=own_last2 hw
  rw [List.length_cons] at hl
  have i1:((W.length:Int)+1 == 0)=false:=beq_eq_false_iff_ne.2 (by omega)
  have i2:IntKind.i64.wrap ((W.length:Int)+1 - 1)=(W.length:Int):=by rw [IntKind.wrap_i64];omega
  have i3:(W.length:Int) < (W.length:Int)+1:=by omega
  have i4:(0:Int)≤(W.length:Int):=by omega
  clear hw
  go_enter Tryz.func174,Tryz.ntmps174
  go_wp2
  go_quiet (fail)
  go_wp2
  go_ret
  exact ⟨rfl,_,rfl⟩
end Go.Proofs.YtlgnahpfggagoaaGreatDoor
/- Charts in the program's memory. -/
namespace Go.Proofs.YtlgnahpfggagoaaGreatDoor
open Go.RowKit Go.Lib
set_option linter.unusedSimpArgs false
set_option linter.unusedVariables false
/-- A text of bytes as a value. -/
def sV (l:List UInt8):Value:=.string ⟨l.toArray⟩
def rSet (ok:Nat→Prop) (w:World) (x:List UInt8 × Sx) (cs:List Value):Prop:=cs=[sV x.1,exX x.2]
theorem kp_set:Kp rSet:=fun _ _ _ _ _ _ h _=>h
/-- The guard: nil where there is none. -/
def gdV (g:Bool × Sx):Value:=if g.1=true then exX g.2 else .nilIface
theorem gdV_form (g:Bool × Sx):gdV g=.nilIface∨∃ u y,gdV g=.iface u y:=by
 unfold gdV
 split
 ·exact exX_form _
 ·exact .inl rfl
def onV (o:OnC) (sl:Value):List Value:=[sV o.1,gdV o.2.1,sV o.2.2.1,sl,.int .i64 o.2.2.2.2.1,.int .i64 o.2.2.2.2.2]
def rOn (ok:Nat→Prop) (w:World) (o:OnC) (cs:List Value):Prop:=∃ sl,cs=onV o sl∧RdK ok w 2 (rSet ok w) o.2.2.2.1 sl
theorem kp_on:Kp rOn:=fun _ _ _ _ _ _ ⟨sl,h,hr⟩ hk=>⟨sl,h,hr.stay kp_set hk⟩
def hdV (h:HdC) (so si:Value):List Value:=[sV h.1.1,.int .i64 h.1.2.1,.int .i64 h.1.2.2,.bool h.2.1.1,.bool h.2.1.2,sV h.2.2.1.1,sV h.2.2.1.2,.int .i64 h.2.2.2.1.1,.int .i64 h.2.2.2.1.2,so,si]
def rSt:(d:Nat)→(Nat→Prop)→World→St d→List Value→Prop
 | 0,_,_,t,_=>Empty.elim t
 | d+1,ok,w,t,cs=>∃ so si,cs=hdV t.1 so si∧RdK ok w 6 (rOn ok w) t.1.2.2.2.2 so∧RdK ok w 11 (rSt d ok w) t.2 si
theorem kp_st:∀ d,Kp (rSt d)
 | 0=>fun _ _ _ _ x _ _ _=>Empty.elim x
 | d+1=>fun _ _ _ _ _ _ ⟨so,si,h,h1,h2⟩ hk=>⟨so,si,h,h1.stay kp_on hk,h2.stay (kp_st d) hk⟩
def varV (x:List UInt8 × Int × Pl):List Value:=[sV x.1,.int .i64 x.2.1,.int .i64 x.2.2.1,.int .i64 x.2.2.2]
def rVar (ok:Nat→Prop) (w:World) (x:List UInt8 × Int × Pl) (cs:List Value):Prop:=cs=varV x
theorem kp_var:Kp rVar:=fun _ _ _ _ _ _ h _=>h
/-- A chart whose states lie less than d deep. -/
abbrev ChG (d:Nat):=(List UInt8 × Pl) × Int × List (List UInt8 × Int × Pl) × List (St d)
def RdC (ok:Nat→Prop) (w:World) (d:Nat) (c:ChG d) (v:Value):Prop:=
 ∃ sv ss,v=.agg #[sV c.1.1,.int .i64 c.2.1,.int .i64 c.1.2.1,.int .i64 c.1.2.2,sv,ss]∧RdK ok w 4 (rVar ok w) c.2.2.1 sv∧RdK ok w 11 (rSt d ok w) c.2.2.2 ss
theorem RdC.keep {ok ok':Nat→Prop}{w w':World}{d:Nat}{c:ChG d}{v:Value}(h:RdC ok w d c v) (hk:∀ b,ok b→b < w.heap.size→ok' b∧w'.heap[b]?=w.heap[b]?):RdC ok' w' d c v:=by
 obtain ⟨sv,ss,h1,h2,h3⟩:=h
 exact ⟨sv,ss,h1,h2.stay kp_var hk,h3.stay (kp_st d) hk⟩
theorem rdC_no (ok:Nat→Prop) (w:World):RdC ok w 7 noC (.agg #[.string ⟨#[]⟩,.int .i64 0,.int .i64 0,.int .i64 0,.slice none 0 0,.slice none 0 0]):=⟨_,_,rfl,rdK_none _ _ _ _,rdK_none _ _ _ _⟩
abbrev SgS:=(d:Nat) × St d
/-- The same without memory. -/
def flM:(d:Nat)→Nat→List (St d)→List (Nat × SgS)
 | 0,_,_=>[]
 | d+1,k,l=>l.flatMap (fun t=>(k,⟨d+1,t⟩) :: flM d (k+1) t.2)
end Go.Proofs.YtlgnahpfggagoaaGreatDoor
/- A range over a function whose iterator keeps cells of its own: what the caller's side owns and what the iterator owns lie apart. -/
namespace Go.Proofs.YtlgnahpfggagoaaGreatDoor
open Go.RowKit
set_option linter.unusedSimpArgs false
set_option linter.unusedVariables false
end Go.Proofs.YtlgnahpfggagoaaGreatDoor
/- Nodes: which one lies in which, by how deep they lie, and by their parents. Math alone. -/
namespace Go.Proofs.YtlgnahpfggagoaaGreatDoor
set_option linter.unusedVariables false
/-- Up from k by parents: is p met? -/
def okR (P:Nat→Int) (p:Int):Nat→Int→Bool
 | 0,_=>false
 | f+1,k=>if k < 0 then false else if p=k then true else okR P p f (P k.toNat)
end Go.Proofs.YtlgnahpfggagoaaGreatDoor
/- One more element behind a row of the call's own: as a step of a region. -/
namespace Go.Proofs.YtlgnahpfggagoaaGreatDoor
open Go.RowKit Go.Lib
set_option linter.unusedSimpArgs false
set_option linter.unusedVariables false
theorem cells_new {w:World}{cs:List Value}{e:TypeId}:∀ j u,cs[j]?=some u→(w.alloc (.cells cs.toArray e)).cell? ((⟨w.heap.size,0,none⟩:Addr).add j)=some u:=fun j u hu=>by
 rw [add_plain,Nat.zero_add]
 exact (Bn.new w cs e _ rfl j u hu).1
theorem src_row {P:Program}{t e:TypeId}(ht:P.underlying t=some (.slice e)) (w:World) {k:Nat}(cs:List Value) (hk:cs.length=k) (h1:∀ u∈cs,u.oneCell'=true):Src P k t (.slice (some ⟨w.heap.size,0,none⟩) 1 1) 1 cs (w.alloc (.cells cs.toArray e)):=
 Src.ofSlice _ ht _ 1 1 _ (by rw [Nat.one_mul];exact hk) cells_new h1
theorem step_push {α:Type}{P:Program}(w:World) {ops:Array Oper}{o:Oper}{a:Act}{K:Act→World→Prop}{Q:Exit→Act→World→Prop}{E:Prop}(hgd:o.guard=none) (s x:Operand) (t:TypeId)
  (ho:o.op=.call { callee:=.builtin .append,args:=#[s,x],argTypes:=#[t,t] })
  (base:Nat) (e:TypeId) (i:TypeInfo) (z:Value) (k bytes:Nat) (ht:P.underlying t=some (.slice e)) (hi:P.info? e=some i) (hz:i.zero=some z)
  (hsize:i.size=k) (hby:i.bytes=bytes) (hzs:z.cells.size=k) {R:(Nat→Prop)→World→α→List Value→Prop}(hR:Kp R)
  (v:Value) (l:List α) (p:α) (cs:List Value) (lo:Nat) (hs:a.eval s=v) (hx:a.eval x=.slice (some ⟨w.heap.size,0,none⟩) 1 1) (hk:cs.length=k) (h1:∀ u∈cs,u.oneCell'=true)
  (hown:OwnK w base e k R v l) (hp:R (fun b=>lo≤b) w p cs) (hlo:base≤lo) (hv:∀ x,v.ownBlock=some x→x < lo) (hroom:(l.length+1+(l.length+1) / 4+192)*bytes≤281474976710656)
  (h63:l.length+1≤maxLen) (hbase:base≤w.heap.size)
  (h:∀ v' w',OwnK w' base e k R v' (l++[p])→(w.alloc (.cells cs.toArray e)).grownBy w' v.ownBlock→Below base w w'→K (a.put o.dst v') w') :
  if Region.wanted o (yielded ops a.tmps)=true then Oper.wp P o a (w.alloc (.cells cs.toArray e)) K Q else E:=by
 have hal:Below w.heap.size w (w.alloc (.cells cs.toArray e)):=(Below.refl _ _).alloc (Nat.le_refl _) _
 obtain ⟨qs,ho1,hl1,hr1⟩:=hown.on hR hal
 refine step_append_at _ hgd s x t t ho base e i z k bytes ht hi hz hsize hby hzs v l.length qs.flatten hs ho1 _ 1 cs hx (src_row ht w cs hk h1) 1 (.inr hroom) (Nat.le_refl _) h63 (Nat.le_trans hbase hal.size) ?_
 intro v' w' hown' hg hat
 refine h v' w' (OwnK.snoc hR hk rfl ho1 hl1 hr1 hown' hg hat (hR hp (fun b hb hlt=>⟨hb,hal.block b hlt⟩)) hlo hv) hg ?_
 exact ((Below.refl base w).alloc hbase _).grown hg (Nat.le_trans hbase hal.size) (fun k hk=>(World.ownsRow.lt ho1 k hk).1)
/-- Nothing but two blocks has turned, and new blocks. -/
structure Fy (X Y:Nat) (w w':World):Prop where
 os:w'.os=w.os
 tape:w'.tape=w.tape
 output:w'.output=w.output
 size:w.heap.size≤w'.heap.size
 block:∀ k,k < w.heap.size→k≠X→k≠Y→w'.heap[k]?=w.heap[k]?
theorem Fy.of {X Y:Nat}{a b:World}(h:Fx X a b):Fy X Y a b:=⟨h.os,h.tape,h.output,h.size,fun k hk h1 _=>h.block k hk (fun e=>h1 (Option.some.inj e))⟩
theorem Fy.trans {X Y:Nat}{a b c:World}(h:Fy X Y a b) (k:Fy X Y b c):Fy X Y a c:=
 ⟨k.os.trans h.os,k.tape.trans h.tape,k.output.trans h.output,Nat.le_trans h.size k.size,fun j hj h1 h2=>(k.block j (Nat.lt_of_lt_of_le hj h.size) h1 h2).trans (h.block j hj h1 h2)⟩
theorem Fy.setY {X Y i:Nat}{a b:World}(h:Fy X Y a b) (u:Value):Fy X Y a (b.setCell ⟨Y,i,none⟩ u):=
 ⟨h.os,h.tape,h.output,by simpa using h.size,fun k hk h1 h2=>(Below.heap_setCell _ _ _ _ (fun e=>h2 e)).trans (h.block k hk h1 h2)⟩
theorem Fx.andY {X Y:Nat}{a b c:World}(h:Fx X a b) (k:Fy X Y b c) (hY:a.heap.size≤Y):Fx X a c:=
 ⟨k.os.trans h.os,k.tape.trans h.tape,k.output.trans h.output,Nat.le_trans h.size k.size,fun j hj h1=>(k.block j (Nat.lt_of_lt_of_le hj h.size) (fun e=>h1 (congrArg some e)) (by omega)).trans (h.block j hj h1)⟩
theorem Bn.fy {w w':World}{X Y N:Nat}{c:Value}{cs:List Value}(h:Bn w N (c :: cs)) (hf:Fy X Y w w') (h1:N≠X) (h2:N≠Y):Bn w' N (c :: cs):=h.blk (hf.block N h.lt h1 h2)
theorem cell_drw {w:World}{p:Addr}{v:Value}(h:w.cell? p=some v):w.drew.cell? p=some v:=h
theorem hidOf {p:Prop}(h:p):Hid p:=h
end Go.Proofs.YtlgnahpfggagoaaGreatDoor
/- What the iterator over all of a chart's states hands on. -/
namespace Go.Proofs.YtlgnahpfggagoaaGreatDoor
open Go.RowKit Go.Lib Go.Shelf
set_option linter.unusedSimpArgs false
set_option linter.unusedVariables false
attribute [local go_sem] Oper.semAt_some
end Go.Proofs.YtlgnahpfggagoaaGreatDoor
/- A region that draws its order within a round of a range over a function: as anywhere, where it defers nothing. -/
namespace Go.Proofs.YtlgnahpfggagoaaGreatDoor
open Go.RowKit
set_option linter.unusedSimpArgs false
set_option linter.unusedVariables false
end Go.Proofs.YtlgnahpfggagoaaGreatDoor
/- What the program's nested and placed answer. -/
namespace Go.Proofs.YtlgnahpfggagoaaGreatDoor
open Go.RowKit Go.Lib
set_option linter.unusedSimpArgs false
set_option linter.unusedVariables false
attribute [local go_sem ↓] Go.wp_at_zero Go.wp_at_succ
end Go.Proofs.YtlgnahpfggagoaaGreatDoor
/- Rows of the call's own that lie apart from others; an element put in the place of a zero one. -/
namespace Go.Proofs.YtlgnahpfggagoaaGreatDoor
open Go.RowKit Go.Lib
set_option linter.unusedSimpArgs false
set_option linter.unusedVariables false
/-- As OwnK; nothing of it lies in a block that is bad. -/
def OwnB {α:Type}(w:World) (base:Nat) (bad:Nat→Prop) (e k:Nat) (R:(Nat→Prop)→World→α→List Value→Prop) (v:Value) (l:List α):Prop:=
 ∃ qs:List (List Value),w.ownsRow base e k v l.length qs.flatten∧qs.length=l.length∧(∀ (i:Nat) (h:i < l.length) (h':i < qs.length),(qs[i]).length=k∧R (fun b=>base≤b∧v.ownBlock≠some b∧¬ bad b) w l[i] qs[i])∧∀ g,v.ownBlock=some g→¬ bad g
theorem ownB_nil {α:Type}(w:World) (base:Nat) (bad:Nat→Prop) (e k:Nat) (R:(Nat→Prop)→World→α→List Value→Prop):OwnB w base bad e k R (.slice none 0 0) []:=⟨[],World.ownsRow_nil w base e k,rfl,fun i h=>absurd h (by simp),fun g hg=>by simp [Value.ownBlock] at hg⟩
theorem OwnB.keep {α:Type}{w w':World}{base e k:Nat}{bad bad':Nat→Prop}{R:(Nat→Prop)→World→α→List Value→Prop}{v:Value}{l:List α}(hR:Kp R) (h:OwnB w base bad e k R v l) (hk:∀ b,base≤b→¬ bad b→b < w.heap.size→w'.heap[b]?=w.heap[b]?∧¬ bad' b):OwnB w' base bad' e k R v l:=by
 obtain ⟨qs,ho,hl,hr,hg0⟩:=h
 refine ⟨qs,ownsRow_keep ho (fun g hg=>?_),hl,fun i h h'=>⟨(hr i h h').1,hR (hr i h h').2 (fun b hb hlt=>⟨⟨hb.1,hb.2.1,(hk b hb.1 hb.2.2 hlt).2⟩,(hk b hb.1 hb.2.2 hlt).1⟩)⟩,fun g hg=>?_⟩
 ·obtain ⟨a,b⟩:=ownsRow_lt ho g hg
  exact (hk g a (hg0 g hg) b).1
 ·obtain ⟨a,b⟩:=ownsRow_lt ho g hg
  exact (hk g a (hg0 g hg) b).2
theorem OwnB.on {α:Type}{w w':World}{base e k:Nat}{bad:Nat→Prop}{R:(Nat→Prop)→World→α→List Value→Prop}{v:Value}{l:List α}(hR:Kp R) (h:OwnB w base bad e k R v l) (hb:Below w.heap.size w w'):OwnB w' base bad e k R v l:=h.keep hR (fun b _ hbad hlt=>⟨hb.block b hlt,hbad⟩)
theorem OwnB.fx {α:Type}{w w':World}{base e k X:Nat}{bad:Nat→Prop}{R:(Nat→Prop)→World→α→List Value→Prop}{v:Value}{l:List α}(hR:Kp R) (h:OwnB w base bad e k R v l) (hf:Fx X w w') (hX:X < base):OwnB w' base bad e k R v l:=
 h.keep hR (fun b hb hbad hlt=>⟨hf.block b hlt (fun e=>by have:b=X:=Option.some.inj e;omega),hbad⟩)
theorem OwnB.set {α:Type}{w:World}{base e k:Nat}{bad:Nat→Prop}{R:(Nat→Prop)→World→α→List Value→Prop}{v:Value}{l:List α}(hR:Kp R) (h:OwnB w base bad e k R v l) {X i:Nat}(hX:X < base) (u:Value):OwnB (w.setCell ⟨X,i,none⟩ u) base bad e k R v l:=
 h.keep hR (fun b hb hbad _=>⟨Below.heap_setCell _ _ _ _ (fun e=>by have:b=X:=e;omega),hbad⟩)
theorem OwnB.form {α:Type}{w:World}{base e k:Nat}{bad:Nat→Prop}{R:(Nat→Prop)→World→α→List Value→Prop}{v:Value}{l:List α}(h:OwnB w base bad e k R v l):∃ a cap,v=.slice a l.length cap∧l.length≤cap∧cap≤maxLen:=by
 obtain ⟨qs,ho,_⟩:=h
 rcases ho.2 with ⟨h1,h2⟩ | ⟨g,cap,cur,h1,_,_,h3,h4,_⟩
 ·exact ⟨none,0,by rw [h1,h2],by omega,by simp [maxLen]⟩
 ·exact ⟨_,_,h1,h3,h4⟩
theorem OwnB.lt {α:Type}{w:World}{base e k:Nat}{bad:Nat→Prop}{R:(Nat→Prop)→World→α→List Value→Prop}{v:Value}{l:List α}(h:OwnB w base bad e k R v l):∀ g,v.ownBlock=some g→base≤g∧g < w.heap.size:=by
 obtain ⟨qs,ho,_⟩:=h
 exact ownsRow_lt ho
/-- The other row has grown. -/
theorem OwnB.other {α:Type}{w w':World}{base e k:Nat}{u u':Value}{R:(Nat→Prop)→World→α→List Value→Prop}{v:Value}{l:List α}(hR:Kp R) (h:OwnB w base (fun b=>u.ownBlock=some b) e k R v l) (hg:w.grownBy w' u.ownBlock) (hat:u'.ownBlock=u.ownBlock∨u'.ownBlock=some w.heap.size):OwnB w' base (fun b=>u'.ownBlock=some b) e k R v l:=
 h.keep hR (fun b hb hbad hlt=>⟨hg.block b hlt (fun e=>hbad e.symm),fun q=>by
  rcases hat with h | h
  ·exact hbad (h ▸ q)
  ·rw [h] at q;have:w.heap.size=b:=Option.some.inj q;omega⟩)
theorem OwnB.snoc {α:Type}{w w':World}{base e k lo n:Nat}{bad:Nat→Prop}{R:(Nat→Prop)→World→α→List Value→Prop}{v v':Value}{l:List α}{p:α}{cs:List Value}{qs:List (List Value)}(hR:Kp R) (hk:cs.length=k)
  (hn:l.length=n) (ho:w.ownsRow base e k v n qs.flatten) (hl:qs.length=l.length) (hr:∀ (i:Nat) (h:i < l.length) (h':i < qs.length),(qs[i]).length=k∧R (fun b=>base≤b∧v.ownBlock≠some b∧¬ bad b) w l[i] qs[i])
  (ho':w'.ownsRow base e k v' (n+1) (qs.flatten++cs)) (hg:w.grownBy w' v.ownBlock) (hat:v'.ownBlock=v.ownBlock∨v'.ownBlock=some w.heap.size)
  (hp:R (fun b=>lo≤b) w p cs) (hlo:base≤lo) (hv:∀ x,v.ownBlock=some x→x < lo) (hbad:∀ b,bad b→b < lo∧b < w.heap.size) (hvb:∀ g,v.ownBlock=some g→¬ bad g):OwnB w' base bad e k R v' (l++[p]):=by
 subst hn
 have key:∀ b,base≤b∧v.ownBlock≠some b∧¬ bad b→b < w.heap.size→(base≤b∧v'.ownBlock≠some b∧¬ bad b)∧w'.heap[b]?=w.heap[b]?:=fun b hb hlt=>by
  refine ⟨⟨hb.1,fun e=>?_,hb.2.2⟩,hg.block b hlt (fun e=>hb.2.1 e.symm)⟩
  rcases hat with h | h
  ·exact hb.2.1 (h ▸ e)
  ·rw [h] at e;have:w.heap.size=b:=Option.some.inj e;omega
 refine ⟨qs++[cs],?_,by simp [hl],fun i h h'=>?_,fun g hg'=>?_⟩
 ·rw [List.flatten_append,List.length_append]
  simpa using ho'
 ·rcases Nat.lt_or_ge i l.length with hi | hi
  ·rw [List.getElem_append_left hi,List.getElem_append_left (by omega)]
   exact ⟨(hr i hi (by omega)).1,hR (hr i hi (by omega)).2 key⟩
  ·have:i=l.length:=by simp at h;omega
   subst this
   have e1:(l++[p])[l.length]=p:=by simp
   have e2:(qs++[cs])[l.length]'h'=cs:=by simp [← hl]
   rw [e1,e2]
   exact ⟨hk,hR hp (fun b hb hlt=>key b ⟨by omega,fun e=>by have:=hv b e;omega,fun q=>by have:=(hbad b q).1;omega⟩ hlt)⟩
 ·rcases hat with h | h
  ·exact hvb g (h ▸ hg')
  ·rw [h] at hg'
   have:w.heap.size=g:=Option.some.inj hg'
   intro q
   have:=(hbad g q).2
   omega
theorem OwnB.rd {α:Type}{w:World}{base e k:Nat}{bad:Nat→Prop}{R:(Nat→Prop)→World→α→List Value→Prop}{v:Value}{l:List α}(hR:Kp R) (h:OwnB w base bad e k R v l):RdK (fun b=>base≤b) w k (R (fun b=>base≤b) w) l v:=by
 obtain ⟨qs,ho,hl,hr,_⟩:=h
 exact OwnK.rd hR ⟨qs,ho,hl,fun i h h'=>⟨(hr i h h').1,hR (hr i h h').2 (fun b hb _=>⟨⟨hb.1,hb.2.1⟩,rfl⟩)⟩⟩
theorem step_pushB {α:Type}{P:Program}(w:World) {ops:Array Oper}{o:Oper}{a:Act}{K:Act→World→Prop}{Q:Exit→Act→World→Prop}{E:Prop}(hgd:o.guard=none) (s x:Operand) (t:TypeId)
  (ho:o.op=.call { callee:=.builtin .append,args:=#[s,x],argTypes:=#[t,t] })
  (base:Nat) (bad:Nat→Prop) (e:TypeId) (i:TypeInfo) (z:Value) (k bytes:Nat) (ht:P.underlying t=some (.slice e)) (hi:P.info? e=some i) (hz:i.zero=some z)
  (hsize:i.size=k) (hby:i.bytes=bytes) (hzs:z.cells.size=k) {R:(Nat→Prop)→World→α→List Value→Prop}(hR:Kp R)
  (v:Value) (l:List α) (p:α) (cs:List Value) (lo:Nat) (hs:a.eval s=v) (hx:a.eval x=.slice (some ⟨w.heap.size,0,none⟩) 1 1) (hk:cs.length=k) (h1:∀ u∈cs,u.oneCell'=true)
  (hown:OwnB w base bad e k R v l) (hp:R (fun b=>lo≤b) w p cs) (hlo:base≤lo) (hv:∀ x,v.ownBlock=some x→x < lo) (hbad:∀ b,bad b→b < lo∧b < w.heap.size) (hroom:(l.length+1+(l.length+1) / 4+192)*bytes≤281474976710656)
  (h63:l.length+1≤maxLen) (hbase:base≤w.heap.size)
  (h:∀ v' w',OwnB w' base bad e k R v' (l++[p])→(w.alloc (.cells cs.toArray e)).grownBy w' v.ownBlock→Below base w w'→(v'.ownBlock=v.ownBlock∨v'.ownBlock=some (w.alloc (.cells cs.toArray e)).heap.size)→K (a.put o.dst v') w') :
  if Region.wanted o (yielded ops a.tmps)=true then Oper.wp P o a (w.alloc (.cells cs.toArray e)) K Q else E:=by
 have hal:Below w.heap.size w (w.alloc (.cells cs.toArray e)):=(Below.refl _ _).alloc (Nat.le_refl _) _
 obtain ⟨qs,ho1,hl1,hr1,hg1⟩:=hown.on hR hal
 refine step_append_at _ hgd s x t t ho base e i z k bytes ht hi hz hsize hby hzs v l.length qs.flatten hs ho1 _ 1 cs hx (src_row ht w cs hk h1) 1 (.inr hroom) (Nat.le_refl _) h63 (Nat.le_trans hbase hal.size) ?_
 intro v' w' hown' hg hat
 refine h v' w' (OwnB.snoc hR hk rfl ho1 hl1 hr1 hown' hg hat (hR hp (fun b hb hlt=>⟨hb,hal.block b hlt⟩)) hlo hv (fun b q=>⟨(hbad b q).1,Nat.lt_of_lt_of_le (hbad b q).2 hal.size⟩) hg1) hg ?_ hat
 exact ((Below.refl base w).alloc hbase _).grown hg (Nat.le_trans hbase hal.size) (fun k hk=>(World.ownsRow.lt ho1 k hk).1)
/-- Cells written one behind the other. -/
def putL (w:World) (g:Nat):Nat→List Value→World
 | _,[]=>w
 | o,c :: cs=>putL (w.setCell ⟨g,o,none⟩ c) g (o+1) cs
theorem putL_own:∀ (cs zs xs ys:List Value) (w:World) (base e k:Nat) (g n cap o:Nat),zs.length=cs.length→xs.length=o→w.ownsRow base e k (.slice (some ⟨g,0,none⟩) n cap) n (xs++zs++ys)→(putL w g o cs).ownsRow base e k (.slice (some ⟨g,0,none⟩) n cap) n (xs++cs++ys)
 | [],zs,xs,ys,w,base,e,k,g,n,cap,o,hz,hx,h=>by
  have:zs=[]:=List.eq_nil_of_length_eq_zero (by simpa using hz)
  subst this
  exact h
 | c :: cs,[],xs,ys,w,base,e,k,g,n,cap,o,hz,hx,h=>by simp at hz
 | c :: cs,z :: zs,xs,ys,w,base,e,k,g,n,cap,o,hz,hx,h=>by
  have h1:=(World.ownsRow.stored h o c).1
  have e1:(xs++z :: zs++ys).set o c=(xs++[c])++zs++ys:=by
   subst hx
   simp
  rw [e1] at h1
  have h2:=putL_own cs zs (xs++[c]) ys _ base e k g n cap (o+1) (by simpa using hz) (by simp [hx]) h1
  have e2:xs++[c]++cs++ys=xs++(c :: cs)++ys:=by simp
  rw [e2] at h2
  exact h2
theorem putL_heap:∀ (cs:List Value) (w:World) (g o k:Nat),k≠g→(putL w g o cs).heap[k]?=w.heap[k]?
 | [],w,g,o,k,h=>rfl
 | c :: cs,w,g,o,k,h=>by
  unfold putL
  rw [putL_heap cs _ g (o+1) k h]
  exact Below.heap_setCell _ _ _ _ (fun e=>h e)
theorem putL_below {B:Nat}{u:World}:∀ (cs:List Value) (w:World) (g o:Nat),Below B u w→B≤g→Below B u (putL w g o cs)
 | [],w,g,o,h,hg=>h
 | c :: cs,w,g,o,h,hg=>putL_below cs _ g (o+1) (h.setCell hg c) hg
theorem setCell_far (w:World) {p q:Addr}(h:p.block≠q.block) (u v:Value):(w.setCell p u).setCell q v=(w.setCell q v).setCell p u:=by
 unfold World.setCell
 simp only [World.mk.injEq,and_true,true_and]
 apply Array.ext_getElem?
 intro k
 simp only [Array.getElem?_modify]
 by_cases h1:q.block=k
 ·by_cases h2:p.block=k
  ·exact absurd (h2.trans h1.symm) h
  ·simp [h1,h2]
 ·by_cases h2:p.block=k
  ·simp [h1,h2]
  ·simp [h1,h2]
theorem putL_far (g S i:Nat) (v:Value) (h:S≠g):∀ (cs:List Value) (w:World) (o:Nat),putL (w.setCell ⟨S,i,none⟩ v) g o cs=(putL w g o cs).setCell ⟨S,i,none⟩ v
 | [],w,o=>rfl
 | c :: cs,w,o=>by
  unfold putL
  rw [setCell_far w (p:=⟨S,i,none⟩) (q:=⟨g,o,none⟩) h]
  exact putL_far g S i v h cs _ _
/-- The row v', of l and a zero element. -/
def ZR {α:Type}(w:World) (base:Nat) (bad:Nat→Prop) (e k:Nat) (R:(Nat→Prop)→World→α→List Value→Prop) (zs:List Value) (g cap:Nat) (l:List α):Prop:=
 base≤g∧g < w.heap.size∧¬ bad g∧∃ qs:List (List Value),w.ownsRow base e k (.slice (some ⟨g,0,none⟩) (l.length+1) cap) (l.length+1) (qs.flatten++zs)∧qs.length=l.length∧∀ (i:Nat) (h:i < l.length) (h':i < qs.length),(qs[i]).length=k∧R (fun b=>base≤b∧g≠b∧¬ bad b) w l[i] qs[i]
theorem flat_len {k:Nat}:∀ (qs:List (List Value)),(∀ (i:Nat) (h:i < qs.length),(qs[i]).length=k)→qs.flatten.length=qs.length*k
 | [],_=>by simp
 | x :: t,h=>by
  have hx:x.length=k:=h 0 (by simp)
  rw [List.flatten_cons,List.length_append,flat_len t (fun i hi=>h (i+1) (by simpa using hi)),List.length_cons,Nat.succ_mul]
  omega
theorem ZR.cells {α:Type}{w:World}{base e k g cap:Nat}{bad:Nat→Prop}{R:(Nat→Prop)→World→α→List Value→Prop}{zs:List Value}{l:List α}(h:ZR w base bad e k R zs g cap l):∀ j z,zs[j]?=some z→w.cell? ⟨g,l.length*k+j,none⟩=some z∧w.frozen? ⟨g,l.length*k+j,none⟩=false:=by
 obtain ⟨h1,h2,h3,qs,ho,hl,hr⟩:=h
 intro j z hz
 have hfl:qs.flatten.length=l.length*k:=by rw [flat_len qs (fun i hi=>(hr i (by omega) hi).1),hl]
 have hc:=World.ownsRow.cells ho (g:=g) rfl (l.length*k+j) z (by rw [List.getElem?_append_right (by omega),hfl,Nat.add_sub_cancel_left];exact hz)
 rw [add_plain,Nat.zero_add] at hc
 exact ⟨hc,World.ownsRow.frozenAt ho _⟩
/-- The zero element is there. -/
theorem ZR.of {α:Type}{w w':World}{base e k:Nat}{bad:Nat→Prop}{R:(Nat→Prop)→World→α→List Value→Prop}{v v':Value}{zs:List Value}{l:List α}{qs:List (List Value)}(hR:Kp R)
  (ho:w.ownsRow base e k v l.length qs.flatten) (hl:qs.length=l.length) (hr:∀ (i:Nat) (h:i < l.length) (h':i < qs.length),(qs[i]).length=k∧R (fun b=>base≤b∧v.ownBlock≠some b∧¬ bad b) w l[i] qs[i]) (hgb:∀ g,v.ownBlock=some g→¬ bad g)
  (ho':w'.ownsRow base e k v' (l.length+1) (qs.flatten++zs)) (hg:w.grownBy w' v.ownBlock) (hat:v'.ownBlock=v.ownBlock∨v'.ownBlock=some w.heap.size) (hbad:∀ b,bad b→b < w.heap.size):∃ g cap,v'=.slice (some ⟨g,0,none⟩) (l.length+1) cap∧l.length+1≤cap∧cap≤maxLen∧(v.ownBlock=some g∨g=w.heap.size)∧ZR w' base bad e k R zs g cap l:=by
 rcases ho'.2 with ⟨_,h2⟩ | ⟨g,cap,cur,rfl,hb,hgg,hnc,hcm,_⟩
 ·omega
 ·have hgl:g < w'.heap.size:=(Array.getElem?_eq_some_iff.1 hgg).1
  have hat':v.ownBlock=some g∨g=w.heap.size:=by
   simp only [Value.ownBlock] at hat
   rcases hat with h | h
   ·exact .inl h.symm
   ·exact .inr (Option.some.inj h)
  have hng:¬ bad g:=by
   rcases hat' with h | h
   ·exact hgb g h
   ·intro q;have:=hbad g q;omega
  refine ⟨g,cap,rfl,hnc,hcm,hat',hb,hgl,hng,qs,ho',hl,fun i h h'=>⟨(hr i h h').1,hR (hr i h h').2 (fun b hb hlt=>⟨⟨hb.1,fun e=>?_,hb.2.2⟩,hg.block b hlt (fun e=>hb.2.1 e.symm)⟩)⟩⟩
  subst e
  rcases hat' with h | h
  ·exact hb.2.1 h
  ·omega
/-- The element put in. -/
theorem ZR.put {α:Type}{w:World}{base e k g cap:Nat}{bad:Nat→Prop}{R:(Nat→Prop)→World→α→List Value→Prop}{zs:List Value}{l:List α}{p:α}{cs:List Value}(hR:Kp R) (h:ZR w base bad e k R zs g cap l) (hk:cs.length=k) (hz:zs.length=k) (hp:R (fun b=>base≤b∧g≠b∧¬ bad b) w p cs):OwnB (putL w g (l.length*k) cs) base bad e k R (.slice (some ⟨g,0,none⟩) (l.length+1) cap) (l++[p]):=by
 obtain ⟨h1,h2,h3,qs,ho,hl,hr⟩:=h
 have hfl:qs.flatten.length=l.length*k:=by rw [flat_len qs (fun i hi=>(hr i (by omega) hi).1),hl]
 have ho2:=putL_own cs zs qs.flatten [] w base e k g (l.length+1) cap (l.length*k) (by omega) hfl (by simpa using ho)
 rw [List.append_nil] at ho2
 have key:∀ b,base≤b∧g≠b∧¬ bad b→b < w.heap.size→(base≤b∧(Value.slice (some ⟨g,0,none⟩) (l.length+1) cap).ownBlock≠some b∧¬ bad b)∧(putL w g (l.length*k) cs).heap[b]?=w.heap[b]?:=fun b hb hlt=>
  ⟨⟨hb.1,fun e=>hb.2.1 (Option.some.inj e),hb.2.2⟩,putL_heap cs w g _ b (fun e=>hb.2.1 e.symm)⟩
 refine ⟨qs++[cs],?_,by simp [hl],fun i h h'=>?_,fun g' hg'=>?_⟩
 ·rw [List.flatten_append,List.length_append]
  simpa using ho2
 ·rcases Nat.lt_or_ge i l.length with hi | hi
  ·rw [List.getElem_append_left hi,List.getElem_append_left (by omega)]
   exact ⟨(hr i hi (by omega)).1,hR (hr i hi (by omega)).2 key⟩
  ·have:i=l.length:=by simp at h;omega
   subst this
   have e1:(l++[p])[l.length]=p:=by simp
   have e2:(qs++[cs])[l.length]'h'=cs:=by simp [← hl]
   rw [e1,e2]
   exact ⟨hk,hR hp key⟩
 ·simp only [Value.ownBlock,Option.some.injEq] at hg'
  subst hg'
  exact h3
/-- The zero element appended, as a step of a region. -/
theorem step_zero {α:Type}{P:Program}(wa W:World) (hW:Below wa.heap.size wa W) {ops:Array Oper}{o:Oper}{a:Act}{K:Act→World→Prop}{Q:Exit→Act→World→Prop}{E:Prop}(hgd:o.guard=none) (s x:Operand) (t:TypeId)
  (ho:o.op=.call { callee:=.builtin .append,args:=#[s,x],argTypes:=#[t,t] })
  (base:Nat) (bad:Nat→Prop) (e:TypeId) (i:TypeInfo) (z:Value) (k bytes:Nat) (ht:P.underlying t=some (.slice e)) (hi:P.info? e=some i) (hz:i.zero=some z)
  (hsize:i.size=k) (hby:i.bytes=bytes) (hzs:z.cells.size=k) {R:(Nat→Prop)→World→α→List Value→Prop}(hR:Kp R)
  (v:Value) (l:List α) (p:α) (cs zs:List Value) (xv:Value) (lo:Nat) (hs:a.eval s=v) (hx:a.eval x=xv) (hsrc:Src P k t xv 1 zs W)
  (hown:OwnB wa base bad e k R v l) (hp:R (fun b=>lo≤b) wa p cs) (hlo:base≤lo) (hv:∀ x,v.ownBlock=some x→x < lo) (hbad:∀ b,bad b→b < lo∧b < wa.heap.size) (hroom:(l.length+1+(l.length+1) / 4+192)*bytes≤281474976710656)
  (h63:l.length+1≤maxLen) (hbase:base≤wa.heap.size)
  (h:∀ g cap w',l.length+1≤cap→cap≤maxLen→ZR w' base bad e k R zs g cap l→R (fun b=>base≤b∧g≠b∧¬ bad b) w' p cs→W.grownBy w' v.ownBlock→Below base wa w'→((Value.slice (some ⟨g,0,none⟩) (l.length+1) cap).ownBlock=v.ownBlock∨(Value.slice (some ⟨g,0,none⟩) (l.length+1) cap).ownBlock=some W.heap.size)→K (a.put o.dst (.slice (some ⟨g,0,none⟩) (l.length+1) cap)) w') :
  if Region.wanted o (yielded ops a.tmps)=true then Oper.wp P o a W K Q else E:=by
 obtain ⟨qs,ho1,hl1,hr1,hg1⟩:=hown.on hR hW
 refine step_append_at _ hgd s x t t ho base e i z k bytes ht hi hz hsize hby hzs v l.length qs.flatten hs ho1 _ 1 zs hx hsrc 1 (.inr hroom) (Nat.le_refl _) h63 (Nat.le_trans hbase hW.size) ?_
 intro v' w' hown' hg hat
 obtain ⟨g,cap,rfl,h1,h2,h3,h4⟩:=ZR.of hR ho1 hl1 hr1 hg1 hown' hg hat (fun b q=>Nat.lt_of_lt_of_le (hbad b q).2 hW.size)
 refine h g cap w' h1 h2 h4 (hR hp (fun b hb hlt=>⟨⟨by omega,fun e=>?_,fun q=>?_⟩,?_⟩)) hg ?_ hat
 ·subst e
  rcases h3 with q | q
  ·have:=hv g q;omega
  ·have:=hW.size;omega
 ·have:=(hbad b q).1;omega
 ·rw [hg.block b (Nat.lt_of_lt_of_le hlt hW.size) (fun e=>by have:=hv b e.symm;omega)]
  exact hW.block b hlt
 ·exact (hW.mono hbase).grown hg (Nat.le_trans hbase hW.size) (fun k hk=>(World.ownsRow.lt ho1 k hk).1)
end Go.Proofs.YtlgnahpfggagoaaGreatDoor
/- What the program's placed answers. -/
namespace Go.Proofs.YtlgnahpfggagoaaGreatDoor
open Go.RowKit Go.Lib
set_option linter.unusedSimpArgs false
set_option linter.unusedVariables false
attribute [local go_sem ↓] Go.wp_at_zero Go.wp_at_succ
end Go.Proofs.YtlgnahpfggagoaaGreatDoor
/- What the program's Letter, digit, inWord, runSize, remarkSize, Name do. -/
namespace Go.Proofs.YtlgnahpfggagoaaGreatDoor
open Go.RowKit Go.Lib
set_option linter.unusedSimpArgs false
set_option linter.unusedVariables false
/-- What a range tells of a rune. -/
def rn (r:Int):Int:=if r = -1 then 65533 else r
theorem rn_small {r k:Int}(hk:0≤k∧k < 128):rn r=k↔r=k:=by unfold rn;split <;> omega
theorem letter_rn (r:Int):letter (rn r)=letter r:=by
 unfold rn
 split
 ·rename_i h;subst h;decide
 ·rfl
theorem dgt_rn (r:Int):dgt (rn r)=dgt r:=by
 unfold rn
 split
 ·rename_i h;subst h;decide
 ·rfl
theorem insd_rn (r:Int):insd (rn r)=insd r:=by
 unfold rn
 split
 ·rename_i h;subst h;decide
 ·rfl
theorem dec_nx {s:ByteArray}{pos:Nat}(h:pos < s.size):((Utf8.decode s pos).1:Int)=rn (nx ((bl s).drop pos)).1∧(Utf8.decode s pos).2=(nx ((bl s).drop pos)).2:=by
 have hne:=drop_ne (l:=bl s) (k:=pos) (by rw [bl_length];exact h)
 have hd:decodeL ((bl s).drop pos)=Utf8.decode s pos:=decodeL_drop s pos
 refine ⟨?_,by rw [nx_size hne,hd]⟩
 unfold nx rn
 rw [if_neg hne,hd]
 by_cases hc:(Utf8.decode s pos).1=65533∧(Utf8.decode s pos).2≤1
 ·rw [if_pos hc,if_pos rfl,hc.1];rfl
 ·rw [if_neg hc,if_neg (by simp only;omega)]
/-- m runes, of k bytes, lie behind us. -/
structure Gone (l:List UInt8) (m k:Nat):Prop where
 le:k≤l.length
 left:runes (l.drop k)=(runes l).drop m
 size:(byt ((runes l).take m)).length=k
 few:m≤k
theorem Gone.zero (l:List UInt8):Gone l 0 0:=⟨by omega,rfl,rfl,by omega⟩
theorem Gone.step {l:List UInt8}{m k:Nat}(h:Gone l m k) (hk:k < l.length):Gone l (m+1) (k+(nx (l.drop k)).2):=by
 have hne:=drop_ne hk
 have hc:=runes_cons hne
 have hle:=nx_le hne
 have hps:=nx_pos hne
 rw [List.length_drop] at hle
 have hd:(runes l).drop m=((nx (l.drop k)).1,(l.drop k).take (nx (l.drop k)).2) :: runes ((l.drop k).drop (nx (l.drop k)).2):=by rw [← h.left,hc]
 have hd1:(runes l).drop (m+1)=runes (l.drop (k+(nx (l.drop k)).2)):=by
  have:=congrArg List.tail hd
  rw [List.tail_drop,List.tail_cons,List.drop_drop] at this
  exact this
 refine ⟨by omega,hd1.symm,?_,by have:=h.few;omega⟩
 have e1:=byt_split (runes l) (m+1)
 rw [hd1,byt_runes _ _ (Nat.le_refl _),byt_runes _ _ (Nat.le_refl _),List.length_drop] at e1
 omega
theorem Gone.take {l:List UInt8}{m k:Nat}(h:Gone l m k) (hk:k < l.length):(runes l).take (m+1)=(runes l).take m++[((nx (l.drop k)).1,(l.drop k).take (nx (l.drop k)).2)]:=by
 have hc:=runes_cons (drop_ne hk)
 rw [h.left] at hc
 have hlt:m < (runes l).length:=by
  rcases Nat.lt_or_ge m (runes l).length with h1 | h1
  ·exact h1
  ·rw [List.drop_eq_nil_of_le h1] at hc;cases hc
 rw [List.take_succ_eq_append_getElem hlt]
 rw [List.drop_eq_getElem_cons hlt] at hc
 rw [(List.cons.inj hc).1]
theorem rest_of:∀ (m:Nat) (R:List Ru),m≤R.length→(∀ v∈R.take m,v.1≠10)→(R.drop m=[]∨∃ v t,R.drop m=v :: t∧v.1=10)→rest R=m
 | 0,R,_,_,h=>by
  rcases h with h | ⟨v,t,h,h10⟩
  ·rw [List.drop_zero] at h;rw [h];rfl
  ·rw [List.drop_zero] at h;rw [h];unfold rest;rw [if_pos h10]
 | m+1,[],hm,_,_=>by simp at hm
 | m+1,v :: t,hm,h1,h2=>by
  unfold rest
  rw [if_neg (h1 v (by simp)),rest_of m t (by simpa using hm) (fun x hx=>h1 x (by simp [hx])) (by simpa using h2)]
/-- How many bytes a remark has, ahead. -/
def rsb (l:List UInt8):Nat:=(byt ((runes l).take (rest (runes l)))).length
theorem Gone.rest_end {l:List UInt8}{m k:Nat}(h:Gone l m k) (hn:∀ v∈(runes l).take m,v.1≠10) (hs:l.length≤k∨(nx (l.drop k)).1=10) (hm:m≤(runes l).length):rest (runes l)=m∧rsb l=k:=by
 have e:rest (runes l)=m:=by
  refine rest_of m _ hm hn ?_
  rw [← h.left]
  by_cases hk:l.length≤k
  ·left;rw [List.drop_eq_nil_of_le hk];rfl
  ·right
   refine ⟨_,_,runes_cons (drop_ne (by omega)),?_⟩
   rcases hs with hs | hs
   ·omega
   ·exact hs
 exact ⟨e,by unfold rsb;rw [e];exact h.size⟩
theorem pLetter_any (r:Int) (w:World):Calls Tryz.prog 80 #[.int .i32 r] w fun e w'=>e=.returned (.bool (letter r))∧w=w':=by
 rw [letter_eq]
 go_enter Tryz.func80,Tryz.ntmps80
 go_wp2
 all_goals go_ret
 all_goals (refine ⟨ret_bool ?_,rfl⟩;first | rfl | (rw [Bool.eq_iff_iff];simp;omega) | (rw [Bool.eq_iff_iff];simp [*];omega))
theorem pDigit_any (r:Int) (w:World):Calls Tryz.prog 100 #[.int .i32 r] w fun e w'=>e=.returned (.bool (dgt r))∧w=w':=by
 rw [dgt_eq]
 go_enter Tryz.func100,Tryz.ntmps100
 go_wp2
 all_goals go_ret
 all_goals (refine ⟨ret_bool ?_,rfl⟩;first | rfl | (rw [Bool.eq_iff_iff];simp;omega) | (rw [Bool.eq_iff_iff];simp [*];omega))
theorem pInside_any (r:Int) (w:World):Calls Tryz.prog 79 #[.int .i32 r] w fun e w'=>e=.returned (.bool (insd r))∧w=w':=by
 have h1:=pLetter_any r w
 have h2:=pDigit_any r w
 have h3:insd r=(letter r || dgt r || r == 95):=rfl
 rw [h3]
 cases ha:letter r <;> rw [ha] at h1
 ·cases hb:dgt r <;> rw [hb] at h2
  ·go_enter Tryz.func79,Tryz.ntmps79
   go_wp2_with (first
    | (go_at_call 80;refine h1.mono ?_;rintro e w' ⟨rfl,rfl⟩)
    | (go_at_call 100;refine h2.mono ?_;rintro e w' ⟨rfl,rfl⟩))
   go_ret
   exact ⟨ret_bool (by simp),rfl⟩
  ·go_enter Tryz.func79,Tryz.ntmps79
   go_wp2_with (first
    | (go_at_call 80;refine h1.mono ?_;rintro e w' ⟨rfl,rfl⟩)
    | (go_at_call 100;refine h2.mono ?_;rintro e w' ⟨rfl,rfl⟩))
   go_ret
   exact ⟨ret_bool (by simp),rfl⟩
 ·go_enter Tryz.func79,Tryz.ntmps79
  go_wp2_with (first
   | (go_at_call 80;refine h1.mono ?_;rintro e w' ⟨rfl,rfl⟩)
   | (go_at_call 100;refine h2.mono ?_;rintro e w' ⟨rfl,rfl⟩))
  go_ret
  exact ⟨ret_bool (by simp),rfl⟩
set_option maxHeartbeats 400000 in
theorem pRun_any (s:ByteArray) (w:World) (hs:s.size≤140737488351232) :
  Calls Tryz.prog 99 #[.string s] w fun e w'=>e=.returned (.int .i64 (spb (bl s):Int))∧Below w.heap.size w w':=by
 go_enter Tryz.func99,Tryz.ntmps99
 go_wp2
 go_loopw [] (fun wr=>∃ (m k:Nat),wr.heap[w.heap.size]?=some (.stringIter s k)∧Hid (Adv (bl s) m k)∧Below w.heap.size w wr) (fun wr=>s.size - wr.iterPos w.heap.size)
 case atStart=>exact ⟨0,0,World.iter_heap w s 0,Adv.zero _,(Below.refl _ w).alloc (Nat.le_refl _) _⟩
 case round=>
  obtain ⟨m,k,hit,ha,hb⟩:=hrel
  have hle:=ha.out.le
  rw [bl_length] at hle
  by_cases hk:k < s.size
  ·have hnx:∀ ty,(Instr.next (.pointer (some ⟨w.heap.size,0,none⟩)) true ty).run Tryz.prog wr=_:=fun ty=>Lib.run_next_any_at wr w.heap.size s k ty hit hk
   obtain ⟨d1,d2⟩:=dec_nx hk
   have hne:=drop_ne (l:=bl s) (by rw [bl_length];exact hk)
   have hps:=nx_pos hne
   have hnl:=nx_le hne
   rw [List.length_drop,bl_length] at hnl
   obtain ⟨r,hr⟩:∃ r,(nx ((bl s).drop k)).1=r:=⟨_,rfl⟩
   obtain ⟨q,hq⟩:∃ q,(nx ((bl s).drop k)).2=q:=⟨_,rfl⟩
   rw [hr] at d1
   rw [hq] at d2 hps hnl
   rw [d1,d2] at hnx
   have hit2:=Lib.iterAt_heap wr w.heap.size s k (k+q) hit
   have hb2:=Lib.below_iterAt hb (k:=w.heap.size) (Nat.le_refl _) s (k+q)
   have h26:=fun w1=>pInside_any (rn r) w1
   rw [insd_rn] at h26
   cases hi:insd r with
   | true=>
    rw [hi] at h26
    have hA:Hid (Adv (bl s) (m+1) (k+q)):=by have:=ha.out.step (by rw [bl_length];exact hk) (by rw [hr];exact hi);rw [hq] at this;exact this
    clear hr hq hne hi d1 d2
    go_wp2_with (first
     | (go_at_call 79;refine (h26 _).mono ?_;rintro e w' ⟨rfl,rfl⟩))
    go_roundw
    case rel=>exact ⟨m+1,k+q,hit2,hA,hb2⟩
    case measure=>rw [iterPos_of hit2,iterPos_of hit];omega
   | false=>
    rw [hi] at h26
    have hE:Hid (spn (runes (bl s))=m):=ha.out.stop (.inr (by rw [hr];exact hi))
    have hZ:Hid (spb (bl s)=k):=by show spb (bl s)=k;unfold spb;rw [hE.out];exact ha.out.size
    clear hr hq hne hi d1 d2
    go_wp2_with (first
     | (go_at_call 79;refine (h26 _).mono ?_;rintro e w' ⟨rfl,rfl⟩))
    go_ret
    rw [hZ.out]
    exact ⟨rfl,hb2⟩
  ·have hnx:∀ ty,(Instr.next (.pointer (some ⟨w.heap.size,0,none⟩)) true ty).run Tryz.prog wr=_:=fun ty=>Lib.run_next_end_at wr w.heap.size s k ty hit hk
   have hE:Hid (spn (runes (bl s))=m):=ha.out.stop (.inl (by rw [bl_length];omega))
   have hZ:Hid (spb (bl s)=k):=by show spb (bl s)=k;unfold spb;rw [hE.out];exact ha.out.size
   have hks:k=s.size:=by omega
   go_wp2
   go_ret
   rw [hZ.out,hks]
   exact ⟨rfl,hb⟩
set_option maxHeartbeats 400000 in
theorem pRemark_any (s:ByteArray) (w:World) (hs:s.size≤140737488351232) :
  Calls Tryz.prog 98 #[.string s] w fun e w'=>e=.returned (.int .i64 (rsb (bl s):Int))∧Below w.heap.size w w':=by
 go_enter Tryz.func98,Tryz.ntmps98
 go_wp2
 go_loopw [] (fun wr=>∃ (m k:Nat),wr.heap[w.heap.size]?=some (.stringIter s k)∧Hid (Gone (bl s) m k)∧Hid (∀ v∈(runes (bl s)).take m,v.1≠10)∧Hid (m≤(runes (bl s)).length)∧Below w.heap.size w wr) (fun wr=>s.size - wr.iterPos w.heap.size)
 case atStart=>exact ⟨0,0,World.iter_heap w s 0,Gone.zero _,fun v hv=>by simp at hv,Nat.zero_le _,(Below.refl _ w).alloc (Nat.le_refl _) _⟩
 case round=>
  obtain ⟨m,k,hit,ha,hno,hmr,hb⟩:=hrel
  have hle:=ha.out.le
  rw [bl_length] at hle
  by_cases hk:k < s.size
  ·have hnx:∀ ty,(Instr.next (.pointer (some ⟨w.heap.size,0,none⟩)) true ty).run Tryz.prog wr=_:=fun ty=>Lib.run_next_any_at wr w.heap.size s k ty hit hk
   obtain ⟨d1,d2⟩:=dec_nx hk
   have hkl:k < (bl s).length:=by rw [bl_length];exact hk
   have hne:=drop_ne hkl
   have hps:=nx_pos hne
   have hnl:=nx_le hne
   rw [List.length_drop,bl_length] at hnl
   have hst:=ha.out.step hkl
   have htk:=ha.out.take hkl
   have hre:=fun h=>ha.out.rest_end hno.out (.inr h) hmr.out
   have hml:m < (runes (bl s)).length:=by
    have:=congrArg List.length htk
    rw [List.length_append,List.length_take,List.length_take] at this
    simp at this
    omega
   obtain ⟨r,hr⟩:∃ r,(nx ((bl s).drop k)).1=r:=⟨_,rfl⟩
   obtain ⟨q,hq⟩:∃ q,(nx ((bl s).drop k)).2=q:=⟨_,rfl⟩
   rw [hr] at d1 htk hre
   rw [hq] at d2 hps hnl hst htk
   rw [d1,d2] at hnx
   have hit2:=Lib.iterAt_heap wr w.heap.size s k (k+q) hit
   have hb2:=Lib.below_iterAt hb (k:=w.heap.size) (Nat.le_refl _) s (k+q)
   have h10:=rn_small (r:=r) (k:=10) (by omega)
   by_cases hi:r=10
   ·have e1:(rn r == 10)=true:=by rw [h10.2 hi];rfl
    have hZ:Hid (rsb (bl s)=k):=(hre hi).2
    clear hr hq hne hi d1 d2 htk hre hst h10
    go_wp2
    go_ret
    rw [hZ.out]
    exact ⟨rfl,hb2⟩
   ·have e1:(rn r == 10)=false:=beq_eq_false_iff_ne.2 (fun e=>hi (h10.1 e))
    have hN:Hid (∀ v∈(runes (bl s)).take (m+1),v.1≠10):=fun v hv=>by
     rw [htk] at hv
     rcases List.mem_append.1 hv with hv | hv
     ·exact hno.out v hv
     ·simp only [List.mem_singleton] at hv;rw [hv];exact hi
    have hA:Hid (Gone (bl s) (m+1) (k+q)):=hst
    have hM:Hid (m+1≤(runes (bl s)).length):=hml
    clear hr hq hne hi d1 d2 htk hre hst h10 hml
    go_wp2
    go_roundw
    case rel=>exact ⟨m+1,k+q,hit2,hA,hN,hM,hb2⟩
    case measure=>rw [iterPos_of hit2,iterPos_of hit];omega
  ·have hnx:∀ ty,(Instr.next (.pointer (some ⟨w.heap.size,0,none⟩)) true ty).run Tryz.prog wr=_:=fun ty=>Lib.run_next_end_at wr w.heap.size s k ty hit hk
   have hZ:Hid (rsb (bl s)=k):=(ha.out.rest_end hno.out (.inl (by rw [bl_length];omega)) hmr.out).2
   have hks:k=s.size:=by omega
   go_wp2
   go_ret
   rw [hZ.out,hks]
   exact ⟨rfl,hb⟩
end Go.Proofs.YtlgnahpfggagoaaGreatDoor
