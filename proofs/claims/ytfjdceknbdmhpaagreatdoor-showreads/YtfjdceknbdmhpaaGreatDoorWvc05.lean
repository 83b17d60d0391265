import Derived.Test.YtfjdceknbdmhpaaGreatDoorRows
import Derived.Test.YtfjdceknbdmhpaaGreatDoorWvc04
import Derived.Test.YtfjdceknbdmhpaaGreatDoorWvc02
import Derived.Deep.LoopGhost
import Derived.Test.YtfjdceknbdmhpaaGreatDoorWvc01
import Derived.Deep.RegionHeld
import Derived.Deep.DrawnRows
import Derived.WalkSmall
import Derived.Deep.AppendLies
/- What the program's levelOf and Reserved do. -/
namespace Go.Proofs.YtfjdceknbdmhpaaGreatDoor
open Go.RowKit Go.Lib
set_option linter.unusedSimpArgs false
set_option linter.unusedVariables false
attribute [local go_sem ↓] Go.wp_at_zero Go.wp_at_succ
set_option maxRecDepth 100000 in
set_option maxHeartbeats 2000000 in
theorem pLevel_any (s:ByteArray) (w:World):Calls Tryz.prog 277 #[.string s] w fun e w'=>e=.returned (.int .i64 (lv (bl s):Int))∧w=w':=by
 have hS:∀ x,(s.toList == x)=(bl s == x):=fun x=>by rw [ByteArray.toList_eq]
 obtain ⟨l,hl⟩:∃ l,bl s=l:=⟨_,rfl⟩
 rw [hl]
 simp only [hl] at hS
 clear hl
 have q0:(s.toList == [124,124])=(l == [124,124]):=hS _
 have q1:(s.toList == [38,38])=(l == [38,38]):=hS _
 have q2:(s.toList == [60])=(l == [60]):=hS _
 have q3:(s.toList == [60,61])=(l == [60,61]):=hS _
 have q4:(s.toList == [61,61])=(l == [61,61]):=hS _
 have q5:(s.toList == [33,61])=(l == [33,61]):=hS _
 have q6:(s.toList == [43])=(l == [43]):=hS _
 have q7:(s.toList == [45])=(l == [45]):=hS _
 have q8:(s.toList == [42])=(l == [42]):=hS _
 clear hS
 cases r0:(l == [124,124])
 case true=>rw [r0] at q0;clear q1 q2 q3 q4 q5 q6 q7 q8;go_enter Tryz.func277,Tryz.ntmps277;go_wp2;go_ret;exact ⟨by rw [eq_of_beq r0];rfl,rfl⟩
 rw [r0] at q0
 cases r1:(l == [38,38])
 case true=>rw [r1] at q1;clear q2 q3 q4 q5 q6 q7 q8;go_enter Tryz.func277,Tryz.ntmps277;go_wp2;go_ret;exact ⟨by rw [eq_of_beq r1];rfl,rfl⟩
 rw [r1] at q1
 cases r2:(l == [60])
 case true=>rw [r2] at q2;clear q3 q4 q5 q6 q7 q8;go_enter Tryz.func277,Tryz.ntmps277;go_wp2;go_ret;exact ⟨by rw [eq_of_beq r2];rfl,rfl⟩
 rw [r2] at q2
 cases r3:(l == [60,61])
 case true=>rw [r3] at q3;clear q4 q5 q6 q7 q8;go_enter Tryz.func277,Tryz.ntmps277;go_wp2;go_ret;exact ⟨by rw [eq_of_beq r3];rfl,rfl⟩
 rw [r3] at q3
 cases r4:(l == [61,61])
 case true=>rw [r4] at q4;clear q5 q6 q7 q8;go_enter Tryz.func277,Tryz.ntmps277;go_wp2;go_ret;exact ⟨by rw [eq_of_beq r4];rfl,rfl⟩
 rw [r4] at q4
 cases r5:(l == [33,61])
 case true=>rw [r5] at q5;clear q6 q7 q8;go_enter Tryz.func277,Tryz.ntmps277;go_wp2;go_ret;exact ⟨by rw [eq_of_beq r5];rfl,rfl⟩
 rw [r5] at q5
 cases r6:(l == [43])
 case true=>rw [r6] at q6;clear q7 q8;go_enter Tryz.func277,Tryz.ntmps277;go_wp2;go_ret;exact ⟨by rw [eq_of_beq r6];rfl,rfl⟩
 rw [r6] at q6
 cases r7:(l == [45])
 case true=>rw [r7] at q7;clear q8;go_enter Tryz.func277,Tryz.ntmps277;go_wp2;go_ret;exact ⟨by rw [eq_of_beq r7];rfl,rfl⟩
 rw [r7] at q7
 cases r8:(l == [42])
 case true=>rw [r8] at q8;go_enter Tryz.func277,Tryz.ntmps277;go_wp2;go_ret;exact ⟨by rw [eq_of_beq r8];rfl,rfl⟩
 rw [r8] at q8
 go_enter Tryz.func277,Tryz.ntmps277
 go_wp2
 go_ret
 have e:lv l=0:=by simp [lv,beq_eq_false_iff_ne.1 r0,beq_eq_false_iff_ne.1 r1,beq_eq_false_iff_ne.1 r2,beq_eq_false_iff_ne.1 r3,beq_eq_false_iff_ne.1 r4,beq_eq_false_iff_ne.1 r5,beq_eq_false_iff_ne.1 r6,beq_eq_false_iff_ne.1 r7,beq_eq_false_iff_ne.1 r8]
 exact ⟨by rw [e];rfl,rfl⟩
set_option maxRecDepth 100000 in
set_option maxHeartbeats 2000000 in
theorem pReserved_any (s:ByteArray) (w:World):Calls Tryz.prog 90 #[.string s] w fun e w'=>e=.returned (.bool (rsvB (bl s)))∧w=w':=by
 have hS:∀ x,(s.toList == x)=(bl s == x):=fun x=>by rw [ByteArray.toList_eq]
 obtain ⟨l,hl⟩:∃ l,bl s=l:=⟨_,rfl⟩
 rw [hl]
 simp only [hl] at hS
 clear hl
 have q0:(s.toList == [99,104,97,114,116])=(l == [99,104,97,114,116]):=hS _
 have q1:(s.toList == [118,97,114])=(l == [118,97,114]):=hS _
 have q2:(s.toList == [115,116,97,116,101])=(l == [115,116,97,116,101]):=hS _
 have q3:(s.toList == [97,108,108])=(l == [97,108,108]):=hS _
 have q4:(s.toList == [101,110,100])=(l == [101,110,100]):=hS _
 have q5:(s.toList == [100,111])=(l == [100,111]):=hS _
 have q6:(s.toList == [117,110,100,111])=(l == [117,110,100,111]):=hS _
 have q7:(s.toList == [97,116])=(l == [97,116]):=hS _
 have q8:(s.toList == [114,101,116,114,105,101,115])=(l == [114,101,116,114,105,101,115]):=hS _
 have q9:(s.toList == [111,110])=(l == [111,110]):=hS _
 have q10:(s.toList == [105,102])=(l == [105,102]):=hS _
 have q11:(s.toList == [103,111])=(l == [103,111]):=hS _
 have q12:(s.toList == [115,101,116])=(l == [115,101,116]):=hS _
 clear hS
 cases r0:(l == [99,104,97,114,116])
 case true=>rw [r0] at q0;clear q1 q2 q3 q4 q5 q6 q7 q8 q9 q10 q11 q12;go_enter Tryz.func90,Tryz.ntmps90;go_wp2;go_ret;exact ⟨by rw [eq_of_beq r0];rfl,rfl⟩
 rw [r0] at q0
 cases r1:(l == [118,97,114])
 case true=>rw [r1] at q1;clear q2 q3 q4 q5 q6 q7 q8 q9 q10 q11 q12;go_enter Tryz.func90,Tryz.ntmps90;go_wp2;go_ret;exact ⟨by rw [eq_of_beq r1];rfl,rfl⟩
 rw [r1] at q1
 cases r2:(l == [115,116,97,116,101])
 case true=>rw [r2] at q2;clear q3 q4 q5 q6 q7 q8 q9 q10 q11 q12;go_enter Tryz.func90,Tryz.ntmps90;go_wp2;go_ret;exact ⟨by rw [eq_of_beq r2];rfl,rfl⟩
 rw [r2] at q2
 cases r3:(l == [97,108,108])
 case true=>rw [r3] at q3;clear q4 q5 q6 q7 q8 q9 q10 q11 q12;go_enter Tryz.func90,Tryz.ntmps90;go_wp2;go_ret;exact ⟨by rw [eq_of_beq r3];rfl,rfl⟩
 rw [r3] at q3
 cases r4:(l == [101,110,100])
 case true=>rw [r4] at q4;clear q5 q6 q7 q8 q9 q10 q11 q12;go_enter Tryz.func90,Tryz.ntmps90;go_wp2;go_ret;exact ⟨by rw [eq_of_beq r4];rfl,rfl⟩
 rw [r4] at q4
 cases r5:(l == [100,111])
 case true=>rw [r5] at q5;clear q6 q7 q8 q9 q10 q11 q12;go_enter Tryz.func90,Tryz.ntmps90;go_wp2;go_ret;exact ⟨by rw [eq_of_beq r5];rfl,rfl⟩
 rw [r5] at q5
 cases r6:(l == [117,110,100,111])
 case true=>rw [r6] at q6;clear q7 q8 q9 q10 q11 q12;go_enter Tryz.func90,Tryz.ntmps90;go_wp2;go_ret;exact ⟨by rw [eq_of_beq r6];rfl,rfl⟩
 rw [r6] at q6
 cases r7:(l == [97,116])
 case true=>rw [r7] at q7;clear q8 q9 q10 q11 q12;go_enter Tryz.func90,Tryz.ntmps90;go_wp2;go_ret;exact ⟨by rw [eq_of_beq r7];rfl,rfl⟩
 rw [r7] at q7
 cases r8:(l == [114,101,116,114,105,101,115])
 case true=>rw [r8] at q8;clear q9 q10 q11 q12;go_enter Tryz.func90,Tryz.ntmps90;go_wp2;go_ret;exact ⟨by rw [eq_of_beq r8];rfl,rfl⟩
 rw [r8] at q8
 cases r9:(l == [111,110])
 case true=>rw [r9] at q9;clear q10 q11 q12;go_enter Tryz.func90,Tryz.ntmps90;go_wp2;go_ret;exact ⟨by rw [eq_of_beq r9];rfl,rfl⟩
 rw [r9] at q9
 cases r10:(l == [105,102])
 case true=>rw [r10] at q10;clear q11 q12;go_enter Tryz.func90,Tryz.ntmps90;go_wp2;go_ret;exact ⟨by rw [eq_of_beq r10];rfl,rfl⟩
 rw [r10] at q10
 cases r11:(l == [103,111])
 case true=>rw [r11] at q11;clear q12;go_enter Tryz.func90,Tryz.ntmps90;go_wp2;go_ret;exact ⟨by rw [eq_of_beq r11];rfl,rfl⟩
 rw [r11] at q11
 cases r12:(l == [115,101,116])
 case true=>rw [r12] at q12;go_enter Tryz.func90,Tryz.ntmps90;go_wp2;go_ret;exact ⟨by rw [eq_of_beq r12];rfl,rfl⟩
 rw [r12] at q12
 go_enter Tryz.func90,Tryz.ntmps90
 go_wp2
 go_ret
 have e:rsvB l=false:=by simp [rsvB,rsv13,beq_eq_false_iff_ne.1 r0,beq_eq_false_iff_ne.1 r1,beq_eq_false_iff_ne.1 r2,beq_eq_false_iff_ne.1 r3,beq_eq_false_iff_ne.1 r4,beq_eq_false_iff_ne.1 r5,beq_eq_false_iff_ne.1 r6,beq_eq_false_iff_ne.1 r7,beq_eq_false_iff_ne.1 r8,beq_eq_false_iff_ne.1 r9,beq_eq_false_iff_ne.1 r10,beq_eq_false_iff_ne.1 r11,beq_eq_false_iff_ne.1 r12]
 exact ⟨by rw [e];rfl,rfl⟩
theorem RdS.at' {w:World} {v:Value} {ls:List ByteArray} (h:RdS w v ls):∃ a cap,v=.slice a ls.length cap∧ls.length≤maxLen∧∀ (i:Nat) (hi:i < ls.length),∃ g,a=some ⟨g,0,none⟩∧w.cell? ⟨g,i,none⟩=some (.string ls[i]):=by
 rcases h.form with ⟨rfl,rfl⟩ | ⟨g,cap,rfl,h1,h2,h3⟩
 ·exact ⟨none,0,rfl,by simp [maxLen],fun i hi=>by simp at hi⟩
 ·exact ⟨_,_,rfl,by omega,fun i hi=>⟨g,rfl,h3 i hi⟩⟩
set_option maxRecDepth 100000 in
set_option maxHeartbeats 4000000 in
theorem idx_any {w:World} {v:Value} {ls:List ByteArray} (h:RdS w v ls) :
  Calls Tryz.prog 249 #[v,.func (.func 90) #[] #[]] w fun e w'=>∃ i:Int,e=.returned (.int .i64 i)∧decide (0≤i)=ls.any (fun s=>rsvB (bl s))∧w'=w:=by
 obtain ⟨a,cap,rfl,hm,hc⟩:=h.at'
 clear h
 unfold maxLen at hm
 obtain ⟨n,hn⟩:∃ n,ls.length=n:=⟨_,rfl⟩
 rw [hn] at hm ⊢
 go_enter Tryz.func249,Tryz.ntmps249
 go_wp2
 go_loopg [5,8] n (fun gg _ s8 wr=>∃ kk:Nat,kk≤n∧n - kk≤gg∧s8=.int .i64 (kk:Int)∧Hid (w=wr)∧Hid (∀ (j:Nat) (hj:j < ls.length),j < kk→rsvB (bl ls[j])=false))
 case atStart=>exact ⟨0,Nat.zero_le _,by omega,rfl,rfl,fun j _ hj=>absurd hj (Nat.not_lt_zero _)⟩
 case round=>
  obtain ⟨kk,hkk,hg,rfl,hw,A⟩:=hrel
  obtain rfl:w=wr:=hw
  by_cases hlt:kk < n
  ·have hltz:(kk:Int) < (n:Int):=by omega
   obtain ⟨g,rfl,hcl⟩:=hc kk (by omega)
   have hcall:=pReserved_any ls[kk] w
   obtain ⟨y,hy⟩:∃ y,ls[kk]=y:=⟨_,rfl⟩
   rw [hy] at hcl hcall
   cases hq:rsvB (bl y) with
   | true=>
    rw [hq] at hcall
    go_wp2_with (go_at_call 90;refine hcall.mono ?_;rintro e w' ⟨rfl,rfl⟩)
    go_ret
    refine ⟨_,rfl,?_,rfl⟩
    rw [List.any_eq_true.2 ⟨y,hy ▸ List.getElem_mem _,hq⟩]
    simp
   | false=>
    rw [hq] at hcall
    go_wp2_with (go_at_call 90;refine hcall.mono ?_;rintro e w' ⟨rfl,rfl⟩)
    go_roundg (n - (kk+1))
    case measure=>omega
    case rel=>
     refine ⟨kk+1,by omega,by omega,by go_num,rfl,(show Hid _ from fun j hj hj'=>?_)⟩
     by_cases e:j=kk
     ·subst e;rw [hy];exact hq
     ·exact A j hj (by omega)
  ·have hltz:¬ (kk:Int) < (n:Int):=by omega
   go_wp2
   go_ret
   refine ⟨_,rfl,?_,rfl⟩
   have:ls.any (fun s=>rsvB (bl s))=false:=by
    rw [List.any_eq_false]
    intro x hx
    obtain ⟨j,hj,rfl⟩:=List.mem_iff_getElem.1 hx
    rw [A j hj (by omega)];simp
   rw [this];decide
set_option maxRecDepth 100000 in
set_option maxHeartbeats 4000000 in
theorem contains_any {w:World} {v:Value} {ls:List ByteArray} (h:RdS w v ls) :
  Calls Tryz.prog 224 #[v,.func (.func 90) #[] #[]] w fun e w'=>e=.returned (.bool (ls.any (fun s=>rsvB (bl s))))∧w'=w:=by
 have h1:=idx_any h
 obtain ⟨a,cap,rfl,hm,hc⟩:=h.at'
 clear h hc hm
 generalize ls.any (fun s=>rsvB (bl s))=z at h1 ⊢
 go_enter Tryz.func224,Tryz.ntmps224
 go_wp2_with (go_at_call 249;refine h1.mono ?_;rintro e w' ⟨i,rfl,hi,rfl⟩;have hi':Hid (decide (0≤i)=z):=hi;clear hi)
 go_ret
 have hi2:decide (0≤i)=z:=hi'
 simp [← hi2]
end Go.Proofs.YtfjdceknbdmhpaaGreatDoor
/- Trees in memory. -/
namespace Go.Proofs.YtfjdceknbdmhpaaGreatDoor
open Go.RowKit
set_option linter.unusedSimpArgs false
set_option linter.unusedVariables false
theorem add_plain (b off i:Nat):(⟨b,off,none⟩:Addr).add i=⟨b,off+i,none⟩:=by unfold Addr.add;split <;> simp_all
/-- The slice v reads as the list l, four cells an element. -/
def RdP {α:Type} (ok:Nat→Prop) (w:World) (R:α→Value→Prop) (l:List α) (v:Value):Prop:=
 ∃ a cap,v=.slice a l.length cap∧l.length≤cap∧cap≤maxLen∧(a=none→l=[])∧
  ∀ x,a=some x→∀ (i:Nat) (h:i < l.length),ok x.block∧∃ c0 c1 c2 c3,R l[i] (.agg #[c0,c1,c2,c3])∧w.cell? (x.add (i*4))=some c0∧w.cell? (x.add (i*4+1))=some c1∧w.cell? (x.add (i*4+2))=some c2∧w.cell? (x.add (i*4+3))=some c3
/-- The value v reads as the tree t. -/
def RdT (ok:Nat→Prop) (w:World):(d:Nat)→T d→Value→Prop
 | 0,t,_=>Empty.elim t
 | d+1,t,v=>∃ sl,v=.agg #[.int .i64 (show Int × Int × ByteArray × List (T d) from t).1,.int .i64 (show Int × Int × ByteArray × List (T d) from t).2.1,.string (show Int × Int × ByteArray × List (T d) from t).2.2.1,sl]∧RdP ok w (RdT ok w d) (show Int × Int × ByteArray × List (T d) from t).2.2.2 sl
theorem keep_cell {w w':World} {p:Addr} {u:Value} (h:w'.heap[p.block]?=w.heap[p.block]?) (hc:w.cell? p=some u):w'.cell? p=some u:=by
 unfold World.cell? at hc ⊢
 rw [h]
 exact hc
theorem add_block (x:Addr) (i:Nat):(x.add i).block=x.block:=by unfold Addr.add;split <;> rfl
/-- What is read stays where its blocks stay. -/
theorem RdP.keep {α:Type} {ok ok':Nat→Prop} {w w':World} {R R':α→Value→Prop} {l:List α} {v:Value} (h:RdP ok w R l v) (hR:∀ x∈l,∀ u,R x u→R' x u) (hk:∀ b,ok b→b < w.heap.size→ok' b∧w'.heap[b]?=w.heap[b]?):RdP ok' w' R' l v:=by
 obtain ⟨a,cap,rfl,hc,hm,hn,hcell⟩:=h
 refine ⟨a,cap,rfl,hc,hm,hn,fun x hx i hi=>?_⟩
 obtain ⟨ho,c0,c1,c2,c3,h0,h1,h2,h3,h4⟩:=hcell x hx i hi
 have hb:x.block < w.heap.size:=by
  have:=World.block_lt_of_cell? w _ h1
  rw [add_block] at this
  exact this
 obtain ⟨ho',hs⟩:=hk _ ho hb
 have kk:∀ j u,w.cell? (x.add j)=some u→w'.cell? (x.add j)=some u:=fun j u hu=>keep_cell (by rw [add_block];exact hs) hu
 exact ⟨ho',c0,c1,c2,c3,hR _ (List.getElem_mem hi) _ h0,kk _ _ h1,kk _ _ h2,kk _ _ h3,kk _ _ h4⟩
theorem RdT.keep {ok ok':Nat→Prop} {w w':World} (hk:∀ b,ok b→b < w.heap.size→ok' b∧w'.heap[b]?=w.heap[b]?):∀ {d:Nat} {t:T d} {v:Value},RdT ok w d t v→RdT ok' w' d t v
 | 0,t,v,h=>Empty.elim t
 | d+1,t,v,h=>by
  obtain ⟨sl,hv,hp⟩:=h
  exact ⟨sl,hv,hp.keep (fun x _ u hu=>RdT.keep hk hu) hk⟩
theorem RdT.below {ok:Nat→Prop} {w w':World} {B:Nat} (hb:Below B w w') (hB:w.heap.size≤B) {d:Nat} {t:T d} {v:Value} (h:RdT ok w d t v):RdT ok w' d t v:=
 RdT.keep (fun b ho hl=>⟨ho,hb.block b (by omega)⟩) h
theorem RdP.below {ok:Nat→Prop} {w w':World} {d:Nat} {l:List (T d)} {v:Value} {B:Nat} (h:RdP ok w (RdT ok w d) l v) (hb:Below B w w') (hB:w.heap.size≤B):RdP ok w' (RdT ok w' d) l v:=
 h.keep (fun x _ u hu=>RdT.below hb hB hu) (fun b ho hl=>⟨ho,hb.block b (by omega)⟩)
/-- Where its elements lie. -/
theorem RdP.form {α:Type} {ok:Nat→Prop} {w:World} {R:α→Value→Prop} {l:List α} {v:Value} (h:RdP ok w R l v):∃ a cap,v=.slice a l.length cap∧l.length≤cap∧cap≤9223372036854775807∧
  ∀ (i:Nat) (hi:i < l.length),∃ b off c0 c1 c2 c3,a=some ⟨b,off,none⟩∧b < w.heap.size∧R l[i] (.agg #[c0,c1,c2,c3])∧w.cell? ⟨b,off+i*4,none⟩=some c0∧w.cell? ⟨b,off+i*4+1,none⟩=some c1∧w.cell? ⟨b,off+i*4+2,none⟩=some c2∧w.cell? ⟨b,off+i*4+3,none⟩=some c3:=by
 obtain ⟨a,cap,rfl,hc,hm,hn,hcell⟩:=h
 refine ⟨a,cap,rfl,hc,by unfold maxLen at hm;omega,fun i hi=>?_⟩
 cases a with
 | none=>have:=hn rfl;subst this;simp at hi
 | some x=>
  obtain ⟨b,off,spot⟩:=x
  obtain ⟨_,c0,c1,c2,c3,h0,h1,h2,h3,h4⟩:=hcell _ rfl i hi
  obtain ⟨_,_,_,_,_,_,z1,_⟩:=hcell _ rfl 0 (by omega)
  have hspot:spot=none:=by simpa [Addr.add] using World.cell?_spot z1
  subst hspot
  rw [add_plain] at h1 h2 h3 h4
  exact ⟨b,off,c0,c1,c2,c3,rfl,World.block_lt_of_cell? w _ h1,h0,h1,h2,h3,h4⟩
/-- A block of four cells, read alone. -/
def At4 (w:World) (X:Nat) (a b c e:Value):Prop:=w.cell? ⟨X,0,none⟩=some a∧w.cell? ⟨X,1,none⟩=some b∧w.cell? ⟨X,2,none⟩=some c∧w.cell? ⟨X,3,none⟩=some e
theorem At4.keepB {w w':World} {X B:Nat} {a b c e:Value} (h:At4 w X a b c e) (hb:Below B w w') (hX:X < B):At4 w' X a b c e:=by
 refine ⟨?_,?_,?_,?_⟩
 ·rw [hb.cell (p:=⟨X,0,none⟩) hX];exact h.1
 ·rw [hb.cell (p:=⟨X,1,none⟩) hX];exact h.2.1
 ·rw [hb.cell (p:=⟨X,2,none⟩) hX];exact h.2.2.1
 ·rw [hb.cell (p:=⟨X,3,none⟩) hX];exact h.2.2.2
theorem At4.new (w:World) (a b c e:Value) (T:TypeId):At4 (w.alloc (.cells #[a,b,c,e] T)) w.heap.size a b c e:=⟨by simp,by simp,by simp,by simp⟩
/-- The expression of a tree. -/
def exV:(d:Nat)→T d→Value:=fold (fun k n s l=>
 if k=1 then .iface 191 (.agg #[.int .i64 n]) else if k=2 then .iface 193 (.agg #[.string s]) else if k=3 then .iface 195 (.agg #[l.getD 0 .nilIface]) else if k=4 then .iface 196 (.agg #[l.getD 0 .nilIface])
 else if k=5 then .iface 198 (.agg #[.string s,l.getD 0 .nilIface,l.getD 1 .nilIface]) else .nilIface)
def exP {d:Nat} (ps:List (T d)) (i:Nat):Value:=(ps.map (exV d)).getD i .nilIface
theorem exV_mk {d:Nat} (k n:Int) (s:ByteArray) (ps:List (T d)):exV (d+1) (mkT k n s ps) =
  if k=1 then .iface 191 (.agg #[.int .i64 n]) else if k=2 then .iface 193 (.agg #[.string s]) else if k=3 then .iface 195 (.agg #[exP ps 0]) else if k=4 then .iface 196 (.agg #[exP ps 0])
  else if k=5 then .iface 198 (.agg #[.string s,exP ps 0,exP ps 1]) else .nilIface:=rfl
theorem exV_form:∀ (d:Nat) (t:T d),exV d t=.nilIface∨∃ u x,exV d t=.iface u x
 | 0,t=>Empty.elim t
 | d+1,t=>by
  obtain ⟨k,n,s,ps,rfl⟩:=T.open t
  rw [exV_mk]
  repeat' split
  all_goals first | exact .inl rfl | exact .inr ⟨_,_,rfl⟩
end Go.Proofs.YtfjdceknbdmhpaaGreatDoor
/- What an expression is by itself: topOf. -/
namespace Go.Proofs.YtfjdceknbdmhpaaGreatDoor
open Go.RowKit Go.Lib
set_option linter.unusedSimpArgs false
set_option linter.unusedVariables false
attribute [local go_sem ↓] Go.wp_at_zero Go.wp_at_succ
/-- The slice v holds the values l, from a block's first cell on. -/
def Kids (w:World) (v:Value) (l:List Value):Prop:=
 (v=.slice none 0 0∧l=[])∨∃ g,v=.slice (some ⟨g,0,none⟩) l.length l.length∧∀ (i:Nat) (h:i < l.length),w.cell? ⟨g,i,none⟩=some l[i]
abbrev topV (k n:Int) (s:ByteArray) (v:Value):Value:=.agg #[.int .i64 k,.int .i64 n,.string s,v]
def Ifc (x:Value):Prop:=x=.nilIface∨∃ u y,x=.iface u y
theorem as_lit_lit (v:Value) (w:World):(Instr.typeAssert (.iface 191 v) 130 191 true).run Tryz.prog w=.ok (.tuple #[v,.bool true]) w:=by kernel_rfl
theorem as_ref_lit (v:Value) (w:World):(Instr.typeAssert (.iface 193 v) 130 191 true).run Tryz.prog w=.ok (.tuple #[.agg #[.int .i64 0],.bool false]) w:=by kernel_rfl
theorem as_ref_ref (v:Value) (w:World):(Instr.typeAssert (.iface 193 v) 130 193 true).run Tryz.prog w=.ok (.tuple #[v,.bool true]) w:=by kernel_rfl
theorem as_not_lit (v:Value) (w:World):(Instr.typeAssert (.iface 195 v) 130 191 true).run Tryz.prog w=.ok (.tuple #[.agg #[.int .i64 0],.bool false]) w:=by kernel_rfl
theorem as_not_ref (v:Value) (w:World):(Instr.typeAssert (.iface 195 v) 130 193 true).run Tryz.prog w=.ok (.tuple #[.agg #[.string ⟨#[]⟩],.bool false]) w:=by kernel_rfl
theorem as_not_not (v:Value) (w:World):(Instr.typeAssert (.iface 195 v) 130 195 true).run Tryz.prog w=.ok (.tuple #[v,.bool true]) w:=by kernel_rfl
theorem as_neg_lit (v:Value) (w:World):(Instr.typeAssert (.iface 196 v) 130 191 true).run Tryz.prog w=.ok (.tuple #[.agg #[.int .i64 0],.bool false]) w:=by kernel_rfl
theorem as_neg_ref (v:Value) (w:World):(Instr.typeAssert (.iface 196 v) 130 193 true).run Tryz.prog w=.ok (.tuple #[.agg #[.string ⟨#[]⟩],.bool false]) w:=by kernel_rfl
theorem as_neg_not (v:Value) (w:World):(Instr.typeAssert (.iface 196 v) 130 195 true).run Tryz.prog w=.ok (.tuple #[.agg #[.nilIface],.bool false]) w:=by kernel_rfl
theorem as_neg_neg (v:Value) (w:World):(Instr.typeAssert (.iface 196 v) 130 196 true).run Tryz.prog w=.ok (.tuple #[v,.bool true]) w:=by kernel_rfl
theorem as_bin_lit (v:Value) (w:World):(Instr.typeAssert (.iface 198 v) 130 191 true).run Tryz.prog w=.ok (.tuple #[.agg #[.int .i64 0],.bool false]) w:=by kernel_rfl
theorem as_bin_ref (v:Value) (w:World):(Instr.typeAssert (.iface 198 v) 130 193 true).run Tryz.prog w=.ok (.tuple #[.agg #[.string ⟨#[]⟩],.bool false]) w:=by kernel_rfl
theorem as_bin_not (v:Value) (w:World):(Instr.typeAssert (.iface 198 v) 130 195 true).run Tryz.prog w=.ok (.tuple #[.agg #[.nilIface],.bool false]) w:=by kernel_rfl
theorem as_bin_neg (v:Value) (w:World):(Instr.typeAssert (.iface 198 v) 130 196 true).run Tryz.prog w=.ok (.tuple #[.agg #[.nilIface],.bool false]) w:=by kernel_rfl
theorem as_bin_bin (v:Value) (w:World):(Instr.typeAssert (.iface 198 v) 130 198 true).run Tryz.prog w=.ok (.tuple #[v,.bool true]) w:=by kernel_rfl
attribute [local go_sem] as_lit_lit as_ref_lit as_ref_ref as_not_lit as_not_ref as_not_not as_neg_lit as_neg_ref as_neg_not as_neg_neg as_bin_lit as_bin_ref as_bin_not as_bin_neg as_bin_bin
theorem cell1_new (w:World) (a:Value) (t:TypeId) (n:Nat) (hn:n=w.heap.size):(w.alloc (.cells #[a] t)).cell? ⟨n,0,none⟩=some a:=by subst hn;simp
theorem cell2_new (w:World) (a b:Value) (t:TypeId) (n:Nat) (hn:n=w.heap.size):(w.alloc (.cells #[a,b] t)).cell? ⟨n,0,none⟩=some a∧(w.alloc (.cells #[a,b] t)).cell? ⟨n,1,none⟩=some b:=by subst hn;simp
theorem kids0 (w:World):Kids w (.slice none 0 0) []:=.inl ⟨rfl,rfl⟩
theorem kids1 {w:World} {g:Nat} {x:Value} (h:w.cell? ⟨g,0,none⟩=some x):Kids w (.slice (some ⟨g,0,none⟩) 1 1) [x]:=.inr ⟨g,rfl,fun i hi=>by
 match i,hi with
 | 0,_=>exact h⟩
theorem kids2 {w:World} {g:Nat} {x y:Value} (h:w.cell? ⟨g,0,none⟩=some x) (h':w.cell? ⟨g,1,none⟩=some y):Kids w (.slice (some ⟨g,0,none⟩) 2 2) [x,y]:=.inr ⟨g,rfl,fun i hi=>by
 match i,hi with
 | 0,_=>exact h
 | 1,_=>exact h'⟩
theorem Kids.below {w w':World} {v:Value} {l:List Value} {B:Nat} (h:Kids w v l) (hb:Below B w w') (hB:w.heap.size≤B):Kids w' v l:=by
 rcases h with h | ⟨g,hv,hc⟩
 ·exact .inl h
 ·exact .inr ⟨g,hv,fun i hi=>by rw [hb.cell (p:=⟨g,i,none⟩) (Nat.lt_of_lt_of_le (World.block_lt_of_cell? w _ (hc i hi)) hB)];exact hc i hi⟩
theorem top_nil (w:World):Calls Tryz.prog 192 #[.nilIface] w fun e w'=>∃ sl,e=.returned (topV 0 0 ⟨#[]⟩ sl)∧Kids w' sl []∧Below w.heap.size w w':=by
 go_enter Tryz.func192,Tryz.ntmps192
 go_wp2
 refine bodyPost_ret (v:=topV 0 0 ⟨#[]⟩ (.slice none 0 0)) (by simp [results,Tryz.results192,go_sem]) rfl ⟨_,rfl,kids0 _,?_⟩
 ·(repeat (refine Below.alloc ?_ (by simp <;> omega) _));exact Below.refl _ _
theorem top_lit (n:Int) (w:World):Calls Tryz.prog 192 #[.iface 191 (.agg #[.int .i64 n])] w fun e w'=>∃ sl,e=.returned (topV 1 n ⟨#[]⟩ sl)∧Kids w' sl []∧Below w.heap.size w w':=by
 go_enter Tryz.func192,Tryz.ntmps192
 go_wp2
 refine bodyPost_ret (v:=topV 1 n ⟨#[]⟩ (.slice none 0 0)) (by simp [results,Tryz.results192,go_sem]) rfl ⟨_,rfl,kids0 _,?_⟩
 ·(repeat (refine Below.alloc ?_ (by simp <;> omega) _));exact Below.refl _ _
theorem top_ref (s:ByteArray) (w:World):Calls Tryz.prog 192 #[.iface 193 (.agg #[.string s])] w fun e w'=>∃ sl,e=.returned (topV 2 0 s sl)∧Kids w' sl []∧Below w.heap.size w w':=by
 go_enter Tryz.func192,Tryz.ntmps192
 go_wp2
 refine bodyPost_ret (v:=topV 2 0 s (.slice none 0 0)) (by simp [results,Tryz.results192,go_sem]) rfl ⟨_,rfl,kids0 _,?_⟩
 ·(repeat (refine Below.alloc ?_ (by simp <;> omega) _));exact Below.refl _ _
theorem top_not (x:Value) (hx:Ifc x) (w:World):Calls Tryz.prog 192 #[.iface 195 (.agg #[x])] w fun e w'=>∃ sl,e=.returned (topV 3 0 ⟨#[]⟩ sl)∧Kids w' sl [x]∧Below w.heap.size w w':=by
 rcases hx with rfl | ⟨u,y,rfl⟩
 ·go_enter Tryz.func192,Tryz.ntmps192
  go_wp2
  refine bodyPost_ret (v:=topV 3 0 ⟨#[]⟩ (.slice (some ⟨w.heap.size+4,0,none⟩) 1 1)) (by simp [results,Tryz.results192,go_sem]) rfl ⟨_,rfl,kids1 ?_,?_⟩
  ·exact cell1_new _ _ _ _ (by simp)
  ·(repeat (refine Below.alloc ?_ (by simp <;> omega) _));exact Below.refl _ _
 ·go_enter Tryz.func192,Tryz.ntmps192
  go_wp2
  refine bodyPost_ret (v:=topV 3 0 ⟨#[]⟩ (.slice (some ⟨w.heap.size+4,0,none⟩) 1 1)) (by simp [results,Tryz.results192,go_sem]) rfl ⟨_,rfl,kids1 ?_,?_⟩
  ·exact cell1_new _ _ _ _ (by simp)
  ·(repeat (refine Below.alloc ?_ (by simp <;> omega) _));exact Below.refl _ _
theorem top_neg (x:Value) (hx:Ifc x) (w:World):Calls Tryz.prog 192 #[.iface 196 (.agg #[x])] w fun e w'=>∃ sl,e=.returned (topV 4 0 ⟨#[]⟩ sl)∧Kids w' sl [x]∧Below w.heap.size w w':=by
 rcases hx with rfl | ⟨u,y,rfl⟩
 ·go_enter Tryz.func192,Tryz.ntmps192
  go_wp2
  refine bodyPost_ret (v:=topV 4 0 ⟨#[]⟩ (.slice (some ⟨w.heap.size+5,0,none⟩) 1 1)) (by simp [results,Tryz.results192,go_sem]) rfl ⟨_,rfl,kids1 ?_,?_⟩
  ·exact cell1_new _ _ _ _ (by simp)
  ·(repeat (refine Below.alloc ?_ (by simp <;> omega) _));exact Below.refl _ _
 ·go_enter Tryz.func192,Tryz.ntmps192
  go_wp2
  refine bodyPost_ret (v:=topV 4 0 ⟨#[]⟩ (.slice (some ⟨w.heap.size+5,0,none⟩) 1 1)) (by simp [results,Tryz.results192,go_sem]) rfl ⟨_,rfl,kids1 ?_,?_⟩
  ·exact cell1_new _ _ _ _ (by simp)
  ·(repeat (refine Below.alloc ?_ (by simp <;> omega) _));exact Below.refl _ _
theorem top_bin (s:ByteArray) (x x':Value) (hx:Ifc x) (hx':Ifc x') (w:World):Calls Tryz.prog 192 #[.iface 198 (.agg #[.string s,x,x'])] w fun e w'=>∃ sl,e=.returned (topV 5 0 s sl)∧Kids w' sl [x,x']∧Below w.heap.size w w':=by
 rcases hx with rfl | ⟨u,y,rfl⟩ <;> rcases hx' with rfl | ⟨u',y',rfl⟩
 ·go_enter Tryz.func192,Tryz.ntmps192
  go_wp2
  refine bodyPost_ret (v:=topV 5 0 s (.slice (some ⟨w.heap.size+6,0,none⟩) 2 2)) (by simp [results,Tryz.results192,go_sem]) rfl ⟨_,rfl,kids2 ?_ ?_,?_⟩
  ·exact (cell2_new _ _ _ _ _ (by simp)).1
  ·exact (cell2_new _ _ _ _ _ (by simp)).2
  ·(repeat (refine Below.alloc ?_ (by simp <;> omega) _));exact Below.refl _ _
 ·go_enter Tryz.func192,Tryz.ntmps192
  go_wp2
  refine bodyPost_ret (v:=topV 5 0 s (.slice (some ⟨w.heap.size+6,0,none⟩) 2 2)) (by simp [results,Tryz.results192,go_sem]) rfl ⟨_,rfl,kids2 ?_ ?_,?_⟩
  ·exact (cell2_new _ _ _ _ _ (by simp)).1
  ·exact (cell2_new _ _ _ _ _ (by simp)).2
  ·(repeat (refine Below.alloc ?_ (by simp <;> omega) _));exact Below.refl _ _
 ·go_enter Tryz.func192,Tryz.ntmps192
  go_wp2
  refine bodyPost_ret (v:=topV 5 0 s (.slice (some ⟨w.heap.size+6,0,none⟩) 2 2)) (by simp [results,Tryz.results192,go_sem]) rfl ⟨_,rfl,kids2 ?_ ?_,?_⟩
  ·exact (cell2_new _ _ _ _ _ (by simp)).1
  ·exact (cell2_new _ _ _ _ _ (by simp)).2
  ·(repeat (refine Below.alloc ?_ (by simp <;> omega) _));exact Below.refl _ _
 ·go_enter Tryz.func192,Tryz.ntmps192
  go_wp2
  refine bodyPost_ret (v:=topV 5 0 s (.slice (some ⟨w.heap.size+6,0,none⟩) 2 2)) (by simp [results,Tryz.results192,go_sem]) rfl ⟨_,rfl,kids2 ?_ ?_,?_⟩
  ·exact (cell2_new _ _ _ _ _ (by simp)).1
  ·exact (cell2_new _ _ _ _ _ (by simp)).2
  ·(repeat (refine Below.alloc ?_ (by simp <;> omega) _));exact Below.refl _ _
theorem ifc_ex {d:Nat} (t:T d):Ifc (exV d t):=exV_form d t
/-- What an expression is by itself. -/
theorem top_any {d:Nat} {t:T (d+1)} (hc:Cl (d+1) t):∃ k n s ps,t=mkT k n s ps∧∀ w,Calls Tryz.prog 192 #[exV (d+1) t] w fun e w'=>∃ sl,e=.returned (topV k n s sl)∧Kids w' sl (ps.map (exV d))∧Below w.heap.size w w':=by
 rcases hc.cases with ⟨n,rfl⟩ | ⟨s,rfl⟩ | ⟨k,p,hk,rfl,hp⟩ | ⟨s,p,q,rfl,hp,hq⟩ | rfl
 ·exact ⟨1,n,_,[],rfl,fun w=>top_lit n w⟩
 ·exact ⟨2,0,s,[],rfl,fun w=>top_ref s w⟩
 ·rcases hk with rfl | rfl
  ·exact ⟨3,0,_,[p],rfl,fun w=>top_not (exV d p) (ifc_ex p) w⟩
  ·exact ⟨4,0,_,[p],rfl,fun w=>top_neg (exV d p) (ifc_ex p) w⟩
 ·exact ⟨5,0,s,[p,q],rfl,fun w=>top_bin s (exV d p) (exV d q) (ifc_ex p) (ifc_ex q) w⟩
 ·exact ⟨0,0,_,[],rfl,fun w=>top_nil w⟩
end Go.Proofs.YtfjdceknbdmhpaaGreatDoor
/- Rows of expressions that are left to be asked: in memory, popped, grown. -/
namespace Go.Proofs.YtfjdceknbdmhpaaGreatDoor
open Go.RowKit Go.Lib
set_option linter.unusedSimpArgs false
set_option linter.unusedVariables false
theorem fld_i (a b c e:Value) (w:World):(Instr.field 244 (.agg #[a,b,c,e]) 3).run Tryz.prog w=.ok e w:=by kernel_rfl
abbrev Sg:=(d:Nat) × T d
def exS (x:Sg):Value:=exV x.1 x.2
def cntS (x:Sg):Nat:=cnt x.1 x.2
def ClS (x:Sg):Prop:=Cl x.1 x.2
/-- The slice v, of the call's own from block base on, holds the expressions st. -/
def Stk (w:World) (base:Nat) (v:Value) (st:List Sg):Prop:=w.ownsRow base 130 1 v st.length (st.map exS)
theorem own_on {w w':World} {base e size:Nat} {v:Value} {n:Nat} {xs:List Value} {B:Nat} (h:w.ownsRow base e size v n xs) (hb:Below B w w') (hB:w.heap.size≤B):w'.ownsRow base e size v n xs:=by
 refine ⟨h.1,?_⟩
 rcases h.2 with hn | ⟨g,cap,cur,rfl,hbg,hg,rest⟩
 ·exact .inl hn
 ·exact .inr ⟨g,cap,cur,rfl,hbg,by rw [hb.block g (by have:=(Array.getElem?_eq_some_iff.1 hg).1;omega)];exact hg,rest⟩
theorem Stk.on {w w':World} {base:Nat} {v:Value} {st:List Sg} {B:Nat} (h:Stk w base v st) (hb:Below B w w') (hB:w.heap.size≤B):Stk w' base v st:=own_on h hb hB
theorem exS_form (x:Sg):exS x=.nilIface∨∃ u y,exS x=.iface u y:=exV_form x.1 x.2
/-- The last one taken off. -/
theorem Stk.pop {w:World} {base:Nat} {v:Value} {st:List Sg} {x:Sg} (h:Stk w base v (st++[x])):∃ g cap,v=.slice (some ⟨g,0,none⟩) (st.length+1) cap∧st.length+1≤cap∧cap≤maxLen∧base≤g∧g < w.heap.size∧
  w.cell? ⟨g,st.length,none⟩=some (exS x)∧Stk w base (.slice (some ⟨g,0,none⟩) st.length cap) st:=by
 unfold Stk at h
 rw [List.length_append,List.length_singleton,List.map_append,List.map_singleton] at h
 have hc:=fun g=>World.ownsRow.cells h (g:=g)
 rcases h.2 with ⟨_,h2⟩ | ⟨g,cap,cur,rfl,hb,hg,hnc,hcm,hcs,htake⟩
 ·omega
 ·have h1:=hc g rfl st.length (exS x) (by simp)
  rw [show (⟨g,0,none⟩:Addr).add st.length=⟨g,st.length,none⟩ by unfold Addr.add;split <;> simp_all] at h1
  refine ⟨g,cap,rfl,hnc,hcm,hb,(Array.getElem?_eq_some_iff.1 hg).1,h1,by simp,.inr ⟨g,cap,cur,rfl,hb,hg,by omega,hcm,hcs,?_⟩⟩
  have h3:=congrArg (List.take st.length) htake
  rw [List.take_take] at h3
  simp only [Nat.mul_one] at h3 ⊢
  rw [Nat.min_eq_left (by omega),List.take_left' (by simp)] at h3
  exact h3
theorem Stk.nil {w:World} {base:Nat} {v:Value} (h:Stk w base v []):∃ a cap,v=.slice a 0 cap:=by
 rcases h.2 with ⟨h1,_⟩ | ⟨g,cap,cur,rfl,_⟩
 ·exact ⟨_,_,h1⟩
 ·exact ⟨_,_,rfl⟩
theorem Tryz.infoE:(Tryz.prog.info? 130).map (fun i=>(i.zero,i.size,i.bytes))=some (some .nilIface,1,16):=by kernel_rfl
theorem Kids.form {w:World} {sl:Value} {l:List Value} (h:Kids w sl l):∃ a,sl=.slice a l.length l.length:=by
 rcases h with ⟨rfl,rfl⟩ | ⟨g,rfl,_⟩
 ·exact ⟨_,rfl⟩
 ·exact ⟨_,rfl⟩
theorem Kids.at {w:World} {a:Option Addr} {m c j:Nat} {l:List Value} (h:Kids w (.slice a m c) l) (hj:j < l.length):∃ g,a=some ⟨g,0,none⟩∧w.cell? ⟨g,j,none⟩=some l[j]:=by
 rcases h with ⟨h1,rfl⟩ | ⟨g,h1,hc⟩
 ·simp at hj
 ·simp only [Value.slice.injEq] at h1
  exact ⟨g,h1.1,hc j hj⟩
theorem Kids.src {w:World} {sl:Value} {l:List Value} (h:Kids w sl l) (hf:∀ v∈l,Ifc v):Src Tryz.prog 1 242 sl l.length l w:=by
 rcases h with ⟨rfl,rfl⟩ | ⟨g,rfl,hc⟩
 ·exact Src.ofNil w Tryz.underlying242 0
 ·refine Src.ofSlice w Tryz.underlying242 _ _ _ l (by simp) (fun j u hu=>?_) (fun u hu=>?_)
  ·have hj:j < l.length:=(List.getElem?_eq_some_iff.1 hu).1
   rw [List.getElem?_eq_getElem hj] at hu
   rw [show (⟨g,0,none⟩:Addr).add j=⟨g,j,none⟩ by unfold Addr.add;split <;> simp_all,hc j hj,hu]
  ·rcases hf u hu with rfl | ⟨t,y,rfl⟩ <;> rfl
/-- The parts of a tree, each with its depth. -/
def kidS {d:Nat} (ps:List (T d)):List Sg:=ps.map (fun p=>⟨d,p⟩)
theorem kidS_ex {d:Nat} (ps:List (T d)):(kidS ps).map exS=ps.map (exV d):=by unfold kidS;rw [List.map_map];rfl
theorem kidS_cnt {d:Nat} (ps:List (T d)):((kidS ps).map cntS).sum=(ps.map (cnt d)).sum:=by unfold kidS;rw [List.map_map];rfl
theorem kidS_len {d:Nat} (ps:List (T d)):(kidS ps).length=ps.length:=by simp [kidS]
theorem Stk.push {w:World} {base:Nat} {v:Value} {st:List Sg} {d:Nat} {ps:List (T d)} {n:Nat} (hn:n=st.length+ps.length) (h:w.ownsRow base 130 1 v n (st.map exS++ps.map (exV d))):Stk w base v (st++kidS ps):=by
 unfold Stk
 rw [List.length_append,List.map_append,kidS_ex,kidS_len,← hn]
 exact h
theorem ifc_map {d:Nat} (ps:List (T d)):∀ v∈ps.map (exV d),Ifc v:=fun v hv=>by
 obtain ⟨p,_,rfl⟩:=List.mem_map.1 hv
 exact ifc_ex p
/-- What is asked of a tree's parts. -/
theorem Cl.parts {d:Nat} {k n:Int} {s:ByteArray} {ps:List (T d)} (h:Cl (d+1) (mkT k n s ps)):ps.length≤2∧∀ p∈ps,Cl d p:=by
 rcases h with ⟨_,_,h3⟩ | ⟨_,_,h3⟩ | ⟨_,_,_,p,h4,h5⟩ | ⟨_,_,p,q,h3,h4,h5⟩ | ⟨_,_,_,h4⟩
 ·simp only at h3;subst h3;simp
 ·simp only at h3;subst h3;simp
 ·simp only at h4;subst h4;simpa using h5
 ·simp only at h3;subst h3;simp [h4,h5]
 ·simp only at h4;subst h4;simp
theorem last_of {α:Type} {l:List α} (h:l≠[]):∃ a x,l=a++[x]:=⟨l.dropLast,l.getLast h,(List.dropLast_concat_getLast h).symm⟩
end Go.Proofs.YtfjdceknbdmhpaaGreatDoor
/- Blocks of four cells; rows that stay. -/
namespace Go.Proofs.YtfjdceknbdmhpaaGreatDoor
open Go.RowKit
set_option linter.unusedSimpArgs false
set_option linter.unusedVariables false
/-- A block of four cells that may be written. -/
structure B4 (w:World) (X:Nat) (a b c e:Value):Prop where
 c0:w.cell? ⟨X,0,none⟩=some a
 c1:w.cell? ⟨X,1,none⟩=some b
 c2:w.cell? ⟨X,2,none⟩=some c
 c3:w.cell? ⟨X,3,none⟩=some e
 f0:w.frozen? ⟨X,0,none⟩=false
 f1:w.frozen? ⟨X,1,none⟩=false
 f2:w.frozen? ⟨X,2,none⟩=false
 f3:w.frozen? ⟨X,3,none⟩=false
theorem B4.new (w:World) (a b c e:Value) (t:TypeId) (n:Nat) (hn:n=w.heap.size):B4 (w.alloc (.cells #[a,b,c,e] t)) n a b c e:=by
 subst hn
 exact ⟨by simp,by simp,by simp,by simp,by simp,by simp,by simp,by simp⟩
theorem B4.keepB {w w':World} {X B:Nat} {a b c e:Value} (h:B4 w X a b c e) (hb:Below B w w') (hX:X < B):B4 w' X a b c e:=by
 have hc:∀ i,w'.cell? ⟨X,i,none⟩=w.cell? ⟨X,i,none⟩:=fun i=>hb.cell (p:=⟨X,i,none⟩) hX
 have hf:∀ i,w'.frozen? ⟨X,i,none⟩=w.frozen? ⟨X,i,none⟩:=fun i=>hb.frozen (p:=⟨X,i,none⟩) hX
 exact ⟨by rw [hc];exact h.c0,by rw [hc];exact h.c1,by rw [hc];exact h.c2,by rw [hc];exact h.c3,by rw [hf];exact h.f0,by rw [hf];exact h.f1,by rw [hf];exact h.f2,by rw [hf];exact h.f3⟩
theorem B4.lt {w:World} {X:Nat} {a b c e:Value} (h:B4 w X a b c e):X < w.heap.size:=World.block_lt_of_cell? w _ h.c0
theorem B4.keep {w w':World} {X:Nat} {a b c e:Value} (h:B4 w X a b c e) (hb:Below w.heap.size w w'):B4 w' X a b c e:=h.keepB hb h.lt
theorem cell_same4 {w:World} {p:Addr} {u v:Value} (h:w.cell? p=some u):(w.setCell p v).cell? p=some v:=World.cell?_setCell_same' w _ v (by rw [h];rfl)
theorem cell_far4 {w:World} {X i Y j:Nat} {u v:Value} (hne:¬ (X=Y∧i=j)) (h:w.cell? ⟨Y,j,none⟩=some u):(w.setCell ⟨X,i,none⟩ v).cell? ⟨Y,j,none⟩=some u:=
 (World.cell?_setCell_other w ⟨X,i,none⟩ ⟨Y,j,none⟩ v (by simp;intro h1 h2;exact hne ⟨h1,h2⟩)).trans h
theorem B4.far {w:World} {X Y i:Nat} {a b c e:Value} (h:B4 w Y a b c e) (hne:X≠Y) (v:Value):B4 (w.setCell ⟨X,i,none⟩ v) Y a b c e:=
 ⟨cell_far4 (by omega) h.c0,cell_far4 (by omega) h.c1,cell_far4 (by omega) h.c2,cell_far4 (by omega) h.c3,(World.frozen?_setCell _ _ _ _).trans h.f0,(World.frozen?_setCell _ _ _ _).trans h.f1,(World.frozen?_setCell _ _ _ _).trans h.f2,(World.frozen?_setCell _ _ _ _).trans h.f3⟩
theorem B4.set0 {w:World} {X:Nat} {a b c e:Value} (h:B4 w X a b c e) (v:Value):B4 (w.setCell ⟨X,0,none⟩ v) X v b c e:=
 ⟨cell_same4 h.c0,cell_far4 (by omega) h.c1,cell_far4 (by omega) h.c2,cell_far4 (by omega) h.c3,(World.frozen?_setCell _ _ _ _).trans h.f0,(World.frozen?_setCell _ _ _ _).trans h.f1,(World.frozen?_setCell _ _ _ _).trans h.f2,(World.frozen?_setCell _ _ _ _).trans h.f3⟩
theorem B4.set1 {w:World} {X:Nat} {a b c e:Value} (h:B4 w X a b c e) (v:Value):B4 (w.setCell ⟨X,1,none⟩ v) X a v c e:=
 ⟨cell_far4 (by omega) h.c0,cell_same4 h.c1,cell_far4 (by omega) h.c2,cell_far4 (by omega) h.c3,(World.frozen?_setCell _ _ _ _).trans h.f0,(World.frozen?_setCell _ _ _ _).trans h.f1,(World.frozen?_setCell _ _ _ _).trans h.f2,(World.frozen?_setCell _ _ _ _).trans h.f3⟩
theorem B4.set2 {w:World} {X:Nat} {a b c e:Value} (h:B4 w X a b c e) (v:Value):B4 (w.setCell ⟨X,2,none⟩ v) X a b v e:=
 ⟨cell_far4 (by omega) h.c0,cell_far4 (by omega) h.c1,cell_same4 h.c2,cell_far4 (by omega) h.c3,(World.frozen?_setCell _ _ _ _).trans h.f0,(World.frozen?_setCell _ _ _ _).trans h.f1,(World.frozen?_setCell _ _ _ _).trans h.f2,(World.frozen?_setCell _ _ _ _).trans h.f3⟩
theorem B4.set3 {w:World} {X:Nat} {a b c e:Value} (h:B4 w X a b c e) (v:Value):B4 (w.setCell ⟨X,3,none⟩ v) X a b c v:=
 ⟨cell_far4 (by omega) h.c0,cell_far4 (by omega) h.c1,cell_far4 (by omega) h.c2,cell_same4 h.c3,(World.frozen?_setCell _ _ _ _).trans h.f0,(World.frozen?_setCell _ _ _ _).trans h.f1,(World.frozen?_setCell _ _ _ _).trans h.f2,(World.frozen?_setCell _ _ _ _).trans h.f3⟩
/-- All four cells written. -/
abbrev put4 (w:World) (X:Nat) (a b c e:Value):World:=(((w.setCell ⟨X,0,none⟩ a).setCell ⟨X,1,none⟩ b).setCell ⟨X,2,none⟩ c).setCell ⟨X,3,none⟩ e
theorem B4.put {w:World} {X:Nat} {a b c e:Value} (h:B4 w X a b c e) (a' b' c' e':Value):B4 (put4 w X a' b' c' e') X a' b' c' e':=(((h.set0 a').set1 b').set2 c').set3 e'
theorem B4.farPut {w:World} {X Y:Nat} {a b c e:Value} (h:B4 w Y a b c e) (hne:X≠Y) (a' b' c' e':Value):B4 (put4 w X a' b' c' e') Y a b c e:=(((h.far hne a').far hne b').far hne c').far hne e'
theorem below_put {B:Nat} {u w:World} (h:Below B u w) {X:Nat} (hX:B≤X) (a b c e:Value):Below B u (put4 w X a b c e):=(((h.setCell hX _).setCell hX _).setCell hX _).setCell hX _
theorem ownsRow_keep {w w':World} {base e size:Nat} {v:Value} {n:Nat} {xs:List Value} (h:w.ownsRow base e size v n xs) (hk:∀ g,v.ownBlock=some g→w'.heap[g]?=w.heap[g]?):w'.ownsRow base e size v n xs:=by
 refine ⟨h.1,?_⟩
 rcases h.2 with hn | ⟨g,cap,cur,rfl,hbg,hg,rest⟩
 ·exact .inl hn
 ·exact .inr ⟨g,cap,cur,rfl,hbg,by rw [hk g rfl];exact hg,rest⟩
theorem ownsRow_lt {w:World} {base e size:Nat} {v:Value} {n:Nat} {xs:List Value} (h:w.ownsRow base e size v n xs):∀ g,v.ownBlock=some g→base≤g∧g < w.heap.size:=by
 intro g hg
 rcases h.2 with ⟨rfl,_⟩ | ⟨g',cap,cur,rfl,hbg,hgg,rest⟩
 ·simp [Value.ownBlock] at hg
 ·simp [Value.ownBlock] at hg
  subst hg
  exact ⟨hbg,(Array.getElem?_eq_some_iff.1 hgg).1⟩
section
variable {P:Program} (w:World)
/-- An append to a slice of the call's own: it has room, or what comes of it is small enough to grow. -/
theorem run_append_at (base:Nat) (t tx ty e:TypeId) (i:TypeInfo) (z:Value) (size bytes:Nat) (ht:P.underlying t=some (.slice e)) (hi:P.info? e=some i) (hz:i.zero=some z)
  (hsize:i.size=size) (hby:i.bytes=bytes) (hzs:z.cells.size=size)
  (v:Value) (n:Nat) (xs:List Value) (hown:w.ownsRow base e size v n xs)
  (x:Value) (m:Nat) (news:List Value) (hs:Src P size tx x m news w) (r:Nat) (hroom:Room bytes v n r) (hm:m≤r)
  (h63:n+r≤maxLen) (hbase:base≤w.heap.size) :
  ∃ v' w',(Builtin.append_ #[t,tx] ty #[v,x]).run P w=.ok v' w'∧w'.ownsRow base e size v' (n+m) (xs++news)∧w.grownBy w' v.ownBlock∧Room bytes v' (n+m) (r - m)∧(v'.ownBlock=v.ownBlock∨v'.ownBlock=some w.heap.size):=by
 subst hsize
 subst hby
 have hl:=hs.newsLen
 have h63':n+m≤9223372036854775807:=by simp only [maxLen] at h63;omega
 have h63m:n+m≤maxLen:=by simp only [maxLen] at h63 ⊢;omega
 have hlen:(xs++news).length=(n+m)*i.size:=by rw [List.length_append,hown.1,hl,Nat.add_mul]
 have grown:∀ (old:Nat),old < n+m→∀ (row:Option Nat),
   (w.drew.alloc (.cells ((xs++news).toArray++Builtin.zeroCells z.cells (grownCap w (n+m) old e - (n+m))) e)).ownsRow base e i.size
    (.slice (some ⟨w.heap.size,0,none⟩) (n+m) (grownCap w (n+m) old e)) (n+m) (xs++news)∧
   w.grownBy (w.drew.alloc (.cells ((xs++news).toArray++Builtin.zeroCells z.cells (grownCap w (n+m) old e - (n+m))) e)) row:=by
  intro old ho row
  have hge:=grownCap_ge w (n+m) old e
  have hcm:grownCap w (n+m) old e≤maxLen:=grownCap_le_maxLen w (n+m) old e h63m
  refine ⟨⟨hlen,.inr ⟨w.heap.size,_,_,rfl,hbase,heap_alloc_new w.drew _,hge,hcm,?_,?_⟩⟩,⟨rfl,rfl,rfl,by simp,fun k hk _=>Below.heap_alloc w.drew _ k hk⟩⟩
  ·simp only [Array.size_append,List.size_toArray,size_zeroCells,hzs,hlen,← Nat.add_mul]
   congr 1
   omega
  ·simp only [Array.toList_append]
   rw [← hlen]
   exact List.take_left
 have bound:∀ {a cap},v=.slice a n cap→cap < n+m→(n+r+(n+r) / 4+192)*i.bytes≤281474976710656:=by
  intro a cap hv hc
  rcases hroom with ⟨a',cap',hv',hc'⟩ | h
  ·rw [hv] at hv'
   simp only [Value.slice.injEq] at hv'
   omega
  ·exact h
 rcases hown.2 with ⟨rfl,rfl⟩ | ⟨g,cap,cur,rfl,hbg,hg,hnc,hcm,hcs,htake⟩
 ·have hx:xs=[]:=List.eq_nil_of_length_eq_zero (by simpa using hown.1)
  subst hx
  by_cases hm0:m=0
  ·subst hm0
   have hn:news=[]:=List.eq_nil_of_length_eq_zero (by simpa using hl)
   subst hn
   exact ⟨.slice none 0 0,w,run_append_nothing w t tx ty e i ht hi x hs,World.ownsRow_nil w base e i.size,World.grownBy.refl w _,by simpa using hroom,.inl rfl⟩
  ·have hb:=bound rfl (by omega)
   have hr:=run_append_grow_src (P:=P) w t tx ty e i z ht hi hz none 0 0 [] (by simp [Builtin.firstCells]) x m news hs (by omega) (by omega) (growslice_fits_wide (by omega) (Nat.le_trans (Nat.mul_le_mul_right _ (by omega)) hb))
   have hgr:=grown 0 (by omega) (Value.ownBlock (.slice none 0 0))
   simp only [Nat.zero_add,List.nil_append] at hgr hr ⊢
   exact ⟨_,_,hr,hgr.1,hgr.2,.inr (Nat.le_trans (Nat.mul_le_mul_right _ (by omega)) hb),.inr rfl⟩
 ·by_cases hrm:n+m≤cap
  ·have hfit:n*i.size+news.length≤cur.size:=by rw [hl,hcs,← Nat.add_mul];exact Nat.mul_le_mul_right _ hrm
   have hr:=run_append_room_src_own (P:=P) w t tx ty e i ht hi g n cap cur hg x m news hs hrm hfit
   refine ⟨_,_,hr,⟨hlen,.inr ⟨g,cap,_,rfl,hbg,setRow_heap w g cur _ e _ hg,hrm,hcm,?_,?_⟩⟩,⟨rfl,rfl,rfl,by simp,fun k _ hk=>setRow_other w g k _ (fun e=>hk (by simp [Value.ownBlock,e]))⟩,?_,.inl rfl⟩
   ·simp only [List.size_toArray,List.length_append,List.length_take,List.length_drop,Array.length_toList]
    omega
   ·rw [htake,← hlen]
    exact List.take_left
   ·rcases hroom with ⟨a,c,hv,hc⟩ | h
    ·simp only [Value.slice.injEq] at hv
     exact .inl ⟨_,_,rfl,by omega⟩
    ·exact .inr (Nat.le_trans (Nat.mul_le_mul_right _ (by omega)) h)
  ·have hb:=bound rfl (by omega)
   have holds:∀ j u,xs[j]?=some u→w.cell? ((⟨g,0,none⟩:Addr).add j)=some u:=hown.cells (g:=g) rfl
   have hr:=run_append_grow_src (P:=P) w t tx ty e i z ht hi hz (some ⟨g,0,none⟩) n cap xs (run_firstCells_some w.drew i.size n ⟨g,0,none⟩ n cap xs hown.1 (by simpa using holds)) x m news hs (by omega) (by omega)
    (growslice_fits_wide (by omega) (Nat.le_trans (Nat.mul_le_mul_right _ (by omega)) hb))
   have hgr:=grown cap (by omega) (Value.ownBlock (.slice (some ⟨g,0,none⟩) n cap))
   exact ⟨_,_,hr,hgr.1,hgr.2,.inr (Nat.le_trans (Nat.mul_le_mul_right _ (by omega)) hb),.inr rfl⟩
theorem wpList_append_at {ops:Array Oper} {rest:List Oper} {o:Oper} {a:Act} {Q:Exit→Act→World→Prop} (hgd:o.guard=none) (s x:Operand) (t tx:TypeId)
  (ho:o.op=.call { callee:=.builtin .append,args:=#[s,x],argTypes:=#[t,tx] })
  (base:Nat) (e:TypeId) (i:TypeInfo) (z:Value) (size bytes:Nat) (ht:P.underlying t=some (.slice e)) (hi:P.info? e=some i) (hz:i.zero=some z)
  (hsize:i.size=size) (hby:i.bytes=bytes) (hzs:z.cells.size=size)
  (v:Value) (n:Nat) (xs:List Value) (hs:a.eval s=v) (hown:w.ownsRow base e size v n xs)
  (xv:Value) (m:Nat) (news:List Value) (hx:a.eval x=xv) (hsrc:Src P size tx xv m news w) (r:Nat) (hroom:Room bytes v n r) (hm:m≤r)
  (h63:n+r≤maxLen) (hbase:base≤w.heap.size)
  (h:∀ v' w',w'.ownsRow base e size v' (n+m) (xs++news)→w.grownBy w' v.ownBlock→(v'.ownBlock=v.ownBlock∨v'.ownBlock=some w.heap.size)→wpList P ops Q rest (a.put o.dst v') w'):wpList P ops Q (o :: rest) a w:=by
 refine wpList_plain hgd fun K hK=>?_
 obtain ⟨v',w',hr,h2,h3,_,h4⟩:=run_append_at (P:=P) w base t tx o.type e i z size bytes ht hi hz hsize hby hzs v n xs hown xv m news hsrc r hroom hm h63 hbase
 unfold Oper.wp execOp
 simp only [ho,resolve,invoke,builtin,Sem.run_bind,Sem.run_pure,Result.andThen_ok,List.map_toArray,List.map_cons,List.map_nil,hs,hx,hr]
 exact hK _ _ (h v' w' h2 h3 h4)
end
theorem step_append_at {P:Program} (w:World) {ops:Array Oper} {o:Oper} {a:Act} {K:Act→World→Prop} {Q:Exit→Act→World→Prop} {E:Prop} (hgd:o.guard=none) (s x:Operand) (t tx:TypeId)
  (ho:o.op=.call { callee:=.builtin .append,args:=#[s,x],argTypes:=#[t,tx] })
  (base:Nat) (e:TypeId) (i:TypeInfo) (z:Value) (size bytes:Nat) (ht:P.underlying t=some (.slice e)) (hi:P.info? e=some i) (hz:i.zero=some z)
  (hsize:i.size=size) (hby:i.bytes=bytes) (hzs:z.cells.size=size)
  (v:Value) (n:Nat) (xs:List Value) (hs:a.eval s=v) (hown:w.ownsRow base e size v n xs)
  (xv:Value) (m:Nat) (news:List Value) (hx:a.eval x=xv) (hsrc:Src P size tx xv m news w) (r:Nat) (hroom:Room bytes v n r) (hm:m≤r)
  (h63:n+r≤maxLen) (hbase:base≤w.heap.size)
  (h:∀ v' w',w'.ownsRow base e size v' (n+m) (xs++news)→w.grownBy w' v.ownBlock→(v'.ownBlock=v.ownBlock∨v'.ownBlock=some w.heap.size)→K (a.put o.dst v') w') :
  if Region.wanted o (yielded ops a.tmps)=true then Oper.wp P o a w K Q else E:=by
 have hw:Region.wanted o (yielded ops a.tmps)=true:=by simp [Region.wanted,hgd]
 rw [if_pos hw]
 obtain ⟨v',w',hr,h2,h3,_,h4⟩:=run_append_at (P:=P) w base t tx o.type e i z size bytes ht hi hz hsize hby hzs v n xs hown xv m news hsrc r hroom hm h63 hbase
 unfold Oper.wp execOp
 simp only [ho,resolve,invoke,builtin,Sem.run_bind,Sem.run_pure,Result.andThen_ok,List.map_toArray,List.map_cons,List.map_nil,hs,hx,hr]
 exact h v' w' h2 h3 h4
end Go.Proofs.YtfjdceknbdmhpaaGreatDoor
