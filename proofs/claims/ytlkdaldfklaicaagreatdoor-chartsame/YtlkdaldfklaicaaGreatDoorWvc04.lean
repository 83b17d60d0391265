import Derived.Test.YtlkdaldfklaicaaGreatDoorWvc01
import Derived.Test.YtlkdaldfklaicaaGreatDoorWvc03
import Derived.Test.YtlkdaldfklaicaaGreatDoorWvc02
import Derived.BigQuiet
import Derived.Deep.QuietTactic
import Derived.BigRegion
import Derived.Test.YtlkdaldfklaicaaGreatDoorRows
import Derived.Shelf.Unicode.DecodeSlow
import Derived.Deep.RegionHeldLaw
import Derived.Deep.DeepCutAuto
import Derived.Deep.RegionHeld
import Derived.Deep.DrawnRows
import Derived.WalkSmall
set_option maxRecDepth 100000
set_option maxHeartbeats 32000000
namespace Go.Proofs.YtlkdaldfklaicaaGreatDoor
open Go.RowKit
set_option linter.unusedSimpArgs false
set_option linter.unusedVariables false
def OwnN (w:World) (base:Nat) (v:Value) {d:Nat}(l:List (T d)):Prop:=
 ∃ qs:List Q4,w.ownsRow base 79 4 v l.length (za3 qs)/\qs.length=l.length/\∀ (i:Nat) (h:i < l.length) (h':i < qs.length),RdT (fun b=>base<=b/\v.ownBlock≠some b) w d l[i] (.agg #[(qs[i]).1,(qs[i]).2.1,(qs[i]).2.2.1,(qs[i]).2.2.2])
theorem zeC (w:World) (base:Nat) {d:Nat}:OwnN w base (.slice none 0 0) ([]:List (T d)):=⟨[],World.ownsRow_nil w base 79 4,rfl,fun i h=>absurd h (by simp)⟩
theorem OwnN.keep {w w':World}{base:Nat}{v:Value}{d:Nat}{l:List (T d)}(h:OwnN w base v l) (hk:∀ b,base<=b->b < w.heap.size->w'.heap[b]?=w.heap[b]?):OwnN w' base v l:=by
 obtain ⟨qs,ho,hl,hr⟩:=h
 refine ⟨qs,zaG ho (fun g hg=>?_),hl,fun i h h'=>RdT.keep (fun b hb hlt=>⟨hb,hk b hb.1 hlt⟩) (hr i h h')⟩
 obtain ⟨a,b⟩:=zC ho g hg
 exact hk g a b
theorem OwnN.below {w w':World}{base:Nat}{v:Value}{d:Nat}{l:List (T d)}(h:OwnN w base v l) (hb:Below w.heap.size w w'):OwnN w' base v l:=h.keep (fun b _ hlt=>hb.block b hlt)
theorem OwnN.set {w:World}{base:Nat}{v:Value}{d:Nat}{l:List (T d)}(h:OwnN w base v l) {X i:Nat}(hX:X < base) (u:Value):OwnN (w.setCell ⟨X,i,none⟩ u) base v l:=
 h.keep (fun b hb _=>Below.heap_setCell _ _ _ _ (fun e=>by have:b=X:=e;omega))
theorem OwnN.snoc {w w':World}{base g cap lo n:Nat}{v:Value}{d:Nat}{l:List (T d)}{p:T d}{c0 c1 c2 c3:Value}{qs:List Q4}
  (hn:l.length=n) (ho:w.ownsRow base 79 4 v n (za3 qs)) (hl:qs.length=l.length) (hr:∀ (i:Nat) (h:i < l.length) (h':i < qs.length),RdT (fun b=>base<=b/\v.ownBlock≠some b) w d l[i] (.agg #[(qs[i]).1,(qs[i]).2.1,(qs[i]).2.2.1,(qs[i]).2.2.2]))
  (ho':w'.ownsRow base 79 4 (.slice (some ⟨g,0,none⟩) (n+1) cap) (n+1) (za3 qs++[c0,c1,c2,c3])) (hg:w.grownBy w' v.ownBlock) (hat:v.ownBlock=some g∨g=w.heap.size)
  (hp:RdT (fun b=>lo<=b) w d p (.agg #[c0,c1,c2,c3])) (hlo:base<=lo) (hv:∀ x,v.ownBlock=some x->x < lo):OwnN w' base (.slice (some ⟨g,0,none⟩) (n+1) cap) (l++[p]):=by
 subst hn
 have key:∀ b,base<=b/\v.ownBlock≠some b->b < w.heap.size->(base<=b/\(Value.slice (some ⟨g,0,none⟩) (l.length+1) cap).ownBlock≠some b)/\w'.heap[b]?=w.heap[b]?:=fun b hb hlt=>by
  refine ⟨⟨hb.1,?_⟩,hg.block b hlt (fun e=>hb.2 e.symm)⟩
  simp only [Value.ownBlock,ne_eq,Option.some.injEq]
  rintro rfl
  rcases hat with h|h
  ·exact hb.2 h
  ·omega
 refine ⟨qs++[(c0,c1,c2,c3)],?_,by simp [hl],fun i h h'=>?_⟩
 ·rw [zhP,List.length_append]
  exact ho'
 ·rcases Nat.lt_or_ge i l.length with hi|hi
  ·rw [List.getElem_append_left hi,List.getElem_append_left (by omega)]
   exact RdT.keep key (hr i hi (by omega))
  ·have:i=l.length:=by simp at h;omega
   subst this
   have e1:(l++[p])[l.length]=p:=by simp
   have e2:(qs++[(c0,c1,c2,c3)])[l.length]'h'=(c0,c1,c2,c3):=by simp [<- hl]
   rw [e1,e2]
   exact RdT.keep (fun b hb hlt=>key b ⟨by omega,fun e=>by have:=hv b e;omega⟩ hlt) hp
theorem OwnN.form {w:World}{base:Nat}{v:Value}{d:Nat}{l:List (T d)}(h:OwnN w base v l):∃ a cap,v=.slice a l.length cap:=by
 obtain ⟨qs,ho,_⟩:=h
 rcases ho.2 with ⟨h1,h2⟩|⟨g,cap,cur,h1,_⟩
 ·exact ⟨none,0,by rw [h1,h2]⟩
 ·exact ⟨_,_,h1⟩
theorem OwnN.rd {w:World}{base:Nat}{v:Value}{d:Nat}{l:List (T d)}(h:OwnN w base v l):RdP (fun b=>base<=b) w (RdT (fun b=>base<=b) w d) l v:=by
 obtain ⟨qs,ho,hl,hr⟩:=h
 have hc:=fun g=>World.ownsRow.cells ho (g:=g)
 rcases ho.2 with ⟨rfl,hn⟩|⟨g,cap,cur,rfl,hb,hg,hnc,hcm,hcs,htake⟩
 ·have hx:l=[]:=List.eq_nil_of_length_eq_zero hn
  subst hx
  exact ⟨none,0,rfl,by simp,by simp [maxLen],by simp,fun x hx=>by cases hx⟩
 ·refine ⟨some ⟨g,0,none⟩,cap,rfl,hnc,hcm,by simp,?_⟩
  intro x hx i hi
  obtain rfl:=Option.some.inj hx
  obtain ⟨h0,h1,h2,h3⟩:=zgA qs i (by omega)
  exact ⟨hb,_,_,_,_,RdT.keep (fun b hb _=>⟨hb.1,rfl⟩) (hr i hi (by omega)),hc g rfl _ _ h0,hc g rfl _ _ h1,hc g rfl _ _ h2,hc g rfl _ _ h3⟩
theorem OwnN.base {w:World}{base lo:Nat}{d:Nat}{l:List (T d)}{v:Value}(h:RdP (fun b=>base<=b) w (RdT (fun b=>base<=b) w d) l v) (hlo:lo<=base):RdP (fun b=>lo<=b) w (RdT (fun b=>lo<=b) w d) l v:=
 h.keep (fun x _ u hu=>RdT.keep (fun b hb _=>⟨by omega,rfl⟩) hu) (fun b hb _=>⟨by omega,rfl⟩)
theorem zcA (ok:Nat->Prop) (w:World) {d:Nat}:RdP ok w (RdT ok w d) [] (.slice none 0 0):=⟨none,0,rfl,by simp,by simp [maxLen],fun _=>rfl,fun x hx=>by cases hx⟩
theorem zbZ (ok:Nat->Prop) (w:World) {d:Nat}:RdT ok w (d+1) zaM (.agg #[.int .i64 0,.int .i64 0,.string ⟨#[]⟩,.slice none 0 0]):=⟨_,rfl,zcA ok w⟩
end Go.Proofs.YtlkdaldfklaicaaGreatDoor
namespace Go.Proofs.YtlkdaldfklaicaaGreatDoor
open Go.RowKit Go.Lib
set_option linter.unusedSimpArgs false
set_option linter.unusedVariables false
attribute [local go_sem ↓] Go.wp_at_zero Go.wp_at_succ
def RdX (ok:Nat->Prop) (w:World) (x:Sx) (v:Value):Prop:=RdT ok w x.1 x.2 v
theorem zm7 (ok:Nat->Prop) (w:World):RdX ok w noX (.agg #[.int .i64 0,.int .i64 0,.string ⟨#[]⟩,.slice none 0 0]):=zbZ ok w
theorem RdX.keep {ok ok':Nat->Prop}{w w':World}{x:Sx}{v:Value}(h:RdX ok w x v) (hk:∀ b,ok b->b < w.heap.size->ok' b/\w'.heap[b]?=w.heap[b]?):RdX ok' w' x v:=RdT.keep hk h
theorem RdX.form {ok:Nat->Prop}{w:World}{x:Sx}{v:Value}(h:RdX ok w x v):∃ k n s a m c,v=.agg #[.int .i64 k,.int .i64 n,.string s,.slice a m c]:=by
 obtain ⟨d,t⟩:=x
 match d,t,h with
 | 0,t,_=>exact Empty.elim t
 | d+1,t,h=>
  obtain ⟨k,n,s,ps,rfl⟩:=T.open t
  obtain ⟨sl,rfl,a,cap,rfl,_⟩:=zaT.1 h
  exact ⟨k,n,s,a,_,cap,rfl⟩
theorem At4.blkR {w w':World}{N:Nat}{a b c e:Value}(h:At4 w N a b c e) (hb:w'.heap[N]?=w.heap[N]?):At4 w' N a b c e:=
 ⟨(World.cell?_of_block (w:=w) (a:=⟨N,0,none⟩) hb).trans h.1,(World.cell?_of_block (w:=w) (a:=⟨N,1,none⟩) hb).trans h.2.1,(World.cell?_of_block (w:=w) (a:=⟨N,2,none⟩) hb).trans h.2.2.1,(World.cell?_of_block (w:=w) (a:=⟨N,3,none⟩) hb).trans h.2.2.2⟩
theorem zd2 {ok:Nat->Prop}{N:Nat}{w:World}{x:Sx}{k:Int}{c0 c1 c2 c3:Value}(h:RdX ok w x (.agg #[c0,c1,c2,c3])) (hN:ok N) (k0:w.cell? ⟨N,0,none⟩=some c0) (k1:w.cell? ⟨N,1,none⟩=some c1) (k2:w.cell? ⟨N,2,none⟩=some c2) (k3:w.cell? ⟨N,3,none⟩=some c3) :
  RdX ok w (mk1 k x) (.agg #[.int .i64 k,.int .i64 0,.string ⟨#[]⟩,.slice (some ⟨N,0,none⟩) 1 1]):=by
 refine zaT.2 ⟨_,rfl,some ⟨N,0,none⟩,1,rfl,by simp,by simp [maxLen],by simp,fun y hy i hi=>?_⟩
 obtain rfl:=Option.some.inj hy
 have:i=0:=by simp at hi;omega
 subst this
 exact ⟨hN,c0,c1,c2,c3,h,k0,k1,k2,k3⟩
end Go.Proofs.YtlkdaldfklaicaaGreatDoor
namespace Go.Proofs.YtlkdaldfklaicaaGreatDoor
end Go.Proofs.YtlkdaldfklaicaaGreatDoor
namespace Go.Proofs.YtlkdaldfklaicaaGreatDoor
open Go.RowKit Go.Lib
set_option linter.unusedSimpArgs false
set_option linter.unusedVariables false
attribute [local go_sem ↓] Go.wp_at_zero Go.wp_at_succ
abbrev zN:Obj:=.cells #[.int .i64 0,.int .i64 0,.string ⟨#[]⟩,.slice none 0 0] 79
theorem alN (wx:World):Below wx.heap.size wx (wx.alloc zN):=zn3.alloc zn2 _
end Go.Proofs.YtlkdaldfklaicaaGreatDoor
namespace Go.Proofs.YtlkdaldfklaicaaGreatDoor
open Go.RowKit
set_option linter.unusedSimpArgs false
set_option linter.unusedVariables false
end Go.Proofs.YtlkdaldfklaicaaGreatDoor
namespace Go.Proofs.YtlkdaldfklaicaaGreatDoor
open Go.RowKit Go.Lib
set_option linter.unusedSimpArgs false
set_option linter.unusedVariables false
attribute [local go_sem ↓] Go.wp_at_zero Go.wp_at_succ
theorem zed (s:ByteArray) (w:World):Calls Tryz.prog 105 #[.string s] w fun e w'=>e=.returned (.int .i64 (lv (bl s):Int))/\w=w':=by
 have hS:∀ x,(s.toList == x)=(bl s == x):=fun x=>by rw [ByteArray.toList_eq]
 obtain ⟨l,hl⟩:∃ l,bl s=l:=⟨_,rfl⟩
 rw [hl]
 simp only [hl] at hS
 clear hl
 have q0:(s.toList == [124,124])=(l == [124,124]):=hS _
 have q1:(s.toList == [38,38])=(l == [38,38]):=hS _
 have q2:(s.toList == [60])=(l == [60]):=hS _
 have q3:(s.toList == [60,61])=(l == [60,61]):=hS _
 have q4:(s.toList == [61,61])=(l == [61,61]):=hS _
 have q5:(s.toList == [33,61])=(l == [33,61]):=hS _
 have q6:(s.toList == [43])=(l == [43]):=hS _
 have q7:(s.toList == [45])=(l == [45]):=hS _
 have q8:(s.toList == [42])=(l == [42]):=hS _
 clear hS
 cases r0:(l == [124,124])
 case true=>rw [r0] at q0;clear q1 q2 q3 q4 q5 q6 q7 q8;go_enter Tryz.func105,Tryz.ntmps105;go_wp2;go_ret;exact ⟨by rw [eq_of_beq r0];rfl,rfl⟩
 rw [r0] at q0
 cases r1:(l == [38,38])
 case true=>rw [r1] at q1;clear q2 q3 q4 q5 q6 q7 q8;go_enter Tryz.func105,Tryz.ntmps105;go_wp2;go_ret;exact ⟨by rw [eq_of_beq r1];rfl,rfl⟩
 rw [r1] at q1
 cases r2:(l == [60])
 case true=>rw [r2] at q2;clear q3 q4 q5 q6 q7 q8;go_enter Tryz.func105,Tryz.ntmps105;go_wp2;go_ret;exact ⟨by rw [eq_of_beq r2];rfl,rfl⟩
 rw [r2] at q2
 cases r3:(l == [60,61])
 case true=>rw [r3] at q3;clear q4 q5 q6 q7 q8;go_enter Tryz.func105,Tryz.ntmps105;go_wp2;go_ret;exact ⟨by rw [eq_of_beq r3];rfl,rfl⟩
 rw [r3] at q3
 cases r4:(l == [61,61])
 case true=>rw [r4] at q4;clear q5 q6 q7 q8;go_enter Tryz.func105,Tryz.ntmps105;go_wp2;go_ret;exact ⟨by rw [eq_of_beq r4];rfl,rfl⟩
 rw [r4] at q4
 cases r5:(l == [33,61])
 case true=>rw [r5] at q5;clear q6 q7 q8;go_enter Tryz.func105,Tryz.ntmps105;go_wp2;go_ret;exact ⟨by rw [eq_of_beq r5];rfl,rfl⟩
 rw [r5] at q5
 cases r6:(l == [43])
 case true=>rw [r6] at q6;clear q7 q8;go_enter Tryz.func105,Tryz.ntmps105;go_wp2;go_ret;exact ⟨by rw [eq_of_beq r6];rfl,rfl⟩
 rw [r6] at q6
 cases r7:(l == [45])
 case true=>rw [r7] at q7;clear q8;go_enter Tryz.func105,Tryz.ntmps105;go_wp2;go_ret;exact ⟨by rw [eq_of_beq r7];rfl,rfl⟩
 rw [r7] at q7
 cases r8:(l == [42])
 case true=>rw [r8] at q8;go_enter Tryz.func105,Tryz.ntmps105;go_wp2;go_ret;exact ⟨by rw [eq_of_beq r8];rfl,rfl⟩
 rw [r8] at q8
 go_enter Tryz.func105,Tryz.ntmps105
 go_wp2
 go_ret
 have e:lv l=0:=by simp [lv,beq_eq_false_iff_ne.1 r0,beq_eq_false_iff_ne.1 r1,beq_eq_false_iff_ne.1 r2,beq_eq_false_iff_ne.1 r3,beq_eq_false_iff_ne.1 r4,beq_eq_false_iff_ne.1 r5,beq_eq_false_iff_ne.1 r6,beq_eq_false_iff_ne.1 r7,beq_eq_false_iff_ne.1 r8]
 exact ⟨by rw [e];rfl,rfl⟩
theorem zbQ (s:ByteArray) (w:World):Calls Tryz.prog 78 #[.string s] w fun e w'=>e=.returned (.bool (zX (bl s)))/\w=w':=by
 have hS:∀ x,(s.toList == x)=(bl s == x):=fun x=>by rw [ByteArray.toList_eq]
 obtain ⟨l,hl⟩:∃ l,bl s=l:=⟨_,rfl⟩
 rw [hl]
 simp only [hl] at hS
 clear hl
 have q0:(s.toList == [99,104,97,114,116])=(l == [99,104,97,114,116]):=hS _
 have q1:(s.toList == [118,97,114])=(l == [118,97,114]):=hS _
 have q2:(s.toList == [115,116,97,116,101])=(l == [115,116,97,116,101]):=hS _
 have q3:(s.toList == [97,108,108])=(l == [97,108,108]):=hS _
 have q4:(s.toList == [101,110,100])=(l == [101,110,100]):=hS _
 have q5:(s.toList == [100,111])=(l == [100,111]):=hS _
 have q6:(s.toList == [117,110,100,111])=(l == [117,110,100,111]):=hS _
 have q7:(s.toList == [97,116])=(l == [97,116]):=hS _
 have q8:(s.toList == [114,101,116,114,105,101,115])=(l == [114,101,116,114,105,101,115]):=hS _
 have q9:(s.toList == [111,110])=(l == [111,110]):=hS _
 have q10:(s.toList == [105,102])=(l == [105,102]):=hS _
 have q11:(s.toList == [103,111])=(l == [103,111]):=hS _
 have q12:(s.toList == [115,101,116])=(l == [115,101,116]):=hS _
 clear hS
 cases r0:(l == [99,104,97,114,116])
 case true=>rw [r0] at q0;clear q1 q2 q3 q4 q5 q6 q7 q8 q9 q10 q11 q12;go_enter Tryz.func78,Tryz.ntmps78;go_wp2;go_ret;exact ⟨by rw [eq_of_beq r0];rfl,rfl⟩
 rw [r0] at q0
 cases r1:(l == [118,97,114])
 case true=>rw [r1] at q1;clear q2 q3 q4 q5 q6 q7 q8 q9 q10 q11 q12;go_enter Tryz.func78,Tryz.ntmps78;go_wp2;go_ret;exact ⟨by rw [eq_of_beq r1];rfl,rfl⟩
 rw [r1] at q1
 cases r2:(l == [115,116,97,116,101])
 case true=>rw [r2] at q2;clear q3 q4 q5 q6 q7 q8 q9 q10 q11 q12;go_enter Tryz.func78,Tryz.ntmps78;go_wp2;go_ret;exact ⟨by rw [eq_of_beq r2];rfl,rfl⟩
 rw [r2] at q2
 cases r3:(l == [97,108,108])
 case true=>rw [r3] at q3;clear q4 q5 q6 q7 q8 q9 q10 q11 q12;go_enter Tryz.func78,Tryz.ntmps78;go_wp2;go_ret;exact ⟨by rw [eq_of_beq r3];rfl,rfl⟩
 rw [r3] at q3
 cases r4:(l == [101,110,100])
 case true=>rw [r4] at q4;clear q5 q6 q7 q8 q9 q10 q11 q12;go_enter Tryz.func78,Tryz.ntmps78;go_wp2;go_ret;exact ⟨by rw [eq_of_beq r4];rfl,rfl⟩
 rw [r4] at q4
 cases r5:(l == [100,111])
 case true=>rw [r5] at q5;clear q6 q7 q8 q9 q10 q11 q12;go_enter Tryz.func78,Tryz.ntmps78;go_wp2;go_ret;exact ⟨by rw [eq_of_beq r5];rfl,rfl⟩
 rw [r5] at q5
 cases r6:(l == [117,110,100,111])
 case true=>rw [r6] at q6;clear q7 q8 q9 q10 q11 q12;go_enter Tryz.func78,Tryz.ntmps78;go_wp2;go_ret;exact ⟨by rw [eq_of_beq r6];rfl,rfl⟩
 rw [r6] at q6
 cases r7:(l == [97,116])
 case true=>rw [r7] at q7;clear q8 q9 q10 q11 q12;go_enter Tryz.func78,Tryz.ntmps78;go_wp2;go_ret;exact ⟨by rw [eq_of_beq r7];rfl,rfl⟩
 rw [r7] at q7
 cases r8:(l == [114,101,116,114,105,101,115])
 case true=>rw [r8] at q8;clear q9 q10 q11 q12;go_enter Tryz.func78,Tryz.ntmps78;go_wp2;go_ret;exact ⟨by rw [eq_of_beq r8];rfl,rfl⟩
 rw [r8] at q8
 cases r9:(l == [111,110])
 case true=>rw [r9] at q9;clear q10 q11 q12;go_enter Tryz.func78,Tryz.ntmps78;go_wp2;go_ret;exact ⟨by rw [eq_of_beq r9];rfl,rfl⟩
 rw [r9] at q9
 cases r10:(l == [105,102])
 case true=>rw [r10] at q10;clear q11 q12;go_enter Tryz.func78,Tryz.ntmps78;go_wp2;go_ret;exact ⟨by rw [eq_of_beq r10];rfl,rfl⟩
 rw [r10] at q10
 cases r11:(l == [103,111])
 case true=>rw [r11] at q11;clear q12;go_enter Tryz.func78,Tryz.ntmps78;go_wp2;go_ret;exact ⟨by rw [eq_of_beq r11];rfl,rfl⟩
 rw [r11] at q11
 cases r12:(l == [115,101,116])
 case true=>rw [r12] at q12;go_enter Tryz.func78,Tryz.ntmps78;go_wp2;go_ret;exact ⟨by rw [eq_of_beq r12];rfl,rfl⟩
 rw [r12] at q12
 go_enter Tryz.func78,Tryz.ntmps78
 go_wp2
 go_ret
 have e:zX l=false:=by simp [zX,zjJ,beq_eq_false_iff_ne.1 r0,beq_eq_false_iff_ne.1 r1,beq_eq_false_iff_ne.1 r2,beq_eq_false_iff_ne.1 r3,beq_eq_false_iff_ne.1 r4,beq_eq_false_iff_ne.1 r5,beq_eq_false_iff_ne.1 r6,beq_eq_false_iff_ne.1 r7,beq_eq_false_iff_ne.1 r8,beq_eq_false_iff_ne.1 r9,beq_eq_false_iff_ne.1 r10,beq_eq_false_iff_ne.1 r11,beq_eq_false_iff_ne.1 r12]
 exact ⟨by rw [e];rfl,rfl⟩
end Go.Proofs.YtlkdaldfklaicaaGreatDoor
namespace Go.Proofs.YtlkdaldfklaicaaGreatDoor
open Go.RowKit
set_option linter.unusedSimpArgs false
set_option linter.unusedVariables false
def exV:(d:Nat)->T d->Value:=zbT (fun k n s l=>
 if k=1 then .iface 117 (.agg #[.int .i64 n]) else if k=2 then .iface 119 (.agg #[.string s]) else if k=3 then .iface 121 (.agg #[l.getD 0 .nilIface]) else if k=4 then .iface 122 (.agg #[l.getD 0 .nilIface])
 else if k=5 then .iface 124 (.agg #[.string s,l.getD 0 .nilIface,l.getD 1 .nilIface]) else .nilIface)
def exP {d:Nat}(ps:List (T d)) (i:Nat):Value:=(ps.map (exV d)).getD i .nilIface
theorem zc2 {d:Nat}(k n:Int) (s:ByteArray) (ps:List (T d)):exV (d+1) (mkT k n s ps) =
  if k=1 then .iface 117 (.agg #[.int .i64 n]) else if k=2 then .iface 119 (.agg #[.string s]) else if k=3 then .iface 121 (.agg #[exP ps 0]) else if k=4 then .iface 122 (.agg #[exP ps 0])
  else if k=5 then .iface 124 (.agg #[.string s,exP ps 0,exP ps 1]) else .nilIface:=rfl
theorem zaz:∀ (d:Nat) (t:T d),exV d t=.nilIface∨∃ u x,exV d t=.iface u x
 | 0,t=>Empty.elim t
 | d+1,t=>by
  obtain ⟨k,n,s,ps,rfl⟩:=T.open t
  rw [zc2]
  repeat' split
  all_goals first|exact .inl rfl|exact .inr ⟨_,_,rfl⟩
theorem zde {d:Nat}(ps:List (T d)) (i:Nat):exP ps i=.nilIface∨∃ u x,exP ps i=.iface u x:=by
 unfold exP
 rw [List.getD_eq_getElem?_getD,List.getElem?_map]
 cases ps[i]? with
 | none=>exact .inl rfl
 | some p=>exact zaz d p
end Go.Proofs.YtlkdaldfklaicaaGreatDoor
namespace Go.Proofs.YtlkdaldfklaicaaGreatDoor
open Go.RowKit Go.Lib
set_option linter.unusedSimpArgs false
set_option linter.unusedVariables false
attribute [local go_sem ↓] Go.wp_at_zero Go.wp_at_succ
def Kids (w:World) (v:Value) (l:List Value):Prop:=
 (v=.slice none 0 0/\l=[])∨∃ g,v=.slice (some ⟨g,0,none⟩) l.length l.length/\∀ (i:Nat) (h:i < l.length),w.cell? ⟨g,i,none⟩=some l[i]
abbrev zaD (k n:Int) (s:ByteArray) (v:Value):Value:=.agg #[.int .i64 k,.int .i64 n,.string s,v]
def Ifc (x:Value):Prop:=x=.nilIface∨∃ u y,x=.iface u y
theorem zcl (v:Value) (w:World):(Instr.typeAssert (.iface 117 v) 87 117 true).run Tryz.prog w=.ok (.tuple #[v,.bool true]) w:=by kernel_rfl
theorem zcb (v:Value) (w:World):(Instr.typeAssert (.iface 119 v) 87 117 true).run Tryz.prog w=.ok (.tuple #[.agg #[.int .i64 0],.bool false]) w:=by kernel_rfl
theorem zbI (v:Value) (w:World):(Instr.typeAssert (.iface 119 v) 87 119 true).run Tryz.prog w=.ok (.tuple #[v,.bool true]) w:=by kernel_rfl
theorem zcc (v:Value) (w:World):(Instr.typeAssert (.iface 121 v) 87 117 true).run Tryz.prog w=.ok (.tuple #[.agg #[.int .i64 0],.bool false]) w:=by kernel_rfl
theorem zbN (v:Value) (w:World):(Instr.typeAssert (.iface 121 v) 87 119 true).run Tryz.prog w=.ok (.tuple #[.agg #[.string ⟨#[]⟩],.bool false]) w:=by kernel_rfl
theorem zbF (v:Value) (w:World):(Instr.typeAssert (.iface 121 v) 87 121 true).run Tryz.prog w=.ok (.tuple #[v,.bool true]) w:=by kernel_rfl
theorem zcj (v:Value) (w:World):(Instr.typeAssert (.iface 122 v) 87 117 true).run Tryz.prog w=.ok (.tuple #[.agg #[.int .i64 0],.bool false]) w:=by kernel_rfl
theorem zbx (v:Value) (w:World):(Instr.typeAssert (.iface 122 v) 87 119 true).run Tryz.prog w=.ok (.tuple #[.agg #[.string ⟨#[]⟩],.bool false]) w:=by kernel_rfl
theorem zbK (v:Value) (w:World):(Instr.typeAssert (.iface 122 v) 87 121 true).run Tryz.prog w=.ok (.tuple #[.agg #[.nilIface],.bool false]) w:=by kernel_rfl
theorem zbz (v:Value) (w:World):(Instr.typeAssert (.iface 122 v) 87 122 true).run Tryz.prog w=.ok (.tuple #[v,.bool true]) w:=by kernel_rfl
theorem zcm (v:Value) (w:World):(Instr.typeAssert (.iface 124 v) 87 117 true).run Tryz.prog w=.ok (.tuple #[.agg #[.int .i64 0],.bool false]) w:=by kernel_rfl
theorem zbM (v:Value) (w:World):(Instr.typeAssert (.iface 124 v) 87 119 true).run Tryz.prog w=.ok (.tuple #[.agg #[.string ⟨#[]⟩],.bool false]) w:=by kernel_rfl
theorem zbL (v:Value) (w:World):(Instr.typeAssert (.iface 124 v) 87 121 true).run Tryz.prog w=.ok (.tuple #[.agg #[.nilIface],.bool false]) w:=by kernel_rfl
theorem zbE (v:Value) (w:World):(Instr.typeAssert (.iface 124 v) 87 122 true).run Tryz.prog w=.ok (.tuple #[.agg #[.nilIface],.bool false]) w:=by kernel_rfl
theorem zbA (v:Value) (w:World):(Instr.typeAssert (.iface 124 v) 87 124 true).run Tryz.prog w=.ok (.tuple #[v,.bool true]) w:=by kernel_rfl
attribute [local go_sem] zcl zcb zbI zcc zbN zbF zcj zbx zbK zbz zcm zbM zbL zbE zbA
theorem zG (w:World) (a:Value) (t:TypeId) (n:Nat) (hn:n=w.heap.size):(w.alloc (.cells #[a] t)).cell? ⟨n,0,none⟩=some a:=by subst hn;simp
theorem zW (w:World) (a b:Value) (t:TypeId) (n:Nat) (hn:n=w.heap.size):(w.alloc (.cells #[a,b] t)).cell? ⟨n,0,none⟩=some a/\(w.alloc (.cells #[a,b] t)).cell? ⟨n,1,none⟩=some b:=by subst hn;simp
theorem zia (w:World):Kids w (.slice none 0 0) []:=.inl ⟨rfl,rfl⟩
theorem zgp {w:World}{g:Nat}{x:Value}(h:w.cell? ⟨g,0,none⟩=some x):Kids w (.slice (some ⟨g,0,none⟩) 1 1) [x]:=.inr ⟨g,rfl,fun i hi=>by
 match i,hi with
 | 0,_=>exact h⟩
theorem zf3 {w:World}{g:Nat}{x y:Value}(h:w.cell? ⟨g,0,none⟩=some x) (h':w.cell? ⟨g,1,none⟩=some y):Kids w (.slice (some ⟨g,0,none⟩) 2 2) [x,y]:=.inr ⟨g,rfl,fun i hi=>by
 match i,hi with
 | 0,_=>exact h
 | 1,_=>exact h'⟩
theorem Kids.below {w w':World}{v:Value}{l:List Value}{B:Nat}(h:Kids w v l) (hb:Below B w w') (hB:w.heap.size<=B):Kids w' v l:=by
 rcases h with h|⟨g,hv,hc⟩
 ·exact .inl h
 ·exact .inr ⟨g,hv,fun i hi=>by rw [hb.cell (p:=⟨g,i,none⟩) (zn4 (World.block_lt_of_cell? w _ (hc i hi)) hB)];exact hc i hi⟩
theorem zmi (w:World):Calls Tryz.prog 73 #[.nilIface] w fun e w'=>∃ sl,e=.returned (zaD 0 0 ⟨#[]⟩ sl)/\Kids w' sl []/\Below w.heap.size w w':=by
 go_enter Tryz.func73,Tryz.ntmps73
 go_wp2
 refine bodyPost_ret (v:=zaD 0 0 ⟨#[]⟩ (.slice none 0 0)) (by simp [results,Tryz.results73,go_sem]) rfl ⟨_,rfl,zia _,?_⟩
 ·(repeat (refine Below.alloc ?_ (by simp<;>omega) _));exact Below.refl _ _
theorem zlz (n:Int) (w:World):Calls Tryz.prog 73 #[.iface 117 (.agg #[.int .i64 n])] w fun e w'=>∃ sl,e=.returned (zaD 1 n ⟨#[]⟩ sl)/\Kids w' sl []/\Below w.heap.size w w':=by
 go_enter Tryz.func73,Tryz.ntmps73
 go_wp2
 refine bodyPost_ret (v:=zaD 1 n ⟨#[]⟩ (.slice none 0 0)) (by simp [results,Tryz.results73,go_sem]) rfl ⟨_,rfl,zia _,?_⟩
 ·(repeat (refine Below.alloc ?_ (by simp<;>omega) _));exact Below.refl _ _
theorem zlv (s:ByteArray) (w:World):Calls Tryz.prog 73 #[.iface 119 (.agg #[.string s])] w fun e w'=>∃ sl,e=.returned (zaD 2 0 s sl)/\Kids w' sl []/\Below w.heap.size w w':=by
 go_enter Tryz.func73,Tryz.ntmps73
 go_wp2
 refine bodyPost_ret (v:=zaD 2 0 s (.slice none 0 0)) (by simp [results,Tryz.results73,go_sem]) rfl ⟨_,rfl,zia _,?_⟩
 ·(repeat (refine Below.alloc ?_ (by simp<;>omega) _));exact Below.refl _ _
theorem zl2 (x:Value) (hx:Ifc x) (w:World):Calls Tryz.prog 73 #[.iface 121 (.agg #[x])] w fun e w'=>∃ sl,e=.returned (zaD 3 0 ⟨#[]⟩ sl)/\Kids w' sl [x]/\Below w.heap.size w w':=by
 rcases hx with rfl|⟨u,y,rfl⟩
 ·go_enter Tryz.func73,Tryz.ntmps73
  go_wp2
  refine bodyPost_ret (v:=zaD 3 0 ⟨#[]⟩ (.slice (some ⟨w.heap.size+4,0,none⟩) 1 1)) (by simp [results,Tryz.results73,go_sem]) rfl ⟨_,rfl,zgp ?_,?_⟩
  ·exact zG _ _ _ _ (by simp)
  ·(repeat (refine Below.alloc ?_ (by simp<;>omega) _));exact Below.refl _ _
 ·go_enter Tryz.func73,Tryz.ntmps73
  go_wp2
  refine bodyPost_ret (v:=zaD 3 0 ⟨#[]⟩ (.slice (some ⟨w.heap.size+4,0,none⟩) 1 1)) (by simp [results,Tryz.results73,go_sem]) rfl ⟨_,rfl,zgp ?_,?_⟩
  ·exact zG _ _ _ _ (by simp)
  ·(repeat (refine Below.alloc ?_ (by simp<;>omega) _));exact Below.refl _ _
theorem zlB (x:Value) (hx:Ifc x) (w:World):Calls Tryz.prog 73 #[.iface 122 (.agg #[x])] w fun e w'=>∃ sl,e=.returned (zaD 4 0 ⟨#[]⟩ sl)/\Kids w' sl [x]/\Below w.heap.size w w':=by
 rcases hx with rfl|⟨u,y,rfl⟩
 ·go_enter Tryz.func73,Tryz.ntmps73
  go_wp2
  refine bodyPost_ret (v:=zaD 4 0 ⟨#[]⟩ (.slice (some ⟨w.heap.size+5,0,none⟩) 1 1)) (by simp [results,Tryz.results73,go_sem]) rfl ⟨_,rfl,zgp ?_,?_⟩
  ·exact zG _ _ _ _ (by simp)
  ·(repeat (refine Below.alloc ?_ (by simp<;>omega) _));exact Below.refl _ _
 ·go_enter Tryz.func73,Tryz.ntmps73
  go_wp2
  refine bodyPost_ret (v:=zaD 4 0 ⟨#[]⟩ (.slice (some ⟨w.heap.size+5,0,none⟩) 1 1)) (by simp [results,Tryz.results73,go_sem]) rfl ⟨_,rfl,zgp ?_,?_⟩
  ·exact zG _ _ _ _ (by simp)
  ·(repeat (refine Below.alloc ?_ (by simp<;>omega) _));exact Below.refl _ _
theorem zl1 (s:ByteArray) (x x':Value) (hx:Ifc x) (hx':Ifc x') (w:World):Calls Tryz.prog 73 #[.iface 124 (.agg #[.string s,x,x'])] w fun e w'=>∃ sl,e=.returned (zaD 5 0 s sl)/\Kids w' sl [x,x']/\Below w.heap.size w w':=by
 rcases hx with rfl|⟨u,y,rfl⟩<;>rcases hx' with rfl|⟨u',y',rfl⟩
 ·go_enter Tryz.func73,Tryz.ntmps73
  go_wp2
  refine bodyPost_ret (v:=zaD 5 0 s (.slice (some ⟨w.heap.size+6,0,none⟩) 2 2)) (by simp [results,Tryz.results73,go_sem]) rfl ⟨_,rfl,zf3 ?_ ?_,?_⟩
  ·exact (zW _ _ _ _ _ (by simp)).1
  ·exact (zW _ _ _ _ _ (by simp)).2
  ·(repeat (refine Below.alloc ?_ (by simp<;>omega) _));exact Below.refl _ _
 ·go_enter Tryz.func73,Tryz.ntmps73
  go_wp2
  refine bodyPost_ret (v:=zaD 5 0 s (.slice (some ⟨w.heap.size+6,0,none⟩) 2 2)) (by simp [results,Tryz.results73,go_sem]) rfl ⟨_,rfl,zf3 ?_ ?_,?_⟩
  ·exact (zW _ _ _ _ _ (by simp)).1
  ·exact (zW _ _ _ _ _ (by simp)).2
  ·(repeat (refine Below.alloc ?_ (by simp<;>omega) _));exact Below.refl _ _
 ·go_enter Tryz.func73,Tryz.ntmps73
  go_wp2
  refine bodyPost_ret (v:=zaD 5 0 s (.slice (some ⟨w.heap.size+6,0,none⟩) 2 2)) (by simp [results,Tryz.results73,go_sem]) rfl ⟨_,rfl,zf3 ?_ ?_,?_⟩
  ·exact (zW _ _ _ _ _ (by simp)).1
  ·exact (zW _ _ _ _ _ (by simp)).2
  ·(repeat (refine Below.alloc ?_ (by simp<;>omega) _));exact Below.refl _ _
 ·go_enter Tryz.func73,Tryz.ntmps73
  go_wp2
  refine bodyPost_ret (v:=zaD 5 0 s (.slice (some ⟨w.heap.size+6,0,none⟩) 2 2)) (by simp [results,Tryz.results73,go_sem]) rfl ⟨_,rfl,zf3 ?_ ?_,?_⟩
  ·exact (zW _ _ _ _ _ (by simp)).1
  ·exact (zW _ _ _ _ _ (by simp)).2
  ·(repeat (refine Below.alloc ?_ (by simp<;>omega) _));exact Below.refl _ _
theorem zch {d:Nat}(t:T d):Ifc (exV d t):=zaz d t
theorem zfV {d:Nat}{t:T (d+1)}(hc:Cl (d+1) t):∃ k n s ps,t=mkT k n s ps/\∀ w,Calls Tryz.prog 73 #[exV (d+1) t] w fun e w'=>∃ sl,e=.returned (zaD k n s sl)/\Kids w' sl (ps.map (exV d))/\Below w.heap.size w w':=by
 rcases hc.cases with ⟨n,rfl⟩|⟨s,rfl⟩|⟨k,p,hk,rfl,hp⟩|⟨s,p,q,rfl,hp,hq⟩|rfl
 ·exact ⟨1,n,_,[],rfl,fun w=>zlz n w⟩
 ·exact ⟨2,0,s,[],rfl,fun w=>zlv s w⟩
 ·rcases hk with rfl|rfl
  ·exact ⟨3,0,_,[p],rfl,fun w=>zl2 (exV d p) (zch p) w⟩
  ·exact ⟨4,0,_,[p],rfl,fun w=>zlB (exV d p) (zch p) w⟩
 ·exact ⟨5,0,s,[p,q],rfl,fun w=>zl1 s (exV d p) (exV d q) (zch p) (zch q) w⟩
 ·exact ⟨0,0,_,[],rfl,fun w=>zmi w⟩
theorem znR (a b c e:Value) (w:World):(Instr.field 146 (.agg #[a,b,c,e]) 3).run Tryz.prog w=.ok e w:=by kernel_rfl
abbrev Sg:=(d:Nat) × T d
def exS (x:Sg):Value:=exV x.1 x.2
def zaa (x:Sg):Nat:=cnt x.1 x.2
def ClS (x:Sg):Prop:=Cl x.1 x.2
def Stk (w:World) (base:Nat) (v:Value) (st:List Sg):Prop:=w.ownsRow base 87 1 v st.length (st.map exS)
theorem zdI {w w':World}{base e size:Nat}{v:Value}{n:Nat}{xs:List Value}{B:Nat}(h:w.ownsRow base e size v n xs) (hb:Below B w w') (hB:w.heap.size<=B):w'.ownsRow base e size v n xs:=by
 refine ⟨h.1,?_⟩
 rcases h.2 with hn|⟨g,cap,cur,rfl,hbg,hg,rest⟩
 ·exact .inl hn
 ·exact .inr ⟨g,cap,cur,rfl,hbg,by rw [hb.block g (by have:=(Array.getElem?_eq_some_iff.1 hg).1;omega)];exact hg,rest⟩
theorem Stk.on {w w':World}{base:Nat}{v:Value}{st:List Sg}{B:Nat}(h:Stk w base v st) (hb:Below B w w') (hB:w.heap.size<=B):Stk w' base v st:=zdI h hb hB
theorem zgi (x:Sg):exS x=.nilIface∨∃ u y,exS x=.iface u y:=zaz x.1 x.2
theorem Stk.pop {w:World}{base:Nat}{v:Value}{st:List Sg}{x:Sg}(h:Stk w base v (st++[x])):∃ g cap,v=.slice (some ⟨g,0,none⟩) (st.length+1) cap/\st.length+1<=cap/\cap<=maxLen/\base<=g/\g < w.heap.size/\
  w.cell? ⟨g,st.length,none⟩=some (exS x)/\Stk w base (.slice (some ⟨g,0,none⟩) st.length cap) st:=by
 unfold Stk at h
 rw [List.length_append,List.length_singleton,List.map_append,List.map_singleton] at h
 have hc:=fun g=>World.ownsRow.cells h (g:=g)
 rcases h.2 with ⟨_,h2⟩|⟨g,cap,cur,rfl,hb,hg,hnc,hcm,hcs,htake⟩
 ·omega
 ·have h1:=hc g rfl st.length (exS x) (by simp)
  rw [show (⟨g,0,none⟩:Addr).add st.length=⟨g,st.length,none⟩ by unfold Addr.add;split<;>simp_all] at h1
  refine ⟨g,cap,rfl,hnc,hcm,hb,(Array.getElem?_eq_some_iff.1 hg).1,h1,by simp,.inr ⟨g,cap,cur,rfl,hb,hg,by omega,hcm,hcs,?_⟩⟩
  have h3:=congrArg (List.take st.length) htake
  rw [List.take_take] at h3
  simp only [Nat.mul_one] at h3 ⊢
  rw [Nat.min_eq_left (by omega),List.take_left' (by simp)] at h3
  exact h3
theorem Stk.nil {w:World}{base:Nat}{v:Value}(h:Stk w base v []):∃ a cap,v=.slice a 0 cap:=by
 rcases h.2 with ⟨h1,_⟩|⟨g,cap,cur,rfl,_⟩
 ·exact ⟨_,_,h1⟩
 ·exact ⟨_,_,rfl⟩
theorem Tryz.infoE:(Tryz.prog.info? 87).map (fun i=>(i.zero,i.size,i.bytes))=some (some .nilIface,1,16):=by kernel_rfl
theorem Kids.form {w:World}{sl:Value}{l:List Value}(h:Kids w sl l):∃ a,sl=.slice a l.length l.length:=by
 rcases h with ⟨rfl,rfl⟩|⟨g,rfl,_⟩
 ·exact ⟨_,rfl⟩
 ·exact ⟨_,rfl⟩
theorem Kids.at {w:World}{a:Option Addr}{m c j:Nat}{l:List Value}(h:Kids w (.slice a m c) l) (hj:j < l.length):∃ g,a=some ⟨g,0,none⟩/\w.cell? ⟨g,j,none⟩=some l[j]:=by
 rcases h with ⟨h1,rfl⟩|⟨g,h1,hc⟩
 ·simp at hj
 ·simp only [Value.slice.injEq] at h1
  exact ⟨g,h1.1,hc j hj⟩
theorem Kids.src {w:World}{sl:Value}{l:List Value}(h:Kids w sl l) (hf:∀ v∈l,Ifc v):Src Tryz.prog 1 144 sl l.length l w:=by
 rcases h with ⟨rfl,rfl⟩|⟨g,rfl,hc⟩
 ·exact Src.ofNil w Tryz.underlying144 0
 ·refine Src.ofSlice w Tryz.underlying144 _ _ _ l (by simp) (fun j u hu=>?_) (fun u hu=>?_)
  ·have hj:j < l.length:=(List.getElem?_eq_some_iff.1 hu).1
   rw [List.getElem?_eq_getElem hj] at hu
   rw [show (⟨g,0,none⟩:Addr).add j=⟨g,j,none⟩ by unfold Addr.add;split<;>simp_all,hc j hj,hu]
  ·rcases hf u hu with rfl|⟨t,y,rfl⟩<;>rfl
def zO {d:Nat}(ps:List (T d)):List Sg:=ps.map (fun p=>⟨d,p⟩)
theorem zl9 {d:Nat}(ps:List (T d)):(zO ps).map exS=ps.map (exV d):=by unfold zO;rw [List.map_map];rfl
theorem zaP {d:Nat}(ps:List (T d)):((zO ps).map zaa).sum=(ps.map (cnt d)).sum:=by unfold zO;rw [List.map_map];rfl
theorem za2 {d:Nat}(ps:List (T d)):(zO ps).length=ps.length:=by simp [zO]
theorem Stk.push {w:World}{base:Nat}{v:Value}{st:List Sg}{d:Nat}{ps:List (T d)}{n:Nat}(hn:n=st.length+ps.length) (h:w.ownsRow base 87 1 v n (st.map exS++ps.map (exV d))):Stk w base v (st++zO ps):=by
 unfold Stk
 rw [List.length_append,List.map_append,zl9,za2,<- hn]
 exact h
theorem zbc {d:Nat}(ps:List (T d)):∀ v∈ps.map (exV d),Ifc v:=fun v hv=>by
 obtain ⟨p,_,rfl⟩:=List.mem_map.1 hv
 exact zch p
theorem Cl.parts {d:Nat}{k n:Int}{s:ByteArray}{ps:List (T d)}(h:Cl (d+1) (mkT k n s ps)):ps.length<=2/\∀ p∈ps,Cl d p:=by
 rcases h with ⟨_,_,h3⟩|⟨_,_,h3⟩|⟨_,_,_,p,h4,h5⟩|⟨_,_,p,q,h3,h4,h5⟩|⟨_,_,_,h4⟩
 ·simp only at h3;subst h3;simp
 ·simp only at h3;subst h3;simp
 ·simp only at h4;subst h4;simpa using h5
 ·simp only at h3;subst h3;simp [h4,h5]
 ·simp only at h4;subst h4;simp
theorem zbd {α:Type}{l:List α}(h:l≠[]):∃ a x,l=a++[x]:=⟨l.dropLast,l.getLast h,(List.dropLast_concat_getLast h).symm⟩
def exX (x:Sx):Value:=exV x.1 x.2
theorem zY (x:Sx):exX x=.nilIface∨∃ u y,exX x=.iface u y:=zaz x.1 x.2
theorem zmb (s:ByteArray) (x y:Sx):exX (mk2 s x y)=.iface 124 (.agg #[.string s,exX x,exX y]):=zb2 _ s x y
theorem zmu (x:Sx):exX (mk1 3 x)=.iface 121 (.agg #[exX x]):=rfl
theorem zlT (x:Sx):exX (mk1 4 x)=.iface 122 (.agg #[exX x]):=rfl
theorem zh5 (n:Int):exX (mk0 1 n ⟨#[]⟩)=.iface 117 (.agg #[.int .i64 n]):=rfl
theorem zh6 (s:ByteArray):exX (mk0 2 0 s)=.iface 119 (.agg #[.string s]):=rfl
def zgs (s:Sg2):List Value:=[.string ⟨s.1.toArray⟩,.int .i64 (s.2:Int)]
def zbJ (l:List Sg2):List Value:=l.flatMap zgs
theorem ze3 (a b:List Sg2):zbJ (a++b)=zbJ a++zbJ b:=by simp [zbJ]
theorem ziZ (l:List Sg2):(zbJ l).length=l.length*2:=by
 induction l with
 | nil=>rfl
 | cons a r ih=>simp [zbJ,zgs] at ih ⊢;omega
structure Rdr (w:World) (X:Nat) (y:Yd) (vv ww:Value):Prop where
 b:B4 w X vv ww (.int .i64 (y.o:Int)) (.bool y.b)
 v:w.ownsRow (X+1) 87 1 vv y.V.length (y.V.reverse.map exX)
 w:w.ownsRow (X+1) 192 2 ww y.W.length (zbJ y.W.reverse)
 a:∀ g,vv.ownBlock=some g->ww.ownBlock≠some g
theorem zkZ {w w':World}{base e size n:Nat}{v:Value}{xs:List Value}(h:w.ownsRow base e size v n xs) (hk:∀ g,v.ownBlock=some g->w'.heap[g]?=w.heap[g]?):w'.ownsRow base e size v n xs:=zaG h hk
theorem Rdr.on {w w':World}{X:Nat}{y:Yd}{vv ww:Value}(h:Rdr w X y vv ww) (hb:Below w.heap.size w w'):Rdr w' X y vv ww:=
 ⟨h.b.keep hb,zdI h.v hb zn2,zdI h.w hb zn2,h.a⟩
theorem Rdr.drew {w:World}{X:Nat}{y:Yd}{vv ww:Value}(h:Rdr w X y vv ww):Rdr w.drew X y vv ww:=⟨⟨h.b.c0,h.b.c1,h.b.c2,h.b.c3,h.b.f0,h.b.f1,h.b.f2,h.b.f3⟩,h.v,h.w,h.a⟩
theorem Rdr.drewN {w:World}{X:Nat}{y:Yd}{vv ww:Value}(h:Rdr w X y vv ww) (m:Nat):Rdr (w.drewN m) X y vv ww:=h.on ⟨rfl,rfl,rfl,Nat.le_refl _,fun _ _=>rfl⟩
theorem Rdr.lt {w:World}{X:Nat}{y:Yd}{vv ww:Value}(h:Rdr w X y vv ww):X < w.heap.size:=h.b.lt
structure Fr2 (X:Nat) (vv ww:Value) (w w':World) (vv' ww':Value):Prop where
 size:w.heap.size<=w'.heap.size
 block:∀ k,k < w.heap.size->k≠X->vv.ownBlock≠some k->ww.ownBlock≠some k->w'.heap[k]?=w.heap[k]?
 lv:∀ g,vv'.ownBlock=some g->vv.ownBlock=some g∨w.heap.size<=g
 lw:∀ g,ww'.ownBlock=some g->ww.ownBlock=some g∨w.heap.size<=g
theorem Fr2.refl (X:Nat) (vv ww:Value) (w:World):Fr2 X vv ww w w vv ww:=⟨Nat.le_refl _,fun _ _ _ _ _=>rfl,fun _ h=>.inl h,fun _ h=>.inl h⟩
theorem Fr2.on {X:Nat}{vv ww vv' ww':Value}{w w1 w2:World}(h:Fr2 X vv ww w w1 vv' ww') (hb:Below w1.heap.size w1 w2):Fr2 X vv ww w w2 vv' ww':=
 ⟨zn5 h.size hb.size,fun k hk a b c=>(hb.block k (zn4 hk h.size)).trans (h.block k hk a b c),h.lv,h.lw⟩
theorem Fr2.setX {X:Nat}{vv ww vv' ww':Value}{w w1:World}(h:Fr2 X vv ww w w1 vv' ww') (i:Nat) (u:Value):Fr2 X vv ww w (w1.setCell ⟨X,i,none⟩ u) vv' ww':=
 ⟨by simpa using h.size,fun k hk a b c=>(Below.heap_setCell _ _ _ _ (fun e=>a e)).trans (h.block k hk a b c),h.lv,h.lw⟩
theorem Fr2.setV {X g:Nat}{vv ww vv' ww':Value}{w w1:World}(h:Fr2 X vv ww w w1 vv' ww') (hg:vv'.ownBlock=some g) (i:Nat) (u:Value):Fr2 X vv ww w (w1.setCell ⟨g,i,none⟩ u) vv' ww':=
 ⟨by simpa using h.size,fun k hk a b c=>(Below.heap_setCell _ _ _ _ (fun e=>by
  rcases h.lv g hg with q|q
  ·exact b (by rw [q];exact congrArg some e.symm)
  ·have:k=g:=e
   omega)).trans (h.block k hk a b c),h.lv,h.lw⟩
theorem Fr2.rows {X:Nat}{vv ww vv' ww' vv2 ww2:Value}{w w1:World}(h:Fr2 X vv ww w w1 vv' ww') (hv:vv2.ownBlock=vv'.ownBlock) (hw:ww2.ownBlock=ww'.ownBlock):Fr2 X vv ww w w1 vv2 ww2:=
 ⟨h.size,h.block,fun g hg=>h.lv g (hv ▸ hg),fun g hg=>h.lw g (hw ▸ hg)⟩
theorem Fr2.trans {X:Nat}{vv ww v1 u1 v2 u2:Value}{w w1 w2:World}(h:Fr2 X vv ww w w1 v1 u1) (k:Fr2 X v1 u1 w1 w2 v2 u2):Fr2 X vv ww w w2 v2 u2:=by
 refine ⟨zn5 h.size k.size,fun j hj a b c=>?_,fun g hg=>?_,fun g hg=>?_⟩
 ·rw [k.block j (zn4 hj h.size) a (fun e=>?_) (fun e=>?_),h.block j hj a b c]
  ·rcases h.lv j e with q|q
   ·exact b q
   ·omega
  ·rcases h.lw j e with q|q
   ·exact c q
   ·omega
 ·rcases k.lv g hg with q|q
  ·exact h.lv g q
  ·exact .inr (zn5 h.size q)
 ·rcases k.lw g hg with q|q
  ·exact h.lw g q
  ·exact .inr (zn5 h.size q)
theorem zbH {w:World}{base e size n:Nat}{v:Value}{xs:List Value}(h:w.ownsRow base e size v n xs):∃ a cap,v=.slice a n cap/\n<=cap:=by
 rcases h.2 with ⟨h1,h2⟩|⟨g,cap,cur,h1,_,_,h3,_⟩
 ·exact ⟨none,0,by rw [h1,h2],by omega⟩
 ·exact ⟨_,_,h1,h3⟩
theorem zcO {w:World}{base e:Nat}{v:Value}{s:Sg2}{W:List Sg2}(h:w.ownsRow base e 2 v (s :: W).length (zbJ (s :: W).reverse)):∃ g cap,v=.slice (some ⟨g,0,none⟩) (W.length+1) cap/\W.length+1<=cap/\cap<=maxLen/\base<=g/\g < w.heap.size/\
  w.cell? ⟨g,W.length*2,none⟩=some (.string ⟨s.1.toArray⟩)/\w.cell? ⟨g,W.length*2+1,none⟩=some (.int .i64 (s.2:Int))/\w.ownsRow base e 2 (.slice (some ⟨g,0,none⟩) W.length cap) W.length (zbJ W.reverse):=by
 rw [List.length_cons,List.reverse_cons,ze3] at h
 have hl:(zbJ W.reverse).length=W.length*2:=by rw [ziZ,List.length_reverse]
 have hc:=fun g=>World.ownsRow.cells h (g:=g)
 have h':=h
 rcases h.2 with ⟨_,h2⟩|⟨g,cap,cur,rfl,hb,hg,hnc,hcm,hcs,htake⟩
 ·omega
 ·have c0:=hc g rfl (W.length*2) (.string ⟨s.1.toArray⟩) (by rw [List.getElem?_append_right (by omega),hl,Nat.sub_self];rfl)
  have c1:=hc g rfl (W.length*2+1) (.int .i64 (s.2:Int)) (by rw [List.getElem?_append_right (by omega),hl,Nat.add_sub_cancel_left];rfl)
  have hp:∀ i,(⟨g,0,none⟩:Addr).add i=⟨g,i,none⟩:=fun i=>by unfold Addr.add;split<;>simp_all
  rw [hp] at c0 c1
  exact ⟨g,cap,rfl,hnc,hcm,hb,(Array.getElem?_eq_some_iff.1 hg).1,c0,c1,ownsRow_pop hl h'⟩
theorem zlQ {w:World}{base e size:Nat}{v:Value}{xs:List Value}(h:w.ownsRow base e size v 0 xs):∃ a cap,v=.slice a 0 cap:=by
 obtain ⟨a,cap,rfl,_⟩:=zbH h
 exact ⟨a,cap,rfl⟩
theorem zgy {w:World}{X:Nat}{y:Yd}{vv ww:Value}(h:Rdr w X y vv ww) (hl:y.W.length<=4000):Calls Tryz.prog 106 #[.pointer (some ⟨X,0,none⟩)] w fun e w'=>e=.returned (.int .i64 (zbV y.W:Int))/\∃ m,w'=w.drewN m:=by
 have hc:=h.b.c1
 have hw:=h.w
 clear h
 obtain ⟨V,W,o,b⟩:=y
 simp only at hc hw hl ⊢
 cases W with
 | nil=>
  obtain ⟨a,cap,rfl⟩:=zlQ hw
  clear hw
  go_enter Tryz.func106,Tryz.ntmps106
  go_wp2
  go_ret
  exact ⟨rfl,0,rfl⟩
 | cons s W=>
  obtain ⟨g,cap,rfl,h1,h2,h3,h4,c0,c1,_⟩:=zcO hw
  rw [List.length_cons] at hl
  have i1:((W.length:Int)+1 == 0)=false:=beq_eq_false_iff_ne.2 (by omega)
  have i2:IntKind.i64.wrap ((W.length:Int)+1 - 1)=(W.length:Int):=by rw [IntKind.wrap_i64];omega
  have i3:(W.length:Int) < (W.length:Int)+1:=by omega
  have i4:(0:Int)<=(W.length:Int):=by omega
  clear hw
  go_enter Tryz.func106,Tryz.ntmps106
  go_wp2
  go_quiet (fail)
  go_wp2
  go_ret
  exact ⟨rfl,_,rfl⟩
theorem zcd (g i:Nat):(⟨g,0,none⟩:Addr).add i=⟨g,i,none⟩:=by unfold Addr.add;split<;>simp_all
theorem zdJ {w:World}{base e:Nat}{v:Value}{x:Sx}{V:List Sx}(h:w.ownsRow base e 1 v (x :: V).length ((x :: V).reverse.map exX)):∃ g cap,v=.slice (some ⟨g,0,none⟩) (V.length+1) cap/\V.length+1<=cap/\cap<=maxLen/\base<=g/\g < w.heap.size/\
  w.cell? ⟨g,V.length,none⟩=some (exX x)/\(∀ j,w.frozen? ⟨g,j,none⟩=false)/\w.ownsRow base e 1 (.slice (some ⟨g,0,none⟩) (V.length+1) cap) (V.length+1) (V.reverse.map exX++[exX x]):=by
 rw [List.length_cons,List.reverse_cons,List.map_append] at h
 have hl:(V.reverse.map exX).length=V.length:=by simp
 have hc:=fun g=>World.ownsRow.cells h (g:=g)
 have h':=h
 rcases h.2 with ⟨_,h2⟩|⟨g,cap,cur,rfl,hb,hg,hnc,hcm,hcs,htake⟩
 ·omega
 ·have c0:=hc g rfl V.length (exX x) (by rw [List.getElem?_append_right (by omega),hl,Nat.sub_self];rfl)
  rw [zcd] at c0
  exact ⟨g,cap,rfl,hnc,hcm,hb,(Array.getElem?_eq_some_iff.1 hg).1,c0,fun j=>World.ownsRow.frozenAt h' j,h'⟩
theorem zgn {w:World}{base e g cap n:Nat}{xs:List Value}{a u:Value}(hn:xs.length=n) (h:w.ownsRow base e 1 (.slice (some ⟨g,0,none⟩) (n+1) cap) (n+1) (xs++[a])):(w.setCell ⟨g,n,none⟩ u).ownsRow base e 1 (.slice (some ⟨g,0,none⟩) (n+1) cap) (n+1) (xs++[u]):=by
 have:=(World.ownsRow.stored h n u).1
 subst hn
 rw [List.set_append_right _ _ zn2,Nat.sub_self] at this
 exact this
theorem zhZ {w:World}{X g i:Nat}{y:Yd}{vv ww:Value}(h:w.ownsRow (X+1) 192 2 ww y.W.length (zbJ y.W.reverse)) (ha:ww.ownBlock≠some g) (u:Value):(w.setCell ⟨g,i,none⟩ u).ownsRow (X+1) 192 2 ww y.W.length (zbJ y.W.reverse):=
 zkZ h (fun k hk=>Below.heap_setCell _ _ _ _ (fun e=>ha (by rw [hk];exact congrArg some e)))
theorem zgq {w:World}{X:Nat}{x z:Sx}{V:List Sx}{W:List Sg2}{o:Nat}{b:Bool}{vv ww:Value}(h:Rdr w X ⟨x :: z :: V,W,o,b⟩ vv ww) (s:Sg2) (hs:¬ s.2=6) (hl:V.length<=4000) :
  Calls Tryz.prog 109 #[.pointer (some ⟨X,0,none⟩),.agg #[.string ⟨s.1.toArray⟩,.int .i64 (s.2:Int)]] w fun e w'=>(∃ u,e=.returned u)/\(∃ vv',Rdr w' X ⟨mk2 ⟨s.1.toArray⟩ z x :: V,W,o,b⟩ vv' ww/\Fr2 X vv ww w w' vv' ww)/\Below X w w':=by
 have hb:=h.b
 have hw:=h.w
 have ha:=h.a
 obtain ⟨g,cap,rfl,h1,h2,h3,h4,c1,fz,ho⟩:=zdJ h.v
 simp only [List.length_cons] at h1 c1 ho hb ha
 have ho2:w.ownsRow (X+1) 87 1 (.slice (some ⟨g,0,none⟩) (V.length+1) cap) (V.length+1) ((z :: V).reverse.map exX):=ownsRow_pop (by simp) ho
 have c0:w.cell? ⟨g,V.length,none⟩=some (exX z):=by
  have:=World.ownsRow.cells ho2 (g:=g) rfl V.length (exX z) (by rw [List.reverse_cons,List.map_append,List.getElem?_append_right (by simp)];simp)
  rwa [zcd] at this
 obtain ⟨q,hq⟩:∃ q,exX x=q:=⟨_,rfl⟩
 obtain ⟨r,hr⟩:∃ r,exX z=r:=⟨_,rfl⟩
 have hqf:=zY x
 have hrf:=zY z
 rw [hq] at c1 hqf
 rw [hr] at c0 hrf
 have l1:((s.2:Int) != 6)=true:=by simp;omega
 have i2:IntKind.i64.wrap ((V.length:Int)+1+1 - 1)=(V.length:Int)+1:=by rw [IntKind.wrap_i64];omega
 have i3:IntKind.i64.wrap ((V.length:Int)+1 - 1)=(V.length:Int):=by rw [IntKind.wrap_i64];omega
 have i4:IntKind.i64.wrap ((V.length:Int)+1)=(V.length:Int)+1:=by rw [IntKind.wrap_i64];omega
 have hbel:Below w.heap.size w (w.alloc (.cells #[.string ⟨s.1.toArray⟩,.int .i64 (s.2:Int)] 192)):=(Below.refl _ w).alloc zn2 _
 have hA:=hb.keep hbel
 have c1':=(hbel.cell (p:=⟨g,V.length+1,none⟩) h4).trans c1
 have c0':=(hbel.cell (p:=⟨g,V.length,none⟩) h4).trans c0
 have z1:=(hbel.frozen (p:=⟨g,V.length,none⟩) h4).trans (fz _)
 have ho3:=World.ownsRow.alloc ho2 (.cells #[.string ⟨s.1.toArray⟩,.int .i64 (s.2:Int)] 192)
 have hw3:=World.ownsRow.alloc hw (.cells #[.string ⟨s.1.toArray⟩,.int .i64 (s.2:Int)] 192)
 have p1:(w.alloc (.cells #[.string ⟨s.1.toArray⟩,.int .i64 (s.2:Int)] 192)).cell? ⟨w.heap.size,0,none⟩=some (.string ⟨s.1.toArray⟩):=by simp
 have p2:(w.alloc (.cells #[.string ⟨s.1.toArray⟩,.int .i64 (s.2:Int)] 192)).cell? ⟨w.heap.size,1,none⟩=some (.int .i64 (s.2:Int)):=by simp
 obtain ⟨y0,y1,y2,y3,f0,f1,f2,f3⟩:=id hA
 have j1:(V.length:Int) < (V.length:Int)+1+1:=by omega
 have j2:(V.length:Int)+1 < (V.length:Int)+1+1:=by omega
 have j3:(0:Int)<=(V.length:Int):=by omega
 have j4:(0:Int)<=(V.length:Int)+1:=by omega
 have j5:(V.length:Int)+1<=(cap:Int):=by omega
 have hu:exX (mk2 ⟨s.1.toArray⟩ z x)=.iface 124 (.agg #[.string ⟨s.1.toArray⟩,r,q]):=by rw [zmb,hr,hq]
 have hXg:g≠X:=by omega
 have haw:ww.ownBlock≠some g:=ha g rfl
 have ho4:(w.alloc (.cells #[.string ⟨s.1.toArray⟩,.int .i64 (s.2:Int)] 192)).ownsRow (X+1) 87 1 (.slice (some ⟨g,0,none⟩) (V.length+1) cap) (V.length+1) (V.reverse.map exX++[exX z]):=by rw [List.reverse_cons,List.map_append] at ho3;exact ho3
 clear h hb ha hw ho ho2 ho3 c0 c1 fz hq hr
 rcases hqf with rfl|⟨qu,qy,rfl⟩<;>rcases hrf with rfl|⟨ru,ry,rfl⟩
 all_goals (
  go_enter Tryz.func109,Tryz.ntmps109
  go_wp2
  generalize w.alloc (.cells #[.string ⟨s.1.toArray⟩,.int .i64 (s.2:Int)] 192)=wa at *
  go_region
  have ho5:=zgn (u:=exX (mk2 ⟨s.1.toArray⟩ z x)) (by simp) ho4
  have hB:=hA.far hXg (i:=V.length) (exX (mk2 ⟨s.1.toArray⟩ z x))
  have hw4:=zhZ (y:=⟨mk2 ⟨s.1.toArray⟩ z x :: V,W,o,b⟩) hw3 haw (exX (mk2 ⟨s.1.toArray⟩ z x)) (vv:=.nilIface) (i:=V.length)
  have hF:=(((Fr2.refl X (.slice (some ⟨g,0,none⟩) (V.length+1+1) cap) ww w).on hbel).setV (g:=g) rfl V.length (exX (mk2 ⟨s.1.toArray⟩ z x)))
  have hbel2:Below X w (wa.setCell ⟨g,V.length,none⟩ (exX (mk2 ⟨s.1.toArray⟩ z x))):=(hbel.mono (by omega)).setCell (by show X<=g;omega) _
  rw [hu] at ho5 hB hw4 hbel2 hF
  clear hA y0 y1 y2 y3 f0 f1 f2 f3 ho4 hw3 hbel c0' c1' z1 p1 p2
  obtain ⟨y0,y1,y2,y3,f0,f1,f2,f3⟩:=id hB
  generalize wa.setCell ⟨g,V.length,none⟩ _=wb at *
  go_wp2
  go_end0
  refine ⟨⟨_,rfl⟩,⟨_,Rdr.drew ⟨hB.set0 _,?_,ownsRow_setCell_below hw4 (Nat.lt_succ_self X) _,fun k hk=>?_⟩,((hF.setX 0 _).on (zn3.drew)).rows rfl rfl⟩,((hbel2.setCell zn2 _).drew)⟩
  ·show World.ownsRow _ _ _ _ _ (V.length+1) ((mk2 ⟨s.1.toArray⟩ z x :: V).reverse.map exX)
   rw [List.reverse_cons,List.map_append,List.map_singleton,hu]
   exact ownsRow_setCell_below ho5 (Nat.lt_succ_self X) _
  ·simp only [Value.ownBlock,Option.some.injEq] at hk
   rw [<- hk];exact haw)
theorem zhW {w:World}{X:Nat}{x:Sx}{V:List Sx}{W:List Sg2}{o:Nat}{b:Bool}{vv ww:Value}(h:Rdr w X ⟨x :: V,W,o,b⟩ vv ww) (t:List UInt8) (hl:V.length<=4000) :
  Calls Tryz.prog 109 #[.pointer (some ⟨X,0,none⟩),.agg #[.string ⟨t.toArray⟩,.int .i64 6]] w fun e w'=>(∃ u,e=.returned u)/\(∃ vv',Rdr w' X ⟨mk1 (if t=[33] then 3 else 4) x :: V,W,o,b⟩ vv' ww/\Fr2 X vv ww w w' vv' ww)/\Below X w w':=by
 have hb:=h.b
 have hw:=h.w
 have ha:=h.a
 obtain ⟨g,cap,rfl,h1,h2,h3,h4,c1,fz,ho⟩:=zdJ h.v
 obtain ⟨q,hq⟩:∃ q,exX x=q:=⟨_,rfl⟩
 have hqf:=zY x
 rw [hq] at c1 hqf
 have i2:IntKind.i64.wrap ((V.length:Int)+1 - 1)=(V.length:Int):=by rw [IntKind.wrap_i64];omega
 have i4:IntKind.i64.wrap ((V.length:Int)+1)=(V.length:Int)+1:=by rw [IntKind.wrap_i64];omega
 have hbel:Below w.heap.size w (w.alloc (.cells #[.string ⟨t.toArray⟩,.int .i64 6] 192)):=(Below.refl _ w).alloc zn2 _
 have hA:=hb.keep hbel
 have c1':=(hbel.cell (p:=⟨g,V.length,none⟩) h4).trans c1
 have z1:=(hbel.frozen (p:=⟨g,V.length,none⟩) h4).trans (fz _)
 have ho4:=World.ownsRow.alloc ho (.cells #[.string ⟨t.toArray⟩,.int .i64 6] 192)
 have hw3:=World.ownsRow.alloc hw (.cells #[.string ⟨t.toArray⟩,.int .i64 6] 192)
 have p1:(w.alloc (.cells #[.string ⟨t.toArray⟩,.int .i64 6] 192)).cell? ⟨w.heap.size,0,none⟩=some (.string ⟨t.toArray⟩):=by simp
 have p2:(w.alloc (.cells #[.string ⟨t.toArray⟩,.int .i64 6] 192)).cell? ⟨w.heap.size,1,none⟩=some (.int .i64 6):=by simp
 obtain ⟨y0,y1,y2,y3,f0,f1,f2,f3⟩:=id hA
 have j2:(V.length:Int) < (V.length:Int)+1:=by omega
 have j3:(0:Int)<=(V.length:Int):=by omega
 have j4:(0:Int)<=(V.length:Int)+1:=by omega
 have j5:(V.length:Int)+1<=(cap:Int):=by omega
 have hXg:g≠X:=by omega
 have haw:ww.ownBlock≠some g:=ha g rfl
 obtain ⟨k,hk⟩:∃ k:Int,(if t=[33] then (3:Int) else 4)=k:=⟨_,rfl⟩
 rw [hk]
 have hkk:(t == [33])=true/\exX (mk1 k x)=.iface 121 (.agg #[q])∨(t == [33])=false/\exX (mk1 k x)=.iface 122 (.agg #[q]):=by
  rw [<- hk,<- hq]
  by_cases e:t=[33]
  ·left;rw [if_pos e];exact ⟨by rw [e];rfl,zmu x⟩
  ·right;rw [if_neg e];exact ⟨beq_eq_false_iff_ne.2 e,zlT x⟩
 clear h ha c1 fz hq hk
 have hob:∀ u:Value,(w.setCell ⟨g,V.length,none⟩ u).ownsRow (X+1) 87 1 (.slice (some ⟨g,0,none⟩) (V.length+1) cap) (V.length+1) (V.reverse.map exX++[u]):=fun u=>zgn (by simp) ho
 have hwb:∀ u:Value,(w.setCell ⟨g,V.length,none⟩ u).ownsRow (X+1) 192 2 ww W.length (zbJ W.reverse):=fun u=>zhZ (y:=⟨V,W,o,b⟩) hw haw u (vv:=.nilIface)
 have hbb:∀ u:Value,B4 (w.setCell ⟨g,V.length,none⟩ u) X (.slice (some ⟨g,0,none⟩) (V.length+1) cap) ww (.int .i64 (o:Int)) (.bool b):=fun u=>hb.far hXg u
 have hbl:∀ u:Value,Below X w (w.setCell ⟨g,V.length,none⟩ u):=fun u=>zn3.setCell (by show X<=g;omega) _
 have hfr:∀ u:Value,Fr2 X (.slice (some ⟨g,0,none⟩) (V.length+1) cap) ww w (w.setCell ⟨g,V.length,none⟩ u) (.slice (some ⟨g,0,none⟩) (V.length+1) cap) ww:=fun u=>(Fr2.refl X _ ww w).setV (g:=g) rfl V.length u
 have hal:∀ wx:World,Below wx.heap.size wx (wx.alloc (.cells #[.string ⟨t.toArray⟩,.int .i64 6] 192)):=fun wx=>zn3.alloc zn2 _
 have hX:=hb.lt
 clear hb hw ho ho4 hw3 hbel hA
 rcases hqf with rfl|⟨qu,qy,rfl⟩<;>rcases hkk with ⟨e1,hu⟩|⟨e1,hu⟩
 all_goals (
  have hB:=hbb (exX (mk1 k x))
  have ho5:=hob (exX (mk1 k x))
  have hw4:=hwb (exX (mk1 k x))
  have hb2:=hbl (exX (mk1 k x))
  have hF:=hfr (exX (mk1 k x))
  rw [hu] at hB ho5 hw4 hb2 hF
  obtain ⟨q0,q1,q2,q3,g0,g1,g2,g3⟩:=id (hB.keep (hal _))
  clear hob hwb hbb hbl hfr
  go_enter Tryz.func109,Tryz.ntmps109
  go_wp2
  go_end0
  refine ⟨⟨_,rfl⟩,⟨_,⟨(hB.set0 _).keep (hal _),?_,World.ownsRow.alloc (ownsRow_setCell_below hw4 (Nat.lt_succ_self X) _) _,fun k hk=>?_⟩,(hF.setX 0 _).on (hal _)⟩,((hb2.setCell (Nat.le_refl X) _).alloc (by simp;omega) _)⟩
  ·show World.ownsRow _ _ _ _ _ (V.length+1) ((mk1 k x :: V).reverse.map exX)
   rw [List.reverse_cons,List.map_append,List.map_singleton,hu]
   exact World.ownsRow.alloc (ownsRow_setCell_below ho5 (Nat.lt_succ_self X) _) _
  ·simp only [Value.ownBlock,Option.some.injEq] at hk
   rw [<- hk];exact haw)
theorem zgl {w:World}{X:Nat}{V:List Sx}{W:List Sg2}{o:Nat}{b:Bool}{vv ww:Value}(h:Rdr w X ⟨V,W,o,b⟩ vv ww) (s:Sg2) (h6:s.2=6->1<=V.length) (h2:s.2≠6->2<=V.length) (hl:V.length<=4000) :
  Calls Tryz.prog 109 #[.pointer (some ⟨X,0,none⟩),.agg #[.string ⟨s.1.toArray⟩,.int .i64 (s.2:Int)]] w fun e w'=>(∃ u,e=.returned u)/\(∃ vv',Rdr w' X ⟨jn1 V s,W,o,b⟩ vv' ww/\Fr2 X vv ww w w' vv' ww)/\Below X w w':=by
 by_cases hs:s.2=6
 ·match V,h6 hs,h,hl with
  | x :: V,_,h,hl=>
   have e:jn1 (x :: V) s=mk1 (if s.1=[33] then 3 else 4) x :: V:=by unfold jn1;rw [if_pos hs]
   rw [e,hs]
   exact zhW h s.1 (by rw [List.length_cons] at hl;omega)
 ·match V,h2 hs,h,hl with
  | x :: z :: V,_,h,hl=>
   have e:jn1 (x :: z :: V) s=mk2 ⟨s.1.toArray⟩ z x :: V:=by unfold jn1;rw [if_neg hs]
   rw [e]
   exact zgq h s hs (by rw [List.length_cons,List.length_cons] at hl;omega)
def zbg:List Sg2->Nat
 | []=>0
 | s :: W=>zbg W+(if s.2=0∨s.2=6 then 0 else 1)
def brk:List Sg2->Nat
 | []=>0
 | s :: W=>brk W+(if s.2=0 then 1 else 0)
theorem zix {V:List Sx}{s:Sg2}{W:List Sg2}(h0:s.2≠0) (h:V.length=zbg (s :: W)+1):(jn1 V s).length=zbg W+1/\(s.2=6->1<=V.length)/\(s.2≠6->2<=V.length):=by
 unfold zbg at h
 unfold jn1
 by_cases h6:s.2=6
 ·rw [if_pos (.inr h6)] at h
  rw [if_pos h6]
  refine ⟨?_,fun _=>by omega,fun h=>absurd h6 h⟩
  match V,h with
  | x :: V,h=>exact h
 ·rw [if_neg (fun q=>q.elim h0 h6)] at h
  rw [if_neg h6]
  refine ⟨?_,fun h=>absurd h h6,fun _=>by omega⟩
  match V,h with
  | x :: z :: V,h=>
   rw [List.length_cons,List.length_cons] at h
   show (V.length+1)=_
   omega
  | [x],h=>simp at h
theorem zdW {k:Nat}(hk:1<=k):∀ (W:List Sg2) (V:List Sx),V.length=zbg W+1->(jn k V W).1.length=zbg (jn k V W).2+1/\brk (jn k V W).2=brk W/\(jn k V W).2.length<=W.length/\zbV (jn k V W).2 < k
 | [],V,h=>⟨h,rfl,Nat.le_refl _,hk⟩
 | s :: W,V,h=>by
  unfold jn
  by_cases hs:k<=s.2
  ·rw [if_pos hs]
   obtain ⟨a,b,c,d⟩:=zdW hk W (jn1 V s) (zix (by omega) h).1
   refine ⟨a,?_,by rw [List.length_cons];omega,d⟩
   rw [b]
   show brk W=brk W+_
   rw [if_neg (by omega)];rfl
  ·rw [if_neg hs]
   exact ⟨h,rfl,Nat.le_refl _,by show s.2 < k;omega⟩
theorem zfO:∀ W,zbg W<=W.length
 | []=>Nat.le_refl _
 | s :: W=>by
  have:=zfO W
  show zbg W+_<=W.length+1
  split<;>omega
def wlen (X:Nat) (w:World):Nat:=match w.cell? ⟨X,1,none⟩ with|some (.slice _ n _)=>n|_=>0
theorem Rdr.wlen {w:World}{X:Nat}{y:Yd}{vv ww:Value}(h:Rdr w X y vv ww):wlen X w=y.W.length:=by
 obtain ⟨a,cap,rfl,_⟩:=zbH h.w
 unfold Go.Proofs.YtlkdaldfklaicaaGreatDoor.wlen
 rw [h.b.c1]
theorem Rdr.popW {w:World}{X g cap:Nat}{V:List Sx}{s:Sg2}{W:List Sg2}{o:Nat}{b:Bool}{vv:Value}(h:Rdr w X ⟨V,s :: W,o,b⟩ vv (.slice (some ⟨g,0,none⟩) (W.length+1) cap)) :
  Rdr (w.setCell ⟨X,1,none⟩ (.slice (some ⟨g,0,none⟩) W.length cap)) X ⟨V,W,o,b⟩ vv (.slice (some ⟨g,0,none⟩) W.length cap):=by
 obtain ⟨g',cap',e,_,_,_,_,_,_,ho⟩:=zcO h.w
 simp only [Value.slice.injEq,Option.some.injEq,Addr.mk.injEq,and_true,true_and] at e
 obtain ⟨rfl,rfl⟩:=e
 exact ⟨h.b.set1 _,ownsRow_setCell_below h.v (Nat.lt_succ_self X) _,ownsRow_setCell_below ho (Nat.lt_succ_self X) _,h.a⟩
theorem zar (B:Nat) (w:World) (m:Nat):Below B w (w.drewN m):=⟨rfl,rfl,rfl,Nat.le_refl _,fun _ _=>rfl⟩
theorem zdg {w:World}{X:Nat}{V:List Sx}{W:List Sg2}{o:Nat}{b:Bool}{vv ww:Value}(h:Rdr w X ⟨V,W,o,b⟩ vv ww) (k:Nat) (hk:1<=k) (hk6:k<=7) (hV:V.length=zbg W+1) (hl:W.length<=3001) :
  Calls Tryz.prog 101 #[.pointer (some ⟨X,0,none⟩),.int .i64 (k:Int)] w fun e w'=>(∃ u,e=.returned u)/\(∃ vv' ww',Rdr w' X ⟨(jn k V W).1,(jn k V W).2,o,b⟩ vv' ww'/\Fr2 X vv ww w w' vv' ww')/\Below X w w':=by
 obtain ⟨R,hR⟩:∃ R,jn k V W=R:=⟨_,rfl⟩
 rw [hR]
 have hR0:Hid (jn k V W=R):=hR
 clear hR
 go_enter Tryz.func101,Tryz.ntmps101
 go_wp2
 go_loopw [] (fun wr=>∃ (V':List Sx) (W':List Sg2) (vv' ww':Value),Rdr wr X ⟨V',W',o,b⟩ vv' ww'/\Fr2 X vv ww w wr vv' ww'/\Hid (jn k V' W'=R)/\Hid (V'.length=zbg W'+1)/\W'.length<=3001/\Below X w wr) (fun wr=>wlen X wr)
 case atStart=>exact ⟨V,W,vv,ww,h,Fr2.refl X vv ww w,hR0,hV,hl,Below.refl _ _⟩
 case round=>
  obtain ⟨V',W',vv',ww',hr,hf,hj,hv,hl',hb⟩:=hrel
  have hL:=zgy hr (by show W'.length<=4000;omega)
  simp only at hL
  clear h hR0 hV hl
  by_cases hc:k<=zbV W'
  ·cases W' with
   | nil=>exact absurd hc (by show ¬ k<=0;omega)
   | cons s W'=>
   have hc':k<=s.2:=hc
   have i1:(k:Int)<=(zbV (s :: W'):Int):=by omega
   have hm:=hr.wlen
   obtain ⟨hn1,hn2,hn3⟩:=zix (W:=W') (by omega) hv.out
   have hjj:Hid (jn k (jn1 V' s) W'=R):=by
    have:=hj.out
    rw [jn,if_pos hc'] at this
    exact this
   have hnn:Hid ((jn1 V' s).length=zbg W'+1):=hn1
   have hvl:V'.length<=4000:=by
    have:=zfO (s :: W')
    have:=hv.out
    omega
   obtain ⟨g,cap,rfl,a1,a2,a3,a4,c0,c1,ho⟩:=zcO hr.w
   have hJ:=fun m=>zgl (hr.drewN m) s hn2 hn3 hvl
   have c0':∀ m,(wr.drewN m).cell? ⟨g,W'.length*2,none⟩=some (.string ⟨s.1.toArray⟩):=fun _=>c0
   have c1':∀ m,(wr.drewN m).cell? ⟨g,W'.length*2+1,none⟩=some (.int .i64 (s.2:Int)):=fun _=>c1
   have y1:∀ m,(wr.drewN m).cell? ⟨X,1,none⟩=some (.slice (some ⟨g,0,none⟩) (W'.length+1) cap):=fun _=>hr.b.c1
   rw [List.length_cons] at hl'
   have i2:IntKind.i64.wrap ((W'.length:Int)+1 - 1)=(W'.length:Int):=by rw [IntKind.wrap_i64];omega
   have i3:(W'.length:Int) < (W'.length:Int)+1:=by omega
   have i4:(0:Int)<=(W'.length:Int):=by omega
   have i5:(W'.length:Int)<=(cap:Int):=by omega
   clear hj hv hn1 hn2 hn3
   go_wp2_with (first
    | (go_at_call 106;refine hL.mono ?_;rintro e w1 ⟨rfl,m,rfl⟩;have hJm:=hJ m;have y1m:=y1 m;have c0m:=c0' m;have c1m:=c1' m;clear hJ y1 c0' c1' c0 c1 hL;have hbm:Below X w (wr.drewN m):=hb.trans (zar _ _ m);have hfm:=hf.on (zar _ _ m);generalize wr.drewN m=wm at *)
    | (go_at_call 109;refine hJm.mono ?_;rintro e w2 ⟨⟨u,rfl⟩,⟨vv2,hr2,hf2⟩,b2⟩;have hb2:=hbm.trans b2;have hf3:=hfm.trans hf2;obtain ⟨q0,q1,q2,q3,g0,g1,g2,g3⟩:=id hr2.b))
   have hr3:=hr2.popW
   exact ⟨⟨_,_,_,_,hr3,(hf3.setX 1 _).rows rfl rfl,hjj,hnn,by omega,hb2.setCell (Nat.le_refl X) _⟩,by rw [hr3.wlen,hm];exact Nat.lt_succ_self _⟩
  ·have i1:¬ (k:Int)<=(zbV W':Int):=by omega
   have hjj:=hj.out
   rw [zbq (by omega)] at hjj
   subst hjj
   go_wp2_with (first
    | (go_at_call 106;refine hL.mono ?_;rintro e w1 ⟨rfl,m,rfl⟩))
   go_end0
   exact ⟨⟨_,rfl⟩,⟨_,_,hr.drewN m,hf.on (zar _ _ m)⟩,hb.trans (zar _ _ m)⟩
