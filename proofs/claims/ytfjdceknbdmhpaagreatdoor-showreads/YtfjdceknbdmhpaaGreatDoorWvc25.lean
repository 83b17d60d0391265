import Derived.Test.YtfjdceknbdmhpaaGreatDoorWvc24
import Derived.Test.YtfjdceknbdmhpaaGreatDoorWvc08
/- What the program's takesBehind does. -/
namespace Go.Proofs.YtfjdceknbdmhpaaGreatDoor
open Go.RowKit Go.Lib
set_option linter.unusedSimpArgs false
set_option linter.unusedVariables false
attribute [local go_sem ↓] Go.wp_at_zero Go.wp_at_succ
set_option maxRecDepth 100000 in
set_option maxHeartbeats 4000000 in
theorem behind_kind {w:World} {X K:Nat} {seg:List Ru} {y:Yd} {vv ww:Value} (h:Rdr w X y vv ww) (ln co:Int) (hK:K≠3) :
  Calls Tryz.prog 280 #[.pointer (some ⟨X,0,none⟩),wdV K seg ln co] w fun e w'=>e=.returned (.bool false)∧(∃ vv' ww',Rdr w' X y vv' ww')∧Below X w w':=by
 obtain ⟨tx,htx⟩:∃ tx,txt seg=tx:=⟨_,rfl⟩
 unfold wdV
 rw [htx]
 have hq0:Below w.heap.size w (w.alloc (.cells #[.int .i64 (K:Int),.string tx,.int .i64 ln,.int .i64 co] 106)):=(Below.refl _ _).alloc (Nat.le_refl _) _
 have k3:((K:Int) != 3)=true:=by simp;omega
 go_enter Tryz.func280,Tryz.ntmps280
 go_wp2
 go_ret
 exact ⟨rfl,⟨_,_,h.on hq0⟩,hq0.mono (Nat.le_of_lt h.lt)⟩
set_option maxRecDepth 100000 in
set_option maxHeartbeats 4000000 in
theorem behind_shut {w:World} {X:Nat} {V:List Sx} {W:List Sg2} {o:Nat} {b:Bool} {vv ww:Value} (h:Rdr w X ⟨V,W,o,b⟩ vv ww) (ln co:Int) (hob:o=brk W) (hV:V.length=bins W+1) (hl:W.length≤3001) :
  Calls Tryz.prog 280 #[.pointer (some ⟨X,0,none⟩),sgV [41] ln co] w fun e w'=>e=.returned (.bool (stB ⟨V,W,o,b⟩ (3,[41])).2)∧(∃ vv' ww',Rdr w' X (stB ⟨V,W,o,b⟩ (3,[41])).1 vv' ww')∧Below X w w':=by
 have hq0:Below w.heap.size w (w.alloc (.cells #[.int .i64 3,.string ⟨#[41]⟩,.int .i64 ln,.int .i64 co] 106)):=(Below.refl _ _).alloc (Nat.le_refl _) _
 have hr0:=h.on hq0
 have hX:=h.lt
 have hb0:=hq0.mono (Nat.le_of_lt hX)
 unfold sgV
 by_cases ho:o=0
 ·rw [stB_shut0 (by simp) rfl ho]
  subst ho
  clear hob
  have hC:=closes_no hr0
  go_enter Tryz.func280,Tryz.ntmps280
  go_wp2_with (first
   | (go_at_call 295;refine hC.mono ?_;rintro e w1 ⟨rfl,rfl⟩))
  go_ret
  exact ⟨rfl,⟨_,_,hr0⟩,hb0⟩
 ·rw [stB_shut (by simp) rfl ho]
  have hC:=closes_yes hr0 ho hob hV hl
  go_enter Tryz.func280,Tryz.ntmps280
  go_wp2_with (first
   | (go_at_call 295;refine hC.mono ?_;rintro e w1 ⟨rfl,⟨vv1,ww1,hr1⟩,b1⟩))
  go_ret
  exact ⟨rfl,⟨_,_,hr1⟩,hb0.trans b1⟩
set_option maxRecDepth 100000 in
set_option maxHeartbeats 4000000 in
theorem behind_none {w:World} {X:Nat} {y:Yd} {vv ww:Value} (h:Rdr w X y vv ww) (t:List UInt8) (ln co:Int) (h41:¬ t=[41]) (hv:lv t=0) :
  Calls Tryz.prog 280 #[.pointer (some ⟨X,0,none⟩),sgV t ln co] w fun e w'=>e=.returned (.bool false)∧(∃ vv' ww',Rdr w' X y vv' ww')∧Below X w w':=by
 have hq0:Below w.heap.size w (w.alloc (.cells #[.int .i64 3,.string ⟨t.toArray⟩,.int .i64 ln,.int .i64 co] 106)):=(Below.refl _ _).alloc (Nat.le_refl _) _
 have hL:=fun w1=>pLevel_any ⟨t.toArray⟩ w1
 have e:lv (bl ⟨t.toArray⟩)=0:=hv
 rw [e] at hL
 have e1:(t == [41])=false:=beq_eq_false_iff_ne.2 h41
 clear e hv
 unfold sgV
 go_enter Tryz.func280,Tryz.ntmps280
 go_wp2_with (first
  | (go_at_call 277;refine (hL _).mono ?_;rintro e w1 ⟨rfl,rfl⟩))
 go_ret
 exact ⟨rfl,⟨_,_,h.on hq0⟩,hq0.mono (Nat.le_of_lt h.lt)⟩
theorem At4.blk {w w':World} {N:Nat} {a b c e:Value} (h:At4 w N a b c e) (hb:w'.heap[N]?=w.heap[N]?):At4 w' N a b c e:=by
 refine ⟨?_,?_,?_,?_⟩
 ·rw [World.cell?_of_block (w:=w) (a:=⟨N,0,none⟩) hb];exact h.1
 ·rw [World.cell?_of_block (w:=w) (a:=⟨N,1,none⟩) hb];exact h.2.1
 ·rw [World.cell?_of_block (w:=w) (a:=⟨N,2,none⟩) hb];exact h.2.2.1
 ·rw [World.cell?_of_block (w:=w) (a:=⟨N,3,none⟩) hb];exact h.2.2.2
set_option maxRecDepth 100000 in
set_option maxHeartbeats 4000000 in
theorem behind_op {w:World} {X:Nat} {V:List Sx} {W:List Sg2} {o:Nat} {b:Bool} {vv ww:Value} (h:Rdr w X ⟨V,W,o,b⟩ vv ww) (t:List UInt8) (ln co:Int) (k:Nat) (hk:lv t=k) (hk1:1≤k) (hV:V.length=bins W+1) (hl:W.length≤3001) :
  Calls Tryz.prog 280 #[.pointer (some ⟨X,0,none⟩),sgV t ln co] w fun e w'=>e=.returned (.bool (stB ⟨V,W,o,b⟩ (3,t)).2)∧(∃ vv' ww',Rdr w' X (stB ⟨V,W,o,b⟩ (3,t)).1 vv' ww')∧Below X w w':=by
 have hq0:Below w.heap.size w (w.alloc (.cells #[.int .i64 3,.string ⟨t.toArray⟩,.int .i64 ln,.int .i64 co] 106)):=(Below.refl _ _).alloc (Nat.le_refl _) _
 have hr0:=h.on hq0
 have hX:=h.lt
 have hb0:=hq0.mono (Nat.le_of_lt hX)
 have hA0:=At4.new w (.int .i64 3) (.string ⟨t.toArray⟩) (.int .i64 ln) (.int .i64 co) 106
 have hkeep:∀ w1 vv1 ww1,Fr2 X vv ww (w.alloc (.cells #[.int .i64 3,.string ⟨t.toArray⟩,.int .i64 ln,.int .i64 co] 106)) w1 vv1 ww1→At4 w1 w.heap.size (.int .i64 3) (.string ⟨t.toArray⟩) (.int .i64 ln) (.int .i64 co):=fun w1 vv1 ww1 hf=>
  hA0.blk (hf.block _ (by simp) (by omega) (fun e=>by have:=(World.ownsRow.lt h.v _ e).2;omega) (fun e=>by have:=(World.ownsRow.lt h.w _ e).2;omega))
 have hL:=fun w1=>pLevel_any ⟨t.toArray⟩ w1
 have e:lv (bl ⟨t.toArray⟩)=k:=hk
 rw [e] at hL
 have hk5:=lv_le t
 rw [hk] at hk5
 have e1:(t == [41])=false:=beq_eq_false_iff_ne.2 (not41 (by omega))
 have ht:=(lv_opr (s:=t) (by omega)).2
 have k0:((k:Int) == 0)=false:=beq_eq_false_iff_ne.2 (by omega)
 have i1:IntKind.i64.wrap ((k:Int)+1)=(k:Int)+1:=by rw [IntKind.wrap_i64];omega
 have hJ1:=join_any hr0 (k+1) (by omega) (by omega) hV hl
 obtain ⟨a1,a2,a3,a4⟩:=jn_ok (k:=k+1) (by omega) W V hV
 have hjj:=jn_jn (k:=k) (k':=k+1) (by omega) W V
 obtain ⟨b1,b2,b3,b4⟩:=jn_ok (k:=k) (by omega) W V hV
 have hN:∀ m:Nat,(((m+1:Nat)):Int)=(m:Int)+1:=fun m=>by omega
 rw [hN] at hJ1
 have hLa:=fun w1 vv1 ww1 (hr1:Rdr w1 X ⟨(jn (k+1) V W).1,(jn (k+1) V W).2,o,b⟩ vv1 ww1)=>last_any hr1 (by show (jn (k+1) V W).2.length≤4000;omega)
 simp only at hLa
 have hJ2:=fun w1 vv1 ww1 (hr1:Rdr w1 X ⟨(jn (k+1) V W).1,(jn (k+1) V W).2,o,b⟩ vv1 ww1)=>join_any hr1 k (by omega) (by omega) a1 (by omega)
 rw [hjj] at hJ2
 obtain ⟨V1,hV1⟩:∃ V1,(jn (k+1) V W).1=V1:=⟨_,rfl⟩
 obtain ⟨W1,hW1⟩:∃ W1,(jn (k+1) V W).2=W1:=⟨_,rfl⟩
 obtain ⟨V2,hV2⟩:∃ V2,(jn k V W).1=V2:=⟨_,rfl⟩
 obtain ⟨W2,hW2⟩:∃ W2,(jn k V W).2=W2:=⟨_,rfl⟩
 have hWt:=fun w1 vv1 ww1 (hr1:Rdr w1 X ⟨V2,W2,o,b⟩ vv1 ww1)=>wait_any hr1 t k (by omega) (by rw [← hW2];omega) (by omega)
 simp only [hV1,hW1,hV2,hW2] at hJ1 hJ2 hLa a1 a2 a3 a4
 by_cases htwo:k=3∧topL (jn (k+1) V W).2=3
 ·obtain ⟨h3,ht3⟩:=htwo
  subst h3
  rw [stB_two (by simp) hk ht3]
  simp only [hV1,hW1] at ht3 ⊢
  rw [ht3] at hLa
  clear hjj hV1 hW1 hV2 hW2 hWt hJ2 h hk
  unfold sgV
  go_enter Tryz.func280,Tryz.ntmps280
  go_wp2_with (first
   | (go_at_call 277;refine (hL _).mono ?_;rintro e w1 ⟨rfl,rfl⟩)
   | (go_at_call 282;refine hJ1.mono ?_;rintro e w1 ⟨⟨u,rfl⟩,⟨vv1,ww1,hr1,hf1⟩,b1⟩)
   | (go_at_call 296;refine (hLa _ _ _ hr1).mono ?_;rintro e w2 ⟨rfl,m,rfl⟩))
  go_ret
  exact ⟨rfl,⟨_,_,hr1.drewN m⟩,(hb0.trans b1).trans (below_draws _ _ m)⟩
 ·rw [stB_op (by simp) hk hk1 htwo]
  simp only [hV1,hW1] at htwo
  simp only [hV2,hW2]
  unfold sgV
  by_cases h3:k=3
  ·have ht3:((topL W1:Int) == 3)=false:=beq_eq_false_iff_ne.2 (fun e=>htwo ⟨h3,by omega⟩)
   have k3:((k:Int) == 3)=true:=by simp;omega
   clear hjj hV1 hW1 hV2 hW2 h hk htwo h3 e
   go_enter Tryz.func280,Tryz.ntmps280
   go_wp2_with (first
    | (go_at_call 297;refine (hWt _ _ _ hr3).mono ?_;rintro e w4 ⟨⟨u4,rfl⟩,⟨ww4,hr4⟩,b4⟩;obtain ⟨z0,z1,z2,z3,g0,g1,g2,g3⟩:=id hr4.b)
    | (go_at_call 282;refine (hJ2 _ _ _ hr2).mono ?_;rintro e w3 ⟨⟨u3,rfl⟩,⟨vv3,ww3,hr3,hf3⟩,b3⟩;obtain ⟨x0,x1,x2,x3⟩:=hkeep _ _ _ ((hf1.on (below_draws _ _ m)).trans hf3))
    | (go_at_call 296;refine (hLa _ _ _ hr1).mono ?_;rintro e w2 ⟨rfl,m,rfl⟩;have hr2:=hr1.drewN m)
    | (go_at_call 277;refine (hL _).mono ?_;rintro e w1 ⟨rfl,rfl⟩)
    | (go_at_call 282;refine hJ1.mono ?_;rintro e w1 ⟨⟨u,rfl⟩,⟨vv1,ww1,hr1,hf1⟩,b1⟩))
   go_ret
   exact ⟨rfl,⟨_,_,hr4.setB false⟩,((((hb0.trans b1).trans (below_draws _ _ m)).trans b3).trans b4).setCell (Nat.le_refl X) _⟩
  ·have k3:((k:Int) == 3)=false:=beq_eq_false_iff_ne.2 (by omega)
   clear hjj hV1 hW1 hV2 hW2 h hk htwo h3 e
   go_enter Tryz.func280,Tryz.ntmps280
   go_wp2_with (first
    | (go_at_call 297;refine (hWt _ _ _ hr3).mono ?_;rintro e w4 ⟨⟨u4,rfl⟩,⟨ww4,hr4⟩,b4⟩;obtain ⟨z0,z1,z2,z3,g0,g1,g2,g3⟩:=id hr4.b)
    | (go_at_call 282;refine (hJ2 _ _ _ hr1).mono ?_;rintro e w3 ⟨⟨u3,rfl⟩,⟨vv3,ww3,hr3,hf3⟩,b3⟩;obtain ⟨x0,x1,x2,x3⟩:=hkeep _ _ _ (hf1.trans hf3))
    | (go_at_call 277;refine (hL _).mono ?_;rintro e w1 ⟨rfl,rfl⟩)
    | (go_at_call 282;refine hJ1.mono ?_;rintro e w1 ⟨⟨u,rfl⟩,⟨vv1,ww1,hr1,hf1⟩,b1⟩))
   go_ret
   exact ⟨rfl,⟨_,_,hr4.setB false⟩,(((hb0.trans b1).trans b3).trans b4).setCell (Nat.le_refl X) _⟩
/-- What holds of the reader behind n words. -/
structure InvY (y:Yd) (n:Nat):Prop where
 v:y.V.length=bins y.W+(if y.b=true then 1 else 0)
 o:y.o=brk y.W
 w:y.W.length≤n
theorem inv_start:InvY ⟨[],[],0,false⟩ 0:=⟨rfl,rfl,Nat.le_refl _⟩
theorem inv_step {leaf:Tk→Option Sx} {y:Yd} {n:Nat} (h:InvY y n) (w:Tk):InvY (stp leaf y w).1 (n+1):=by
 obtain ⟨V,W,o,b⟩:=y
 have h1:=h.v
 have h2:=h.o
 have h3:=h.w
 have hsame:InvY ⟨V,W,o,b⟩ (n+1):=⟨h1,h2,Nat.le_succ_of_le h3⟩
 simp only at h1 h2 h3
 unfold stp
 cases b with
 | true=>
  rw [if_pos rfl] at h1 ⊢
  by_cases hk:w.1≠3
  ·rw [stB_kind hk];exact hsame
  by_cases h41:w.2=[41]
  ·by_cases ho:o=0
   ·rw [stB_shut0 hk h41 ho];exact hsame
   ·rw [stB_shut hk h41 ho]
    obtain ⟨a1,a2,a3,a4⟩:=jn_ok (k:=1) (by omega) W V h1
    obtain ⟨s,W',e,e1,e2⟩:=brk_top (W:=(jn 1 V W).2) (by omega) a4
    refine ⟨?_,?_,?_⟩
    ·show (jn 1 V W).1.length=bins (jn 1 V W).2.tail+_
     rw [a1,e2,e];rfl
    ·show o - 1=brk (jn 1 V W).2.tail
     rw [e,List.tail_cons];omega
    ·show (jn 1 V W).2.tail.length≤n+1
     rw [List.length_tail];omega
  ·by_cases hl:lv w.2=0
   ·rw [stB_none hk h41 hl];exact hsame
   ·by_cases ht:lv w.2=3∧topL (jn 4 V W).2=3
    ·rw [stB_two hk ht.1 ht.2]
     obtain ⟨a1,a2,a3,a4⟩:=jn_ok (k:=4) (by omega) W V h1
     exact ⟨a1,h2.trans a2.symm,by show (jn 4 V W).2.length≤n+1;omega⟩
    ·rw [stB_op hk rfl (by omega) (fun q=>ht ⟨q.1,by have:=q.2;rw [q.1] at this;exact this⟩)]
     obtain ⟨a1,a2,a3,a4⟩:=jn_ok (k:=lv w.2) (by omega) W V h1
     have h5:=lv_le w.2
     refine ⟨?_,?_,by show (jn (lv w.2) V W).2.length+1≤n+1;omega⟩
     ·show (jn (lv w.2) V W).1.length=bins (jn (lv w.2) V W).2+(if lv w.2=0∨lv w.2=6 then 0 else 1)+0
      rw [if_neg (by omega)];exact a1
     ·show o=brk (jn (lv w.2) V W).2+(if lv w.2=0 then 1 else 0)
      rw [if_neg hl];omega
 | false=>
  rw [if_neg Bool.false_ne_true] at h1 ⊢
  unfold stA
  by_cases hk:w.1≠3
  ·rw [if_pos hk]
   cases leaf w with
   | some x=>exact ⟨by show V.length+1=bins W+1;omega,h2,Nat.le_succ_of_le h3⟩
   | none=>exact hsame
  ·rw [if_neg hk]
   by_cases h40:w.2=[40]
   ·rw [if_pos h40]
    exact ⟨h1,by show o+1=brk W+1;omega,by show W.length+1≤n+1;omega⟩
   ·rw [if_neg h40]
    by_cases hu:w.2=[33]∨w.2=[45]
    ·rw [if_pos hu]
     exact ⟨h1,h2,by show W.length+1≤n+1;omega⟩
    ·rw [if_neg hu];exact hsame
theorem brk_le (W:List Sg2):brk W≤W.length:=by
 induction W with
 | nil=>exact Nat.le_refl _
 | cons x r ih=>show brk r+_≤r.length+1;split <;> omega
theorem ahead_any {w:World} {X K n:Nat} {seg:List Ru} {V:List Sx} {W:List Sg2} {o:Nat} {vv ww:Value} (h:Rdr w X ⟨V,W,o,false⟩ vv ww) (hi:InvY ⟨V,W,o,false⟩ n) (hn:n≤3000) (h1:OneW K seg) (ln co:Int) :
  Calls Tryz.prog 281 #[.pointer (some ⟨X,0,none⟩),wdV K seg ln co] w fun e w'=>e=.returned (.bool (stA (leafY (valB 0) rsvB) ⟨V,W,o,false⟩ (K,byt seg)).2)∧(∃ vv' ww',Rdr w' X (stA (leafY (valB 0) rsvB) ⟨V,W,o,false⟩ (K,byt seg)).1 vv' ww')∧Below X w w':=by
 have hv:=hi.v
 have ho:=hi.o
 have hw:=hi.w
 have hb:=bins_le W
 have hbk:=brk_le W
 simp only at hv ho hw
 rw [if_neg (by decide)] at hv
 by_cases hK:K=3
 ·subst hK
  exact ahead_sign h (byt seg) h1.l ln co (by omega) (by omega)
 ·have e:stA (leafY (valB 0) rsvB) ⟨V,W,o,false⟩ (K,byt seg)=match leafY (valB 0) rsvB (K,byt seg) with | some x=>(⟨x :: V,W,o,true⟩,true) | none=>(⟨V,W,o,false⟩,false):=by
   unfold stA;rw [if_pos hK]
   cases leafY (valB 0) rsvB (K,byt seg) <;> rfl
  rw [e]
  cases hx:leafY (valB 0) rsvB (K,byt seg) with
  | some x=>exact ahead_leaf h h1 ln co hK (by omega) hx
  | none=>exact ahead_no h h1 ln co hK hx
theorem behind_any {w:World} {X K n:Nat} {seg:List Ru} {V:List Sx} {W:List Sg2} {o:Nat} {vv ww:Value} (h:Rdr w X ⟨V,W,o,true⟩ vv ww) (hi:InvY ⟨V,W,o,true⟩ n) (hn:n≤3000) (h1:OneW K seg) (ln co:Int) :
  Calls Tryz.prog 280 #[.pointer (some ⟨X,0,none⟩),wdV K seg ln co] w fun e w'=>e=.returned (.bool (stB ⟨V,W,o,true⟩ (K,byt seg)).2)∧(∃ vv' ww',Rdr w' X (stB ⟨V,W,o,true⟩ (K,byt seg)).1 vv' ww')∧Below X w w':=by
 have hv:V.length=bins W+1:=hi.v
 have ho:o=brk W:=hi.o
 have hw:W.length≤n:=hi.w
 by_cases hK:K=3
 ·subst hK
  by_cases h41:byt seg=[41]
  ·have:wdV 3 seg ln co=sgV [41] ln co:=by
    show Value.agg #[.int .i64 ((3:Nat):Int),.string ⟨(byt seg).toArray⟩,_,_]=_
    rw [h41];rfl
   rw [this,h41]
   exact behind_shut h ln co ho hv (by omega)
  ·by_cases hl:lv (byt seg)=0
   ·rw [stB_none (by simp) h41 hl]
    exact behind_none h (byt seg) ln co h41 hl
   ·exact behind_op h (byt seg) ln co _ rfl (by omega) hv (by omega)
 ·rw [stB_kind hK]
  exact behind_kind h ln co hK
set_option maxRecDepth 100000 in
set_option maxHeartbeats 4000000 in
theorem takes_any {w:World} {X K n:Nat} {seg:List Ru} {y:Yd} {vv ww:Value} (h:Rdr w X y vv ww) (hi:InvY y n) (hn:n≤3000) (h1:OneW K seg) (ln co:Int) :
  Calls Tryz.prog 268 #[.pointer (some ⟨X,0,none⟩),wdV K seg ln co] w fun e w'=>e=.returned (.bool (stp (leafY (valB 0) rsvB) y (K,byt seg)).2)∧(∃ vv' ww',Rdr w' X (stp (leafY (valB 0) rsvB) y (K,byt seg)).1 vv' ww')∧Below X w w':=by
 obtain ⟨V,W,o,b⟩:=y
 have hX:=h.lt
 have hq0:Below w.heap.size w (w.alloc (.cells #[.int .i64 (K:Int),.string (txt seg),.int .i64 ln,.int .i64 co] 106)):=(Below.refl _ _).alloc (Nat.le_refl _) _
 have hA0:=At4.new w (.int .i64 (K:Int)) (.string (txt seg)) (.int .i64 ln) (.int .i64 co) 106
 have hr0:=h.on hq0
 have hb0:=hq0.mono (Nat.le_of_lt hX)
 obtain ⟨y0,y1,y2,y3⟩:=id hA0
 obtain ⟨z0,z1,z2,z3,g0,g1,g2,g3⟩:=id hr0.b
 unfold stp
 cases b with
 | true=>
  rw [if_pos rfl]
  have hC:=behind_any hr0 hi hn h1 ln co
  obtain ⟨r,hr⟩:∃ r,stB ⟨V,W,o,true⟩ (K,byt seg)=r:=⟨_,rfl⟩
  unfold wdV at hC ⊢
  rw [hr] at hC ⊢
  go_enter Tryz.func268,Tryz.ntmps268
  go_wp2_with (first
   | (go_at_call 280;refine hC.mono ?_;rintro e w1 ⟨rfl,⟨vv1,ww1,hr1⟩,b1⟩))
  go_ret
  exact ⟨rfl,⟨_,_,hr1⟩,hb0.trans b1⟩
 | false=>
  rw [if_neg Bool.false_ne_true]
  have hC:=ahead_any hr0 hi hn h1 ln co
  obtain ⟨r,hr⟩:∃ r,stA (leafY (valB 0) rsvB) ⟨V,W,o,false⟩ (K,byt seg)=r:=⟨_,rfl⟩
  unfold wdV at hC ⊢
  rw [hr] at hC ⊢
  go_enter Tryz.func268,Tryz.ntmps268
  go_wp2_with (first
   | (go_at_call 281;refine hC.mono ?_;rintro e w1 ⟨rfl,⟨vv1,ww1,hr1⟩,b1⟩))
  go_ret
  exact ⟨rfl,⟨_,_,hr1⟩,hb0.trans b1⟩
set_option maxRecDepth 100000 in
set_option maxHeartbeats 4000000 in
theorem mayEnd_any {w:World} {X:Nat} {y:Yd} {vv ww:Value} (h:Rdr w X y vv ww) (ho:y.o≤4000) :
  Calls Tryz.prog 269 #[.pointer (some ⟨X,0,none⟩)] w fun e w'=>e=.returned (.bool (y.b && decide (y.o=0)))∧Below w.heap.size w w':=by
 obtain ⟨V,W,o,b⟩:=y
 obtain ⟨z0,z1,z2,z3,g0,g1,g2,g3⟩:=id h.b
 simp only at z2 z3 ho ⊢
 clear h
 cases b with
 | true=>
  by_cases hq:o=0
  ·have i1:((o:Int) == 0)=true:=by simp;omega
   rw [decide_eq_true hq]
   clear hq
   go_enter Tryz.func269,Tryz.ntmps269
   go_wp2
   go_ret
   exact ⟨rfl,Below.refl _ _⟩
  ·have i1:((o:Int) == 0)=false:=beq_eq_false_iff_ne.2 (by omega)
   rw [decide_eq_false hq]
   clear hq
   go_enter Tryz.func269,Tryz.ntmps269
   go_wp2
   go_ret
   exact ⟨rfl,Below.refl _ _⟩
 | false=>
  rw [Bool.false_and]
  go_enter Tryz.func269,Tryz.ntmps269
  go_wp2
  go_ret
  exact ⟨rfl,Below.refl _ _⟩
/-- Where no bracket is open, all is joined. -/
theorem jn_all {V:List Sx} {W:List Sg2} (hV:V.length=bins W+1) (hb:brk W=0):∃ x,jn 1 V W=([x],[]):=by
 obtain ⟨a1,a2,a3,a4⟩:=jn_ok (k:=1) (by omega) W V hV
 have hW:(jn 1 V W).2=[]:=by
  cases hq:(jn 1 V W).2 with
  | nil=>rfl
  | cons s r=>
   rw [hq] at a2 a4
   have:s.2 < 1:=a4
   have h3:brk r+(if s.2=0 then 1 else 0)=brk W:=a2
   rw [if_pos (by omega)] at h3
   omega
 rw [hW] at a1
 obtain ⟨x,hx⟩:∃ x,(jn 1 V W).1=[x]:=by
  match hq:(jn 1 V W).1,a1 with
  | [x],_=>exact ⟨x,rfl⟩
 exact ⟨x,by rw [← hx,← hW]⟩
set_option maxRecDepth 100000 in
set_option maxHeartbeats 4000000 in
theorem end_any {w:World} {X:Nat} {V:List Sx} {W:List Sg2} {o:Nat} {b:Bool} {vv ww:Value} (h:Rdr w X ⟨V,W,o,b⟩ vv ww) (hV:V.length=bins W+1) (hl:W.length≤3001) {x:Sx} (hx:jn 1 V W=([x],[])) :
  Calls Tryz.prog 270 #[.pointer (some ⟨X,0,none⟩)] w fun e w'=>e=.returned (exX x)∧Below X w w':=by
 have hJ:=join_any h 1 (by omega) (by omega) hV hl
 rw [hx] at hJ
 simp only at hJ
 go_enter Tryz.func270,Tryz.ntmps270
 go_wp2_with (first
  | (go_at_call 282;refine hJ.mono ?_;rintro e w1 ⟨⟨u,rfl⟩,⟨vv1,ww1,hr1,_⟩,b1⟩;obtain ⟨g,cap,rfl,q1,q2,q3,q4,c0,fz,_⟩:=own_last1 hr1.v;obtain ⟨z0,z1,z2,z3,g0,g1,g2,g3⟩:=id hr1.b;simp only [List.length_nil] at c0 z0))
 go_ret
 exact ⟨rfl,b1⟩
theorem rdr_start (w:World):Rdr (w.alloc (.cells #[.slice none 0 0,.slice none 0 0,.int .i64 0,.bool false] 319)) w.heap.size ⟨[],[],0,false⟩ (.slice none 0 0) (.slice none 0 0):=
 ⟨B4.new w _ _ _ _ _ _ rfl,World.ownsRow_nil _ _ _ _,World.ownsRow_nil _ _ _ _,fun g hg=>by simp [Value.ownBlock] at hg⟩
/-- What is told, out of what the two stacks tell. -/
def ofOut (r:Option Sx × Nat):Sx × Nat × Int:=match r.1 with | some x=>if fmX x=true then (x,r.2,0) else (noX,0,13) | none=>(noX,r.2,12)
theorem take_out {ws:List Wd} (h:∀ w∈ws,OneW w.1 w.2.1):takeC (ws.map tkW)=ofOut (rnY (leafY (valB 0) rsvB) (ws.map tkW) ⟨[],[],0,false⟩ 0)∧
  ∀ x n,rnY (leafY (valB 0) rsvB) (ws.map tkW) ⟨[],[],0,false⟩ 0=(some x,n)→Fine x∧cntX x≤n:=by
 have hy:=yard_psr (nb:=valB 0) (rsv:=rsvB) (l:=ws.map tkW) (good_all h) (f:=7*(ws.map tkW).length+6) (by omega)
 have hf:BadOr _ 0 (rdC (ws.map tkW)):=fine_read h _ 1 0 (by omega) (by omega)
 have e:psr (valB 0) rsvB (ws.map tkW) (7*(ws.map tkW).length+6) 1 0 (-1)=rdC (ws.map tkW):=rfl
 rw [e] at hy
 obtain ⟨O,hO⟩:∃ O,rnY (leafY (valB 0) rsvB) (ws.map tkW) ⟨[],[],0,false⟩ 0=O:=⟨_,rfl⟩
 rw [hO] at hy ⊢
 unfold takeC
 rcases hf with ⟨h1,h2⟩ | h1
 ·have hlt:(rdC (ws.map tkW)).2.2 < 0:=by rw [h1];decide
  rw [if_pos hlt] at hy
  subst hy
  rw [if_neg (by omega)]
  refine ⟨rfl,fun x n hx=>?_⟩
  simp only [Prod.mk.injEq,Option.some.injEq] at hx
  obtain ⟨rfl,rfl⟩:=hx
  exact ⟨h2.1,by have:=h2.2;omega⟩
 ·rw [if_neg (by omega)] at hy
  subst hy
  rw [if_pos h1]
  exact ⟨rfl,fun x n hx=>by simp at hx⟩
theorem celsW_at (ws:List Wd) (i:Nat) (h:i < ws.length):(celsW ws)[i*4]?=some (.int .i64 ((ws[i]).1:Int))∧(celsW ws)[i*4+1]?=some (.string (txt (ws[i]).2.1))∧(celsW ws)[i*4+2]?=some (.int .i64 (ws[i]).2.2.1)∧(celsW ws)[i*4+3]?=some (.int .i64 (ws[i]).2.2.2):=by
 induction ws generalizing i with
 | nil=>simp at h
 | cons x t ih=>
  cases i with
  | zero=>exact ⟨rfl,rfl,rfl,rfl⟩
  | succ k=>
   have hk:=ih k (by simpa using h)
   have e:∀ j,(celsW (x :: t))[(k+1)*4+j]?=(celsW t)[k*4+j]?:=fun j=>by
    show (celW x++celsW t)[(k+1)*4+j]?=_
    rw [List.getElem?_append_right (by simp [celW];omega)]
    congr 1
    simp [celW];omega
   exact ⟨(e 0).trans hk.1,(e 1).trans hk.2.1,(e 2).trans hk.2.2.1,(e 3).trans hk.2.2.2⟩
/-- Words in memory, read. -/
theorem ownW_rd {w:World} {base e:Nat} {v:Value} {ws:List Wd} (h:OwnW w base e v ws):∃ a cap,v=.slice a ws.length cap∧ws.length≤cap∧cap≤maxLen∧∀ (i:Nat) (hi:i < ws.length),∃ g,a=some ⟨g,0,none⟩∧g < w.heap.size∧w.cell? ⟨g,i*4,none⟩=some (.int .i64 ((ws[i]).1:Int))∧w.cell? ⟨g,i*4+1,none⟩=some (.string (txt (ws[i]).2.1))∧w.cell? ⟨g,i*4+2,none⟩=some (.int .i64 (ws[i]).2.2.1)∧w.cell? ⟨g,i*4+3,none⟩=some (.int .i64 (ws[i]).2.2.2):=by
 have hc:=fun g=>World.ownsRow.cells h (g:=g)
 rcases h.2 with ⟨h1,h2⟩ | ⟨g,cap,cur,rfl,hb,hg,h3,h4,_⟩
 ·exact ⟨none,0,by rw [h1,h2],by omega,by simp [maxLen],fun i hi=>by omega⟩
 ·refine ⟨_,_,rfl,h3,h4,fun i hi=>⟨g,rfl,(Array.getElem?_eq_some_iff.1 hg).1,?_⟩⟩
  obtain ⟨e0,e1,e2,e3⟩:=celsW_at ws i hi
  have c0:=hc g rfl _ _ e0
  have c1:=hc g rfl _ _ e1
  have c2:=hc g rfl _ _ e2
  have c3:=hc g rfl _ _ e3
  rw [addr_plain] at c0 c1 c2 c3
  exact ⟨c0,c1,c2,c3⟩
set_option maxRecDepth 100000 in
set_option maxHeartbeats 4000000 in
theorem pTake_rd {w:World} {a:Option Addr} {cap:Nat} {ws:List Wd} (q1:ws.length≤cap) (q2:cap≤maxLen) (hrd:∀ (i:Nat) (hi:i < ws.length),∃ g off,a=some ⟨g,off,none⟩∧g < w.heap.size∧w.cell? ⟨g,off+i*4,none⟩=some (.int .i64 ((ws[i]).1:Int))∧w.cell? ⟨g,off+i*4+1,none⟩=some (.string (txt (ws[i]).2.1))∧w.cell? ⟨g,off+i*4+2,none⟩=some (.int .i64 (ws[i]).2.2.1)∧w.cell? ⟨g,off+i*4+3,none⟩=some (.int .i64 (ws[i]).2.2.2)) (h1:∀ x∈ws,OneW x.1 x.2.1) (hl:ws.length≤3000) :
  Calls Tryz.prog 248 #[.slice a ws.length cap] w fun e w'=>e=.returned (.tuple #[exX (takeC (ws.map tkW)).1,.int .i64 ((takeC (ws.map tkW)).2.1:Int),.int .i64 (takeC (ws.map tkW)).2.2])∧Below w.heap.size w w':=by
 obtain ⟨ht1,ht2⟩:=take_out h1
 rw [ht1]
 obtain ⟨OUT,hO⟩:∃ OUT,rnY (leafY (valB 0) rsvB) (ws.map tkW) ⟨[],[],0,false⟩ 0=OUT:=⟨_,rfl⟩
 rw [hO] at ht2 ⊢
 have hO0:Hid (rnY (leafY (valB 0) rsvB) (ws.map tkW) ⟨[],[],0,false⟩ 0=OUT):=hO
 have HT:Hid (∀ x n,OUT=(some x,n)→Fine x∧cntX x≤n):=ht2
 have HR:Hid (∀ (i:Nat) (hi:i < ws.length),∃ g off,a=some ⟨g,off,none⟩∧g < w.heap.size∧w.cell? ⟨g,off+i*4,none⟩=some (.int .i64 ((ws[i]).1:Int))∧w.cell? ⟨g,off+i*4+1,none⟩=some (.string (txt (ws[i]).2.1))∧w.cell? ⟨g,off+i*4+2,none⟩=some (.int .i64 (ws[i]).2.2.1)∧w.cell? ⟨g,off+i*4+3,none⟩=some (.int .i64 (ws[i]).2.2.2)):=hrd
 have H1:Hid (∀ x∈ws,OneW x.1 x.2.1):=h1
 clear hrd h1 ht1 ht2 hO
 have hs:=rdr_start w
 have hb0:Below w.heap.size w (w.alloc (.cells #[.slice none 0 0,.slice none 0 0,.int .i64 0,.bool false] 319)):=(Below.refl _ _).alloc (Nat.le_refl _) _
 go_enter Tryz.func248,Tryz.ntmps248
 go_wp2
 go_loopw [6] (fun v wr=>∃ (n:Nat) (y:Yd) (vv ww:Value),v=.int .i64 (n:Int)∧n≤ws.length∧Rdr wr w.heap.size y vv ww∧InvY y n∧Hid (rnY (leafY (valB 0) rsvB) (ws.map tkW) y n=OUT)∧Below w.heap.size w wr) (fun v _=>ws.length - (RowKit.intOf v).toNat)
 case atStart=>exact ⟨0,_,_,_,rfl,Nat.zero_le _,hs,inv_start,hO0,hb0⟩
 case round=>
  obtain ⟨n,y,vv,ww,rfl,hn,hr,hi,ho,hb⟩:=hrel
  have i2:(0:Int)≤(n:Int):=by omega
  clear hs hb0 hO0
  by_cases hlt:n < ws.length
  ·have i1:(n:Int) < (ws.length:Int):=by omega
   obtain ⟨g,off,rfl,hg,c0,c1,c2,c3⟩:=HR.out n hlt
   have h1n:=H1.out ws[n] (List.getElem_mem hlt)
   have hget:(ws.map tkW)[n]?=some (tkW ws[n]):=by rw [List.getElem?_map,List.getElem?_eq_getElem hlt];rfl
   have d0:=(hb.cell (p:=⟨g,off+n*4,none⟩) hg).trans c0
   have d1:=(hb.cell (p:=⟨g,off+n*4+1,none⟩) hg).trans c1
   have d2:=(hb.cell (p:=⟨g,off+n*4+2,none⟩) hg).trans c2
   have d3:=(hb.cell (p:=⟨g,off+n*4+3,none⟩) hg).trans c3
   obtain ⟨⟨K,seg,ln,co⟩,hx⟩:∃ x,ws[n]=x:=⟨_,rfl⟩
   rw [hx] at h1n hget d0 d1 d2 d3
   simp only [tkW] at h1n hget d0 d1 d2 d3
   have hT:=takes_any hr hi (by omega) h1n ln co
   have hstep:=ho.out
   rw [rnY_some hget] at hstep
   have hinv:=inv_step (leaf:=leafY (valB 0) rsvB) hi (K,byt seg)
   obtain ⟨r,hrr⟩:∃ r,stp (leafY (valB 0) rsvB) y (K,byt seg)=r:=⟨_,rfl⟩
   simp only [hrr] at hT hstep hinv
   obtain ⟨y1,b1⟩:=r
   obtain ⟨tx,htx⟩:∃ tx,txt seg=tx:=⟨_,rfl⟩
   unfold wdV at hT
   rw [htx] at hT d1
   clear c0 c1 c2 c3 hx hrr htx hr hi ho h1n hget
   simp only at hT hstep hinv
   cases b1 with
   | true=>
    rw [if_pos rfl] at hstep
    have hN:Hid (rnY (leafY (valB 0) rsvB) (ws.map tkW) y1 (n+1)=OUT):=hstep
    go_wp2_with (first
     | (go_at_call 268;refine hT.mono ?_;rintro e w1 ⟨rfl,⟨vv1,ww1,hr1⟩,b1⟩))
    go_roundw
    case rel=>exact ⟨n+1,y1,vv1,ww1,by go_num,hlt,hr1,hinv,hN,hb.trans b1⟩
    case measure=>simp [RowKit.intOf];omega
   | false=>
    rw [if_neg Bool.false_ne_true] at hstep
    have hS:Hid (stopY y1 n=OUT):=hstep
    obtain ⟨V,W,o,b⟩:=y1
    have hQ:=hS.out
    have hbk:=brk_le W
    have hio:=hinv.o
    have hiw:=hinv.w
    simp only at hio hiw
    unfold stopY at hQ
    simp only at hQ
    have hFm:=fun (x:Sx) (hx:Fine x∧cntX x≤n) w1=>formedP x.1 x.2 w1 hx.1.cl (by have:=hx.2;show cnt x.1 x.2≤100000;unfold cntX at this;omega) hx.1.sh
    by_cases hq:b=true∧o=0
    ·rw [if_pos hq] at hQ
     obtain ⟨rfl,rfl⟩:=hq
     have hiv:V.length=bins W+1:=hinv.v
     obtain ⟨x,hx⟩:=jn_all hiv hio.symm
     rw [hx] at hQ
     have hfine:=HT.out x n hQ.symm
     have hFx:=hFm x hfine
     have hE:=fun w2 vv2 ww2 (h2:Rdr w2 w.heap.size ⟨V,W,0,true⟩ vv2 ww2)=>end_any h2 hiv (by omega) hx
     have hMx:=fun w2 vv2 ww2 (h2:Rdr w2 w.heap.size ⟨V,W,0,true⟩ vv2 ww2)=>mayEnd_any h2 (by show (0:Nat)≤4000;omega)
     simp only [decide_true,Bool.and_true] at hMx
     have hres:ofOut OUT=if fmX x=true then (x,n,0) else (noX,0,13):=by rw [← hQ];rfl
     obtain ⟨fb,hfb⟩:∃ fb,fmC x.1 x.2=fb:=⟨_,rfl⟩
     have hfb':fmX x=fb:=hfb
     rw [hfb'] at hres
     simp only [hfb] at hFx
     have hFx:∀ w1,Calls Tryz.prog 240 #[exX x] w1 fun r w'=>r=.returned (.bool fb)∧Below w1.heap.size w1 w':=hFx
     have hxf:=exX_form x
     obtain ⟨xv,hxv⟩:∃ xv,exX x=xv:=⟨_,rfl⟩
     rw [hxv] at hxf
     simp only [hxv] at hFx hE
     clear hfb hfb' hfine hFm hQ hx hiv hio hiw hbk
     cases fb with
     | true=>
      rw [if_pos rfl] at hres
      have HX:Hid (exX x=xv):=hxv
      have HRS:Hid (ofOut OUT=(x,n,0)):=hres
      clear hres hxv
      go_wp2_with (first
       | (go_at_call 268;refine hT.mono ?_;rintro e w1 ⟨rfl,⟨vv1,ww1,hr1⟩,b1⟩)
       | (go_at_call 269;refine (hMx _ _ _ hr1).mono ?_;rintro e w2 ⟨rfl,b2⟩;have hr2:=hr1.on b2;have hb2:=(hb.trans b1).trans (b2.mono (hb.trans b1).size))
       | (go_at_call 270;refine (hE _ _ _ hr2).mono ?_;rintro e w3 ⟨rfl,b3⟩;have hb3:=hb2.trans b3)
       | (go_at_call 240;refine (hFx _).mono ?_;rintro e w4 ⟨rfl,b4⟩;have hb4:=hb3.trans (b4.mono hb3.size)))
      go_ret3
      refine ⟨?_,hb4⟩
      rw [HRS.out]
      show _=Ending.returned (.tuple #[exX x,.int .i64 (n:Int),.int .i64 0])
      rw [HX.out];rfl
     | false=>
      rw [if_neg Bool.false_ne_true] at hres
      have HRS:Hid (ofOut OUT=(noX,0,13)):=hres
      clear hres hxv
      go_wp2_with (first
       | (go_at_call 268;refine hT.mono ?_;rintro e w1 ⟨rfl,⟨vv1,ww1,hr1⟩,b1⟩)
       | (go_at_call 269;refine (hMx _ _ _ hr1).mono ?_;rintro e w2 ⟨rfl,b2⟩;have hr2:=hr1.on b2;have hb2:=(hb.trans b1).trans (b2.mono (hb.trans b1).size))
       | (go_at_call 270;refine (hE _ _ _ hr2).mono ?_;rintro e w3 ⟨rfl,b3⟩;have hb3:=hb2.trans b3)
       | (go_at_call 240;refine (hFx _).mono ?_;rintro e w4 ⟨rfl,b4⟩;have hb4:=hb3.trans (b4.mono hb3.size)))
      go_ret3
      exact ⟨by rw [HRS.out];rfl,hb4⟩
    ·rw [if_neg hq] at hQ
     have hbo:(b && decide (o=0))=false:=by
      cases b with
      | false=>rfl
      | true=>exact decide_eq_false (fun e=>hq ⟨rfl,e⟩)
     have hMx:=fun w2 vv2 ww2 (h2:Rdr w2 w.heap.size ⟨V,W,o,b⟩ vv2 ww2)=>mayEnd_any h2 (by show o≤4000;omega)
     simp only [hbo] at hMx
     have HRS:Hid (ofOut OUT=(noX,n,12)):=by show _=_;rw [← hQ];rfl
     clear hbo hq hFm hQ hio hiw hbk
     go_wp2_with (first
      | (go_at_call 268;refine hT.mono ?_;rintro e w1 ⟨rfl,⟨vv1,ww1,hr1⟩,b1⟩)
      | (go_at_call 269;refine (hMx _ _ _ hr1).mono ?_;rintro e w2 ⟨rfl,b2⟩;have hb2:=(hb.trans b1).trans (b2.mono (hb.trans b1).size)))
     go_ret3
     exact ⟨by rw [HRS.out];rfl,hb2⟩
  ·have i1:¬ (n:Int) < (ws.length:Int):=by omega
   have hstep:=ho.out
   rw [rnY_none (by rw [List.getElem?_eq_none_iff,List.length_map];omega)] at hstep
   have hS:Hid (stopY y n=OUT):=hstep
   clear ho hstep
   obtain ⟨V,W,o,b⟩:=y
   have hQ:=hS.out
   have hbk:=brk_le W
   have hio:=hi.o
   have hiw:=hi.w
   simp only at hio hiw
   unfold stopY at hQ
   simp only at hQ
   have hFm:=fun (x:Sx) (hx:Fine x∧cntX x≤n) w1=>formedP x.1 x.2 w1 hx.1.cl (by have:=hx.2;show cnt x.1 x.2≤100000;unfold cntX at this;omega) hx.1.sh
   by_cases hq:b=true∧o=0
   ·rw [if_pos hq] at hQ
    obtain ⟨rfl,rfl⟩:=hq
    have hiv:V.length=bins W+1:=hi.v
    obtain ⟨x,hx⟩:=jn_all hiv hio.symm
    rw [hx] at hQ
    have hfine:=HT.out x n hQ.symm
    have hFx:=hFm x hfine
    have hE:=fun w2 vv2 ww2 (h2:Rdr w2 w.heap.size ⟨V,W,0,true⟩ vv2 ww2)=>end_any h2 hiv (by omega) hx
    have hMx:=fun w2 vv2 ww2 (h2:Rdr w2 w.heap.size ⟨V,W,0,true⟩ vv2 ww2)=>mayEnd_any h2 (by show (0:Nat)≤4000;omega)
    simp only [decide_true,Bool.and_true] at hMx
    have hres:ofOut OUT=if fmX x=true then (x,n,0) else (noX,0,13):=by rw [← hQ];rfl
    obtain ⟨fb,hfb⟩:∃ fb,fmC x.1 x.2=fb:=⟨_,rfl⟩
    have hfb':fmX x=fb:=hfb
    rw [hfb'] at hres
    simp only [hfb] at hFx
    have hFx:∀ w1,Calls Tryz.prog 240 #[exX x] w1 fun r w'=>r=.returned (.bool fb)∧Below w1.heap.size w1 w':=hFx
    have hxf:=exX_form x
    obtain ⟨xv,hxv⟩:∃ xv,exX x=xv:=⟨_,rfl⟩
    rw [hxv] at hxf
    simp only [hxv] at hFx hE
    clear hfb hfb' hfine hFm hQ hx hiv hio hiw hbk
    cases fb with
    | true=>
     rw [if_pos rfl] at hres
     have HX:Hid (exX x=xv):=hxv
     have HRS:Hid (ofOut OUT=(x,n,0)):=hres
     clear hres hxv
     go_wp2_with (first
      | (go_at_call 269;refine (hMx _ _ _ hr).mono ?_;rintro e w2 ⟨rfl,b2⟩;have hr2:=hr.on b2;have hb2:=hb.trans (b2.mono hb.size))
      | (go_at_call 270;refine (hE _ _ _ hr2).mono ?_;rintro e w3 ⟨rfl,b3⟩;have hb3:=hb2.trans b3)
      | (go_at_call 240;refine (hFx _).mono ?_;rintro e w4 ⟨rfl,b4⟩;have hb4:=hb3.trans (b4.mono hb3.size)))
     go_ret3
     refine ⟨?_,hb4⟩
     rw [HRS.out]
     show _=Ending.returned (.tuple #[exX x,.int .i64 (n:Int),.int .i64 0])
     rw [HX.out];rfl
    | false=>
     rw [if_neg Bool.false_ne_true] at hres
     have HRS:Hid (ofOut OUT=(noX,0,13)):=hres
     clear hres hxv
     go_wp2_with (first
      | (go_at_call 269;refine (hMx _ _ _ hr).mono ?_;rintro e w2 ⟨rfl,b2⟩;have hr2:=hr.on b2;have hb2:=hb.trans (b2.mono hb.size))
      | (go_at_call 270;refine (hE _ _ _ hr2).mono ?_;rintro e w3 ⟨rfl,b3⟩;have hb3:=hb2.trans b3)
      | (go_at_call 240;refine (hFx _).mono ?_;rintro e w4 ⟨rfl,b4⟩;have hb4:=hb3.trans (b4.mono hb3.size)))
     go_ret3
     exact ⟨by rw [HRS.out];rfl,hb4⟩
   ·rw [if_neg hq] at hQ
    have hbo:(b && decide (o=0))=false:=by
     cases b with
     | false=>rfl
     | true=>exact decide_eq_false (fun e=>hq ⟨rfl,e⟩)
    have hMx:=fun w2 vv2 ww2 (h2:Rdr w2 w.heap.size ⟨V,W,o,b⟩ vv2 ww2)=>mayEnd_any h2 (by show o≤4000;omega)
    simp only [hbo] at hMx
    have HRS:Hid (ofOut OUT=(noX,n,12)):=by show _=_;rw [← hQ];rfl
    clear hbo hq hFm hQ hio hiw hbk
    go_wp2_with (first
     | (go_at_call 269;refine (hMx _ _ _ hr).mono ?_;rintro e w2 ⟨rfl,b2⟩;have hb2:=hb.trans (b2.mono hb.size)))
    go_ret3
    exact ⟨by rw [HRS.out];rfl,hb2⟩
theorem Pr.word {w:World} {X:Nat} {a:Option Addr} {cap:Nat} {ws:List Wd} {fin:Pl} {r:RsC} (h:Pr w X a cap ws fin r) (hk:Wk ws cap) {x:Wd} {l:List Wd} (hr:r.1=x :: l):OneW x.1 x.2.1:=by
 obtain ⟨n,_,h2,_⟩:=h
 rw [hr] at h2
 obtain ⟨hn,_,hx⟩:=drop_cons h2
 rw [← hx hn]
 exact hk.o _ (List.getElem_mem hn)
theorem name_word {w:World} {X:Nat} {a:Option Addr} {cap:Nat} {ws:List Wd} {fin:Pl} {r:RsC} (h:Pr w X a cap ws fin r) (hk:Wk ws cap):(wordR 1 fin r).2=(nameR fin r).2∧∃ k,wdA (wordR 1 fin r).1=.agg #[.int .i64 k,sV (nameR fin r).1.1,.int .i64 (nameR fin r).1.2.1,.int .i64 (nameR fin r).1.2.2]:=by
 have ho:=fun x l=>h.word hk (x:=x) (l:=l)
 unfold wordR nameR
 cases hr:r.1 with
 | nil=>exact ⟨rfl,_,rfl⟩
 | cons x l=>
  have h1:=kind_name (ho x l hr)
  have h2:plainB (tkW x).2=true↔x.1=1∧rsvB (tkW x).2=false:=by
   unfold plainB
   rw [Bool.and_eq_true,h1]
   exact and_congr Iff.rfl (by cases rsvB (tkW x).2 <;> simp)
  simp only
  by_cases hc:r.2.2=0∧x.1=1∧rsvB (tkW x).2=false
  ·rw [if_pos hc,if_pos ⟨hc.1,h2.2 hc.2⟩]
   exact ⟨rfl,_,rfl⟩
  ·rw [if_neg hc,if_neg (fun e=>hc ⟨e.1,h2.1 e.2⟩)]
   exact ⟨rfl,_,rfl⟩
theorem num_word {w:World} {X:Nat} {a:Option Addr} {cap:Nat} {ws:List Wd} {fin:Pl} {r:RsC} (h:Pr w X a cap ws fin r) (hk:Wk ws cap):(wordR 2 fin r).2=(numR fin r).2∧∃ k s p q,wdA (wordR 2 fin r).1=.agg #[.int .i64 k,.string s,.int .i64 p,.int .i64 q]∧((s=⟨#[]⟩∧(numR fin r).1=0)∨(numB (bl s)=true∧(numR fin r).1=valB 0 (bl s))):=by
 have ho:=fun x l=>h.word hk (x:=x) (l:=l)
 unfold wordR numR
 cases hr:r.1 with
 | nil=>exact ⟨rfl,_,_,_,_,rfl,.inl ⟨rfl,rfl⟩⟩
 | cons x l=>
  have h1:=(ho x l hr).kind
  simp only
  by_cases hc:r.2.2=0∧x.1=2
  ·have hn:numB (tkW x).2=true:=by
    rcases h1 with ⟨k,_⟩ | ⟨_,n⟩ | ⟨k,_⟩
    ·omega
    ·exact n
    ·omega
   rw [if_pos hc,if_pos ⟨hc.1,hc.2,rsv_num hn⟩]
   exact ⟨rfl,_,_,_,_,rfl,.inr ⟨hn,rfl⟩⟩
  ·rw [if_neg hc,if_neg (fun e=>hc ⟨e.1,e.2.1⟩)]
   exact ⟨rfl,_,_,_,_,rfl,.inl ⟨rfl,rfl⟩⟩
theorem at_blk {w w':World} {N:Nat} {a b:Value} (h:At w N a b) (hb:w'.heap[N]?=w.heap[N]?):At w' N a b:=
 ⟨keep_cell (p:=⟨N,0,none⟩) hb h.1,keep_cell (p:=⟨N,1,none⟩) hb h.2.1,(frozen_of_block hb).trans h.2.2.1,(frozen_of_block hb).trans h.2.2.2⟩
abbrev zP:Obj:=.cells #[.int .i64 0,.int .i64 0] 23
theorem alP (w:World):Below w.heap.size w (w.alloc zP):=(Below.refl _ _).alloc (Nat.le_refl _) _
theorem name_res {w4:World} {R:Nat} {a b s:Value} {tmps:Array Value} (h0:w4.cell? ⟨R,0,none⟩=some a) (h1:w4.cell? ⟨R,1,none⟩=some b) (ht:tmps.getD 3 undef=.pointer (some ⟨R,0,none⟩)) (h2:tmps.getD 2 undef=s):(results Tryz.f100 tmps).run Tryz.prog w4=.ok (.tuple #[s,.agg #[a,b]]) w4:=by
 have ht':tmps[3]?.getD undef=.pointer (some ⟨R,0,none⟩):=by simpa using ht
 have h2':tmps[2]?.getD undef=s:=by simpa using h2
 simp [results,Tryz.results100,go_sem,ht',h2',h0,h1]
set_option maxRecDepth 100000 in
set_option maxHeartbeats 4000000 in
theorem pname_any {w:World} {X:Nat} {a:Option Addr} {cap:Nat} {ws:List Wd} {fin:Pl} {r:RsC} (h:Pr w X a cap ws fin r) (hk:Wk ws cap) :
  Calls Tryz.prog 100 #[.pointer (some ⟨X,0,none⟩)] w fun e w'=>e=.returned (.tuple #[sV (nameR fin r).1.1,.agg #[.int .i64 (nameR fin r).1.2.1,.int .i64 (nameR fin r).1.2.2]])∧Pr w' X a cap ws fin (nameR fin r).2∧Fx X w w':=by
 have hX:=h.lt
 have hW:=word_any (h.on (alP w)) hk 1
 obtain ⟨e1,k,e2⟩:=name_word h hk
 rw [e1,e2] at hW
 obtain ⟨⟨⟨nm,ln,co⟩,r2⟩,hR⟩:∃ x,nameR fin r=x:=⟨_,rfl⟩
 rw [hR] at hW ⊢
 simp only at hW ⊢
 have hA:At (w.alloc zP) w.heap.size (.int .i64 0) (.int .i64 0):=At.new w _ _ _ _ rfl
 unfold sV at hW ⊢
 clear e1 e2 hR
 go_enter Tryz.func100,Tryz.ntmps100
 go_upto_region 2 with (first
  | (go_at_call 164;refine hW.mono ?_;rintro e w1 ⟨rfl,hp,hf⟩))
 have hA1:At w1 w.heap.size (.int .i64 0) (.int .i64 0):=at_blk hA (hf.block w.heap.size (by simp) (fun e=>by have:w.heap.size=X:=Option.some.inj e;omega))
 have hal:Below w1.heap.size w1 (w1.alloc (.cells #[.int .i64 k,.string ⟨nm.toArray⟩,.int .i64 ln,.int .i64 co] 106)):=(Below.refl _ _).alloc (Nat.le_refl _) _
 have hA2:=hA1.keep hal
 have hB2:B4 (w1.alloc (.cells #[.int .i64 k,.string ⟨nm.toArray⟩,.int .i64 ln,.int .i64 co] 106)) w1.heap.size (.int .i64 k) (.string ⟨nm.toArray⟩) (.int .i64 ln) (.int .i64 co):=B4.new _ _ _ _ _ _ _ rfl
 have hp2:=hp.on hal
 have hF2:Fx X w (w1.alloc (.cells #[.int .i64 k,.string ⟨nm.toArray⟩,.int .i64 ln,.int .i64 co] 106)):=((Fx.of (alP w) (Nat.le_refl _)).trans hf).alloc _
 obtain ⟨N,hN⟩:∃ N,w1.heap.size=N:=⟨_,rfl⟩
 rw [hN] at hB2 ⊢
 obtain ⟨y0,y1,y2,y3,z0,z1,z2,z3⟩:=id hB2
 obtain ⟨p0,p1,p2,p3⟩:=id hA2
 clear hA hA1 hf hp hal hW hN hB2
 generalize w1.alloc (.cells #[.int .i64 k,.string ⟨nm.toArray⟩,.int .i64 ln,.int .i64 co] 106)=w2 at *
 go_region
 go_wp2
 obtain ⟨q0,q1,_,_⟩:=(hA2.set0 (.int .i64 ln)).set1 (.int .i64 co)
 exact bodyPost_ret (name_res q0 q1 rfl rfl) rfl ⟨rfl,((hp2.far hX _).far hX _).on ((Below.refl _ _).drew),((hF2.setN (Nat.le_refl _) _).setN (Nat.le_refl _) _).drew⟩
/-- What strconv.ErrSyntax holds. -/
def Ey (w:World) (X:Nat):Prop:=(∃ ev,w.cell? ⟨renA.g 15,0,none⟩=some ev∧(ev=.nilIface∨∃ te pe,ev=.iface te pe))∧renA.g 15 < X
theorem Ey.fx {w w':World} {X:Nat} (h:Ey w X) (hf:Fx X w w'):Ey w' X:=by
 obtain ⟨⟨ev,h1,h2⟩,h3⟩:=h
 have hlt:renA.g 15 < w.heap.size:=World.block_lt_of_cell? w _ h1
 exact ⟨⟨ev,keep_cell (p:=⟨renA.g 15,0,none⟩) (hf.block _ hlt (fun e=>by have:renA.g 15=X:=Option.some.inj e;omega)) h1,h2⟩,h3⟩
theorem Ey.on {w w':World} {X:Nat} (h:Ey w X) (hb:Below w.heap.size w w'):Ey w' X:=h.fx (Fx.of hb (Nat.le_refl _))
theorem Ey.far {w:World} {X Y i:Nat} (h:Ey w X) (hY:X < Y) (u:Value):Ey (w.setCell ⟨Y,i,none⟩ u) X:=by
 obtain ⟨⟨ev,h1,h2⟩,h3⟩:=h
 exact ⟨⟨ev,cell_far4 (by omega) h1,h2⟩,h3⟩
theorem atoi_any {w:World} {X:Nat} (hE:Ey w X) (s:ByteArray) (n:Int) (h:(s=⟨#[]⟩∧n=0)∨(numB (bl s)=true∧n=valB 0 (bl s))):Calls Tryz.prog 165 #[.string s] w fun e w'=>(∃ u,e=.returned (.tuple #[.int .i64 n,u]))∧Below w.heap.size w w':=by
 rcases h with ⟨rfl,rfl⟩ | ⟨hs,rfl⟩
 ·obtain ⟨⟨ev,h1,h2⟩,_⟩:=hE
  refine (Any.strconv_Atoi_syntax laysA ⟨#[]⟩ (by decide) rfl ev w h1 h2).mono ?_
  rintro e w' ⟨N,rfl,_,_,hb⟩
  exact ⟨⟨_,rfl⟩,hb⟩
 ·have hl:=(num_len hs).1
  refine (Any.strconv_Atoi_ok laysA s (by rw [← bl_length];omega) (valB 0 (bl s)) (atoi_num hs) w).mono ?_
  rintro e w' ⟨rfl,hw⟩
  refine ⟨⟨_,rfl⟩,?_⟩
  rcases hw with rfl | ⟨t,rfl⟩
  ·exact Below.refl _ _
  ·exact bytesWorld_below _ _ _
set_option maxRecDepth 100000 in
set_option maxHeartbeats 4000000 in
theorem pnum_any {w:World} {X:Nat} {a:Option Addr} {cap:Nat} {ws:List Wd} {fin:Pl} {r:RsC} (h:Pr w X a cap ws fin r) (hk:Wk ws cap) (hE:Ey w X) :
  Calls Tryz.prog 101 #[.pointer (some ⟨X,0,none⟩)] w fun e w'=>e=.returned (.int .i64 (numR fin r).1)∧Pr w' X a cap ws fin (numR fin r).2∧Fx X w w':=by
 have hW:=word_any h hk 2
 obtain ⟨e1,k,s,p,q,e2,e3⟩:=num_word h hk
 rw [e1,e2] at hW
 have hA:=fun w1 (hE1:Ey w1 X)=>atoi_any hE1 s (numR fin r).1 e3
 obtain ⟨⟨n,r2⟩,hR⟩:∃ x,numR fin r=x:=⟨_,rfl⟩
 rw [hR] at hW ⊢
 simp only [hR] at hA
 simp only at hW ⊢
 have hfl:∀ w1,(Instr.field 106 (.agg #[.int .i64 k,.string s,.int .i64 p,.int .i64 q]) 1).run Tryz.prog w1=.ok (.string s) w1:=fun w1=>by kernel_rfl
 clear e1 e2 e3 hR
 go_enter Tryz.func101,Tryz.ntmps101
 go_wp2_with (first
  | (go_at_call 164;refine hW.mono ?_;rintro e w1 ⟨rfl,hp,hf⟩;have hE1:=hE.fx hf)
  | (go_at_call 165;refine (hA _ hE1).mono ?_;rintro e w2 ⟨⟨u,rfl⟩,hb⟩))
 go_ret
 exact ⟨rfl,hp.on hb,hf.trans (Fx.of hb (Nat.le_refl _))⟩
end Go.Proofs.YtfjdceknbdmhpaaGreatDoor
/- How many words an expression takes. -/
namespace Go.Proofs.YtfjdceknbdmhpaaGreatDoor
open Go.RowKit Go.Lib
set_option linter.unusedSimpArgs false
set_option linter.unusedVariables false
theorem stop_sndP (y:Yd) (n:Nat):(stopY y n).2=n:=by unfold stopY;split <;> rfl
theorem runY_leP (leaf:Tk→Option Sx):∀ (r:List Tk) (y:Yd) (n:Nat),(runY leaf y r n).2≤n+r.length
 | [],y,n=>by show (stopY y n).2≤_;rw [stop_sndP];omega
 | w :: r,y,n=>by
  unfold runY
  split
  ·have:=runY_leP leaf r (stp leaf y w).1 (n+1)
   rw [List.length_cons];omega
  ·rw [stop_sndP];omega
theorem take_le {ws:List Wd} (h:∀ w∈ws,OneW w.1 w.2.1):(takeC (ws.map tkW)).2.1≤ws.length:=by
 rw [(take_out h).1]
 have h1:=runY_leP (leafY (valB 0) rsvB) (ws.map tkW) ⟨[],[],0,false⟩ 0
 have h2:rnY (leafY (valB 0) rsvB) (ws.map tkW) ⟨[],[],0,false⟩ 0=runY (leafY (valB 0) rsvB) ⟨[],[],0,false⟩ (ws.map tkW) 0:=rfl
 rw [← h2,List.length_map] at h1
 generalize rnY (leafY (valB 0) rsvB) (ws.map tkW) ⟨[],[],0,false⟩ 0=O at h1 ⊢
 obtain ⟨o,n⟩:=O
 unfold ofOut
 cases o with
 | none=>simp only at h1 ⊢;omega
 | some x=>
  simp only at h1 ⊢
  split
  ·show n≤_;omega
  ·exact Nat.zero_le _
theorem take_kinds {l:List Tk}:(takeC l).2.2=0∨((takeC l).1=noX∧(takeC l).2.1=0∧(takeC l).2.2=13)∨((takeC l).1=noX∧(takeC l).2.2=12):=by
 unfold takeC
 split
 ·exact .inr (.inr ⟨rfl,rfl⟩)
 ·split
  ·exact .inl rfl
  ·exact .inr (.inl ⟨rfl,rfl,rfl⟩)
end Go.Proofs.YtfjdceknbdmhpaaGreatDoor
/- What the program's expression and set do. -/
namespace Go.Proofs.YtfjdceknbdmhpaaGreatDoor
open Go.RowKit Go.Lib
set_option linter.unusedSimpArgs false
set_option linter.unusedVariables false
attribute [local go_sem ↓] Go.wp_at_zero Go.wp_at_succ
/-- The words from n on, as a slice. -/
theorem slice_from {w:World} {X n:Nat} {a:Option Addr} {cap:Nat} {ws:List Wd} (hL:RdL w X a ws) (hn:n≤ws.length) (hc:ws.length≤cap):∃ a1,(∀ W,(Instr.slice 83 (.slice a ws.length cap) (some (.int .i64 (n:Int))) none none).run Tryz.prog W=.ok (.slice a1 (ws.drop n).length (cap - n)) W)∧RdL w X a1 (ws.drop n):=by
 refine ⟨(if cap=n then a else a.map (·.add (n*4))),fun W=>?_,fun i hi=>?_⟩
 ·have h:=run_slice_l (P:=Tryz.prog) (w:=W) (t:=83) (a:=a) (len:=ws.length) (cap:=cap) (ht:=by kernel_rfl) .i64 (n:Int) (by omega) (by omega)
  have e:(sizeOf (Tryz.prog.elem 83)).run Tryz.prog W=.ok 4 W:=by kernel_rfl
  rw [h,e]
  simp [Result.andThen,sliced]
 ·rw [List.length_drop] at hi
  obtain ⟨g,off,rfl,hg,c0,c1,c2,c3⟩:=hL (n+i) (by omega)
  have e:(ws.drop n)[i]'(by rw [List.length_drop];exact hi)=ws[n+i]:=by rw [List.getElem_drop]
  rw [if_neg (by omega),e]
  refine ⟨g,off+n*4,by simp [Addr.add],hg,?_,?_,?_,?_⟩
  ·rw [show off+n*4+i*4=off+(n+i)*4 by omega];exact c0
  ·rw [show off+n*4+i*4+1=off+(n+i)*4+1 by omega];exact c1
  ·rw [show off+n*4+i*4+2=off+(n+i)*4+2 by omega];exact c2
  ·rw [show off+n*4+i*4+3=off+(n+i)*4+3 by omega];exact c3
set_option maxRecDepth 100000 in
set_option maxHeartbeats 4000000 in
theorem expr_any {w:World} {X:Nat} {a:Option Addr} {cap:Nat} {ws:List Wd} {fin:Pl} {r:RsC} (h:Pr w X a cap ws fin r) (hk:Wk ws cap) :
  Calls Tryz.prog 214 #[.pointer (some ⟨X,0,none⟩)] w fun e w'=>e=.returned (exX (exprR fin r).1)∧Pr w' X a cap ws fin (exprR fin r).2∧Fx X w w':=by
 obtain ⟨n,h1,h2,h3,h4⟩:=id h
 have hX:=h.lt
 have hlen:=hk.l
 obtain ⟨b,hb⟩:∃ b,r.2.2=b:=⟨_,rfl⟩
 obtain ⟨c0,c1,c2,f1,f2,hL⟩:=id h1
 rw [hb] at c2
 obtain ⟨RS,hRS⟩:∃ RS,exprR fin r=RS:=⟨_,rfl⟩
 rw [hRS]
 unfold exprR at hRS
 by_cases hz:b≠0
 ·rw [if_pos (by rw [hb];exact hz)] at hRS
  have i1:(b != 0)=true:=by simpa using hz
  subst hRS
  clear hL h1 h2 h3 h4 hb hz
  go_enter Tryz.func214,Tryz.ntmps214
  go_wp2
  go_ret
  exact ⟨rfl,h,Fx.refl X w⟩
 ·rw [if_neg (by rw [hb];exact hz)] at hRS
  have hz0:b=0:=Decidable.not_not.1 hz
  subst hz0
  obtain ⟨a1,hsl,hL1⟩:=slice_from hL h3 hk.c
  have hl2:(ws.drop n).length≤3000:=by rw [List.length_drop];omega
  have h1w:∀ x∈ws.drop n,OneW x.1 x.2.1:=fun x hx=>hk.o x (List.mem_of_mem_drop hx)
  have hmx:=hk.m
  have hTk:∀ w1,Fx X w w1→Calls Tryz.prog 248 #[.slice a1 (ws.drop n).length (cap - n)] w1 _:=fun w1 hf=>pTake_rd (by rw [List.length_drop];have:=hk.c;omega) (by omega) (fun i hi=>by
   obtain ⟨g,off,q1,q2,q3⟩:=hL1.fx hX hf i hi
   exact ⟨g,off,q1,Nat.lt_trans q2 (Nat.lt_of_lt_of_le hX hf.size),q3⟩) h1w hl2
  have hle:=take_le h1w
  rw [h2] at hRS
  rw [List.length_drop] at hle
  obtain ⟨⟨x,m,f⟩,hT⟩:∃ t,takeC ((ws.drop n).map tkW)=t:=⟨_,rfl⟩
  have hkd:=take_kinds (l:=(ws.drop n).map tkW)
  rw [hT] at hle hkd hRS
  simp only [hT,List.length_drop] at hTk
  simp only [List.length_drop] at hsl
  simp only at hle hkd hTk hRS
  have i5:IntKind.i64.wrap ((n:Int)+(m:Int))=(n:Int)+(m:Int):=by rw [IntKind.wrap_i64];omega
  have i7:((n+m:Nat):Int)=(n:Int)+(m:Int):=by omega
  obtain ⟨xv,hxv⟩:∃ xv,exX x=xv:=⟨_,rfl⟩
  simp only [hxv] at hTk
  have hF:=fun w1 (hr:Rr w1 X a cap ws (n+m) 0)=>pfail_any hr f
  rw [hb] at h1
  have HZ:Hid ((f=0→RS=(x,(ws.drop (n+m),r.2)))∧(f≠0→RS.1=x∧∀ w4,Rr w4 X a cap ws (n+m) (if (0:Int)=0 then f else 0)→Pr w4 X a cap ws fin RS.2)∧exX x=xv∧∀ w4,Rr w4 X a cap ws (n+m) 0→Pr w4 X a cap ws fin (ws.drop (n+m),r.2)):=by
   refine ⟨fun q=>?_,fun q=>?_,hxv,fun w4 hr4=>?_⟩
   ·rw [if_pos q,List.drop_drop] at hRS;exact hRS.symm
   ·have hP:∀ w4,Rr w4 X a cap ws (n+m) (if (0:Int)=0 then f else 0)→Pr w4 X a cap ws fin (failC f (hereR fin (ws.drop (n+m),r.2)) (ws.drop (n+m),r.2)):=fun w4 hr4=>Pr.bad (r:=(ws.drop (n+m),r.2)) (by show Rr _ X a cap ws (n+m) (if r.2.2=0 then f else r.2.2);rw [hb];exact hr4) rfl (by omega) (fun e=>absurd hb e)
    rw [if_neg q] at hRS
    rcases hkd with q0 | ⟨q1,q2,q3⟩ | ⟨q1,q2⟩
    ·exact absurd q0 q
    ·rw [if_pos q3] at hRS
     subst hRS
     refine ⟨rfl,fun w4 hr4=>?_⟩
     have:=hP w4 hr4
     subst q2
     rw [Nat.add_zero,← h2,q3] at this
     exact this
    ·rw [if_neg (by omega),List.drop_drop] at hRS
     subst hRS
     exact ⟨rfl,hP⟩
   ·exact ⟨n+m,by show Rr _ X a cap ws (n+m) r.2.2;rw [hb];exact hr4,rfl,by omega,fun e=>absurd hb e⟩
  clear hT hkd h2 h4 hL hL1 hxv hb hz h1w hRS
  by_cases hf0:f=0
  ·have i1:(f != 0)=false:=by simp [hf0]
   go_enter Tryz.func214,Tryz.ntmps214
   go_upto_region 3 with fail
   go_region_held_law (fun W=>W.cell? ⟨X,0,none⟩=some (.slice a ws.length cap)∧W.cell? ⟨X,1,none⟩=some (.int .i64 (n:Int)))
    (refine ⟨?_,?_⟩ <;> assumption)
    (first
     | (go_at_call 248;(with_reducible refine (hTk _ ((Fx.refl X w).drew)).mono ?_);rintro e w2 ⟨rfl,b2⟩;have hR2:=h1.on (((Below.refl _ w).drew).trans b2);have hF2:=(Fx.refl X w).drew.trans (Fx.of b2 (Nat.le_refl _));have k0:=hR2.c0;have k1:=hR2.c1))
   have g1:=hR2.f1
   have hR3:=hR2.set1 (n+m)
   have hF3:=hF2.setX (i:=1) (.int .i64 ((n+m:Nat):Int))
   rw [i7] at hR3 hF3
   clear c0 c1 c2 f1 f2
   go_wp2
   go_ret
   obtain ⟨z1,_,z3,z4⟩:=HZ.out
   rw [z1 hf0]
   exact ⟨by rw [z3];rfl,z4 _ hR3,hF3⟩
  ·have i1:(f != 0)=true:=by simp [hf0]
   go_enter Tryz.func214,Tryz.ntmps214
   go_upto_region 3 with fail
   go_region_held_law (fun W=>W.cell? ⟨X,0,none⟩=some (.slice a ws.length cap)∧W.cell? ⟨X,1,none⟩=some (.int .i64 (n:Int)))
    (refine ⟨?_,?_⟩ <;> assumption)
    (first
     | (go_at_call 248;(with_reducible refine (hTk _ ((Fx.refl X w).drew)).mono ?_);rintro e w2 ⟨rfl,b2⟩;have hR2:=h1.on (((Below.refl _ w).drew).trans b2);have hF2:=(Fx.refl X w).drew.trans (Fx.of b2 (Nat.le_refl _));have k0:=hR2.c0;have k1:=hR2.c1))
   have g1:=hR2.f1
   have hR3:=hR2.set1 (n+m)
   have hF3:=hF2.setX (i:=1) (.int .i64 ((n+m:Nat):Int))
   rw [i7] at hR3 hF3
   clear c0 c1 c2 f1 f2
   go_upto_region 6 with fail
   generalize w2.setCell ⟨X,1,none⟩ (.int .i64 ((n:Int)+(m:Int)))=W3 at *
   go_wp2_with (first
    | (go_at_call 106;refine (hF _ hR3).mono ?_;rintro e w4 ⟨⟨u,rfl⟩,hr4,hf4⟩))
   go_ret
   obtain ⟨_,z2,z3,_⟩:=HZ.out
   obtain ⟨z5,z6⟩:=z2 hf0
   exact ⟨by rw [z5,z3];rfl,z6 _ hr4,hF3.trans hf4⟩
end Go.Proofs.YtfjdceknbdmhpaaGreatDoor
