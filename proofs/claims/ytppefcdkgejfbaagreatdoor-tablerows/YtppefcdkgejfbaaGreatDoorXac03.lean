import Derived.Test.YtppefcdkgejfbaaGreatDoorXac02
import Derived.Deep.RegionHeldLaw
import Derived.Deep.Cut
import Derived.Sort.Grow
import Derived.Shelf.SlSortCmp.Whole1
import Derived.Test.YtppefcdkgejfbaaGreatDoorRows
import Derived.Lib.OwnBridge
import Derived.Test.YtppefcdkgejfbaaGreatDoorXac01
set_option maxRecDepth 100000
set_option maxHeartbeats 32000000
namespace Go.Proofs.YtppefcdkgejfbaaGreatDoor
open Go.RowKit Go.Lib
set_option linter.unusedSimpArgs false
set_option linter.unusedVariables false
attribute [local go_sem ↓] Go.wp_at_zero Go.wp_at_succ
theorem nd_ext {n m:Nd}(h1:n.1=m.1) (h2:n.2.1.1=m.2.1.1) (h3:n.2.1.2.1=m.2.1.2.1) (h4:n.2.1.2.2=m.2.1.2.2) (h5:n.2.2.1=m.2.2.1) (h6:n.2.2.2.1=m.2.2.2.1) (h7:n.2.2.2.2=m.2.2.2.2):n=m:=by
 obtain ⟨a,⟨b,c,d⟩,e,f,g⟩:=n
 obtain ⟨a',⟨b',c',d'⟩,e',f',g'⟩:=m
 simp only at h1 h2 h3 h4 h5 h6 h7
 subst h1 h2 h3 h4 h5 h6 h7
 rfl
theorem fm_placed (l:List Nd):FmP l.length (nD l) (nP l) (nB l) (nL l)↔(l.length<=40/\nst (nD l) l.length/\∀ i < l.length,nAt l i=plN l i):=by
 unfold FmP
 refine and_congr Iff.rfl (and_congr Iff.rfl ⟨fun h i hi=>?_,fun h i hi=>?_⟩)
 ·obtain ⟨h1,h2,h3⟩:=h i hi
  refine nd_ext rfl h1 rfl h2 rfl rfl ?_
  show nL l i=decide (pbeh (nD l) (nD l i) (l.length - (i+1)) (i+1)=i+1)
  rw [h3,h2,lf_same,Bool.eq_iff_iff,decide_eq_true_eq,beq_iff_eq]
 ·have e:=h i hi
  have h1:nP l i=(plN l i).2.1.1:=by unfold nP;rw [e]
  have h2:nB l i=(plN l i).2.1.2.2:=by unfold nB;rw [e]
  have h3:nL l i=(plN l i).2.2.2.2:=by unfold nL;rw [e]
  refine ⟨h1,h2,h3.trans ?_⟩
  show decide (pbeh (nD l) (nD l i) (l.length - (i+1)) (i+1)=i+1)=_
  rw [h2]
  show _=decide (((pbeh (nD l) (nD l i) (l.length - (i+1)) (i+1):Nat):Int)=(i:Int)+1)
  rw [lf_same,Bool.eq_iff_iff,decide_eq_true_eq,beq_iff_eq]
theorem tformed_any {ok:Nat->Prop}{w:World}{l:List Nd}{v:Value}(h:RdNd ok w l v) :
  Calls Tryz.prog 20 #[v] w fun e w'=>e=.returned (.bool (fmB l))/\Below w.heap.size w w':=by
 obtain ⟨a,cap,rfl,hlc,hcm⟩:=h.form
 unfold maxLen at hcm
 obtain ⟨V,hV⟩:∃ V,fmB l=V:=⟨_,rfl⟩
 rw [hV]
 have HV:Hid (fmB l=V):=hV
 have HC:=hidOf h
 have hF:¬ (l.length<=40/\nst (nD l) l.length/\∀ i < l.length,nAt l i=plN l i)->V=false:=fun h=>by
  rw [<- HV.out]
  unfold fmB
  rw [decide_eq_false]
  exact fun h2=>h ((fm_placed l).1 h2)
 have hT:(l.length<=40/\nst (nD l) l.length/\∀ i < l.length,nAt l i=plN l i)->V=true:=fun h=>by
  rw [<- HV.out]
  unfold fmB
  rw [decide_eq_true]
  exact (fm_placed l).2 h
 have hne:=fun (h40:l.length<=40) w1 (b1:Below w.heap.size w w1)=>nested_any (h.stay kp_nd (ok':=ok) (w':=w1) (fun k hk hl=>⟨hk,b1.block k hl⟩)) h40
 obtain ⟨n,hn⟩:∃ n,l.length=n:=⟨_,rfl⟩
 rw [hn] at hlc hF hT hne ⊢
 have HN:Hid (l.length=n):=hn
 have HT:=hidOf hT
 have HF:=hidOf hF
 clear h hV hn hT hF
 by_cases h40:40 < n
 ·have hF:=HF.out (fun h=>by omega)
  subst hF
  have i0:(40:Int) < (n:Int):=by omega
  clear hne
  go_enter Tryz.func20,Tryz.ntmps20
  go_wp2
  go_ret
  exact ⟨rfl,Below.refl _ _⟩
 have i0:¬ (40:Int) < (n:Int):=by omega
 have hne:=fun w1 b1=>hne (by omega) w1 b1
 obtain ⟨NS,hNS⟩:∃ x,nsB l=x:=⟨_,rfl⟩
 rw [hNS] at hne
 cases NS with
 | false=>
  have hF:=HF.out (fun h=>by
   unfold nsB at hNS
   rw [HN.out] at hNS
   exact absurd h.2.1 (of_decide_eq_false hNS))
  subst hF
  clear hNS
  go_enter Tryz.func20,Tryz.ntmps20
  go_wp2_with (first|(go_at_call 41;refine (hne _ (Below.refl _ _)).mono ?_;rintro e w1 ⟨rfl,b1⟩)|fail)
  go_ret
  exact ⟨rfl,b1⟩
 | true=>
  have hns2:nst (nD l) n:=by
   unfold nsB at hNS
   rw [HN.out] at hNS
   exact of_decide_eq_true hNS
  have HNS:=hidOf hns2
  clear hns2
  clear hNS
  go_enter Tryz.func20,Tryz.ntmps20
  go_wp2_with (first|(go_at_call 41;refine (hne _ (Below.refl _ _)).mono ?_;rintro e w1 ⟨rfl,b1⟩)|fail)
  clear hne
  go_loopw [14] (fun ix wr=>∃ (j:Nat),j<=n/\ix=.int .i64 (j:Int)/\Hid (∀ i < j,nAt l i=plN l i)/\Below w.heap.size w wr) (fun ix _=>n - (RowKit.intOf ix).toNat)
  case atStart=>exact ⟨0,Nat.zero_le _,rfl,fun i hi=>by omega,b1⟩
  case round=>
   clear b1
   obtain ⟨j,hj,rfl,HI,hb⟩:=hrel
   by_cases hlt:j < n
   ·have hpl:=fun w1 (b1:Below wr.heap.size wr w1)=>placed_any (HC.out.stay kp_nd (ok':=ok) (w':=w1) (fun k hk hl=>⟨hk,(b1.block k (Nat.lt_of_lt_of_le hl hb.size)).trans (hb.block k hl)⟩)) (by rw [HN.out];omega) (i:=j) (by rw [HN.out];exact hlt)
    obtain ⟨b,off,rfl,hbl,c0,c1,c2,c3,c4,c5,c6⟩:=nd_at HC.out j (by rw [HN.out];exact hlt)
    rw [HN.out] at hpl
    have hcx:∀ (w1:World) (p:Addr),Below wr.heap.size wr w1->p.block=b->w1.cell? p=w.cell? p:=fun w1 p h1 hp=>((h1.cell (p:=p) (by rw [hp];exact Nat.lt_of_lt_of_le hbl hb.size)).trans (hb.cell (p:=p) (by rw [hp];exact hbl)))
    have HCX:=hidOf hcx
    replace c0:=(hb.cell (p:=⟨b,off+j*7,none⟩) hbl).trans c0
    replace c1:=(hb.cell (p:=⟨b,off+j*7+1,none⟩) hbl).trans c1
    replace c2:=(hb.cell (p:=⟨b,off+j*7+2,none⟩) hbl).trans c2
    replace c3:=(hb.cell (p:=⟨b,off+j*7+3,none⟩) hbl).trans c3
    replace c4:=(hb.cell (p:=⟨b,off+j*7+4,none⟩) hbl).trans c4
    replace c5:=(hb.cell (p:=⟨b,off+j*7+5,none⟩) hbl).trans c5
    replace c6:=(hb.cell (p:=⟨b,off+j*7+6,none⟩) hbl).trans c6
    have e0:(plN l j).1=(nAt l j).1:=rfl
    have e2:(plN l j).2.1.2.1=nD l j:=rfl
    have e4:(plN l j).2.2.1=(nAt l j).2.2.1:=rfl
    have e5:(plN l j).2.2.2.1=(nAt l j).2.2.2.1:=rfl
    have hpv:ndV (plN l j)=[.string (nAt l j).1,.int .i64 (plN l j).2.1.1,.int .i64 (nD l j),.int .i64 (plN l j).2.1.2.2,.bool (nAt l j).2.2.1,.bool (nAt l j).2.2.2.1,.bool (plN l j).2.2.2.2]:=rfl
    rw [hpv] at hpl
    have HE:Hid ((nAt l j=plN l j)↔(nP l j=(plN l j).2.1.1/\nB l j=(plN l j).2.1.2.2/\nL l j=(plN l j).2.2.2.2)):=by
     constructor
     ·intro h
      unfold nP nB nL
      rw [<- h]
      exact ⟨rfl,rfl,rfl⟩
     ·rintro ⟨h1,h2,h3⟩
      exact nd_ext rfl h1 rfl h2 rfl rfl h3
    have hcases:((nP l j == (plN l j).2.1.1)=false/\¬ (nAt l j=plN l j))∨(nP l j=(plN l j).2.1.1/\(nB l j == (plN l j).2.1.2.2)=false/\¬ (nAt l j=plN l j))∨(nP l j=(plN l j).2.1.1/\nB l j=(plN l j).2.1.2.2/\(nL l j == (plN l j).2.2.2.2)=false/\¬ (nAt l j=plN l j))∨(nP l j=(plN l j).2.1.1/\nB l j=(plN l j).2.1.2.2/\nL l j=(plN l j).2.2.2.2/\(nAt l j=plN l j)):=by
     by_cases h1:nP l j=(plN l j).2.1.1
     ·by_cases h2:nB l j=(plN l j).2.1.2.2
      ·by_cases h3:nL l j=(plN l j).2.2.2.2
       ·exact .inr (.inr (.inr ⟨h1,h2,h3,HE.out.2 ⟨h1,h2,h3⟩⟩))
       ·exact .inr (.inr (.inl ⟨h1,h2,beq_eq_false_iff_ne.2 h3,fun h=>h3 (HE.out.1 h).2.2⟩))
      ·exact .inr (.inl ⟨h1,beq_eq_false_iff_ne.2 h2,fun h=>h2 (HE.out.1 h).2.1⟩)
     ·exact .inl ⟨beq_eq_false_iff_ne.2 h1,fun h=>h1 (HE.out.1 h).1⟩
    have HEQ:Hid (∀ (x:Prop),x->x):=fun _ h=>h
    generalize (nAt l j).1=x0 at c0 hpl
    generalize nP l j=x1 at c1 hcases
    generalize nD l j=x2 at c2 hpl
    generalize nB l j=x3 at c3 hcases
    generalize (nAt l j).2.2.1=x4 at c4 hpl
    generalize (nAt l j).2.2.2.1=x5 at c5 hpl
    generalize nL l j=x6 at c6 hcases
    generalize (plN l j).2.1.1=y1 at hpl hcases
    generalize (plN l j).2.1.2.2=y3 at hpl hcases
    generalize (plN l j).2.2.2.2=y6 at hpl hcases
    clear e0 e2 e4 e5 hpv HE hcx HEQ
    have i1:(j:Int) < (n:Int):=by omega
    have i2:(0:Int)<=(j:Int):=by omega
    have hB:Below wr.heap.size wr wr:=Below.refl _ _
    rcases hcases with ⟨u1,hne⟩|⟨rfl,u1,hne⟩|⟨rfl,rfl,u1,hne⟩|⟨rfl,rfl,rfl,he⟩
    ·skip
     have hbr:b < wr.heap.size:=Nat.lt_of_lt_of_le hbl hb.size
     go_upto_region 6 with fail
     have y0:=c0
     have y1:=c1
     have y2:=c2
     have y3:=c3
     have y4:=c4
     have y5:=c5
     have y6:=c6
     go_region_held_law (fun w'=>w'.cell? ⟨b,off+j*7,none⟩=some (.string x0)/\w'.cell? ⟨b,off+j*7+1,none⟩=some (.int .i64 x1)/\w'.cell? ⟨b,off+j*7+2,none⟩=some (.int .i64 x2)/\w'.cell? ⟨b,off+j*7+3,none⟩=some (.int .i64 x3)/\w'.cell? ⟨b,off+j*7+4,none⟩=some (.bool x4)/\w'.cell? ⟨b,off+j*7+5,none⟩=some (.bool x5)/\w'.cell? ⟨b,off+j*7+6,none⟩=some (.bool x6))
      ((refine ⟨?_,?_,?_,?_,?_,?_,?_⟩<;>(repeat (with_reducible first|exact y0|exact y1|exact y2|exact y3|exact y4|exact y5|exact y6|refine cell_drw ?_))<;>done))
      (first
       | (go_at_call 42;(with_reducible first|refine (hpl _ hB).mono ?_|refine (hpl _ hB.drew).mono ?_);rintro e w1 ⟨rfl,b1⟩;(first|have hB:=Below.nxtd hB b1|have hB:=Below.nxt hB b1);have y0:=(hB.cell (p:=⟨b,off+j*7,none⟩) hbr).trans c0;have y1:=(hB.cell (p:=⟨b,off+j*7+1,none⟩) hbr).trans c1;have y2:=(hB.cell (p:=⟨b,off+j*7+2,none⟩) hbr).trans c2;have y3:=(hB.cell (p:=⟨b,off+j*7+3,none⟩) hbr).trans c3;have y4:=(hB.cell (p:=⟨b,off+j*7+4,none⟩) hbr).trans c4;have y5:=(hB.cell (p:=⟨b,off+j*7+5,none⟩) hbr).trans c5;have y6:=(hB.cell (p:=⟨b,off+j*7+6,none⟩) hbr).trans c6))
     all_goals (
      have hbw:=hb.trans (hB.mono hb.size)
      have hF:=HF.out (fun h=>hne (h.2.2 j hlt))
      subst hF
      go_wp2
      go_ret
      exact ⟨rfl,hbw⟩)
    ·skip
     have hbr:b < wr.heap.size:=Nat.lt_of_lt_of_le hbl hb.size
     go_upto_region 6 with fail
     have y0:=c0
     have y1:=c1
     have y2:=c2
     have y3:=c3
     have y4:=c4
     have y5:=c5
     have y6:=c6
     go_region_held_law (fun w'=>w'.cell? ⟨b,off+j*7,none⟩=some (.string x0)/\w'.cell? ⟨b,off+j*7+1,none⟩=some (.int .i64 x1)/\w'.cell? ⟨b,off+j*7+2,none⟩=some (.int .i64 x2)/\w'.cell? ⟨b,off+j*7+3,none⟩=some (.int .i64 x3)/\w'.cell? ⟨b,off+j*7+4,none⟩=some (.bool x4)/\w'.cell? ⟨b,off+j*7+5,none⟩=some (.bool x5)/\w'.cell? ⟨b,off+j*7+6,none⟩=some (.bool x6))
      ((refine ⟨?_,?_,?_,?_,?_,?_,?_⟩<;>(repeat (with_reducible first|exact y0|exact y1|exact y2|exact y3|exact y4|exact y5|exact y6|refine cell_drw ?_))<;>done))
      (first
       | (go_at_call 42;(with_reducible first|refine (hpl _ hB).mono ?_|refine (hpl _ hB.drew).mono ?_);rintro e w1 ⟨rfl,b1⟩;(first|have hB:=Below.nxtd hB b1|have hB:=Below.nxt hB b1);have y0:=(hB.cell (p:=⟨b,off+j*7,none⟩) hbr).trans c0;have y1:=(hB.cell (p:=⟨b,off+j*7+1,none⟩) hbr).trans c1;have y2:=(hB.cell (p:=⟨b,off+j*7+2,none⟩) hbr).trans c2;have y3:=(hB.cell (p:=⟨b,off+j*7+3,none⟩) hbr).trans c3;have y4:=(hB.cell (p:=⟨b,off+j*7+4,none⟩) hbr).trans c4;have y5:=(hB.cell (p:=⟨b,off+j*7+5,none⟩) hbr).trans c5;have y6:=(hB.cell (p:=⟨b,off+j*7+6,none⟩) hbr).trans c6))
     all_goals (
      have hbw:=hb.trans (hB.mono hb.size)
      have hF:=HF.out (fun h=>hne (h.2.2 j hlt))
      subst hF
      go_wp2
      go_ret
      exact ⟨rfl,hbw⟩)
    ·skip
     have hbr:b < wr.heap.size:=Nat.lt_of_lt_of_le hbl hb.size
     go_upto_region 6 with fail
     have y0:=c0
     have y1:=c1
     have y2:=c2
     have y3:=c3
     have y4:=c4
     have y5:=c5
     have y6:=c6
     go_region_held_law (fun w'=>w'.cell? ⟨b,off+j*7,none⟩=some (.string x0)/\w'.cell? ⟨b,off+j*7+1,none⟩=some (.int .i64 x1)/\w'.cell? ⟨b,off+j*7+2,none⟩=some (.int .i64 x2)/\w'.cell? ⟨b,off+j*7+3,none⟩=some (.int .i64 x3)/\w'.cell? ⟨b,off+j*7+4,none⟩=some (.bool x4)/\w'.cell? ⟨b,off+j*7+5,none⟩=some (.bool x5)/\w'.cell? ⟨b,off+j*7+6,none⟩=some (.bool x6))
      ((refine ⟨?_,?_,?_,?_,?_,?_,?_⟩<;>(repeat (with_reducible first|exact y0|exact y1|exact y2|exact y3|exact y4|exact y5|exact y6|refine cell_drw ?_))<;>done))
      (first
       | (go_at_call 42;(with_reducible first|refine (hpl _ hB).mono ?_|refine (hpl _ hB.drew).mono ?_);rintro e w1 ⟨rfl,b1⟩;(first|have hB:=Below.nxtd hB b1|have hB:=Below.nxt hB b1);have y0:=(hB.cell (p:=⟨b,off+j*7,none⟩) hbr).trans c0;have y1:=(hB.cell (p:=⟨b,off+j*7+1,none⟩) hbr).trans c1;have y2:=(hB.cell (p:=⟨b,off+j*7+2,none⟩) hbr).trans c2;have y3:=(hB.cell (p:=⟨b,off+j*7+3,none⟩) hbr).trans c3;have y4:=(hB.cell (p:=⟨b,off+j*7+4,none⟩) hbr).trans c4;have y5:=(hB.cell (p:=⟨b,off+j*7+5,none⟩) hbr).trans c5;have y6:=(hB.cell (p:=⟨b,off+j*7+6,none⟩) hbr).trans c6))
     all_goals (
      have hbw:=hb.trans (hB.mono hb.size)
      have hF:=HF.out (fun h=>hne (h.2.2 j hlt))
      subst hF
      go_wp2
      go_ret
      exact ⟨rfl,hbw⟩)
    ·skip
     have hbr:b < wr.heap.size:=Nat.lt_of_lt_of_le hbl hb.size
     go_upto_region 6 with fail
     have y0:=c0
     have y1:=c1
     have y2:=c2
     have y3:=c3
     have y4:=c4
     have y5:=c5
     have y6:=c6
     go_region_held_law (fun w'=>w'.cell? ⟨b,off+j*7,none⟩=some (.string x0)/\w'.cell? ⟨b,off+j*7+1,none⟩=some (.int .i64 x1)/\w'.cell? ⟨b,off+j*7+2,none⟩=some (.int .i64 x2)/\w'.cell? ⟨b,off+j*7+3,none⟩=some (.int .i64 x3)/\w'.cell? ⟨b,off+j*7+4,none⟩=some (.bool x4)/\w'.cell? ⟨b,off+j*7+5,none⟩=some (.bool x5)/\w'.cell? ⟨b,off+j*7+6,none⟩=some (.bool x6))
      ((refine ⟨?_,?_,?_,?_,?_,?_,?_⟩<;>(repeat (with_reducible first|exact y0|exact y1|exact y2|exact y3|exact y4|exact y5|exact y6|refine cell_drw ?_))<;>done))
      (first
       | (go_at_call 42;(with_reducible first|refine (hpl _ hB).mono ?_|refine (hpl _ hB.drew).mono ?_);rintro e w1 ⟨rfl,b1⟩;(first|have hB:=Below.nxtd hB b1|have hB:=Below.nxt hB b1);have y0:=(hB.cell (p:=⟨b,off+j*7,none⟩) hbr).trans c0;have y1:=(hB.cell (p:=⟨b,off+j*7+1,none⟩) hbr).trans c1;have y2:=(hB.cell (p:=⟨b,off+j*7+2,none⟩) hbr).trans c2;have y3:=(hB.cell (p:=⟨b,off+j*7+3,none⟩) hbr).trans c3;have y4:=(hB.cell (p:=⟨b,off+j*7+4,none⟩) hbr).trans c4;have y5:=(hB.cell (p:=⟨b,off+j*7+5,none⟩) hbr).trans c5;have y6:=(hB.cell (p:=⟨b,off+j*7+6,none⟩) hbr).trans c6))
     all_goals (
      have hbw:=hb.trans (hB.mono hb.size)
      go_wp2
      go_roundw
      case rel=>exact ⟨j+1,hlt,by go_num,(fun i hi=>by
       rcases Nat.lt_or_ge i j with h2|h2
       ·exact HI.out i h2
       ·have h3:i=j:=by omega
        rw [h3];exact he),hbw⟩
      case measure=>simp [RowKit.intOf];omega)
   ·have i1:¬ (j:Int) < (n:Int):=by omega
    have hT:=HT.out ⟨by omega,HNS.out,fun i hi=>HI.out i (by omega)⟩
    subst hT
    go_wp2
    go_ret
    exact ⟨rfl,hb⟩
def nmB (n:Nat) (i:Int):Bool:=decide (0<=i) && decide (i < n)
theorem nmB_true {n:Nat}{i:Int}(h:nmB n i=true):∃ k:Nat,i=k/\k < n:=by
 unfold nmB at h
 simp only [Bool.and_eq_true,decide_eq_true_eq] at h
 exact ⟨i.toNat,by omega,by omega⟩
theorem nmB_nat {n k:Nat}(h:k < n):nmB n (k:Int)=true:=by
 unfold nmB
 simp only [Bool.and_eq_true,decide_eq_true_eq]
 omega
theorem nmB_no {n:Nat}{i:Int}(h:¬ (0<=i/\i < n)):nmB n i=false:=by
 unfold nmB
 rw [Bool.eq_false_iff]
 simp only [ne_eq,Bool.and_eq_true,decide_eq_true_eq]
 exact h
theorem numbered_any {w:World}{a:Option Addr}{n cap:Nat}(i:Int) (hlc:n<=cap) (hcm:cap<=maxLen) :
  Calls Tryz.prog 21 #[.slice a n cap,.int .i64 i] w fun e w'=>e=.returned (.bool (nmB n i))/\w=w':=by
 unfold maxLen at hcm
 by_cases h0:0<=i
 ·by_cases h1:i < n
  ·have e:nmB n i=true:=by unfold nmB;simp [h0,h1]
   rw [e]
   clear e
   go_enter Tryz.func21,Tryz.ntmps21
   go_wp2
   go_ret
   exact ⟨rfl,rfl⟩
  ·have e:nmB n i=false:=nmB_no (fun h=>h1 h.2)
   rw [e]
   clear e
   go_enter Tryz.func21,Tryz.ntmps21
   go_wp2
   go_ret
   exact ⟨rfl,rfl⟩
 ·have e:nmB n i=false:=nmB_no (fun h=>h0 h.1)
  rw [e]
  clear e
  go_enter Tryz.func21,Tryz.ntmps21
  go_wp2
  go_ret
  exact ⟨rfl,rfl⟩
theorem liesIn_any {ok:Nat->Prop}{w:World}{l:List Nd}{v:Value}(h:RdNd ok w l v) (i:Int) (j:Nat) (hj:j < l.length) :
  Calls Tryz.prog 22 #[v,.int .i64 i,.int .i64 (j:Int)] w fun e w'=>e=.returned (.bool (lsP (nB l) i j))/\w=w':=by
 obtain ⟨a,cap,rfl,hlc,hcm⟩:=h.form
 unfold maxLen at hcm
 obtain ⟨b,off,rfl,hbl,c0,c1,c2,c3,c4,c5,c6⟩:=nd_at h j hj
 have i1:(j:Int) < (l.length:Int):=by omega
 have i2:(0:Int)<=(j:Int):=by omega
 have eP:lsP (nB l) i j=(decide ((j:Int) < i) && decide (i < nB l j)):=by unfold lsP;rw [Int.toNat_natCast]
 rw [eP]
 generalize nB l j=q at *
 generalize l.length=n at *
 clear h c0 c1 c2 c4 c5 c6 eP
 by_cases h1:(j:Int) < i
 ·by_cases h2:i < q
  ·have e:(decide ((j:Int) < i) && decide (i < q))=true:=by simp [h1,h2]
   rw [e]
   clear e
   go_enter Tryz.func22,Tryz.ntmps22
   go_wp2
   go_ret
   exact ⟨rfl,rfl⟩
  ·have e:(decide ((j:Int) < i) && decide (i < q))=false:=by simp [h2]
   rw [e]
   clear e
   go_enter Tryz.func22,Tryz.ntmps22
   go_wp2
   go_ret
   exact ⟨rfl,rfl⟩
 ·have e:(decide ((j:Int) < i) && decide (i < q))=false:=by simp [h1]
  rw [e]
  clear e
  go_enter Tryz.func22,Tryz.ntmps22
  go_wp2
  go_ret
  exact ⟨rfl,rfl⟩
def wiB (l:List Nd) (i j:Int):Bool:=fmB l && (if j = -1 then (decide (i = -1) || nmB l.length i) else nmB l.length i && nmB l.length j && (decide (i=j) || lsP (nB l) i j))
theorem twithin_any {ok:Nat->Prop}{w:World}{l:List Nd}{v:Value}(h:RdNd ok w l v) (i j:Int) :
  Calls Tryz.prog 9 #[v,.int .i64 i,.int .i64 j] w fun e w'=>e=.returned (.bool (wiB l i j))/\Below w.heap.size w w':=by
 obtain ⟨a,cap,rfl,hlc,hcm⟩:=h.form
 have hfm:=tformed_any h
 have hnm:=fun w1 i=>numbered_any (w:=w1) (a:=a) i hlc hcm
 have hli:=fun w1 (b1:Below w.heap.size w w1) i k (hk:k < l.length)=>liesIn_any (h.stay kp_nd (ok':=ok) (w':=w1) (fun k hk hl=>⟨hk,b1.block k hl⟩)) i k hk
 unfold maxLen at hcm
 unfold wiB
 cases hf:fmB l with
 | false=>
  rw [hf] at hfm
  rw [Bool.false_and]
  clear hf hli hnm
  go_enter Tryz.func9,Tryz.ntmps9
  go_wp2_with (first|(go_at_call 20;refine hfm.mono ?_;rintro e w1 ⟨rfl,b1⟩)|fail)
  go_ret
  exact ⟨rfl,b1⟩
 | true=>
  rw [Bool.true_and]
  rw [hf] at hfm
  clear hf
  by_cases hj:j = -1
  ·rw [if_pos hj]
   subst hj
   clear hli
   by_cases hi:i = -1
   ·subst hi
    go_enter Tryz.func9,Tryz.ntmps9
    go_wp2_with (first|(go_at_call 20;refine hfm.mono ?_;rintro e w1 ⟨rfl,b1⟩)|(go_at_call 21;refine (hnm _ _).mono ?_;rintro e w2 ⟨rfl,rfl⟩)|fail)
    go_ret
    exact ⟨rfl,b1⟩
   ·have hi2:(i == -1)=false:=beq_eq_false_iff_ne.2 hi
    have e:decide (i = -1)=false:=decide_eq_false hi
    rw [e,Bool.false_or]
    clear e hi
    go_enter Tryz.func9,Tryz.ntmps9
    go_wp2_with (first|(go_at_call 20;refine hfm.mono ?_;rintro e w1 ⟨rfl,b1⟩)|(go_at_call 21;refine (hnm _ _).mono ?_;rintro e w2 ⟨rfl,rfl⟩)|fail)
    go_ret
    exact ⟨rfl,b1⟩
  ·rw [if_neg hj]
   have hj2:(j == -1)=false:=beq_eq_false_iff_ne.2 hj
   clear hj
   cases h1:nmB l.length i with
   | false=>
    have hn1:=fun w1=>hnm w1 i
    rw [h1] at hn1
    rw [Bool.false_and,Bool.false_and]
    clear h1 hnm hli
    go_enter Tryz.func9,Tryz.ntmps9
    go_wp2_with (first|(go_at_call 20;refine hfm.mono ?_;rintro e w1 ⟨rfl,b1⟩)|(go_at_call 21;refine (hn1 _).mono ?_;rintro e w2 ⟨rfl,rfl⟩)|fail)
    go_ret
    exact ⟨rfl,b1⟩
   | true=>
    rw [Bool.true_and]
    cases h2:nmB l.length j with
    | false=>
     rw [Bool.false_and]
     have hn1:=fun w1=>hnm w1 i
     have hn2:=fun w1=>hnm w1 j
     rw [h1] at hn1
     rw [h2] at hn2
     clear h1 h2 hnm hli
     go_enter Tryz.func9,Tryz.ntmps9
     go_wp2_with (first|(go_at_call 20;refine hfm.mono ?_;rintro e w1 ⟨rfl,b1⟩)|(go_at_call 21;refine (hn1 _).mono ?_;clear hn1;rintro e w2 ⟨rfl,rfl⟩)|(go_at_call 21;refine (hn2 _).mono ?_;rintro e w2 ⟨rfl,rfl⟩)|fail)
     go_ret
     exact ⟨rfl,b1⟩
    | true=>
     rw [Bool.true_and]
     have hn1:=fun w1=>hnm w1 i
     have hn2:=fun w1=>hnm w1 j
     rw [h1] at hn1
     rw [h2] at hn2
     obtain ⟨j,rfl,hjl⟩:=nmB_true h2
     clear h1 h2 hnm
     by_cases hij:i=(j:Int)
     ·rw [decide_eq_true hij,Bool.true_or]
      clear hli
      subst hij
      go_enter Tryz.func9,Tryz.ntmps9
      go_wp2_with (first|(go_at_call 20;refine hfm.mono ?_;rintro e w1 ⟨rfl,b1⟩)|(go_at_call 21;refine (hn1 _).mono ?_;rintro e w2 ⟨rfl,rfl⟩)|fail)
      go_ret
      exact ⟨rfl,b1⟩
     ·rw [decide_eq_false hij,Bool.false_or]
      have hi2:(i == (j:Int))=false:=beq_eq_false_iff_ne.2 hij
      have hl:=fun w1 (b1:Below w.heap.size w w1)=>hli w1 b1 i j hjl
      generalize lsP (nB l) i j=V at *
      clear hij hli
      go_enter Tryz.func9,Tryz.ntmps9
      go_wp2_with (first|(go_at_call 20;refine hfm.mono ?_;rintro e w1 ⟨rfl,b1⟩)|(go_at_call 21;refine (hn1 _).mono ?_;clear hn1;rintro e w2 ⟨rfl,rfl⟩)|(go_at_call 21;refine (hn2 _).mono ?_;rintro e w2 ⟨rfl,rfl⟩)|(go_at_call 22;refine (hl _ b1).mono ?_;rintro e w2 ⟨rfl,rfl⟩)|fail)
      go_ret
      exact ⟨rfl,b1⟩
def mtB (l:List Nd) (i j:Int):Int:=if fmB l && nmB l.length i && nmB l.length j then mtC (nP l) (nB l) j (nP l i.toNat+1).toNat (nP l i.toNat) else -1
theorem fmB_fm {l:List Nd}(h:fmB l=true):FmP l.length (nD l) (nP l) (nB l) (nL l):=of_decide_eq_true h
theorem meet_any {ok:Nat->Prop}{w:World}{l:List Nd}{v:Value}(h:RdNd ok w l v) (i j:Int) :
  Calls Tryz.prog 38 #[v,.int .i64 i,.int .i64 j] w fun e w'=>e=.returned (.int .i64 (mtB l i j))/\Below w.heap.size w w':=by
 obtain ⟨a,cap,rfl,hlc,hcm⟩:=h.form
 have hfm:=tformed_any h
 have hnm:=fun w1 i=>numbered_any (w:=w1) (a:=a) i hlc hcm
 have hli:=fun w1 (b1:Below w.heap.size w w1) i k (hk:k < l.length)=>liesIn_any (h.stay kp_nd (ok':=ok) (w':=w1) (fun k hk hl=>⟨hk,b1.block k hl⟩)) i k hk
 unfold maxLen at hcm
 unfold mtB
 cases hf:fmB l with
 | false=>
  rw [hf] at hfm
  rw [Bool.false_and,Bool.false_and,if_neg (by simp)]
  clear hf hli hnm
  go_enter Tryz.func38,Tryz.ntmps38
  go_wp2_with (first|(go_at_call 20;refine hfm.mono ?_;rintro e w1 ⟨rfl,b1⟩)|fail)
  go_ret
  exact ⟨rfl,b1⟩
 | true=>
 have HF:=hidOf (fmB_fm hf)
 rw [hf] at hfm
 rw [Bool.true_and]
 clear hf
 cases h1:nmB l.length i with
 | false=>
  have hn1:=fun w1=>hnm w1 i
  rw [h1] at hn1
  rw [Bool.false_and,if_neg (by simp)]
  clear h1 hnm hli
  go_enter Tryz.func38,Tryz.ntmps38
  go_wp2_with (first|(go_at_call 20;refine hfm.mono ?_;rintro e w1 ⟨rfl,b1⟩)|(go_at_call 21;refine (hn1 _).mono ?_;rintro e w2 ⟨rfl,rfl⟩)|fail)
  go_ret
  exact ⟨rfl,b1⟩
 | true=>
 rw [Bool.true_and]
 cases h2:nmB l.length j with
 | false=>
  have hn1:=fun w1=>hnm w1 i
  have hn2:=fun w1=>hnm w1 j
  rw [h1] at hn1
  rw [h2] at hn2
  rw [if_neg (by simp)]
  clear h1 h2 hnm hli
  go_enter Tryz.func38,Tryz.ntmps38
  go_wp2_with (first|(go_at_call 20;refine hfm.mono ?_;rintro e w1 ⟨rfl,b1⟩)|(go_at_call 21;refine (hn1 _).mono ?_;clear hn1;rintro e w2 ⟨rfl,rfl⟩)|(go_at_call 21;refine (hn2 _).mono ?_;rintro e w2 ⟨rfl,rfl⟩)|fail)
  go_ret
  exact ⟨rfl,b1⟩
 | true=>
 have hn1:=fun w1=>hnm w1 i
 have hn2:=fun w1=>hnm w1 j
 rw [h1] at hn1
 rw [h2] at hn2
 rw [if_pos rfl]
 obtain ⟨i,rfl,hil⟩:=nmB_true h1
 obtain ⟨jn,rfl,hjl⟩:=nmB_true h2
 generalize hjj:(jn:Int)=j at *
 have HC:=hidOf h
 clear h1 h2 hnm h
 rw [Int.toNat_natCast]
 obtain ⟨n,hn⟩:∃ n,l.length=n:=⟨_,rfl⟩
 have HN:=hidOf hn
 have HLI:Hid (∀ w1 (b1:Below w.heap.size w w1) k (hk:k < l.length),Calls Tryz.prog 22 #[.slice a n cap,.int .i64 j,.int .i64 (k:Int)] w1 fun e w'=>e=.returned (.bool (lsP (nB l) j k))/\w1=w'):=fun w1 b1 k hk=>by
  have:=hli w1 b1 j k hk
  rw [hn] at this
  exact this
 rw [hn] at hlc hil hjl hfm hn1 hn2 HF ⊢
 obtain ⟨V,hV⟩:∃ V,mtC (nP l) (nB l) j (nP l i+1).toNat (nP l i)=V:=⟨_,rfl⟩
 have HV:=hidOf hV
 rw [hV]
 obtain ⟨b,off,rfl,hbl,c0,c1,c2,c3,c4,c5,c6⟩:=nd_at HC.out i (by rw [HN.out];exact hil)
 have hpl:=HF.out.plt hil
 obtain ⟨p,hp⟩:∃ p,nP l i=p:=⟨_,rfl⟩
 rw [hp] at HV c1 hpl
 clear hn hV hp c0 c2 c3 c4 c5 c6 hli hjl hjj
 have HC1:Hid (∀ w1 (b1:Below w.heap.size w w1),w1.cell? ⟨b,off+i*7+1,none⟩=some (.int .i64 p)):=fun w1 b1=>(b1.cell (p:=⟨b,off+i*7+1,none⟩) hbl).trans c1
 clear c1
 have i1:(i:Int) < (n:Int):=by omega
 have i2:(0:Int)<=(i:Int):=by omega
 go_enter Tryz.func38,Tryz.ntmps38
 go_upto_region 3 with (first|(go_at_call 20;refine hfm.mono ?_;rintro e w1 ⟨rfl,b1⟩)|(go_at_call 21;refine (hn1 _).mono ?_;clear hn1;rintro e w2 ⟨rfl,rfl⟩)|(go_at_call 21;refine (hn2 _).mono ?_;rintro e w2 ⟨rfl,rfl⟩)|fail)
 clear hfm hn2
 have c1:=HC1.out w1 b1
 go_wp2
 clear c1
 go_loop [7] (fun t=>∃ p:Int,-1<=p/\p < i/\t=.int .i64 p/\Hid (mtC (nP l) (nB l) j (p+1).toNat p=V)) (fun t=>(RowKit.intOf t+1).toNat)
 case atStart=>exact ⟨p,hpl.1,hpl.2,rfl,HV⟩
 case round=>
  obtain ⟨q,hq0,hq1,rfl,HQ⟩:=hrel
  by_cases hneg:q < 0
  ·have hV:V=q:=by
    rw [<- HQ.out]
    have:q = -1:=by omega
    rw [this];rfl
   subst hV
   have i3:¬ (0:Int)<=V:=by omega
   go_wp2
   go_ret
   exact ⟨rfl,b1⟩
  obtain ⟨k,rfl⟩:∃ k:Nat,q=k:=⟨q.toNat,by omega⟩
  have hkn:k < l.length:=by rw [HN.out];omega
  have hl:=HLI.out w1 b1 k hkn
  have HQ2:Hid ((if lsP (nB l) j k then (k:Int) else mtC (nP l) (nB l) j (nP l k+1).toNat (nP l k))=V):=by
   have:=HQ.out
   have e1:((k:Int)+1).toNat=k+1:=by omega
   rw [e1,mtC,if_neg hneg,Int.toNat_natCast] at this
   have hpk:=HF.out.plt (i:=k) (by omega)
   rw [mtC_more HF.out j k (nP l k) (by omega) (by omega) (by omega)] at this
   exact this
  have i3:(0:Int)<=(k:Int):=by omega
  have i4:(k:Int) < (n:Int):=by omega
  cases hls:lsP (nB l) j k with
  | true=>
   have hV:V=(k:Int):=by rw [<- HQ2.out,if_pos hls]
   subst hV
   rw [hls] at hl
   clear hls
   go_wp2_with (first|(go_at_call 22;refine hl.mono ?_;rintro e w2 ⟨rfl,rfl⟩)|fail)
   go_ret
   exact ⟨rfl,b1⟩
  | false=>
   have HV2:Hid (mtC (nP l) (nB l) j (nP l k+1).toNat (nP l k)=V):=by
    have:=HQ2.out
    rw [if_neg (by rw [hls];simp)] at this
    exact this
   rw [hls] at hl
   have hpk:=HF.out.plt (i:=k) (by omega)
   obtain ⟨b',off',he,hbl',_,c1,_⟩:=nd_at HC.out k hkn
   simp only [Option.some.injEq,Addr.mk.injEq,and_true] at he
   obtain ⟨rfl,rfl⟩:=he
   replace c1:=(b1.cell (p:=⟨b,off+k*7+1,none⟩) hbl).trans c1
   obtain ⟨pk,hk⟩:∃ x,nP l k=x:=⟨_,rfl⟩
   rw [hk] at c1 hpk HV2
   clear hls hk
   go_wp2_with (first|(go_at_call 22;refine hl.mono ?_;rintro e w2 ⟨rfl,rfl⟩)|fail)
   go_round
   case rel=>exact ⟨pk,hpk.1,by omega,rfl,HV2⟩
   case measure=>simp [RowKit.intOf];omega
theorem wpList_pushK {α:Type}{P:Program}(w:World) {ops:Array Oper}{rest:List Oper}{o:Oper}{a:Act}{Q:Exit->Act->World->Prop}(hgd:o.guard=none) (s x:Operand) (t:TypeId)
  (ho:o.op=.call { callee:=.builtin .append,args:=#[s,x],argTypes:=#[t,t] })
  (base:Nat) (e:TypeId) (i:TypeInfo) (z:Value) (k bytes:Nat) (ht:P.underlying t=some (.slice e)) (hi:P.info? e=some i) (hz:i.zero=some z)
  (hsize:i.size=k) (hby:i.bytes=bytes) (hzs:z.cells.size=k) {R:(Nat->Prop)->World->α->List Value->Prop}(hR:Kp R)
  (v:Value) (l:List α) (p:α) (cs:List Value) (lo:Nat) (hs:a.eval s=v) (hx:a.eval x=.slice (some ⟨w.heap.size,0,none⟩) 1 1) (hk:cs.length=k) (h1:∀ u∈cs,u.oneCell'=true)
  (hown:OwnK w base e k R v l) (hp:R (fun b=>lo<=b) w p cs) (hlo:base<=lo) (hv:∀ x,v.ownBlock=some x->x < lo) (hroom:(l.length+1+(l.length+1) / 4+192)*bytes<=281474976710656)
  (h63:l.length+1<=maxLen) (hbase:base<=w.heap.size)
  (h:∀ v' w',OwnK w' base e k R v' (l++[p])->(w.alloc (.cells cs.toArray e)).grownBy w' v.ownBlock->Below base w w'->wpList P ops Q rest (a.put o.dst v') w') :
  wpList P ops Q (o :: rest) a (w.alloc (.cells cs.toArray e)):=by
 have hal:Below w.heap.size w (w.alloc (.cells cs.toArray e)):=(Below.refl _ _).alloc Nat.le.refl _
 obtain ⟨qs,ho1,hl1,hr1⟩:=hown.on hR hal
 refine wpList_append_at _ hgd s x t t ho base e i z k bytes ht hi hz hsize hby hzs v l.length qs.flatten hs ho1 _ 1 cs hx (src_row ht w cs hk h1) 1 (.inr hroom) Nat.le.refl h63 (Nat.le_trans hbase hal.size) ?_
 intro v' w' hown' hg hat
 refine h v' w' (OwnK.snoc hR hk rfl ho1 hl1 hr1 hown' hg hat (hR hp (fun b hb hlt=>⟨hb,hal.block b hlt⟩)) hlo hv) hg ?_
 exact ((Below.refl base w).alloc hbase _).grown hg (Nat.le_trans hbase hal.size) (fun k hk=>(World.ownsRow.lt ho1 k hk).1)
theorem OwnK.blk {α:Type}{w:World}{base e k:Nat}{R:(Nat->Prop)->World->α->List Value->Prop}{v:Value}{l:List α}(h:OwnK w base e k R v l):∀ x,v.ownBlock=some x->base<=x/\x < w.heap.size:=by
 obtain ⟨qs,ho,_⟩:=h
 exact ownsRow_lt ho
theorem Tryz.infoIntT:(Tryz.prog.info? 3).map (fun i=>(i.zero,i.size,i.bytes))=some (some (.int .i64 0),1,8):=by kernel_rfl
theorem Tryz.infoNdP:(Tryz.prog.info? 63).map (fun i=>(i.zero,i.size,i.bytes))=some (some (.agg #[.string ⟨#[]⟩,.int .i64 0,.int .i64 0,.int .i64 0,.bool false,.bool false,.bool false]),7,48):=by kernel_rfl
def fdF (l:List Nd) (s:ByteArray):Nat->Nat->Int
 | 0,_=>-1
 | f+1,j=>if (nAt l j).1=s then (j:Int) else fdF l s f (j+1)
def fdB (l:List Nd) (s:ByteArray):Int:=if fmB l then fdF l s l.length 0 else -1
theorem find1_any {w:World}{X:Nat}(n s:ByteArray) (x1 x2 x3:Int) (x4 x5 x6:Bool) (h:w.cell? ⟨X,0,none⟩=some (.string s)) :
  Calls Tryz.prog 60 #[.agg #[.string n,.int .i64 x1,.int .i64 x2,.int .i64 x3,.bool x4,.bool x5,.bool x6],.pointer (some ⟨X,0,none⟩)] w fun e w'=>e=.returned (.bool (decide (n=s)))/\Below w.heap.size w w':=by
 have hlt:=World.block_lt_of_cell? w _ h
 have hlt':X < w.heap.size:=hlt
 have hb:=(Below.refl w.heap.size w).alloc Nat.le.refl (.cells #[.string n,.int .i64 x1,.int .i64 x2,.int .i64 x3,.bool x4,.bool x5,.bool x6] 63)
 have h2:=(hb.cell (p:=⟨X,0,none⟩) hlt').trans h
 have e:decide (n=s)=(n.toList == s.toList):=by
  rw [Bool.eq_iff_iff,decide_eq_true_eq,beq_iff_eq]
  constructor
  ·intro h;rw [h]
  ·intro h
   have h':n.data.toList=s.data.toList:=by rw [<- ByteArray.toList_eq,<- ByteArray.toList_eq];exact h
   exact ByteArray.ext (Array.toList_inj.1 h')
 rw [e]
 go_enter Tryz.func60,Tryz.ntmps60
 go_wp2
 go_ret
 exact ⟨rfl,hb⟩
theorem idxN_any {ok:Nat->Prop}{w:World}{l:List Nd}{v:Value}{X:Nat}{s:ByteArray}(h:RdNd ok w l v) (h40:l.length<=40) (hX:w.cell? ⟨X,0,none⟩=some (.string s)) :
  Calls Tryz.prog 59 #[v,.func (.func 60) #[] #[.pointer (some ⟨X,0,none⟩)]] w fun e w'=>e=.returned (.int .i64 (fdF l s l.length 0))/\Below w.heap.size w w':=by
 obtain ⟨a,cap,rfl,hlc,hcm⟩:=h.form
 unfold maxLen at hcm
 have hXl:X < w.heap.size:=World.block_lt_of_cell? w _ hX
 have HC:=hidOf h
 have HX:=hidOf hX
 obtain ⟨V,hV⟩:∃ V,fdF l s l.length 0=V:=⟨_,rfl⟩
 rw [hV]
 obtain ⟨n,hn⟩:∃ n,l.length=n:=⟨_,rfl⟩
 rw [hn] at hlc h40 hV ⊢
 have HN:=hidOf hn
 have HV:Hid (fdF l s (n - 0) 0=V):=hV
 clear h hX hn hV
 go_enter Tryz.func59,Tryz.ntmps59
 go_wp2
 go_loopw [8] (fun ix wr=>∃ (j:Nat),j<=n/\ix=.int .i64 (j:Int)/\Hid (fdF l s (n - j) j=V)/\Below w.heap.size w wr) (fun ix _=>n - (RowKit.intOf ix).toNat)
 case atStart=>exact ⟨0,Nat.zero_le _,rfl,HV,Below.refl _ _⟩
 case round=>
  obtain ⟨j,hj,rfl,HI,hb⟩:=hrel
  by_cases hlt:j < n
  ·obtain ⟨b,off,rfl,hbl,c0,c1,c2,c3,c4,c5,c6⟩:=nd_at HC.out j (by rw [HN.out];exact hlt)
   replace c0:=(hb.cell (p:=⟨b,off+j*7,none⟩) hbl).trans c0
   replace c1:=(hb.cell (p:=⟨b,off+j*7+1,none⟩) hbl).trans c1
   replace c2:=(hb.cell (p:=⟨b,off+j*7+2,none⟩) hbl).trans c2
   replace c3:=(hb.cell (p:=⟨b,off+j*7+3,none⟩) hbl).trans c3
   replace c4:=(hb.cell (p:=⟨b,off+j*7+4,none⟩) hbl).trans c4
   replace c5:=(hb.cell (p:=⟨b,off+j*7+5,none⟩) hbl).trans c5
   replace c6:=(hb.cell (p:=⟨b,off+j*7+6,none⟩) hbl).trans c6
   have HI2:Hid ((if (nAt l j).1=s then (j:Int) else fdF l s (n - (j+1)) (j+1))=V):=by
    have:=HI.out
    have e:n - j=(n - (j+1))+1:=by omega
    rw [e,fdF] at this
    exact this
   have hcall:=find1_any (nAt l j).1 s (nP l j) (nD l j) (nB l j) (nAt l j).2.2.1 (nAt l j).2.2.2.1 (nL l j) ((hb.cell (p:=⟨X,0,none⟩) hXl).trans HX.out)
   generalize (nAt l j).1=x0 at *
   generalize nP l j=x1 at *
   generalize nD l j=x2 at *
   generalize nB l j=x3 at *
   generalize (nAt l j).2.2.1=x4 at *
   generalize (nAt l j).2.2.2.1=x5 at *
   generalize nL l j=x6 at *
   have i1:(j:Int) < (n:Int):=by omega
   have i2:(0:Int)<=(j:Int):=by omega
   by_cases he:x0=s
   ·rw [decide_eq_true he] at hcall
    have hVj:V=(j:Int):=by rw [<- HI2.out,if_pos he]
    clear he
    subst hVj
    go_wp2_with (first|(go_at_call 60;refine hcall.mono ?_;rintro e w1 ⟨rfl,b1⟩)|fail)
    go_ret
    exact ⟨rfl,hb.trans (b1.mono hb.size)⟩
   ·rw [decide_eq_false he] at hcall
    have HV2:Hid (fdF l s (n - (j+1)) (j+1)=V):=by have:=HI2.out;rw [if_neg he] at this;exact this
    clear he
    go_wp2_with (first|(go_at_call 60;refine hcall.mono ?_;rintro e w1 ⟨rfl,b1⟩)|fail)
    go_roundw
    case rel=>exact ⟨j+1,hlt,by go_num,HV2,hb.trans (b1.mono hb.size)⟩
    case measure=>simp [RowKit.intOf];omega
  ·have i1:¬ (j:Int) < (n:Int):=by omega
   have hV:V = -1:=by
    rw [<- HI.out]
    have:n - j=0:=by omega
    rw [this];rfl
   subst hV
   go_wp2
   go_ret
   exact ⟨rfl,hb⟩
theorem fm_40 {l:List Nd}(h:fmB l=true):l.length<=40:=(fmB_fm h).1
theorem find_any {ok:Nat->Prop}{w:World}{l:List Nd}{v:Value}(h:RdNd ok w l v) (s:ByteArray) :
  Calls Tryz.prog 37 #[v,.string s] w fun e w'=>e=.returned (.int .i64 (fdB l s))/\Below w.heap.size w w':=by
 obtain ⟨a,cap,rfl,hlc,hcm⟩:=h.form
 have hb0:=(Below.refl w.heap.size w).alloc Nat.le.refl (.cells #[.string s] 9)
 have hfm:=tformed_any (h.stay kp_nd (ok':=ok) (fun k hk hl=>⟨hk,hb0.block k hl⟩))
 have hs0:=(Bn.new w [.string s] 9 _ rfl 0 _ rfl).1
 unfold fdB
 cases hf:fmB l with
 | false=>
  rw [hf] at hfm
  rw [if_neg (by simp)]
  clear hf
  go_enter Tryz.func37,Tryz.ntmps37
  go_wp2_with (first|(go_at_call 20;refine hfm.mono ?_;rintro e w1 ⟨rfl,b1⟩)|fail)
  go_ret
  exact ⟨rfl,hb0.trans (b1.mono hb0.size)⟩
 | true=>
  have h40:=fm_40 hf
  rw [hf] at hfm
  rw [if_pos rfl]
  clear hf
  have hix:=fun w1 (b1:Below (w.alloc (.cells #[.string s] 9)).heap.size (w.alloc (.cells #[.string s] 9)) w1)=>idxN_any (w:=w1) (X:=w.heap.size) (s:=s) (h.stay kp_nd (ok':=ok) (w':=w1) (fun k hk hl=>⟨hk,(b1.block k (Nat.lt_of_lt_of_le hl hb0.size)).trans (hb0.block k hl)⟩)) h40 ((b1.cell (p:=⟨w.heap.size,0,none⟩) (by simp)).trans hs0)
  go_enter Tryz.func37,Tryz.ntmps37
  go_wp2_with (first|(go_at_call 20;refine hfm.mono ?_;rintro e w1 ⟨rfl,b1⟩)|(go_at_call 59;refine (hix _ b1).mono ?_;rintro e w2 ⟨rfl,b2⟩)|fail)
  go_ret
  exact ⟨rfl,(hb0.trans (b1.mono hb0.size)).trans (b2.mono (Nat.le_trans hb0.size b1.size))⟩
def cpI (a b:Int):Int:=if a < b then -1 else if b < a then 1 else 0
def orI (a b:Int):Int:=if a≠0 then a else b
theorem nan_any (a:Int) (w:World):Calls Tryz.prog 55 #[.int .i64 a] w fun e w'=>e=.returned (.bool false)/\w=w':=by
 go_enter Tryz.func55,Tryz.ntmps55
 go_wp2
 go_ret
 exact ⟨rfl,rfl⟩
theorem compare_any (a b:Int) (w:World):Calls Tryz.prog 34 #[.int .i64 a,.int .i64 b] w fun e w'=>e=.returned (.int .i64 (cpI a b))/\w=w':=by
 have h1:=fun x=>nan_any x w
 unfold cpI
 by_cases hab:a < b
 ·rw [if_pos hab]
  go_enter Tryz.func34,Tryz.ntmps34
  go_wp2_with (first
   | (go_at_call 55;refine (h1 _).mono ?_;rintro e w1 ⟨rfl,rfl⟩)
   | fail)
  go_ret
  exact ⟨rfl,rfl⟩
 ·rw [if_neg hab]
  by_cases hba:b < a
  ·rw [if_pos hba]
   have hba2:a > b:=hba
   go_enter Tryz.func34,Tryz.ntmps34
   go_wp2_with (first
    | (go_at_call 55;refine (h1 _).mono ?_;rintro e w1 ⟨rfl,rfl⟩)
    | fail)
   go_ret
   exact ⟨rfl,rfl⟩
  ·rw [if_neg hba]
   have hba2:¬ a > b:=hba
   go_enter Tryz.func34,Tryz.ntmps34
   go_wp2_with (first
    | (go_at_call 55;refine (h1 _).mono ?_;rintro e w1 ⟨rfl,rfl⟩)
    | fail)
   go_ret
   exact ⟨rfl,rfl⟩
theorem or_any (a b:Int) (g:Nat) (w:World) (c0:w.cell? ⟨g,0,none⟩=some (.int .i64 a)) (c1:w.cell? ⟨g,1,none⟩=some (.int .i64 b)):Calls Tryz.prog 33 #[.slice (some ⟨g,0,none⟩) 2 2] w fun e w'=>e=.returned (.int .i64 (orI a b))/\w=w':=by
 obtain ⟨R,hR⟩:∃ R,orI a b=R:=⟨_,rfl⟩
 rw [hR]
 have HR:=hidOf hR
 clear hR
 go_enter Tryz.func33,Tryz.ntmps33
 go_wp2
 go_loopw [8] (fun ix wr=>∃ (j:Nat),j<=2/\ix=.int .i64 (j:Int)/\Hid ((1<=j->a=0)/\(2<=j->b=0))/\Hid (wr=w)) (fun ix _=>2 - (RowKit.intOf ix).toNat)
 case atStart=>exact ⟨0,by omega,rfl,⟨by omega,by omega⟩,rfl⟩
 case round=>
  obtain ⟨j,hj,rfl,H,HW⟩:=hrel
  have d0:wr.cell? ⟨g,0,none⟩=some (.int .i64 a):=by rw [HW.out];exact c0
  have d1:wr.cell? ⟨g,1,none⟩=some (.int .i64 b):=by rw [HW.out];exact c1
  have hjc:j=0∨j=1∨j=2:=by omega
  rcases hjc with rfl|rfl|rfl
  ·by_cases h0:a=0
   ·have H2:Hid ((1<=1->a=0)/\(2<=1->b=0)):=⟨fun _=>h0,by omega⟩
    have h1:(a == 0)=true:=by simp [h0]
    clear H h0
    go_wp2
    go_roundw
    case rel=>exact ⟨1,by omega,by go_num,H2,HW⟩
    case measure=>simp [RowKit.intOf]
   ·have h1:(a == 0)=false:=beq_eq_false_iff_ne.2 h0
    have hR:Hid (R=a):=by show _=_;rw [<- HR.out];unfold orI;rw [if_pos h0]
    clear H h0
    go_wp2
    go_ret
    exact ⟨by rw [hR.out];rfl,HW.out.symm⟩
  ·have ha0:=H.out.1 (by omega)
   by_cases h0:b=0
   ·have H2:Hid ((1<=2->a=0)/\(2<=2->b=0)):=⟨fun _=>ha0,fun _=>h0⟩
    have h1:(b == 0)=true:=by simp [h0]
    clear H h0 ha0
    go_wp2
    go_roundw
    case rel=>exact ⟨2,by omega,by go_num,H2,HW⟩
    case measure=>simp [RowKit.intOf]
   ·have h1:(b == 0)=false:=beq_eq_false_iff_ne.2 h0
    have hR:Hid (R=b):=by show _=_;rw [<- HR.out];unfold orI;rw [if_neg (by simp [ha0])]
    clear H h0 ha0
    go_wp2
    go_ret
    exact ⟨by rw [hR.out];rfl,HW.out.symm⟩
  ·have hR:Hid (R=0):=by show _=_;rw [<- HR.out];unfold orI;rw [if_neg (by simp [H.out.1 (by omega)])];exact H.out.2 (by omega)
   clear H
   go_wp2
   go_ret
   exact ⟨by rw [hR.out];rfl,HW.out.symm⟩
def dpI (l:List Nd) (i k:Nat):Int:=orI (cpI (nD l k) (nD l i)) (cpI (i:Int) (k:Int))
theorem cellB_dr {w:World}{p:Addr}{v:Value}(h:w.cell? p=some v):w.drew.cell? p=some v:=h
theorem cellB_al {w:World}{p:Addr}{v:Value}{O:Obj}(h:w.cell? p=some v):(w.alloc O).cell? p=some v:=(((Below.refl w.heap.size w).alloc Nat.le.refl O).cell (World.block_lt_of_cell? w _ h)).trans h
theorem grown_one (w:World) (O:Obj):∃ q os,(w.alloc O).drew=Go.Sort.grow (w.drewN q) os:=⟨1,#[O],by rw [Go.Sort.alloc_eq_grow];rfl⟩
theorem dcl_any {ok:Nat->Prop}{W:World}{l:List Nd}{X n c:Nat}{a:Option Addr}(hX:W.cell? ⟨X,0,none⟩=some (.slice a n c)) (hr:RdNd ok W l (.slice a n c)) (i k:Nat) (hi:i < l.length) (hk:k < l.length) (h60:l.length<=60) :
  Calls Tryz.prog 32 #[.int .i64 (i:Int),.int .i64 (k:Int),.pointer (some ⟨X,0,none⟩)] W fun e w'=>e=.returned (.int .i64 (dpI l i k))/\∃ q os,w'=Go.Sort.grow (W.drewN q) os:=by
 have hcp:=fun x y w1=>compare_any x y w1
 have hor:=fun x y (w1:World) (c0:w1.cell? ⟨W.heap.size,0,none⟩=some (.int .i64 x)) (c1:w1.cell? ⟨W.heap.size,1,none⟩=some (.int .i64 y))=>or_any x y W.heap.size w1 c0 c1
 obtain ⟨_,_,he,_⟩:=hr.form
 simp only [Value.slice.injEq] at he
 have hn:n=l.length:=he.2.1
 obtain ⟨b,off,rfl,hbl,_,_,d0,_⟩:=nd_at hr i hi
 obtain ⟨b',off',ha,_,_,_,d1,_⟩:=nd_at hr k hk
 simp only [Option.some.injEq,Addr.mk.injEq,and_true] at ha
 obtain ⟨rfl,rfl⟩:=ha
 unfold dpI
 obtain ⟨Di,hDi⟩:∃ x,nD l i=x:=⟨_,rfl⟩
 obtain ⟨Dk,hDk⟩:∃ x,nD l k=x:=⟨_,rfl⟩
 rw [hDi] at d0 ⊢
 rw [hDk] at d1 ⊢
 obtain ⟨r1,h1⟩:∃ r,cpI Dk Di=r:=⟨_,rfl⟩
 obtain ⟨r2,h2⟩:∃ r,cpI (i:Int) (k:Int)=r:=⟨_,rfl⟩
 have hc1:=fun w1=>hcp Dk Di w1
 have hc2:=fun w1=>hcp (i:Int) (k:Int) w1
 simp only [h1] at hc1
 simp only [h2] at hc2
 rw [h1,h2]
 have i1:(i:Int) < (n:Int):=by omega
 have i2:(0:Int)<=(i:Int):=by omega
 have k1:(k:Int) < (n:Int):=by omega
 have k2:(0:Int)<=(k:Int):=by omega
 obtain ⟨R,hR⟩:∃ R,orI r1 r2=R:=⟨_,rfl⟩
 have ho:=fun w1 c0 c1=>hor r1 r2 w1 c0 c1
 simp only [hR] at ho
 rw [hR]
 have hal:=grown_one W (.cells #[.int .i64 r1,.int .i64 r2] 3)
 have n0:(W.alloc (.cells #[.int .i64 r1,.int .i64 r2] 3)).cell? ⟨W.heap.size,0,none⟩=some (.int .i64 r1):=by simp
 have n1:(W.alloc (.cells #[.int .i64 r1,.int .i64 r2] 3)).cell? ⟨W.heap.size,1,none⟩=some (.int .i64 r2):=by simp
 have HAL:=hidOf hal
 clear hal hcp hor h1 h2 hDi hDk he hn hR hr hi hk
 go_enter Tryz.func32,Tryz.ntmps32
 go_upto_region 1 with fail
 go_region_held_law (fun w'=>w'.cell? ⟨X,0,none⟩=some (.slice (some ⟨b,off,none⟩) n c)/\w'.cell? ⟨b,off+i*7+2,none⟩=some (.int .i64 Di)/\w'.cell? ⟨b,off+k*7+2,none⟩=some (.int .i64 Dk))
  ((refine ⟨?_,?_,?_⟩<;>(repeat (with_reducible first|exact hX|exact d0|exact d1|refine cellB_dr ?_|refine cellB_al ?_))<;>done))
  (first
   | (go_at_call 34;(with_reducible refine (hc1 _).mono ?_);rintro e w1 ⟨rfl,rfl⟩)
   | (go_at_call 34;(with_reducible refine (hc2 _).mono ?_);rintro e w1 ⟨rfl,rfl⟩)
   | (go_at_call 33;(with_reducible refine (ho _ (cellB_dr n0) (cellB_dr n1)).mono ?_);rintro e w1 ⟨rfl,rfl⟩)
   | fail)
 all_goals (
  go_wp2
  go_ret
  exact ⟨rfl,HAL.out⟩)
end Go.Proofs.YtppefcdkgejfbaaGreatDoor
namespace Go.Proofs.YtppefcdkgejfbaaGreatDoor
open Go.Shelf
set_option linter.unusedVariables false
def renSf:Ren:={ f:=fun x=>match x with|6=>31|15=>54|14=>53|28=>77|29=>78|20=>69|21=>70|22=>71|23=>72|24=>73|25=>74|26=>75|27=>76|46=>108|47=>109|48=>110|49=>111|50=>112|57=>147|n=>n,t:=fun x=>match x with|22=>75|24=>3|25=>111|3=>3|39=>147|0=>0|53=>179|55=>181|4=>4|46=>172|45=>171|50=>176|5=>5|9=>9|66=>210|70=>214|76=>233|77=>234|n=>n,g:=fun x=>x }
theorem laysSf:SlLaysF.n6 Tryz.prog renSf:=
 {mixed:=by kernel_rfl,f6:=⟨ "slices.SortFunc[[]int,int]",by decide,Tryz.func31.trans (congrArg some (by kernel_rfl))⟩,f14:=⟨ "slices.pdqsortCmpFunc[int]",by decide,Tryz.func53.trans (congrArg some (by kernel_rfl))⟩,f15:=Tryz.func54.trans (congrArg some (by kernel_rfl)),f20:=⟨ "slices.insertionSortCmpFunc[int]",by decide,Tryz.func69.trans (congrArg some (by kernel_rfl))⟩,f21:=⟨ "slices.heapSortCmpFunc[int]",by decide,Tryz.func70.trans (congrArg some (by kernel_rfl))⟩,f22:=⟨ "slices.breakPatternsCmpFunc[int]",by decide,Tryz.func71.trans (congrArg some (by kernel_rfl))⟩,f23:=⟨ "slices.choosePivotCmpFunc[int]",by decide,Tryz.func72.trans (congrArg some (by kernel_rfl))⟩,f24:=⟨ "slices.reverseRangeCmpFunc[int]",by decide,Tryz.func73.trans (congrArg some (by kernel_rfl))⟩,f25:=⟨ "slices.partialInsertionSortCmpFunc[int]",by decide,Tryz.func74.trans (congrArg some (by kernel_rfl))⟩,f26:=⟨ "slices.partitionEqualCmpFunc[int]",by decide,Tryz.func75.trans (congrArg some (by kernel_rfl))⟩,f27:=⟨ "slices.partitionCmpFunc[int]",by decide,Tryz.func76.trans (congrArg some (by kernel_rfl))⟩,f28:=Tryz.func77.trans (congrArg some (by kernel_rfl)),f29:=Tryz.func78.trans (congrArg some (by kernel_rfl)),f46:=⟨ "slices.siftDownCmpFunc[int]",by decide,Tryz.func108.trans (congrArg some (by kernel_rfl))⟩,f47:=Tryz.func109.trans (congrArg some (by kernel_rfl)),f48:=Tryz.func110.trans (congrArg some (by kernel_rfl)),f49:=⟨ "slices.medianAdjacentCmpFunc[int]",by decide,Tryz.func111.trans (congrArg some (by kernel_rfl))⟩,f50:=⟨ "slices.medianCmpFunc[int]",by decide,Tryz.func112.trans (congrArg some (by kernel_rfl))⟩,f57:=⟨ "slices.order2CmpFunc[int]",by decide,Tryz.func147.trans (congrArg some (by kernel_rfl))⟩,t0:=Tryz.underlying0,a0:=Tryz.isAgg0,z0:=Tryz.sizeOf0,v0:=Tryz.zeroValue0,t3:=Tryz.underlying3,a3:=Tryz.isAgg3,z3:=Tryz.sizeOf3,v3:=Tryz.zeroValue3,t4:=Tryz.underlying4,a4:=Tryz.isAgg4,z4:=Tryz.sizeOf4,v4:=Tryz.zeroValue4,t5:=Tryz.underlying5,a5:=Tryz.isAgg5,z5:=Tryz.sizeOf5,v5:=Tryz.zeroValue5,t9:=Tryz.underlying9,a9:=Tryz.isAgg9,z9:=Tryz.sizeOf9,v9:=Tryz.zeroValue9,t22:=Tryz.underlying75,a22:=Tryz.isAgg75,z22:=Tryz.sizeOf75,v22:=Tryz.zeroValue75,a24:=Tryz.isAgg3,z24:=Tryz.sizeOf3,t25:=Tryz.underlying111,a25:=Tryz.isAgg111,z25:=Tryz.sizeOf111,v25:=Tryz.zeroValue111,t39:=Tryz.underlying147,a39:=Tryz.isAgg147,z39:=Tryz.sizeOf147,v39:=Tryz.zeroValue147,t45:=Tryz.underlying171,a45:=Tryz.isAgg171,z45:=Tryz.sizeOf171,v45:=Tryz.zeroValue171,t46:=Tryz.underlying172,a46:=Tryz.isAgg172,z46:=Tryz.sizeOf172,v46:=Tryz.zeroValue172,t50:=Tryz.underlying176,a50:=Tryz.isAgg176,z50:=Tryz.sizeOf176,v50:=Tryz.zeroValue176,t53:=Tryz.underlying179,a53:=Tryz.isAgg179,z53:=Tryz.sizeOf179,v53:=Tryz.zeroValue179,t55:=Tryz.underlying181,a55:=Tryz.isAgg181,z55:=Tryz.sizeOf181,v55:=Tryz.zeroValue181,t66:=Tryz.underlying210,a66:=Tryz.isAgg210,z66:=Tryz.sizeOf210,v66:=Tryz.zeroValue210,t70:=Tryz.underlying214,a70:=Tryz.isAgg214,z70:=Tryz.sizeOf214,v70:=Tryz.zeroValue214,t76:=Tryz.underlying233,a76:=Tryz.isAgg233,z76:=Tryz.sizeOf233,v76:=Tryz.zeroValue233,t77:=Tryz.underlying234,a77:=Tryz.isAgg234,z77:=Tryz.sizeOf234,v77:=Tryz.zeroValue234 }
end Go.Proofs.YtppefcdkgejfbaaGreatDoor
namespace Go.Proofs.YtppefcdkgejfbaaGreatDoor
open Go.RowKit Go.Lib
set_option linter.unusedSimpArgs false
set_option linter.unusedVariables false
attribute [local go_sem ↓] Go.wp_at_zero Go.wp_at_succ
def enN (j:Nat):Value:=.int .i64 (j:Int)
def enF {n:Nat}(x:Fin n):Value:=.int .i64 (x.val:Int)
def zsF (n:Nat):List (Fin n):=List.ofFn (fun i:Fin n=>i)
theorem zsF_map (n:Nat):(zsF n).map enF=(List.range n).map enN:=by
 apply List.ext_getElem
 ·simp [zsF]
 ·intro i h1 h2
  simp [zsF,enF,enN]
theorem zsF_val (n:Nat):(zsF n).map (fun x=>x.val)=List.range n:=by
 apply List.ext_getElem
 ·simp [zsF]
 ·intro i h1 h2
  simp [zsF]
def cfF (l:List Nd) {n:Nat}(x y:Fin n):Int:=dpI l x.val y.val
theorem cfF_lt (l:List Nd) {n:Nat}(x y:Fin n):ltOf (cfF l) x y=(decide (nD l y.val < nD l x.val) || (decide (nD l y.val=nD l x.val) && decide (x.val < y.val))):=by
 unfold ltOf cfF dpI orI cpI
 by_cases h1:nD l y.val < nD l x.val
 ·simp [h1]
 ·by_cases h2:nD l x.val < nD l y.val
  ·have h3:¬ nD l y.val=nD l x.val:=by omega
   simp [h1,h2,h3]
  ·have h3:nD l y.val=nD l x.val:=by omega
   by_cases h4:(x.val:Int) < (y.val:Int)
   ·have h5:x.val < y.val:=by omega
    simp [h1,h2,h3,h4,h5]
   ·have h5:¬ x.val < y.val:=by omega
    by_cases h6:(y.val:Int) < (x.val:Int)
    ·simp [h1,h2,h3,h4,h5,h6]
    ·simp [h1,h2,h3,h4,h5,h6]
theorem swoF (l:List Nd) (n:Nat):Go.Sort.SWO (ltOf (cfF l):Fin n->Fin n->Bool) where
 irrefl x:=by rw [cfF_lt];simp
 trans x y z h1 h2:=by
  rw [cfF_lt] at *
  simp only [Bool.or_eq_true,Bool.and_eq_true,decide_eq_true_eq] at *
  omega
 ntrans x y z h1 h2:=by
  rw [cfF_lt] at *
  simp only [Bool.or_eq_false_iff,Bool.and_eq_false_iff,decide_eq_false_iff_not] at *
  omega
theorem sortW_below {n:Nat}{w:World}{g m:Nat}{d:Array (Fin (n+1))}{os:Array Obj}(hg:g<=w.heap.size):Below g w (sortWorld enF w g 0 m d os):=by
 have h:=below_putRow (enc:=enF) (q:=m) (d:=d) (Below.refl g w) (Nat.le_refl g)
 refine ⟨h.os,h.tape,h.output,?_,fun k hk=>?_⟩
 ·show w.heap.size<=(Go.Sort.grow _ os).heap.size
  rw [Go.Sort.size_grow]
  have:=h.size
  omega
 ·show (Go.Sort.grow _ os).heap[k]?=_
  rw [Go.Sort.heap_grow_old _ _ (Nat.lt_of_lt_of_le (by omega) h.size)]
  exact h.block k hk
theorem sortW_other {n:Nat}{w:World}{g m k:Nat}{d:Array (Fin (n+1))}{os:Array Obj}(hk:k < w.heap.size) (hne:k≠g):(sortWorld enF w g 0 m d os).heap[k]?=w.heap[k]?:=by
 show (Go.Sort.grow (Go.Sort.putRow enF (Go.Sort.ahead w m) g 0 d) os).heap[k]?=_
 have hs:(Go.Sort.putRow enF (Go.Sort.ahead w m) g 0 d).heap.size=w.heap.size:=by simp [Go.Sort.putRow,Go.Sort.mapBlock,Go.Sort.ahead]
 rw [Go.Sort.heap_grow_old _ _ (by rw [hs];exact hk)]
 simp [Go.Sort.putRow,Go.Sort.mapBlock,Go.Sort.ahead,Array.getElem?_modify,Ne.symm hne]
structure Dpf (l:List Nd) (ord:List Nat):Prop where
 perm:ord.Perm (List.range l.length)
 deep:∀ i j (hi:i < ord.length) (hj:j < ord.length),i < j->nD l ord[j]<=nD l ord[i]
theorem ext_all {α:Type}(d:Array α) (k:Nat) (h:d.size=k):d.extract 0 k=d:=by
 subst h
 simp
theorem dpf_of {l:List Nd}{n:Nat}(hl:l.length=n+1) {d':Array (Fin (n+1))}(hp:Go.Sort.PermIn 0 (zsF (n+1)).toArray.size (zsF (n+1)).toArray d') (hs:Go.Sort.SortedIn (ltOf (cfF l)) 0 (zsF (n+1)).toArray.size d'):Dpf l (d'.toList.map (fun x=>x.val)):=by
 obtain ⟨h1,_,h3⟩:=hp
 have hsz:(zsF (n+1)).toArray.size=n+1:=by simp [zsF]
 have hd:d'.size=n+1:=by rw [h1,hsz]
 rw [hsz] at h3 hs
 have e1:(d'.extract 0 (n+1)).toList=d'.toList:=by rw [ext_all d' _ hd]
 have e2:((zsF (n+1)).toArray.extract 0 (n+1)).toList=zsF (n+1):=by rw [ext_all _ _ hsz]
 rw [e1,e2] at h3
 refine ⟨?_,fun i j hi hj hij=>?_⟩
 ·rw [hl,<- zsF_val]
  exact h3.map _
 ·have hi':i < d'.size:=by simpa using hi
  have hj':j < d'.size:=by simpa using hj
  have:=hs i j (Nat.zero_le _) hij (by omega)
  rw [getElem!_pos d' i hi',getElem!_pos d' j hj',cfF_lt] at this
  simp only [Bool.or_eq_false_iff,decide_eq_false_iff_not] at this
  simp only [List.getElem_map,Array.getElem_toList]
  omega
theorem deepest_any {ok:Nat->Prop}{w:World}{l:List Nd}{v:Value}(hr:RdNd ok w l v) (hn1:1<=l.length) (h60:l.length<=60) :
  Calls Tryz.prog 15 #[v] w fun e w'=>∃ a n c ord,e=.returned (.slice a n c)/\Hid (w'.ownsRow w.heap.size 3 1 (.slice a n c) n (ord.map enN))/\Hid (ord.length=n)/\Hid (Dpf l ord)/\Below w.heap.size w w':=by
 obtain ⟨va,vc,rfl,hlc,hcm⟩:=hr.form
 unfold maxLen at hcm
 obtain ⟨n,hn⟩:∃ n,l.length=n:=⟨_,rfl⟩
 rw [hn] at hlc hn1 h60 ⊢
 have HN:=hidOf hn
 have hal:Below w.heap.size w (w.alloc (.cells #[.slice va n vc] 30)):=(Below.refl _ _).alloc Nat.le.refl _
 have hX:Bn (w.alloc (.cells #[.slice va n vc] 30)) w.heap.size [.slice va n vc]:=Bn.new w [.slice va n vc] 30 _ rfl
 have HR:Hid (RdNd (fun _=>True) (w.alloc (.cells #[.slice va n vc] 30)) l (.slice va n vc)):=by
  rw [hn] at hr
  exact hr.stay kp_nd (fun b hb hl=>⟨trivial,hal.block b hl⟩)
 clear hr hn
 obtain ⟨i0,hi,hz0,hz1,hz2⟩:=info_parts Tryz.infoIntT
 go_enter Tryz.func15,Tryz.ntmps15
 go_upto_region 1 with fail
 have hsx:(w.alloc (.cells #[.slice va n vc] 30)).heap.size=w.heap.size+1:=by simp
 generalize (w.alloc (.cells #[.slice va n vc] 30))=wx at *
 have x0:=(hX 0 _ rfl).1
 have HSX:=hidOf hsx
 clear hsx
 go_wp2
 go_loopw [3,7] (fun t ix wr=>∃ (j:Nat) (ta:Option Addr) (tc:Nat),j<=n/\ix=.int .i64 (j:Int)/\t=.slice ta j tc/\wr.ownsRow wx.heap.size 3 1 (.slice ta j tc) j ((List.range j).map enN)/\Below wx.heap.size wx wr) (fun _ ix _=>n - (RowKit.intOf ix).toNat)
 case atStart=>exact ⟨0,none,0,Nat.zero_le _,rfl,rfl,World.ownsRow_nil _ _ _ _,Below.refl _ _⟩
 case round=>
  obtain ⟨j,ta,tc,hj,rfl,rfl,hO,hb⟩:=hrel
  by_cases hlt:j < n
  ·have i1:(j:Int) < (n:Int):=by omega
   have i2:(0:Int)<=(j:Int):=by omega
   have hal2:Below wr.heap.size wr (wr.alloc (.cells #[.int .i64 (j:Int)] 3)):=(Below.refl _ _).alloc Nat.le.refl _
   have hO2:=ownsRow_keep hO (fun g hg=>hal2.block g (ownsRow_lt hO g hg).2)
   have hb2:=hb.trans (hal2.mono hb.size)
   have s2:=src_row (P:=Tryz.prog) (t:=75) Tryz.underlying75 wr [.int .i64 (j:Int)] rfl (by simp [Value.oneCell'])
   clear hO
   go_wp2_with (first
    | (at_builtin;refine wpList_append_at _ rfl _ _ 75 75 rfl wx.heap.size 3 i0 (.int .i64 0) 1 8 Tryz.underlying75 hi hz0 hz1 hz2 rfl _ j _ rfl hO2 _ 1 [.int .i64 (j:Int)] rfl s2 1 (.inr (by omega)) Nat.le.refl (by unfold maxLen;omega) hb2.size ?_;intro v6 w6 ho6 hg6 hat6)
    | fail)
   have hb6:=hb2.grown hg6 hb2.size (fun k hk=>(ownsRow_lt hO2 k hk).1)
   have ho7:w6.ownsRow wx.heap.size 3 1 v6 (j+1) ((List.range (j+1)).map enN):=by
    rw [List.range_succ,List.map_append]
    exact ho6
   obtain ⟨a6,c6,rfl⟩:∃ a c,v6=.slice a (j+1) c:=by
    rcases ho7.2 with ⟨h1,h2⟩|⟨g,cap,cur,h1,_⟩
    ·omega
    ·exact ⟨_,_,h1⟩
   go_wp2
   go_roundw
   case rel=>exact ⟨j+1,a6,c6,hlt,by go_num,rfl,ho7,hb6⟩
   case measure=>simp [RowKit.intOf];omega
  ·have i1:¬ (j:Int) < (n:Int):=by omega
   have hjn:j=n:=by omega
   subst hjn
   obtain ⟨m,hm⟩:∃ m,j=m+1:=⟨j - 1,by omega⟩
   subst hm
   rw [<- zsF_map] at hO
   obtain ⟨g,cap,hv,hbg,hgl,hnc,hcm2,hzl,hH⟩:=holds_of_ownsRow hO (by intro e;simp only [Value.slice.injEq] at e;omega)
   simp only [Value.slice.injEq] at hv
   obtain ⟨rfl,_,rfl⟩:=hv
   have eg:∀ args W,(callFunc 32 args).run Tryz.prog W=.ok (.enter 32 args) W:=enters_of Tryz.func32 (by kernel_rfl) rfl
   have hXl:=hX.lt
   have hgX:w.heap.size≠g:=by have:=HSX.out;omega
   have hcon:=Any.slices_SortFunc laysSf (enF:Fin (m+1)->Value) (fun _=>rfl) (cfF l) (swoF l (m+1)) 32 #[.pointer (some ⟨w.heap.size,0,none⟩)] g 0 tc (zsF (m+1)).toArray wr eg (fun q os dk hdk x y=>by
    have hpre:∀ k,k < wx.heap.size->(sortWorld enF wr g 0 q dk os).heap[k]?=wx.heap[k]?:=fun k hk=>(sortW_other (Nat.lt_of_lt_of_le hk hb.size) (by omega)).trans (hb.block k hk)
    have hXs:(sortWorld enF wr g 0 q dk os).cell? ⟨w.heap.size,0,none⟩=some (.slice va (m+1) vc):=keep_cell (p:=⟨w.heap.size,0,none⟩) (hpre _ hXl) x0
    have hrs:RdNd (fun _=>True) (sortWorld enF wr g 0 q dk os) l (.slice va (m+1) vc):=HR.out.stay kp_nd (fun b _ hl=>⟨trivial,hpre b hl⟩)
    exact dcl_any hXs hrs x.val y.val (by rw [HN.out];exact x.isLt) (by rw [HN.out];exact y.isLt) (by rw [HN.out];exact h60)) hH hgl (by simp [zsF];omega)
   have hzs:(zsF (m+1)).toArray.size=m+1:=by simp [zsF]
   have hdp:=fun d' (hp:Go.Sort.PermIn 0 (zsF (m+1)).toArray.size (zsF (m+1)).toArray d') hs=>dpf_of HN.out hp hs
   have HDP:=hidOf hdp
   have hfin:∀ (d':Array (Fin (m+1))) q os,d'.size=m+1->(sortWorld enF wr g 0 q d' os).ownsRow w.heap.size 3 1 (.slice (some ⟨g,0,none⟩) (m+1) tc) (m+1) ((d'.toList.map (fun x=>x.val)).map enN):=fun d' q os hd'=>by
    have h1:=ownsRow_putRow (q:=q) (k:=m+1) (ys:=d'.toList) hO (by simpa using hd') Nat.le.refl
    rw [List.take_of_length_le (by simp;omega)] at h1
    have h2:d'.toList.map enF=(d'.toList.map (fun x=>x.val)).map enN:=by rw [List.map_map];rfl
    rw [h2] at h1
    have h3:(Go.Sort.putRow enF (Go.Sort.ahead wr q) g 0 d'.toList.toArray)=Go.Sort.putRow enF (Go.Sort.ahead wr q) g 0 d':=by simp
    rw [h3] at h1
    have hs:(Go.Sort.putRow enF (Go.Sort.ahead wr q) g 0 d').heap.size=wr.heap.size:=by simp [Go.Sort.putRow,Go.Sort.mapBlock,Go.Sort.ahead]
    have h4:(sortWorld enF wr g 0 q d' os).ownsRow wx.heap.size 3 1 (.slice (some ⟨g,0,none⟩) (m+1) tc) (m+1) ((d'.toList.map (fun x=>x.val)).map enN):=ownsRow_keep h1 (fun g' hg'=>Go.Sort.heap_grow_old _ _ (by
     have h5:=(ownsRow_lt h1 g' hg').2
     exact h5))
    refine ⟨h4.1,?_⟩
    rcases h4.2 with h5|⟨g',cap',cur,h5,h6,h7⟩
    ·exact .inl h5
    ·exact .inr ⟨g',cap',cur,h5,by have:=HSX.out;omega,h7⟩
   have HFIN:=hidOf hfin
   have hbz:∀ (d':Array (Fin (m+1))) q os,Below w.heap.size w (sortWorld enF wr g 0 q d' os):=fun d' q os=>by
    have h1:Below w.heap.size w wr:=hal.trans (hb.mono hal.size)
    exact h1.trans ((sortW_below (n:=m) (w:=wr) (g:=g) (m:=q) (d:=d') (os:=os) (Nat.le_of_lt hgl)).mono (by have:=HSX.out;omega))
   have HBZ:=hidOf hbz
   rw [hzs] at hcon
   change Calls Tryz.prog 31 _ _ _ at hcon
   clear hO hH hfin hbz hdp eg
   go_wp2_with (first
    | (go_at_call 31;refine hcon.mono ?_;rintro e w8 ⟨rfl,d',q,os,hp,hs,hw8⟩)
    | fail)
   subst hw8
   go_wp2
   go_ret
   have hsz8:d'.size=m+1:=by have h9:=hp.1;rw [hzs] at h9;exact h9
   refine ⟨_,_,_,d'.toList.map (fun x:Fin (m+1)=>x.val),rfl,HFIN.out d' q os hsz8,by show _=_;simp [hsz8],HDP.out d' (by rw [hzs];exact hp) (by rw [hzs];exact hs),HBZ.out d' q os⟩
abbrev Vr:=ByteArray × Int
def RdV (w:World) (v:Value) (vs:List Vr):Prop:=
 ∃ a cap,v=.slice a vs.length cap/\vs.length<=cap/\cap<=maxLen/\(a=none->vs=[])/\
  ∀ x,a=some x->∀ (i:Nat) (h:i < vs.length),w.cell? (x.add (i*2))=some (.string (vs[i]).1)/\w.cell? (x.add (i*2+1))=some (.int .i64 (vs[i]).2)
theorem RdV.below {w w':World}{v:Value}{vs:List Vr}{B:Nat}(h:RdV w v vs) (hb:Below B w w') (hB:w.heap.size<=B):RdV w' v vs:=by
 obtain ⟨a,cap,rfl,hc,hm,hn,hcell⟩:=h
 refine ⟨a,cap,rfl,hc,hm,hn,fun x hx i hi=>?_⟩
 obtain ⟨h1,h2⟩:=hcell x hx i hi
 have hk:∀ p u,w.cell? p=some u->w'.cell? p=some u:=fun p u hp=>by rw [hb.cell (Nat.lt_of_lt_of_le (World.block_lt_of_cell? w _ hp) hB)];exact hp
 exact ⟨hk _ _ h1,hk _ _ h2⟩
theorem RdV.form {w:World}{v:Value}{vs:List Vr}(h:RdV w v vs):∃ a cap,v=.slice a vs.length cap/\vs.length<=cap/\cap<=9223372036854775807/\
  ∀ (i:Nat) (hi:i < vs.length),∃ b off,a=some ⟨b,off,none⟩/\b < w.heap.size/\w.cell? ⟨b,off+i*2,none⟩=some (.string (vs[i]).1)/\w.cell? ⟨b,off+i*2+1,none⟩=some (.int .i64 (vs[i]).2):=by
 obtain ⟨a,cap,rfl,hc,hm,hn,hcell⟩:=h
 refine ⟨a,cap,rfl,hc,by unfold maxLen at hm;omega,fun i hi=>?_⟩
 cases a with
 | none=>have:=hn rfl;subst this;simp at hi
 | some x=>
  obtain ⟨b,off,spot⟩:=x
  obtain ⟨h1,h2⟩:=hcell _ rfl i hi
  obtain ⟨z1,_⟩:=hcell _ rfl 0 (by omega)
  have hspot:spot=none:=by simpa [Addr.add] using World.cell?_spot z1
  subst hspot
  rw [add_plain] at h1 h2
  exact ⟨b,off,rfl,World.block_lt_of_cell? w _ h1,h1,h2⟩
end Go.Proofs.YtppefcdkgejfbaaGreatDoor
namespace Go.Proofs.YtppefcdkgejfbaaGreatDoor
open Go.RowKit
set_option linter.unusedSimpArgs false
set_option linter.unusedVariables false
