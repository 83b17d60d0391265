import Derived.Test.YtfjdceknbdmhpaaGreatDoorWxc03
import Derived.Lib.ParseIntBCases
import Derived.Test.YtfjdceknbdmhpaaGreatDoorWxc06
import Derived.Lib.AtoiAll
import Derived.Test.YtfjdceknbdmhpaaGreatDoorWxc09
import Derived.Test.YtfjdceknbdmhpaaGreatDoorWxc10
set_option maxRecDepth 100000
set_option maxHeartbeats 32000000
namespace Go.Proofs.YtfjdceknbdmhpaaGreatDoor
open Go.RowKit Go.Lib
set_option linter.unusedSimpArgs false
set_option linter.unusedVariables false
attribute [local go_sem ↓] Go.wp_at_zero Go.wp_at_succ
theorem valB_ge:∀ (l:List UInt8) (n:Int),0<=n->l.all dB=true->n<=valB n l
 | [],n,_,_=>Int.le_refl _
 | c :: r,n,hn,h=>by
  simp only [List.all_cons,Bool.and_eq_true] at h
  have hd:48<=c.toNat/\c.toNat<=57:=of_decide_eq_true h.1
  have:=valB_ge r (10*n+((c.toNat:Int) - 48)) (by omega) h.2
  show n<=valB (10*n+((c.toNat:Int) - 48)) r
  omega
theorem parseM:∀ (l:List UInt8) (acc:Nat),l.all dB=true->valB (acc:Int) l<=1000000000->parseUintM (2 ^ 64 - 1) acc l=.ok (valB (acc:Int) l).toNat
 | [],acc,_,_=>by
  show NumEnd.ok acc=.ok ((acc:Int)).toNat
  rw [Int.toNat_natCast]
 | c :: r,acc,h,hb=>by
  simp only [List.all_cons,Bool.and_eq_true] at h
  have hd:48<=c.toNat/\c.toNat<=57:=of_decide_eq_true h.1
  have e:valB (acc:Int) (c :: r)=valB ((acc*10+(c.toNat - 48):Nat):Int) r:=by
   show valB (10*(acc:Int)+((c.toNat:Int) - 48)) r=_
   congr 1
   omega
  rw [e] at hb ⊢
  have hg:=valB_ge r ((acc*10+(c.toNat - 48):Nat):Int) (by omega) h.2
  rw [parseUintM,if_pos hd,if_neg (by omega),if_neg (by omega)]
  exact parseM r _ h.2 hb
theorem parse_num {b:List UInt8}(h:numB b=true):parseIntB 64 b=.ok (valB 0 b):=by
 obtain ⟨h1,h2,h3⟩:=num_len h
 have hall:b.all dB=true:=by
  unfold numB at h
  simp only [Bool.and_eq_true] at h
  simp_all
 cases b with
 | nil=>revert h;decide
 | cons c r=>
  have hc:=hall
  simp only [List.all_cons,Bool.and_eq_true] at hc
  have hd:48<=c.toNat/\c.toNat<=57:=of_decide_eq_true hc.1
  have hp:=parseM (c :: r) 0 hall h3
  rw [parseIntB_plain 64 c r (by omega) (by omega)]
  unfold parseUintB
  rw [if_neg (by simp),hp]
  show signlessC (2 ^ (64 - 1)) (.ok (valB 0 (c :: r)).toNat)=_
  unfold signlessC
  simp only
  rw [if_neg (by omega),Int.toNat_of_nonneg h2]
theorem atoiM:∀ (l:List UInt8) (acc:Nat),l.all dB=true->valB (acc:Int) l<=1000000000->parseUint10 acc l=.ok (valB (acc:Int) l).toNat
 | [],acc,_,_=>by
  show NumEnd.ok acc=.ok ((acc:Int)).toNat
  rw [Int.toNat_natCast]
 | c :: r,acc,h,hb=>by
  simp only [List.all_cons,Bool.and_eq_true] at h
  have hd:48<=c.toNat/\c.toNat<=57:=of_decide_eq_true h.1
  have e:valB (acc:Int) (c :: r)=valB ((acc*10+(c.toNat - 48):Nat):Int) r:=by
   show valB (10*(acc:Int)+((c.toNat:Int) - 48)) r=_
   congr 1
   omega
  rw [e] at hb ⊢
  have hg:=valB_ge r ((acc*10+(c.toNat - 48):Nat):Int) (by omega) h.2
  rw [parseUint10,if_pos hd,if_neg (by omega),if_neg (by omega)]
  exact atoiM r _ h.2 hb
theorem atoi_num {b:List UInt8}(h:numB b=true):atoiAll b=.ok (valB 0 b):=by
 obtain ⟨h1,h2,h3⟩:=num_len h
 have hall:b.all dB=true:=by
  unfold numB at h
  simp only [Bool.and_eq_true] at h
  simp_all
 have hle:valB 0 b<=1000000000:=by
  unfold numB at h
  simp only [Bool.and_eq_true,decide_eq_true_eq] at h
  exact h.2
 cases b with
 | nil=>revert h;decide
 | cons c r=>
  have hd:48<=c.toNat/\c.toNat<=57:=by
   simp only [List.all_cons,Bool.and_eq_true] at hall
   exact of_decide_eq_true hall.1
  have hm:parseMag (c :: r)=.ok (valB 0 (c :: r)).toNat:=by
   unfold parseMag
   rw [if_neg (by simp)]
   exact atoiM (c :: r) 0 hall hle
  have hg:=valB_ge (c :: r) 0 (by omega) hall
  unfold atoiAll
  simp only
  rw [if_neg (show ¬ (c.toNat=43∨c.toNat=45) by omega),hm]
  simp only
  rw [if_neg (by omega),if_neg (by omega),if_neg (by omega)]
  congr 1
  omega
theorem num_small {b:List UInt8}(h:numB b=true):0<=valB 0 b/\valB 0 b<=1000000000:=by
 have hall:b.all dB=true:=by
  unfold numB at h
  simp only [Bool.and_eq_true] at h
  simp_all
 refine ⟨valB_ge b 0 (by omega) hall,?_⟩
 unfold numB at h
 simp only [Bool.and_eq_true,decide_eq_true_eq] at h
 exact h.2
theorem nx_dig {c:UInt8}{r:List UInt8}(h:48<=c.toNat/\c.toNat<=57):(nx (c :: r)).1=(c.toNat:Int):=by
 obtain ⟨t,_,h2,_⟩:=head_small c r
 exact (h2 (by omega)).2
theorem name_num {b:List UInt8}(h:nameS b=true):numB b=false:=by
 cases b with
 | nil=>rfl
 | cons c r=>
  unfold nameS at h
  simp only [Bool.and_eq_true] at h
  have hl:=h.1.1
  cases hn:numB (c :: r) with
  | false=>rfl
  | true=>
   have hall:(c :: r).all dB=true:=by
    unfold numB at hn
    simp only [Bool.and_eq_true] at hn
    simp_all
   simp only [List.all_cons,Bool.and_eq_true] at hall
   have hd:48<=c.toNat/\c.toNat<=57:=of_decide_eq_true hall.1
   rw [nx_dig hd,letter_eq] at hl
   simp only [Bool.or_eq_true,Bool.and_eq_true,decide_eq_true_eq] at hl
   omega
theorem seg_head {K:Nat}{seg:List Ru}(h:OneW K seg) {v:Ru}{t:List Ru}(e:seg=v :: t):(nx (byt seg)).1=v.1:=by
 have hr:=h.runes
 have hb:byt seg≠[]:=by
  intro e2
  rw [e2] at hr
  rw [<- hr] at e
  cases e
 have:=runes_cons hb
 rw [hr] at this
 have h2:=e.symm.trans this
 injection h2 with h3 h4
 exact (congrArg Prod.fst h3).symm
theorem kind_name {K:Nat}{seg:List Ru}(h:OneW K seg):K=1↔nameS (byt seg)=true:=by
 rcases h.kind with ⟨k,n⟩|⟨k,n⟩|⟨k,v,t,e,l,d⟩
 ·exact ⟨fun _=>n,fun _=>k⟩
 ·constructor
  ·intro h1;omega
  ·intro h1;rw [name_num h1] at n;cases n
 ·constructor
  ·intro h1;omega
  ·intro h1
   unfold nameS at h1
   simp only [Bool.and_eq_true] at h1
   rw [seg_head h e,l] at h1
   exact absurd h1.1.1 (by decide)
theorem rsv_num {b:List UInt8}(h:numB b=true):rsvB b=false:=by
 cases hr:rsvB b with
 | false=>rfl
 | true=>
  have hall:rsv13.all (fun x=>!numB x)=true:=by decide
  unfold rsvB at hr
  obtain ⟨x,hx,hb⟩:=List.any_eq_true.1 hr
  have h1:=List.all_eq_true.1 hall x hx
  have h2:b=x:=by simpa using hb
  subst h2
  rw [h] at h1
  exact absurd h1 (by decide)
def WdG (r:RsC):Prop:=∀ x∈r.1,OneW x.1 x.2.1
theorem wdG_sub {r r':RsC}(h:WdG r) (hs:∀ x∈r'.1,x∈r.1):WdG r':=fun x hx=>h x (hs x hx)
theorem wdG_fail {r:RsC}(h:WdG r) (e:Int) (p:Pl):WdG (failC e p r):=wdG_sub h (by rw [failC_len];exact fun _=>id)
theorem wdG_take {r:RsC}(h:WdG r) (fin:Pl) (s:List UInt8):WdG (takeR fin s r):=by
 unfold takeR
 split
 ·exact wdG_sub h (fun x hx=>List.mem_of_mem_tail hx)
 ·exact wdG_fail h _ _
theorem name_fm {r:RsC}(h:WdG r) (fin:Pl):WdG (nameR fin r).2/\((nameR fin r).2.2.2=0->plainB (nameR fin r).1.1=true):=by
 obtain ⟨r1,r2⟩:=r
 cases r1 with
 | nil=>exact ⟨wdG_fail h _ _,fun he=>absurd he (failC_bad (by decide) _ _)⟩
 | cons w l=>
  have e:nameR fin (w :: l,r2)=if r2.2=0/\plainB (tkW w).2=true then (((tkW w).2,wPl w),(l,r2)) else (([],(0,0)),failC 12 (hereR fin (w :: l,r2)) (w :: l,r2)):=rfl
  rw [e]
  split
  ·next hq=>exact ⟨wdG_sub h (fun x hx=>List.mem_cons_of_mem _ hx),fun _=>hq.2⟩
  ·exact ⟨wdG_fail h _ _,fun he=>absurd he (failC_bad (by decide) _ _)⟩
theorem num_fm {r:RsC}(h:WdG r) (fin:Pl):WdG (numR fin r).2/\((numR fin r).2.2.2=0->nbB (numR fin r).1=true):=by
 obtain ⟨r1,r2⟩:=r
 cases r1 with
 | nil=>exact ⟨wdG_fail h _ _,fun he=>absurd he (failC_bad (by decide) _ _)⟩
 | cons w l=>
  have e:numR fin (w :: l,r2)=if r2.2=0/\w.1=2 then (valB 0 (tkW w).2,(l,r2)) else (0,failC 12 (hereR fin (w :: l,r2)) (w :: l,r2)):=rfl
  rw [e]
  split
  ·next hq=>
   refine ⟨wdG_sub h (fun x hx=>List.mem_cons_of_mem _ hx),fun _=>?_⟩
   have hn:numB (byt w.2.1)=true:=by
    rcases (h w List.mem_cons_self).kind with ⟨a,_⟩|⟨_,b⟩|⟨a,_⟩
    ·omega
    ·exact b
    ·omega
   exact decide_eq_true (num_small hn)
  ·exact ⟨wdG_fail h _ _,fun he=>absurd he (failC_bad (by decide) _ _)⟩
theorem take_fm {ws:List Wd}(h:∀ x∈ws,OneW x.1 x.2.1) (h0:(takeC (ws.map tkW)).2.2=0):exF (takeC (ws.map tkW)).1=true/\ClX (takeC (ws.map tkW)).1:=by
 have hb:BadOr _ 0 (rdC (ws.map tkW)):=fine_read h _ 1 0 (by omega) (by omega)
 unfold takeC at h0 ⊢
 rcases hb with ⟨e1,e2⟩|e1
 ·rw [if_neg (by omega)] at h0 ⊢
  by_cases hq:fmX (rdC (ws.map tkW)).1=true
  ·rw [if_pos hq]
   refine ⟨?_,e2.1.cl⟩
   unfold exF
   rw [Bool.and_eq_true]
   exact ⟨hq,e2.1.pl⟩
  ·rw [if_neg hq] at h0;exact absurd (show (13:Int)=0 from h0) (by decide)
 ·rw [if_pos e1] at h0;exact absurd (show (12:Int)=0 from h0) (by decide)
theorem expr_fm {r:RsC}(h:WdG r) (fin:Pl):WdG (exprR fin r).2/\((exprR fin r).2.2.2=0->exF (exprR fin r).1=true/\ClX (exprR fin r).1):=by
 have hd:WdG (r.1.drop (takeC (r.1.map tkW)).2.1,r.2):=wdG_sub h (fun x hx=>List.mem_of_mem_drop hx)
 unfold exprR
 split
 ·next h1=>exact ⟨h,fun he=>absurd he h1⟩
 ·split
  ·next h2=>exact ⟨hd,fun _=>take_fm h h2⟩
  ·split
   ·exact ⟨wdG_fail h _ _,fun he=>absurd he (failC_bad (by decide) _ _)⟩
   ·next h2 _=>exact ⟨wdG_fail hd _ _,fun he=>absurd he (failC_bad h2 _ _)⟩
theorem sets_fm (fin:Pl):∀ (g:Nat) (acc:List (List UInt8 × Sx)) (r:RsC),WdG r->WdG (setsR fin g acc r).2/\((∀ s∈acc,setF s=true/\ClX s.2)->(setsR fin g acc r).2.2.2=0->∀ s∈(setsR fin g acc r).1,setF s=true/\ClX s.2)
 | 0,acc,r,h=>⟨h,fun ha _=>ha⟩
 | g+1,acc,r,h=>by
  unfold setsR
  split
  ·simp only
   obtain ⟨w1,n1⟩:=name_fm (wdG_take h fin wSet) fin
   have w2:=wdG_take w1 fin [61]
   obtain ⟨w3,n3⟩:=expr_fm w2 fin
   have gn:=goes_name fin (takeR fin wSet r)
   have gt:=goes_take fin [61] (nameR fin (takeR fin wSet r)).2
   have ge:=goes_expr fin (takeR fin [61] (nameR fin (takeR fin wSet r)).2)
   generalize exprR fin (takeR fin [61] (nameR fin (takeR fin wSet r)).2)=E at *
   generalize nameR fin (takeR fin wSet r)=N at *
   obtain ⟨i1,i2⟩:=sets_fm fin g (acc++[(N.1.1,E.1)]) E.2 w3
   refine ⟨i1,fun ha he=>i2 (fun s hs=>?_) he⟩
   have hE:=(goes_sets fin g _ _).2 he
   rcases List.mem_append.1 hs with hs|hs
   ·exact ha s hs
   ·rw [List.mem_singleton.1 hs]
    have hN:=gt.2 (ge.2 hE)
    refine ⟨?_,(n3 hE).2⟩
    show (plainB N.1.1 && exF E.1)=true
    rw [Bool.and_eq_true]
    exact ⟨n1 hN,(n3 hE).1⟩
  ·exact ⟨h,fun ha _=>ha⟩
theorem on_fm {r:RsC}(h:WdG r) (fin:Pl):WdG (onR fin r).2/\((onR fin r).2.2.2=0->onF (onR fin r).1=true/\OnCl (onR fin r).1):=by
 obtain ⟨w1,n1⟩:=name_fm (wdG_take h fin wOn) fin
 unfold onR
 simp only
 generalize nameR fin (takeR fin wOn r)=A at *
 obtain ⟨G,hG⟩:∃ g:(Bool × Sx) × RsC,(if isC wIf A.2=true then ((fun x=>((true,x.1),x.2)) (exprR fin (takeR fin wIf A.2))) else ((false,noX),A.2))=g:=⟨_,rfl⟩
 rw [hG]
 have hg:WdG G.2/\(G.2.2.2=0->(G.1.1=true->exF G.1.2=true/\ClX G.1.2)/\A.2.2.2=0):=by
  split at hG
  ·obtain ⟨w2,n2⟩:=expr_fm (wdG_take w1 fin wIf) fin
   have ge:=goes_expr fin (takeR fin wIf A.2)
   have gt:=goes_take fin wIf A.2
   rw [<- hG]
   exact ⟨w2,fun he=>⟨fun _=>n2 he,gt.2 (ge.2 he)⟩⟩
  ·rw [<- hG]
   exact ⟨w1,fun he=>⟨fun q=>(by cases q),he⟩⟩
 clear hG
 obtain ⟨w4,n4⟩:=name_fm (wdG_take hg.1 fin wGo) fin
 have gn:=(goes_take fin wGo G.2).trans (goes_name fin (takeR fin wGo G.2))
 generalize nameR fin (takeR fin wGo G.2)=N at *
 obtain ⟨w5,n5⟩:=sets_fm fin (N.2.1.length+1) [] N.2 w4
 have gs:=goes_sets fin (N.2.1.length+1) [] N.2
 generalize setsR fin (N.2.1.length+1) [] N.2=S at *
 refine ⟨w5,fun he=>?_⟩
 have hN:=gs.2 he
 obtain ⟨g1,g2⟩:=hg.2 (gn.2 hN)
 have hS:=n5 (fun s hs=>by simp at hs) he
 refine ⟨?_,fun hb=>(g1 hb).2,fun s hs=>(hS s hs).2⟩
 show (plainB A.1.1 && ((!G.1.1 || exF G.1.2) && (plainB N.1.1 && S.1.all setF)))=true
 rw [n1 g2,n4 hN,List.all_eq_true.2 (fun s hs=>(hS s hs).1)]
 cases hb:G.1.1 with
 | true=>rw [(g1 hb).1];rfl
 | false=>rfl
theorem kind_fm {r:RsC}(h:WdG r) (fin:Pl) (nm:List UInt8 × Pl) (os:List OnC):WdG (kindR fin r).2/\((kindR fin r).2.2.2=0->kndF (nm,(kindR fin r).1.1,(kindR fin r).1.2.1,(kindR fin r).1.2.2,os)=true):=by
 unfold kindR
 split
 ·exact ⟨wdG_take h fin _,fun _=>rfl⟩
 ·split
  ·exact ⟨wdG_take h fin _,fun _=>rfl⟩
  ·split
   ·simp only
    obtain ⟨w1,n1⟩:=name_fm (wdG_take h fin wDo) fin
    generalize nameR fin (takeR fin wDo r)=A at *
    obtain ⟨w2,n2⟩:=name_fm (wdG_take w1 fin wUndo) fin
    have g2:=(goes_take fin wUndo A.2).trans (goes_name fin (takeR fin wUndo A.2))
    generalize nameR fin (takeR fin wUndo A.2)=B at *
    obtain ⟨w3,n3⟩:=num_fm (wdG_take w2 fin wAt) fin
    have g3:=(goes_take fin wAt B.2).trans (goes_num fin (takeR fin wAt B.2))
    generalize numR fin (takeR fin wAt B.2)=C at *
    obtain ⟨w4,n4⟩:=num_fm (wdG_take w3 fin wRetries) fin
    have g4:=(goes_take fin wRetries C.2).trans (goes_num fin (takeR fin wRetries C.2))
    generalize numR fin (takeR fin wRetries C.2)=E at *
    refine ⟨w4,fun he=>?_⟩
    have hC:=g4.2 he
    have hB:=g3.2 hC
    have hA:=g2.2 hB
    have hd:A.1.1≠[]:=fun q=>by
     have:=plain_name (n1 hA)
     rw [q] at this
     revert this;decide
    unfold kndF
    rw [if_pos (step_do (h:=(nm,(false,false),(A.1.1,B.1.1),(C.1,E.1),os)) hd)]
    show (!false && !false && plainB A.1.1 && plainB B.1.1 && nbB C.1 && nbB E.1)=true
    rw [n1 hA,n2 hB,n3 hC,n4 he];rfl
   ·exact ⟨h,fun _=>rfl⟩
theorem in_fm {α:Type}(fin:Pl) (inner:RsC->α × RsC) (Q:α->Prop) (hw:∀ r,WdG r->WdG (inner r).2/\((inner r).2.2.2=0->Q (inner r).1)) (hg:∀ r,Goes r (inner r).2) :
  ∀ (g:Nat) (os:List OnC) (ss:List α) (r:RsC),WdG r->(∀ o∈os,onF o=true/\OnCl o)->(∀ x∈ss,Q x)->WdG (inR fin inner g os ss r).2/\((inR fin inner g os ss r).2.2.2=0->(∀ o∈(inR fin inner g os ss r).1.1,onF o=true/\OnCl o)/\(∀ x∈(inR fin inner g os ss r).1.2,Q x)):=by
 have key:∀ (g:Nat) (os:List OnC) (ss:List α) (r:RsC),WdG r->WdG (inR fin inner g os ss r).2:=by
  intro g
  induction g with
  | zero=>exact fun os ss r h=>h
  | succ g ih=>
   intro os ss r h
   unfold inR
   split
   ·split
    ·exact ih _ _ _ (on_fm h fin).1
    ·exact ih _ _ _ (hw r h).1
   ·exact h
 intro g
 induction g with
 | zero=>exact fun os ss r h ho hs=>⟨h,fun _=>⟨ho,hs⟩⟩
 | succ g ih=>
  intro os ss r h ho hs
  refine ⟨key _ _ _ _ h,?_⟩
  unfold inR
  split
  ·split
   ·intro he
    have h0:=(goes_in fin inner hg g _ _ _).2 he
    have hk:=(on_fm h fin).2 h0
    exact (ih (os++[(onR fin r).1]) ss (onR fin r).2 (on_fm h fin).1 (fun o hx=>by
     rcases List.mem_append.1 hx with hx|hx
     ·exact ho o hx
     ·rw [List.mem_singleton.1 hx];exact hk) hs).2 he
   ·intro he
    have h0:=(goes_in fin inner hg g _ _ _).2 he
    exact (ih os (ss++[(inner r).1]) (inner r).2 (hw r h).1 ho (fun o hx=>by
     rcases List.mem_append.1 hx with hx|hx
     ·exact hs o hx
     ·rw [List.mem_singleton.1 hx];exact (hw r h).2 h0)).2 he
  ·exact fun _=>⟨ho,hs⟩
theorem st_fm (fin:Pl):∀ (k:Nat) (r:RsC),WdG r->k<=6->WdG (stR fin k r).2/\((stR fin k r).2.2.2=0->stF (k+1) (7 - k) (stR fin k r).1=true/\StCl (k+1) (stR fin k r).1)
 | 0,r,h,_=>⟨wdG_fail h _ _,fun he=>absurd he (failC_bad (by split<;>decide) _ r)⟩
 | k+1,r,h,hk=>by
  obtain ⟨w1,n1⟩:=name_fm (wdG_take h fin wState) fin
  have e:stR fin (k+1) r=((((nameR fin (takeR fin wState r)).1,(kindR fin (takeR fin [123] (nameR fin (takeR fin wState r)).2)).1.1,(kindR fin (takeR fin [123] (nameR fin (takeR fin wState r)).2)).1.2.1,(kindR fin (takeR fin [123] (nameR fin (takeR fin wState r)).2)).1.2.2,(inR fin (stR fin k) ((kindR fin (takeR fin [123] (nameR fin (takeR fin wState r)).2)).2.1.length+1) [] [] (kindR fin (takeR fin [123] (nameR fin (takeR fin wState r)).2)).2).1.1),(inR fin (stR fin k) ((kindR fin (takeR fin [123] (nameR fin (takeR fin wState r)).2)).2.1.length+1) [] [] (kindR fin (takeR fin [123] (nameR fin (takeR fin wState r)).2)).2).1.2),takeR fin [125] (inR fin (stR fin k) ((kindR fin (takeR fin [123] (nameR fin (takeR fin wState r)).2)).2.1.length+1) [] [] (kindR fin (takeR fin [123] (nameR fin (takeR fin wState r)).2)).2).2):=rfl
  rw [e]
  clear e
  generalize nameR fin (takeR fin wState r)=A at *
  have g2:=goes_take fin [123] A.2
  have hk2:=fun os=>kind_fm (wdG_take w1 fin [123]) fin A.1 os
  have g3:=goes_kind fin (takeR fin [123] A.2)
  generalize kindR fin (takeR fin [123] A.2)=K at *
  obtain ⟨i1,i2⟩:=in_fm fin (stR fin k) (fun x=>stF (k+1) (7 - k) x=true/\StCl (k+1) x) (fun r h=>st_fm fin k r h (by omega)) (fun r=>(goes_st fin k r).1) (K.2.1.length+1) [] [] K.2 (hk2 []).1 (fun x hx=>by simp at hx) (fun x hx=>by simp at hx)
  have g4:=goes_in fin (stR fin k) (fun r=>(goes_st fin k r).1) (K.2.1.length+1) [] [] K.2
  generalize inR fin (stR fin k) (K.2.1.length+1) [] [] K.2=I at *
  refine ⟨wdG_take i1 fin [125],fun he=>?_⟩
  have hI:=(goes_take fin [125] I.2).2 he
  obtain ⟨j1,j2⟩:=i2 hI
  have hK:=g4.2 hI
  have hA:=g2.2 (g3.2 hK)
  refine ⟨?_,fun o ho=>(j1 o ho).2,fun x hx=>(j2 x hx).2⟩
  show (decide (7 - (k+1)<=6) && plainB A.1.1 && kndF (A.1,K.1.1,K.1.2.1,K.1.2.2,I.1.1) && I.1.1.all onF && I.1.2.all (stF (k+1) (7 - (k+1)+1)))=true
  have hk7:7 - (k+1)+1=7 - k:=by omega
  rw [hk7,decide_eq_true (by omega),n1 hA,(hk2 I.1.1).2 hK,List.all_eq_true.2 (fun o ho=>(j1 o ho).1),List.all_eq_true.2 (fun o ho=>(j2 o ho).1)]
  rfl
theorem sts_fm (fin:Pl):∀ (g:Nat) (acc:List (St 7)) (r:RsC),WdG r->(∀ x∈acc,stF 7 1 x=true/\StCl 7 x)->(stsR fin g acc r).2.2.2=0->∀ x∈(stsR fin g acc r).1,stF 7 1 x=true/\StCl 7 x
 | 0,acc,r,h,ha,_=>ha
 | g+1,acc,r,h,ha,he=>by
  unfold stsR at he ⊢
  split at he
  ·rename_i h1
   rw [if_pos h1]
   have h0:(stR fin 6 r).2.2.2=0:=by
    by_cases hz:(stR fin 6 r).2.2.2=0
    ·exact hz
    ·have ee:∀ g acc,stsR fin g acc (stR fin 6 r).2=(acc,(stR fin 6 r).2):=fun g acc=>by
      cases g with
      | zero=>rfl
      | succ g=>unfold stsR;rw [if_neg (fun q=>hz q.1)]
     rw [ee] at he;exact absurd he hz
   exact sts_fm fin g (acc++[(stR fin 6 r).1]) (stR fin 6 r).2 (st_fm fin 6 r h (by omega)).1 (fun x hx=>by
    rcases List.mem_append.1 hx with hx|hx
    ·exact ha x hx
    ·rw [List.mem_singleton.1 hx];exact (st_fm fin 6 r h (by omega)).2 h0) he
  ·rename_i h1
   rw [if_neg h1]
   exact ha
theorem vars_fm (fin:Pl):∀ (g:Nat) (acc:List (List UInt8 × Int × Pl)) (r:RsC),WdG r->WdG (varsR fin g acc r).2/\((∀ x∈acc,varF x=true)->(varsR fin g acc r).2.2.2=0->∀ x∈(varsR fin g acc r).1,varF x=true)
 | 0,acc,r,h=>⟨h,fun ha _=>ha⟩
 | g+1,acc,r,h=>by
  unfold varsR
  split
  ·simp only
   obtain ⟨w1,n1⟩:=name_fm (wdG_take h fin wVar) fin
   generalize nameR fin (takeR fin wVar r)=A at *
   have w2:=wdG_take w1 fin [61]
   have g2:=goes_take fin [61] A.2
   generalize takeR fin [61] A.2=B at *
   obtain ⟨N,hN⟩:∃ x:Int × RsC,(if isC [45] B=true then (fun x=>(-x.1,x.2)) (numR fin (takeR fin [45] B)) else numR fin B)=x:=⟨_,rfl⟩
   rw [hN]
   have hp:WdG N.2/\(N.2.2.2=0->(-1000000000<=N.1/\N.1<=1000000000)/\B.2.2=0):=by
    split at hN
    ·obtain ⟨w3,n3⟩:=num_fm (wdG_take w2 fin [45]) fin
     have g3:=(goes_take fin [45] B).trans (goes_num fin (takeR fin [45] B))
     rw [<- hN]
     refine ⟨w3,fun he=>⟨?_,g3.2 he⟩⟩
     have:=nb_of (n3 he)
     show -1000000000<=-(numR fin (takeR fin [45] B)).1/\-(numR fin (takeR fin [45] B)).1<=1000000000
     omega
    ·obtain ⟨w3,n3⟩:=num_fm w2 fin
     have g3:=goes_num fin B
     rw [<- hN]
     refine ⟨w3,fun he=>⟨?_,g3.2 he⟩⟩
     have:=nb_of (n3 he)
     omega
   clear hN
   obtain ⟨i1,i2⟩:=vars_fm fin g (acc++[(A.1.1,N.1,A.1.2)]) N.2 hp.1
   refine ⟨i1,fun ha he=>i2 (fun x hx=>?_) he⟩
   have h0:=(goes_vars fin g _ _).2 he
   obtain ⟨p1,p2⟩:=hp.2 h0
   rcases List.mem_append.1 hx with hx|hx
   ·exact ha x hx
   ·rw [List.mem_singleton.1 hx]
    show (plainB A.1.1 && decide (-1000000000<=N.1/\N.1<=1000000000))=true
    rw [n1 (g2.2 p2),decide_eq_true p1];rfl
  ·exact ⟨h,fun ha _=>ha⟩
theorem read_formed {s:List UInt8}(h0:(readC s).2.2=0):chF 7 (readC s).1=true/\∀ t∈(readC s).1.2.2.2,StCl 7 t:=by
 unfold readC at h0 ⊢
 split at h0
 ·rename_i h;exact absurd h0 h
 ·rename_i h
  rw [if_neg h]
  obtain ⟨h2,h3⟩:=words_one (l:=s) (by simpa using h)
  generalize (wordsS s).1=ws at *
  generalize endP (runes s) 1 1=fin at *
  have w0:WdG (ws,(0,0),0):=h2
  obtain ⟨w1,n1⟩:=name_fm (wdG_take w0 fin wChart) fin
  unfold chR at h0 ⊢
  simp only at h0 ⊢
  generalize nameR fin (takeR fin wChart (ws,(0,0),0))=A at *
  obtain ⟨w2,n2⟩:=num_fm w1 fin
  have g2:=goes_num fin A.2
  generalize numR fin A.2=N at *
  have w3:=wdG_take w2 fin [123]
  have g3:=goes_take fin [123] N.2
  generalize takeR fin [123] N.2=B at *
  obtain ⟨v1,v2⟩:=vars_fm fin (B.1.length+1) [] B w3
  have g4:=goes_vars fin (B.1.length+1) [] B
  generalize varsR fin (B.1.length+1) [] B=V at *
  have hs:=sts_fm fin (V.2.1.length+1) [] V.2 v1 (fun x hx=>by simp at hx)
  have g5:(stsR fin (V.2.1.length+1) [] V.2).2.2.2=0->V.2.2.2=0:=fun he=>by
   by_cases hz:V.2.2.2=0
   ·exact hz
   ·unfold stsR at he
    rw [if_neg (fun q=>hz q.1)] at he
    exact absurd he hz
  generalize stsR fin (V.2.1.length+1) [] V.2=S at *
  have ge:=(goes_take fin [125] S.2).2
  generalize takeR fin [125] S.2=E at *
  obtain ⟨z,hz⟩:∃ z,(if E.2.2=0/\E.1≠[] then failC 12 (hereR fin E) E else E)=z:=⟨_,rfl⟩
  rw [hz] at h0 ⊢
  by_cases hzz:z.2.2=0
  ·rw [if_pos hzz]
   have hE:E.2.2=0:=by
    by_cases hc:E.2.2=0/\E.1≠[]
    ·exact hc.1
    ·rw [if_neg hc] at hz;rw [hz];exact hzz
   have hS:=ge hE
   have hV:=g5 hS
   have hB:=g4.2 hV
   have hN:=g3.2 hB
   have hA:=g2.2 hN
   have j1:=hs hS
   refine ⟨?_,fun t ht=>(j1 t ht).2⟩
   show (plainB A.1.1 && nbB N.1 && V.1.all varF && S.1.all (stF 7 1))=true
   rw [n1 hA,n2 hN,List.all_eq_true.2 (v2 (fun x hx=>by simp at hx) hV),List.all_eq_true.2 (fun x hx=>(j1 x hx).1)]
   rfl
  ·rw [if_neg hzz] at h0;exact absurd h0 hzz
theorem cl_no:ClX noX:=cl_none (d:=0)
theorem take_cl {ws:List Wd}(h:∀ x∈ws,OneW x.1 x.2.1):ClX (takeC (ws.map tkW)).1/\cntX (takeC (ws.map tkW)).1<=2000:=by
 have hb:BadOr _ 0 (rdC (ws.map tkW)):=fine_read h _ 1 0 (by omega) (by omega)
 unfold takeC
 rcases hb with ⟨e1,e2⟩|e1
 ·rw [if_neg (by omega)]
  by_cases hq:fmX (rdC (ws.map tkW)).1=true
  ·rw [if_pos hq]
   have:=(fm_parts hq).1
   exact ⟨e2.1.cl,by show cnt _ _<=2000;simp only;omega⟩
  ·rw [if_neg hq];exact ⟨cl_no,(show cntX noX<=2000 by decide)⟩
 ·rw [if_pos e1];exact ⟨cl_no,(show cntX noX<=2000 by decide)⟩
def Wds (r:RsC):Prop:=(∀ x∈r.1,OneW x.1 x.2.1)/\r.1.length<=3000
theorem wds_sub {r r':RsC}(h:Wds r) (hs:∀ x∈r'.1,x∈r.1) (hl:r'.1.length<=r.1.length):Wds r':=⟨fun x hx=>h.1 x (hs x hx),Nat.le_trans hl h.2⟩
theorem wds_fail {r:RsC}(h:Wds r) (e:Int) (p:Pl):Wds (failC e p r):=wds_sub h (by rw [failC_len];exact fun _=>id) (by rw [failC_len];exact Nat.le_refl _)
theorem wds_take {r:RsC}(h:Wds r) (fin:Pl) (s:List UInt8):Wds (takeR fin s r):=by
 refine wds_sub h ?_ (takeR_len fin s r)
 unfold takeR
 split
 ·exact fun x hx=>List.mem_of_mem_tail hx
 ·rw [failC_len];exact fun _=>id
theorem wds_name {r:RsC}(h:Wds r) (fin:Pl):Wds (nameR fin r).2:=by
 refine wds_sub h ?_ (nameR_len fin r)
 unfold nameR
 cases hr:r.1 with
 | nil=>simp only;rw [failC_len,hr];exact fun _=>id
 | cons w l=>
  simp only
  split
  ·exact fun x hx=>List.mem_cons_of_mem _ hx
  ·rw [failC_len,hr];exact fun _=>id
theorem wds_num {r:RsC}(h:Wds r) (fin:Pl):Wds (numR fin r).2:=by
 refine wds_sub h ?_ (numR_len fin r)
 unfold numR
 cases hr:r.1 with
 | nil=>simp only;rw [failC_len,hr];exact fun _=>id
 | cons w l=>
  simp only
  split
  ·exact fun x hx=>List.mem_cons_of_mem _ hx
  ·rw [failC_len,hr];exact fun _=>id
theorem wds_expr {r:RsC}(h:Wds r) (fin:Pl):Wds (exprR fin r).2:=by
 refine wds_sub h ?_ (exprR_len fin r)
 unfold exprR
 split
 ·exact fun _=>id
 ·split
  ·exact fun x hx=>List.mem_of_mem_drop hx
  ·split
   ·rw [failC_len];exact fun _=>id
   ·rw [failC_len];exact fun x hx=>List.mem_of_mem_drop hx
theorem expr_cl {r:RsC}(h:Wds r) (fin:Pl):ClX (exprR fin r).1:=by
 unfold exprR
 split
 ·exact cl_no
 ·split
  ·exact (take_cl h.1).1
  ·split
   ·exact (take_cl h.1).1
   ·exact (take_cl h.1).1
theorem fm_iface {x:Sx}(h:ClX x) (hf:fmX x=true):∃ u y,exX x=.iface u y:=by
 obtain ⟨d,t⟩:=x
 cases d with
 | zero=>exact Empty.elim t
 | succ d=>
  rcases Cl.cases h with ⟨n,rfl⟩|⟨s,rfl⟩|⟨k,p,hk,rfl,_⟩|⟨s,p,q,rfl,_,_⟩|rfl
  ·exact ⟨_,_,rfl⟩
  ·exact ⟨_,_,rfl⟩
  ·rcases hk with rfl|rfl<;>exact ⟨_,_,rfl⟩
  ·exact ⟨_,_,rfl⟩
  ·exact absurd hf (by rw [show fmX (⟨d+1,none0⟩:Sx)=false from rfl];decide)
theorem expr_some {r:RsC}(h:Wds r) (fin:Pl) (he:(exprR fin r).2.2.2=0):∃ u y,exX (exprR fin r).1=.iface u y:=by
 have hc:=take_cl h.1
 unfold exprR at he ⊢
 split at he
 ·rename_i h1;exact absurd he h1
 ·rename_i h1
  rw [if_neg h1]
  split at he
  ·rename_i h2
   rw [if_pos h2]
   refine fm_iface hc.1 ?_
   unfold takeC at h2 ⊢
   split at h2
   ·exact absurd (show (12:Int)=0 from h2) (by decide)
   ·rename_i h3
    rw [if_neg h3]
    split at h2
    ·rename_i h4;rw [if_pos h4];exact h4
    ·exact absurd (show (13:Int)=0 from h2) (by decide)
  ·split at he
   ·exact absurd he (failC_bad (by decide) _ _)
   ·rename_i h2 h3;exact absurd he (failC_bad h2 _ _)
theorem sets_ok (fin:Pl):∀ (g:Nat) (acc:List (List UInt8 × Sx)) (r:RsC),Wds r->(∀ x∈acc,ClX x.2)->(∀ x∈(setsR fin g acc r).1,ClX x.2)/\(setsR fin g acc r).1.length<=acc.length+r.1.length/\Wds (setsR fin g acc r).2
 | 0,acc,r,h,ha=>⟨ha,Nat.le_add_right _ _,h⟩
 | g+1,acc,r,h,ha=>by
  unfold setsR
  split
  ·rename_i hi
   have hl:=takeR_less fin hi
   have w1:=wds_name (wds_take h fin wSet) fin
   have w2:=wds_take w1 fin [61]
   obtain ⟨i1,i2,i3⟩:=sets_ok fin g (acc++[((nameR fin (takeR fin wSet r)).1.1,(exprR fin (takeR fin [61] (nameR fin (takeR fin wSet r)).2)).1)]) (exprR fin (takeR fin [61] (nameR fin (takeR fin wSet r)).2)).2 (wds_expr w2 fin) (fun x hx=>by
    rcases List.mem_append.1 hx with hx|hx
    ·exact ha x hx
    ·rw [List.mem_singleton.1 hx];exact expr_cl w2 fin)
   refine ⟨i1,?_,i3⟩
   have g1:=((goes_name fin (takeR fin wSet r)).trans ((goes_take fin [61] _).trans (goes_expr fin _))).1
   rw [List.length_append,List.length_singleton] at i2
   simp only
   omega
  ·exact ⟨ha,Nat.le_add_right _ _,h⟩
def OkO (o:OnC):Prop:=ClX o.2.1.2/\(o.2.1.1=false->o.2.1.2=noX)/\(o.2.1.1=true->∃ u y,exX o.2.1.2=.iface u y)/\(∀ x∈o.2.2.2.1,ClX x.2)/\o.2.2.2.1.length<=3001
theorem wds_on {r:RsC}(h:Wds r) (fin:Pl):Wds (onR fin r).2/\((onR fin r).2.2.2=0->OkO (onR fin r).1):=by
 have w1:=wds_name (wds_take h fin wOn) fin
 unfold onR
 simp only
 generalize nameR fin (takeR fin wOn r)=A at *
 by_cases hi:isC wIf A.2=true
 ·rw [if_pos hi]
  have w2:=wds_take w1 fin wIf
  have c2:=expr_cl w2 fin
  have s2:=expr_some w2 fin
  have w3:=wds_expr w2 fin
  generalize exprR fin (takeR fin wIf A.2)=E at *
  simp only
  have w4:=wds_name (wds_take w3 fin wGo) fin
  have g4:=(goes_take fin wGo E.2).trans (goes_name fin (takeR fin wGo E.2))
  generalize nameR fin (takeR fin wGo E.2)=N at *
  obtain ⟨i1,i2,i3⟩:=sets_ok fin (N.2.1.length+1) [] N.2 w4 (fun x hx=>by simp at hx)
  refine ⟨i3,fun he=>⟨c2,fun e=>Bool.noConfusion e,fun _=>s2 (g4.2 ((goes_sets fin _ _ _).2 he)),i1,?_⟩⟩
  have:=w4.2
  rw [List.length_nil] at i2
  simp only
  omega
 ·rw [if_neg hi]
  simp only
  have w4:=wds_name (wds_take w1 fin wGo) fin
  generalize nameR fin (takeR fin wGo A.2)=N at *
  obtain ⟨i1,i2,i3⟩:=sets_ok fin (N.2.1.length+1) [] N.2 w4 (fun x hx=>by simp at hx)
  refine ⟨i3,fun he=>⟨cl_no,fun _=>rfl,fun e=>Bool.noConfusion e,i1,?_⟩⟩
  have:=w4.2
  rw [List.length_nil] at i2
  simp only
  omega
theorem wds_kind {r:RsC}(h:Wds r) (fin:Pl):Wds (kindR fin r).2:=by
 unfold kindR
 split
 ·exact wds_take h fin _
 ·split
  ·exact wds_take h fin _
  ·split
   ·exact wds_num (wds_take (wds_num (wds_take (wds_name (wds_take (wds_name (wds_take h fin _) fin) fin _) fin) fin _) fin) fin _) fin
   ·exact h
theorem in_ok {α:Type}(fin:Pl) (inner:RsC->α × RsC) (Q:α->Prop) (hw:∀ r,Wds r->Wds (inner r).2) (hq:∀ r,Wds r->(inner r).2.2.2=0->Q (inner r).1) (hg:∀ r,Goes r (inner r).2) (hl:∀ r,(inner r).2.2.2=0->(inner r).2.1.length < r.1.length) :
  ∀ (g:Nat) (os:List OnC) (ss:List α) (r:RsC),Wds r->(∀ o∈os,OkO o)->(∀ x∈ss,Q x)->Wds (inR fin inner g os ss r).2/\((inR fin inner g os ss r).2.2.2=0->(∀ o∈(inR fin inner g os ss r).1.1,OkO o)/\(∀ x∈(inR fin inner g os ss r).1.2,Q x)/\(inR fin inner g os ss r).1.1.length+(inR fin inner g os ss r).1.2.length<=os.length+ss.length+r.1.length):=by
 have key:∀ (g:Nat) (os:List OnC) (ss:List α) (r:RsC),Wds r->Wds (inR fin inner g os ss r).2:=by
  intro g
  induction g with
  | zero=>exact fun os ss r h=>h
  | succ g ih=>
   intro os ss r h
   unfold inR
   split
   ·split
    ·exact ih _ _ _ (wds_on h fin).1
    ·exact ih _ _ _ (hw r h)
   ·exact h
 intro g
 induction g with
 | zero=>exact fun os ss r h ho hs=>⟨h,fun _=>⟨ho,hs,Nat.le_add_right _ _⟩⟩
 | succ g ih=>
  intro os ss r h ho hs
  refine ⟨key _ _ _ _ h,?_⟩
  unfold inR
  split
  ·split
   ·rename_i h1 h2
    intro he
    have h0:=(goes_in fin inner hg g _ _ _).2 he
    have hk:=(wds_on h fin).2 h0
    obtain ⟨j1,j2,j3⟩:=(ih (os++[(onR fin r).1]) ss (onR fin r).2 (wds_on h fin).1 (fun o hx=>by
     rcases List.mem_append.1 hx with hx|hx
     ·exact ho o hx
     ·rw [List.mem_singleton.1 hx];exact hk) hs).2 he
    refine ⟨j1,j2,?_⟩
    have hll:=on_less (fin:=fin) h2
    rw [List.length_append,List.length_singleton] at j3
    omega
   ·rename_i h1 h2
    intro he
    have h0:=(goes_in fin inner hg g _ _ _).2 he
    obtain ⟨j1,j2,j3⟩:=(ih os (ss++[(inner r).1]) (inner r).2 (hw r h) ho (fun o hx=>by
     rcases List.mem_append.1 hx with hx|hx
     ·exact hs o hx
     ·rw [List.mem_singleton.1 hx];exact hq r h h0)).2 he
    refine ⟨j1,j2,?_⟩
    have hll:=hl r h0
    rw [List.length_append,List.length_singleton] at j3
    omega
  ·exact fun _=>⟨ho,hs,Nat.le_add_right _ _⟩
def OkS:(d:Nat)->St d->Prop
 | 0,t=>Empty.elim t
 | d+1,t=>(∀ o∈t.1.2.2.2.2,OkO o)/\t.1.2.2.2.2.length<=3001/\t.2.length<=3001/\∀ x∈t.2,OkS d x
theorem st_ok:∀ (fin:Pl) (k:Nat) (r:RsC),Wds r->Wds (stR fin k r).2/\((stR fin k r).2.2.2=0->OkS (k+1) (stR fin k r).1)
 | fin,0,r,h=>⟨wds_fail h _ _,fun he=>absurd he (failC_bad (by split<;>decide) _ r)⟩
 | fin,k+1,r,h=>by
  have w1:=wds_kind (wds_take (wds_name (wds_take h fin wState) fin) fin [123]) fin
  obtain ⟨i1,i2⟩:=in_ok fin (stR fin k) (OkS (k+1)) (fun r h=>(st_ok fin k r h).1) (fun r h=>(st_ok fin k r h).2) (fun r=>(goes_st fin k r).1) (fun r=>(goes_st fin k r).2) ((kindR fin (takeR fin [123] (nameR fin (takeR fin wState r)).2)).2.1.length+1) [] [] _ w1 (fun x hx=>by simp at hx) (fun x hx=>by simp at hx)
  refine ⟨wds_take i1 fin [125],fun he=>?_⟩
  obtain ⟨j1,j2,j3⟩:=i2 ((goes_take fin [125] _).2 he)
  have:=w1.2
  simp only [List.length_nil] at j3
  exact ⟨j1,by show _<=3001;simp only [stR];omega,by show _<=3001;simp only [stR];omega,j2⟩
theorem sts_ok (fin:Pl):∀ (g:Nat) (acc:List (St 7)) (r:RsC),Wds r->(∀ x∈acc,OkS 7 x)->(stsR fin g acc r).2.2.2=0->(∀ x∈(stsR fin g acc r).1,OkS 7 x)/\(stsR fin g acc r).1.length<=acc.length+r.1.length
 | 0,acc,r,h,ha,_=>⟨ha,Nat.le_add_right _ _⟩
 | g+1,acc,r,h,ha,he=>by
  unfold stsR at he ⊢
  split at he
  ·rename_i h1
   rw [if_pos h1]
   have h0:(stR fin 6 r).2.2.2=0:=by
    by_cases hz:(stR fin 6 r).2.2.2=0
    ·exact hz
    ·rw [sts_err hz] at he;exact absurd he hz
   obtain ⟨j1,j2⟩:=sts_ok fin g (acc++[(stR fin 6 r).1]) (stR fin 6 r).2 (st_ok fin 6 r h).1 (fun x hx=>by
    rcases List.mem_append.1 hx with hx|hx
    ·exact ha x hx
    ·rw [List.mem_singleton.1 hx];exact (st_ok fin 6 r h).2 h0) he
   refine ⟨j1,?_⟩
   have:=(goes_st fin 6 r).2 h0
   rw [List.length_append,List.length_singleton] at j2
   omega
  ·rename_i h1
   rw [if_neg h1]
   exact ⟨ha,Nat.le_add_right _ _⟩
theorem vars_ok (fin:Pl):∀ (g:Nat) (acc:List (List UInt8 × Int × Pl)) (r:RsC),Wds r->Wds (varsR fin g acc r).2/\(varsR fin g acc r).1.length<=acc.length+r.1.length
 | 0,acc,r,h=>⟨h,Nat.le_add_right _ _⟩
 | g+1,acc,r,h=>by
  unfold varsR
  split
  ·rename_i hi
   have hl:=takeR_less fin hi
   have w1:=wds_take (wds_name (wds_take h fin wVar) fin) fin [61]
   have g1:=((goes_name fin (takeR fin wVar r)).trans (goes_take fin [61] _)).1
   simp only
   generalize takeR fin [61] (nameR fin (takeR fin wVar r)).2=B at *
   by_cases hm:isC [45] B=true
   ·rw [if_pos hm]
    obtain ⟨j1,j2⟩:=vars_ok fin g (acc++[((nameR fin (takeR fin wVar r)).1.1,-(numR fin (takeR fin [45] B)).1,(nameR fin (takeR fin wVar r)).1.2)]) (numR fin (takeR fin [45] B)).2 (wds_num (wds_take w1 fin _) fin)
    refine ⟨j1,?_⟩
    have:=((goes_take fin [45] B).trans (goes_num fin _)).1
    rw [List.length_append,List.length_singleton] at j2
    simp only at *
    omega
   ·rw [if_neg hm]
    obtain ⟨j1,j2⟩:=vars_ok fin g (acc++[((nameR fin (takeR fin wVar r)).1.1,(numR fin B).1,(nameR fin (takeR fin wVar r)).1.2)]) (numR fin B).2 (wds_num w1 fin)
    refine ⟨j1,?_⟩
    have:=(goes_num fin B).1
    rw [List.length_append,List.length_singleton] at j2
    omega
  ·exact ⟨h,Nat.le_add_right _ _⟩
theorem read_ok (s:List UInt8):(∀ t∈(readC s).1.2.2.2,OkS 7 t)/\(readC s).1.2.2.2.length<=3001/\(readC s).1.2.2.1.length<=3001:=by
 have hno:(∀ t∈noC.2.2.2,OkS 7 t)/\noC.2.2.2.length<=3001/\noC.2.2.1.length<=3001:=⟨fun t ht=>by simp [noC] at ht,by simp [noC],by simp [noC]⟩
 unfold readC
 split
 ·exact hno
 ·rename_i h
  obtain ⟨h2,h3⟩:=words_one (l:=s) (by simpa using h)
  generalize (wordsS s).1=ws at *
  generalize endP (runes s) 1 1=fin
  have w0:Wds (ws,(0,0),0):=⟨h2,h3⟩
  have w1:=wds_take (wds_num (wds_name (wds_take w0 fin wChart) fin) fin) fin [123]
  unfold chR
  simp only
  generalize takeR fin [123] (numR fin (nameR fin (takeR fin wChart (ws,(0,0),0))).2).2=B at *
  obtain ⟨v1,v2⟩:=vars_ok fin (B.1.length+1) [] B w1
  generalize varsR fin (B.1.length+1) [] B=V at *
  have hs:=sts_ok fin (V.2.1.length+1) [] V.2 v1 (fun x hx=>by simp at hx)
  generalize stsR fin (V.2.1.length+1) [] V.2=S at *
  have ge:=(goes_take fin [125] S.2).2
  generalize takeR fin [125] S.2=E at *
  obtain ⟨z,hz⟩:∃ z,(if E.2.2=0/\E.1≠[] then failC 12 (hereR fin E) E else E)=z:=⟨_,rfl⟩
  rw [hz]
  by_cases hzz:z.2.2=0
  ·rw [if_pos hzz]
   have hE:E.2.2=0:=by
    by_cases hc:E.2.2=0/\E.1≠[]
    ·exact hc.1
    ·rw [if_neg hc] at hz;rw [hz];exact hzz
   obtain ⟨j1,j2⟩:=hs (ge hE)
   have a1:=w1.2
   have a2:=v1.2
   rw [List.length_nil] at v2 j2
   exact ⟨j1,by show S.1.length<=3001;omega,by show V.1.length<=3001;omega⟩
  ·rw [if_neg hzz];exact hno
theorem rt_shrt:∀ (d:Nat) (t:T d),Cl d t->rtT dcN d t->shrt 1000 d t=true
 | 0,t,_,_=>Empty.elim t
 | d+1,t,hc,hr=>by
  rcases hc.cases with ⟨n,rfl⟩|⟨s,rfl⟩|⟨k,p,hk,rfl,hp⟩|⟨s,p,q,rfl,hp,hq⟩|rfl
  ·rfl
  ·have hn:nameS s.data.toList=true:=hr.2.1 rfl
   have:=name_len hn
   rw [shrt_mk,Bool.and_eq_true]
   refine ⟨decide_eq_true ?_,rfl⟩
   have e:s.size=s.data.toList.length:=by rw [Array.length_toList];rfl
   omega
  ·have hrp:rtT dcN d p:=by
    have h2:∀ z∈[fold (rtF dcN) d p],z:=hr.2.2.2.2
    exact h2 (fold (rtF dcN) d p) List.mem_cons_self
   have:=rt_shrt d p hp hrp
   rw [shrt_mk,Bool.and_eq_true]
   refine ⟨rfl,?_⟩
   simp [this]
  ·have h2:∀ z∈[fold (rtF dcN) d p,fold (rtF dcN) d q],z:=hr.2.2.2.2
   have h3:=rt_shrt d p hp (h2 (fold (rtF dcN) d p) List.mem_cons_self)
   have h4:=rt_shrt d q hq (h2 (fold (rtF dcN) d q) (List.mem_cons_of_mem _ List.mem_cons_self))
   have ho:opB s.data.toList:=hr.2.2.1 rfl
   have:=op_len ho
   rw [shrt_mk,Bool.and_eq_true]
   refine ⟨decide_eq_true ?_,?_⟩
   ·have e:s.size=s.data.toList.length:=by rw [Array.length_toList];rfl
    omega
   ·simp [h3,h4]
  ·rfl
theorem ex_ok {x:Sx}(hc:ClX x) (h:exF x=true):ExOk x:=by
 have hfm:fmC x.1 x.2=true:=by
  unfold exF at h
  exact ((Bool.and_eq_true _ _).mp h).1
 exact ⟨hc,by have:=(fm_parts hfm).1;unfold cntX;omega,rt_shrt x.1 x.2 hc (exF_parts hc h).2⟩
theorem plain_len {s:List UInt8}(h:plainB s=true):s.length<=140737488351232:=by
 have:=name_len (plain_name h)
 omega
theorem on_okF {o:OnC}(hf:onF o=true) (hc:OnCl o) (hl:o.2.2.2.1.length<=100000):OnOk o:=by
 obtain ⟨h1,h2,h3,h4⟩:=onF_parts hf
 rw [List.all_eq_true] at h4
 refine ⟨plain_len h1,plain_len h3,fun hb=>ex_ok (hc.1 hb) (h2 hb),fun s hs=>?_,hl⟩
 have h5:=h4 s hs
 unfold setF at h5
 rw [Bool.and_eq_true] at h5
 exact ⟨plain_len h5.1,ex_ok (hc.2 s hs) h5.2⟩
def LnS:(d:Nat)->St d->Prop
 | 0,t=>Empty.elim t
 | d+1,t=>(∀ o∈t.1.2.2.2.2,o.2.2.2.1.length<=100000)/\t.1.2.2.2.2.length<=100000/\t.2.length<=100000/\∀ x∈t.2,LnS d x
theorem st_okF:∀ (d n:Nat) (t:St d),stF d n t=true->StCl d t->LnS d t->StOk d t
 | 0,_,t,_,_,_=>Empty.elim t
 | d+1,n,t,hf,hc,hl=>by
  obtain ⟨h1,h2,h3,h4,h5⟩:=stF_parts hf
  rw [List.all_eq_true] at h4 h5
  have hk:t.1.2.2.1.1.length<=140737488351232/\t.1.2.2.1.2.length<=140737488351232:=by
   cases hs:stepB t.1 with
   | true=>
    obtain ⟨_,_,k3,k4,_,_⟩:=kndF_step h3 hs
    exact ⟨plain_len k3,plain_len k4⟩
   | false=>
    unfold stepB at hs
    simp only [Bool.not_eq_false',Bool.and_eq_true,decide_eq_true_eq] at hs
    rw [hs.1.1.1,hs.1.1.2]
    simp
  exact ⟨⟨plain_len h2,hk.1,hk.2,hl.2.1,fun o ho=>on_okF (h4 o ho) (hc.1 o ho) (hl.1 o ho)⟩,hl.2.2.1,fun x hx=>st_okF d (n+1) x (h5 x hx) (hc.2 x hx) (hl.2.2.2 x hx)⟩
theorem ln_of:∀ (d:Nat) (t:St d),OkS d t->LnS d t
 | 0,t,_=>Empty.elim t
 | d+1,t,h=>⟨fun o ho=>by have:=(h.1 o ho).2.2.2.2;omega,by have:=h.2.1;omega,by have:=h.2.2.1;omega,fun x hx=>ln_of d x (h.2.2.2 x hx)⟩
theorem in_tot {α:Type}(fin:Pl) (inner:RsC->α × RsC) (f:α->Nat) (hf:∀ r,(inner r).2.2.2=0->f (inner r).1+(inner r).2.1.length<=r.1.length) (hg:∀ r,Goes r (inner r).2) :
  ∀ (g:Nat) (os:List OnC) (ss:List α) (r:RsC),(inR fin inner g os ss r).2.2.2=0->((inR fin inner g os ss r).1.2.map f).sum+(inR fin inner g os ss r).2.1.length<=(ss.map f).sum+r.1.length:=by
 intro g
 induction g with
 | zero=>exact fun os ss r _=>Nat.le_refl _
 | succ g ih=>
  intro os ss r
  unfold inR
  split
  ·split
   ·intro he
    have h1:=ih (os++[(onR fin r).1]) ss (onR fin r).2 he
    have h2:=(goes_on fin r).1
    omega
   ·intro he
    have h0:=(goes_in fin inner hg g _ _ _).2 he
    have h1:=ih os (ss++[(inner r).1]) (inner r).2 he
    have h2:=hf r h0
    rw [List.map_append,List.sum_append,List.map_singleton,List.sum_singleton] at h1
    omega
  ·exact fun _=>Nat.le_refl _
theorem st_tot (fin:Pl):∀ (k:Nat) (r:RsC),(stR fin k r).2.2.2=0->szL k (stR fin k r).1.2+(stR fin k r).2.1.length<=r.1.length
 | 0,r,he=>absurd he (failC_bad (by split<;>decide) _ r)
 | k+1,r,he=>by
  have e:stR fin (k+1) r=((((nameR fin (takeR fin wState r)).1,(kindR fin (takeR fin [123] (nameR fin (takeR fin wState r)).2)).1.1,(kindR fin (takeR fin [123] (nameR fin (takeR fin wState r)).2)).1.2.1,(kindR fin (takeR fin [123] (nameR fin (takeR fin wState r)).2)).1.2.2,(inR fin (stR fin k) ((kindR fin (takeR fin [123] (nameR fin (takeR fin wState r)).2)).2.1.length+1) [] [] (kindR fin (takeR fin [123] (nameR fin (takeR fin wState r)).2)).2).1.1),(inR fin (stR fin k) ((kindR fin (takeR fin [123] (nameR fin (takeR fin wState r)).2)).2.1.length+1) [] [] (kindR fin (takeR fin [123] (nameR fin (takeR fin wState r)).2)).2).1.2),takeR fin [125] (inR fin (stR fin k) ((kindR fin (takeR fin [123] (nameR fin (takeR fin wState r)).2)).2.1.length+1) [] [] (kindR fin (takeR fin [123] (nameR fin (takeR fin wState r)).2)).2).2):=rfl
  rw [e] at he ⊢
  clear e
  have g1:=(goes_take fin wState r).trans ((goes_name fin (takeR fin wState r)).trans ((goes_take fin [123] (nameR fin (takeR fin wState r)).2).trans (goes_kind fin (takeR fin [123] (nameR fin (takeR fin wState r)).2))))
  generalize kindR fin (takeR fin [123] (nameR fin (takeR fin wState r)).2)=K at *
  have hI:=in_tot fin (stR fin k) (fun t=>szL k t.2) (fun r he=>st_tot fin k r he) (fun r=>(goes_st fin k r).1) (K.2.1.length+1) [] [] K.2
  generalize inR fin (stR fin k) (K.2.1.length+1) [] [] K.2=I at *
  have h0:=(goes_take fin [125] I.2).2 he
  have h1:=hI h0
  have h2:=takeR_less fin (take_ok he)
  have e2:szL (k+1) I.1.2=(I.1.2.map (fun t=>szL k t.2)).sum+1:=rfl
  show szL (k+1) I.1.2+(takeR fin [125] I.2).1.length<=r.1.length
  have h3:=g1.1
  simp only [List.map_nil,List.sum_nil,Nat.zero_add] at h1
  omega
theorem sts_tot (fin:Pl):∀ (g:Nat) (acc:List (St 7)) (r:RsC),(stsR fin g acc r).2.2.2=0->((stsR fin g acc r).1.map (fun t=>szL 6 t.2)).sum+(stsR fin g acc r).2.1.length<=(acc.map (fun t=>szL 6 t.2)).sum+r.1.length
 | 0,acc,r,_=>Nat.le_refl _
 | g+1,acc,r,he=>by
  unfold stsR at he ⊢
  split at he
  ·rename_i h1
   rw [if_pos h1]
   have h0:(stR fin 6 r).2.2.2=0:=by
    by_cases hz:(stR fin 6 r).2.2.2=0
    ·exact hz
    ·rw [sts_err hz] at he;exact absurd he hz
   have h2:=sts_tot fin g (acc++[(stR fin 6 r).1]) (stR fin 6 r).2 he
   have h3:=st_tot fin 6 r h0
   rw [List.map_append,List.sum_append,List.map_singleton,List.sum_singleton] at h2
   omega
  ·rename_i h1
   rw [if_neg h1]
   exact Nat.le_refl _
theorem read_tot (s:List UInt8):szL 7 (readC s).1.2.2.2<=3001:=by
 have hno:szL 7 noC.2.2.2<=3001:=by show (1:Nat)<=3001;omega
 unfold readC
 split
 ·exact hno
 ·rename_i h
  obtain ⟨h2,h3⟩:=words_one (l:=s) (by simpa using h)
  generalize (wordsS s).1=ws at *
  generalize endP (runes s) 1 1=fin
  unfold chR
  simp only
  have g1:=(goes_take fin wChart (ws,(0,0),0)).trans ((goes_name fin (takeR fin wChart (ws,(0,0),0))).trans ((goes_num fin (nameR fin (takeR fin wChart (ws,(0,0),0))).2).trans (goes_take fin [123] (numR fin (nameR fin (takeR fin wChart (ws,(0,0),0))).2).2)))
  generalize takeR fin [123] (numR fin (nameR fin (takeR fin wChart (ws,(0,0),0))).2).2=B at *
  have g2:=goes_vars fin (B.1.length+1) [] B
  generalize varsR fin (B.1.length+1) [] B=V at *
  have hs:=sts_tot fin (V.2.1.length+1) [] V.2
  generalize stsR fin (V.2.1.length+1) [] V.2=S at *
  have ge:=(goes_take fin [125] S.2).2
  generalize takeR fin [125] S.2=E at *
  obtain ⟨z,hz⟩:∃ z,(if E.2.2=0/\E.1≠[] then failC 12 (hereR fin E) E else E)=z:=⟨_,rfl⟩
  rw [hz]
  by_cases hzz:z.2.2=0
  ·rw [if_pos hzz]
   have hE:E.2.2=0:=by
    by_cases hc:E.2.2=0/\E.1≠[]
    ·exact hc.1
    ·rw [if_neg hc] at hz;rw [hz];exact hzz
   have h4:=hs (ge hE)
   have h5:=g1.1
   have h6:=g2.1
   have e2:szL 7 S.1=(S.1.map (fun t=>szL 6 t.2)).sum+1:=rfl
   show szL 7 S.1<=3001
   have h7:(ws,((0,0):Pl),(0:Int)).1.length=ws.length:=rfl
   rw [h7] at h5
   simp only [List.map_nil,List.sum_nil,Nat.zero_add] at h4
   omega
  ·rw [if_neg hzz];exact hno
theorem noC_ok:ChOk 7 noC:=⟨by simp [noC],by simp [noC],fun x hx=>by simp [noC] at hx,⟨by simp [noC],fun t ht=>by simp [noC] at ht⟩,by show (1:Nat)<=1000000;omega⟩
theorem read_bad {s:List UInt8}(h:(readC s).2.2≠0):(readC s).1=noC:=by
 unfold readC at h ⊢
 split
 ·rfl
 ·rename_i h1
  rw [if_neg h1] at h
  generalize (wordsS s).1=ws at *
  generalize endP (runes s) 1 1=fin at *
  unfold chR at h ⊢
  simp only at h ⊢
  generalize (if (takeR fin [125] _).2.2=0/\(takeR fin [125] _).1≠[] then failC 12 (hereR fin (takeR fin [125] _)) (takeR fin [125] _) else (takeR fin [125] _))=z at *
  by_cases hz:z.2.2=0
  ·rw [if_pos hz] at h;exact absurd rfl h
  ·rw [if_neg hz]
theorem read_chok (s:List UInt8):ChOk 7 (readC s).1:=by
 by_cases h:(readC s).2.2=0
 ·obtain ⟨hf,hc⟩:=read_formed h
  obtain ⟨k1,k2,k3⟩:=read_ok s
  obtain ⟨f1,f2,f3,f4⟩:=chF_parts hf
  rw [List.all_eq_true] at f3 f4
  refine ⟨plain_len f1,by omega,fun x hx=>?_,⟨by show (readC s).1.2.2.2.length<=100000;omega,fun t ht=>st_okF 7 1 t (f4 t ht) (hc t ht) (ln_of 7 t (k1 t ht))⟩,by have:=read_tot s;omega⟩
  have:=f3 x hx
  unfold varF at this
  rw [Bool.and_eq_true] at this
  exact plain_len this.1
 ·rw [read_bad h];exact noC_ok
theorem stok_st:∀ (d:Nat) (t:St d),StOk d t->StOk d (stS d t)
 | 0,t,_=>Empty.elim t
 | d+1,t,h=>by
  obtain ⟨⟨h1,h2,h3,h4,h5⟩,h6,h7⟩:=h
  refine ⟨⟨h1,h2,h3,?_,fun o ho=>?_⟩,?_,fun x hx=>?_⟩
  ·show (t.1.2.2.2.2.map stO).length<=100000
   rw [List.length_map];exact h4
  ·have ho:o∈t.1.2.2.2.2.map stO:=ho
   obtain ⟨o',ho',rfl⟩:=List.mem_map.1 ho
   exact h5 o' ho'
  ·show (t.2.map (stS d)).length<=100000
   rw [List.length_map];exact h6
  ·have hx:x∈t.2.map (stS d):=hx
   obtain ⟨x',hx',rfl⟩:=List.mem_map.1 hx
   exact stok_st d x' (h7 x' hx')
theorem szL_st:∀ (d:Nat) (l:List (St d)),szL d (l.map (stS d))=szL d l
 | 0,l=>rfl
 | d+1,l=>by
  show ((l.map (stS (d+1))).map (fun t=>szL d t.2)).sum+1=(l.map (fun t=>szL d t.2)).sum+1
  rw [List.map_map]
  congr 2
  apply List.map_congr_left
  intro t _
  exact szL_st d t.2
theorem chok_st {d:Nat}{c:ChG d}(h:ChOk d c):ChOk d (stG d c):=by
 refine ⟨h.nm,by show (c.2.2.1.map spV).length<=_;rw [List.length_map];exact h.vl,fun x hx=>?_,⟨by show (c.2.2.2.map (stS d)).length<=_;rw [List.length_map];exact h.fo.1,fun t ht=>?_⟩,by show szL d (c.2.2.2.map (stS d))<=_;rw [szL_st];exact h.sz⟩
 ·have hx:x∈c.2.2.1.map spV:=hx
  obtain ⟨x',hx',rfl⟩:=List.mem_map.1 hx
  exact h.vn x' hx'
 ·have ht:t∈c.2.2.2.map (stS d):=ht
  obtain ⟨t',ht',rfl⟩:=List.mem_map.1 ht
  exact stok_st d t' (h.fo.2 t' ht')
theorem hd_let (h:HdC):∃ (sn:ByteArray) (sl sc:Int) (sb se:Bool) (sd su:ByteArray) (sw sr:Int),hdV h=(fun so si=>[.string sn,.int .i64 sl,.int .i64 sc,.bool sb,.bool se,.string sd,.string su,.int .i64 sw,.int .i64 sr,so,si])/\bl sn=h.1.1/\sb=h.2.1.1/\se=h.2.1.2/\bl sd=h.2.2.1.1/\bl su=h.2.2.1.2/\sw=h.2.2.2.1.1/\sr=h.2.2.2.1.2:=
 ⟨⟨h.1.1.toArray⟩,h.1.2.1,h.1.2.2,h.2.1.1,h.2.1.2,⟨h.2.2.1.1.toArray⟩,⟨h.2.2.1.2.toArray⟩,h.2.2.2.1.1,h.2.2.2.1.2,rfl,bl_mk _,rfl,rfl,bl_mk _,bl_mk _,rfl,rfl⟩
theorem sz_bl (s:ByteArray):s.size=(bl s).length:=by unfold bl;rw [Array.length_toList];rfl
theorem plain_sz {s:ByteArray}(h:plainB (bl s)=true):s.size<=1000:=by
 have:=name_len (plain_name h)
 rw [sz_bl];omega
theorem kindR_any {B b:Nat}{l:List UInt8}{w:World}(n:Nat) (h:HdC) (sn:ByteArray) (sl sc:Int) (sb se:Bool) (sd su:ByteArray) (sw sr:Int) (p1:Option Addr) (m p3:Nat) (p4:Option Addr) (ni p6:Nat) (hw:Wr B b l w) (hB:B<=w.heap.size) (hn:n<=1000) (hf:kndF h=true) (e1:sb=h.2.1.1) (e2:se=h.2.1.2) (e3:bl sd=h.2.2.1.1) (e4:bl su=h.2.2.1.2) (e5:sw=h.2.2.2.1.1) (e6:sr=h.2.2.2.1.2) (hp:Pow w) :
  Calls Tryz.prog 139 #[.pointer (some ⟨b,0,none⟩),.int .i64 (n:Int),.agg #[.string sn,.int .i64 sl,.int .i64 sc,.bool sb,.bool se,.string sd,.string su,.int .i64 sw,.int .i64 sr,.slice p1 m p3,.slice p4 ni p6]] w fun e w'=>e=.returned (.tuple #[])/\Wx B b ((kndW n h).foldl wpL l) w w':=by
 unfold kndW
 cases hb:h.2.1.1 with
 | true=>
  rw [hb] at e1
  subst e1
  rw [if_pos rfl]
  exact kind_all n sn sl sc se sd su sw sr p1 m p3 p4 ni p6 hw hB hn
 | false=>
  rw [hb] at e1
  subst e1
  rw [if_neg (by decide)]
  cases he:h.2.1.2 with
  | true=>
   rw [he] at e2
   subst e2
   rw [if_pos rfl]
   exact kind_end n sn sl sc sd su sw sr p1 m p3 p4 ni p6 hw hB hn
  | false=>
   rw [he] at e2
   subst e2
   rw [if_neg (by decide)]
   have et:sd.toList=bl sd:=ByteArray.toList_eq _
   by_cases hd:h.2.2.1.1=[]
   ·rw [if_neg (fun q=>q hd)]
    exact kind_no n sn sl sc sd su sw sr p1 m p3 p4 ni p6 hw hB hn (by rw [et,e3,hd])
   ·rw [if_pos hd]
    obtain ⟨_,_,h3,h4,h5,h6⟩:=kndF_step hf (step_do hd)
    have hdo:doW h=doB (bl sd) (bl su) sw sr:=by rw [e3,e4,e5,e6];rfl
    rw [hdo]
    rw [<- e3] at h3
    rw [<- e4] at h4
    rw [<- e5] at h5
    rw [<- e6] at h6
    refine kind_step n sn sl sc sd su sw sr p1 m p3 p4 ni p6 hw hB hn ?_ (plain_sz h3) (plain_sz h4) (nb_of h5) (nb_of h6) hp
    rw [et,e3]
    cases hl:h.2.2.1.1 with
    | nil=>exact absurd hl hd
    | cons a r=>rfl
theorem ex_text {x:Sx}(hc:ClX x) (hf:exF x=true):(∃ u y,exX x=.iface u y)/\(exW x).length<=4000/\∀ w,Pow w->Calls Tryz.prog 199 #[exX x] w fun e w'=>e=.returned (.string ⟨(exW x).toArray⟩)/\Below w.heap.size w w':=by
 have h2:fmX x=true/\plX x=true:=by unfold exF at hf;rwa [Bool.and_eq_true] at hf
 have e:prC x.1 x.2=(txtC x.1 x.2,0):=if_pos h2
 refine ⟨fm_iface hc h2.1,?_,fun w hw=>textO_any (ex_ok hc hf) (by have:=(fm_parts h2.1).1;unfold cntX;omega) w hw⟩
 unfold exW
 rw [e]
 exact txt_len hc h2.1 h2.2
theorem set_text {s:List UInt8 × Sx}(hf:setF s=true) (hc:ClX s.2):SetW s:=by
 unfold setF at hf
 rw [Bool.and_eq_true] at hf
 have:=name_len (plain_name hf.1)
 exact ⟨by omega,ex_text hc hf.2⟩
theorem onR_any {B b:Nat}{l:List UInt8}{w:World}(n:Nat) (o:OnC) (ev tg:ByteArray) (gv:Value) (s1:Option Addr) (ns s3:Nat) (ol oc:Int) (h:Wr B b l w) (hB:B<=w.heap.size) (hn:n<=1000) (hf:onF o=true) (hc:OnCl o) (e1:bl ev=o.1) (e2:gv=gdV o.2.1) (e3:bl tg=o.2.2.1) (hs:RdK (fun x=>x < B) w 2 (rSet (fun x=>x < B) w) o.2.2.2.1 (.slice s1 ns s3)) (hns:o.2.2.2.1.length=ns) (hp:∀ w1,Below B w w1->Pow w1) :
  Calls Tryz.prog 140 #[.pointer (some ⟨b,0,none⟩),.int .i64 (n:Int),.agg #[.string ev,gv,.string tg,.slice s1 ns s3,.int .i64 ol,.int .i64 oc]] w fun e w'=>e=.returned (.tuple #[])/\Wx B b ((onW n o).foldl wpL l) w w':=by
 obtain ⟨f1,f2,f3,f4⟩:=onF_parts hf
 have hset:∀ s∈o.2.2.2.1,SetW s:=fun s hs=>set_text (List.all_eq_true.1 f4 s hs) (hc.2 s hs)
 have z1:ev.size<=1000:=plain_sz (by rw [e1];exact f1)
 have z3:tg.size<=1000:=plain_sz (by rw [e3];exact f3)
 by_cases hg:o.2.1.1=true
 ·obtain ⟨⟨u,y,t1⟩,t2,t3⟩:=ex_text (hc.1 hg) (f2 hg)
  have e4:gv=.iface u y:=by rw [e2];unfold gdV;rw [if_pos hg,t1]
  subst e4
  obtain ⟨tx,q1,q2,q3⟩:=letter_of (exW o.2.1.2)
  have ew:onW n o=onL n (bl ev) [[32,105,102,32]++bl tx] (bl tg) (o.2.2.2.1.map setW):=by
   unfold onW onL grdW
   rw [if_pos hg,e1,e3,q2]
  rw [ew]
  exact on_ifc n ev tg u y tx s1 ns s3 ol oc _ h hB hn z1 z3 (by omega) (fun w1 hw1=>by have:=t3 w1 hw1;rw [t1,q1] at this;exact this) hs hns hset hp
 ·have e4:gv=.nilIface:=by rw [e2];unfold gdV;rw [if_neg hg]
  subst e4
  have ew:onW n o=onL n (bl ev) [] (bl tg) (o.2.2.2.1.map setW):=by
   unfold onW onL grdW
   rw [if_neg hg,e1,e3]
  rw [ew]
  exact on_nil n ev tg s1 ns s3 ol oc _ h hB hn z1 z3 hs hns hset hp
theorem onB_at {B:Nat}{w:World}{l:List OnC}{a:Option Addr}{n cap:Nat}(h:RdK (fun x=>x < B) w 6 (rOn (fun x=>x < B) w) l (.slice a n cap)) (j:Nat) (hj:j < l.length):∃ b off s1 s3,a=some ⟨b,off,none⟩/\b < B/\RdK (fun x=>x < B) w 2 (rSet (fun x=>x < B) w) l[j].2.2.2.1 (.slice s1 l[j].2.2.2.1.length s3)/\∀ i u,(onV l[j] (.slice s1 l[j].2.2.2.1.length s3))[i]?=some u->w.cell? ⟨b,off+j*6+i,none⟩=some u:=by
 obtain ⟨a1,cap1,he,h1,h2,h3⟩:=h
 simp only [Value.slice.injEq] at he
 obtain ⟨rfl,rfl,rfl⟩:=he
 obtain ⟨b,off,cs,ha,hb,_,hl,⟨sl,rfl,hs⟩,hc⟩:=h3 j hj
 obtain ⟨s1,s3,rfl,_⟩:=hs.form
 exact ⟨b,off,s1,s3,ha,hb,hs,hc⟩
theorem stB_at {B:Nat}{w:World}{d:Nat}{l:List (St (d+1))}{a:Option Addr}{n cap:Nat}(h:RdK (fun x=>x < B) w 11 (rSt (d+1) (fun x=>x < B) w) l (.slice a n cap)) (j:Nat) (hj:j < l.length):∃ b off p1 p3 p4 p6,a=some ⟨b,off,none⟩/\b < B/\RdK (fun x=>x < B) w 6 (rOn (fun x=>x < B) w) l[j].1.2.2.2.2 (.slice p1 l[j].1.2.2.2.2.length p3)/\RdK (fun x=>x < B) w 11 (rSt d (fun x=>x < B) w) l[j].2 (.slice p4 l[j].2.length p6)/\∀ i u,(hdV l[j].1 (.slice p1 l[j].1.2.2.2.2.length p3) (.slice p4 l[j].2.length p6))[i]?=some u->w.cell? ⟨b,off+j*11+i,none⟩=some u:=by
 obtain ⟨a1,cap1,he,h1,h2,h3⟩:=h
 simp only [Value.slice.injEq] at he
 obtain ⟨rfl,rfl,rfl⟩:=he
 obtain ⟨b,off,cs,ha,hb,_,hl,⟨so,si,rfl,hs,hi⟩,hc⟩:=h3 j hj
 obtain ⟨s1,s3,rfl,_⟩:=hs.form
 obtain ⟨s4,s6,rfl,_⟩:=hi.form
 exact ⟨b,off,s1,s3,s4,s6,ha,hb,hs,hi,hc⟩
theorem RdK.bel {α:Type}{B:Nat}{w w':World}{k:Nat}{R:(Nat->Prop)->World->α->List Value->Prop}{v:Value}{l:List α}(hR:Kp R) (h:RdK (fun x=>x < B) w k (R (fun x=>x < B) w) l v) (hb:Below B w w'):RdK (fun x=>x < B) w' k (R (fun x=>x < B) w') l v:=h.stay hR (fun b hl _=>⟨hl,hb.block b hl⟩)
def WsC (d:Nat):Prop:=∀ (B b:Nat) (l:List UInt8) (w:World) (n:Nat) (ts:List (St d)) (v:Value),Wr B b l w->B<=w.heap.size->n<=7->RdK (fun x=>x < B) w 11 (rSt d (fun x=>x < B) w) ts v->(∀ t∈ts,stF d n t=true/\StCl d t)->(∀ w1,Below B w w1->Pow w1)->
  Calls Tryz.prog 80 #[.pointer (some ⟨b,0,none⟩),.int .i64 (n:Int),v] w fun e w'=>e=.returned (.tuple #[])/\Wx B b (((ts.map (stW d n)).flatten).foldl wpL l) w w'
theorem wsts_in {d B b:Nat}{l:List UInt8}{w:World}(n:Nat) (ts:List (St (d+1))) (v:Value) (h:Wr B b l w) (hB:B<=w.heap.size) (hn:n<=7) (hs:RdK (fun x=>x < B) w 11 (rSt (d+1) (fun x=>x < B) w) ts v) (hf:∀ t∈ts,stF (d+1) n t=true/\StCl (d+1) t) (hp:∀ w1,Below B w w1->Pow w1)
  (hin:∀ t∈ts,∀ (l1:List UInt8) (w1:World) (v1:Value),Wr B b l1 w1->B<=w1.heap.size->RdK (fun x=>x < B) w1 11 (rSt d (fun x=>x < B) w1) t.2 v1->(∀ w2,Below B w1 w2->Pow w2)->Calls Tryz.prog 80 #[.pointer (some ⟨b,0,none⟩),.int .i64 ((n:Int)+1),v1] w1 fun e w'=>e=.returned (.tuple #[])/\Wx B b (((t.2.map (stW d (n+1))).flatten).foldl wpL l1) w1 w') :
  Calls Tryz.prog 80 #[.pointer (some ⟨b,0,none⟩),.int .i64 (n:Int),v] w fun e w'=>e=.returned (.tuple #[])/\Wx B b (((ts.map (stW (d+1) n)).flatten).foldl wpL l) w w':=by
 obtain ⟨a,cap,rfl,hcap,hcm⟩:=hs.form
 unfold maxLen at hcm
 obtain ⟨m0,hm0⟩:∃ m,ts.length=m:=⟨_,rfl⟩
 rw [hm0] at hs hcap ⊢
 have HN:Hid (ts.length=m0):=hm0
 have HS:=mkHid hs
 have HF:=mkHid hf
 have HP:=mkHid hp
 have HI:=mkHid hin
 have k:Wx B b l w w:=⟨h,Below.refl _ _,Lib.OthersKept.refl _ _ _⟩
 have zl2:(⟨#[125]⟩:ByteArray).size<=140737488340000:=by decide
 have hn1:n<=1000:=by omega
 clear h hs hf hp hin hm0
 go_enter Tryz.func80,Tryz.ntmps80
 go_wp2
 go_loopw [12] (fun ix wr=>∃ (i:Nat),i<=m0/\ix=.int .i64 (i:Int)/\Wx B b ((((ts.take i).map (stW (d+1) n)).flatten).foldl wpL l) w wr) (fun ix _=>m0 - (RowKit.intOf ix).toNat)
 case atStart=>exact ⟨0,Nat.zero_le _,rfl,k⟩
 case round=>
  clear k
  obtain ⟨i,hi,rfl,k⟩:=hrel
  by_cases hlti:i < m0
  ·have hil:i < ts.length:=by rw [HN.out];exact hlti
   obtain ⟨bb,off,p1,p3,p4,p6,rfl,hbb,hOn,hIn,hc⟩:=stB_at HS.out i hil
   have hmem:=List.getElem_mem hil
   obtain ⟨hft,hct⟩:=HF.out _ hmem
   have hiq:=HI.out _ hmem
   have htk:(((ts.take (i+1)).map (stW (d+1) n)).flatten).foldl wpL l=(stW (d+1) n ts[i]).foldl wpL ((((ts.take i).map (stW (d+1) n)).flatten).foldl wpL l):=by
    rw [List.take_succ_eq_append_getElem hil,List.map_append,List.flatten_append,List.foldl_append]
    simp
   obtain ⟨q,hq⟩:∃ q,ts[i]=q:=⟨_,rfl⟩
   rw [hq] at hOn hIn hc hft hct hiq htk
   obtain ⟨sn,sl,sc,sb,se,sd,su,sw,sr,hsv,h1,h2,h3,h4,h5,h6,h7⟩:=hd_let q.1
   obtain ⟨m,hm⟩:∃ m,q.1.2.2.2.2.length=m:=⟨_,rfl⟩
   obtain ⟨ni,hni⟩:∃ m,q.2.length=m:=⟨_,rfl⟩
   rw [hm] at hOn hc
   rw [hni] at hIn hc
   rw [hsv] at hc
   obtain ⟨t1,t2,t3,t4,t5⟩:=stF_parts hft
   obtain ⟨_,_,heo,hco,hmo⟩:=hOn.form
   simp only [Value.slice.injEq] at heo
   obtain ⟨rfl,hx0,rfl⟩:=heo
   clear hx0
   rw [hm] at hco
   unfold maxLen at hmo
   have zn:sn.size<=1000:=plain_sz (by rw [h1];exact t2)
   obtain ⟨x1,q1,z1,a1⟩:=add_ex ⟨#[115,116,97,116,101,32]⟩ sn (by show 6+_<=_;omega)
   have g1:(⟨#[115,116,97,116,101,32]⟩:ByteArray).size=6:=rfl
   obtain ⟨x2,q2,z2,a2⟩:=add_ex x1 ⟨#[32,123]⟩ (by show _+2<=_;omega)
   have g2:(⟨#[32,123]⟩:ByteArray).size=2:=rfl
   have zl1:x2.size<=140737488340000:=by omega
   have hx2:bl x2=stnW q.1.1.1:=by rw [q2,q1,h1];rfl
   obtain ⟨L0,hL0⟩:∃ L,(((ts.take i).map (stW (d+1) n)).flatten).foldl wpL l=L:=⟨_,rfl⟩
   rw [hL0] at k htk
   have HTK:Hid ((((ts.take (i+1)).map (stW (d+1) n)).flatten).foldl wpL l=wlL (((q.2.map (stW d (n+1))).flatten).foldl wpL ((((q.1.2.2.2.2.take m).map (onW (n+1))).flatten).foldl wpL ((kndW (n+1) q.1).foldl wpL (wlL L0 n (bl x2))))) n (bl ⟨#[125]⟩)):=by
    show _=_
    rw [htk,hx2,List.take_of_length_le (by omega)]
    show (lnW n (stnW q.1.1.1)++(kndW (n+1) q.1++((q.1.2.2.2.2.map (onW (n+1))).flatten++((q.2.map (stW d (n+1))).flatten++lnW n [125])))).foldl wpL L0=_
    rw [List.foldl_append,List.foldl_append,List.foldl_append,List.foldl_append]
    rfl
   have HON:=mkHid hOn
   have HIN:=mkHid hIn
   have HM:Hid (q.1.2.2.2.2.length=m):=hm
   have HOF:Hid (∀ o∈q.1.2.2.2.2,onF o=true/\OnCl o):=fun o ho=>⟨List.all_eq_true.1 t4 o ho,hct.1 o ho⟩
   have HIQ:=mkHid hiq
   have HKD:Hid (∀ (l1:List UInt8) (w1:World),Wr B b l1 w1->B<=w1.heap.size->Pow w1->Calls Tryz.prog 139 #[.pointer (some ⟨b,0,none⟩),.int .i64 ((n:Int)+1),.agg #[.string sn,.int .i64 sl,.int .i64 sc,.bool sb,.bool se,.string sd,.string su,.int .i64 sw,.int .i64 sr,.slice p1 m p3,.slice p4 ni p6]] w1 fun e w'=>e=.returned (.tuple #[])/\Wx B b ((kndW (n+1) q.1).foldl wpL l1) w1 w'):=fun l1 w1 hw1 hB1 hp1=>by
    have:=kindR_any (n+1) q.1 sn sl sc sb se sd su sw sr p1 m p3 p4 ni p6 hw1 hB1 (by omega) t3 h2 h3 h4 h5 h6 h7 hp1
    rw [Int.natCast_add] at this
    exact this
   clear q1 q2 z1 z2 g1 g2 zn hx2 hL0 htk hOn hIn hiq hmem hq h1 h2 h3 h4 h5 h6 h7 hm hni hsv t1 t2 t3 t4 t5 hft hct
   have i1:(i:Int) < (m0:Int):=by omega
   have i2:(0:Int)<=(i:Int):=by omega
   have C0:=(k.2.1.cell (p:=⟨bb,off+i*11+0,none⟩) hbb).trans (hc 0 _ rfl)
   have C1:=(k.2.1.cell (p:=⟨bb,off+i*11+1,none⟩) hbb).trans (hc 1 _ rfl)
   have C2:=(k.2.1.cell (p:=⟨bb,off+i*11+2,none⟩) hbb).trans (hc 2 _ rfl)
   have C3:=(k.2.1.cell (p:=⟨bb,off+i*11+3,none⟩) hbb).trans (hc 3 _ rfl)
   have C4:=(k.2.1.cell (p:=⟨bb,off+i*11+4,none⟩) hbb).trans (hc 4 _ rfl)
   have C5:=(k.2.1.cell (p:=⟨bb,off+i*11+5,none⟩) hbb).trans (hc 5 _ rfl)
   have C6:=(k.2.1.cell (p:=⟨bb,off+i*11+6,none⟩) hbb).trans (hc 6 _ rfl)
   have C7:=(k.2.1.cell (p:=⟨bb,off+i*11+7,none⟩) hbb).trans (hc 7 _ rfl)
   have C8:=(k.2.1.cell (p:=⟨bb,off+i*11+8,none⟩) hbb).trans (hc 8 _ rfl)
   have C9:=(k.2.1.cell (p:=⟨bb,off+i*11+9,none⟩) hbb).trans (hc 9 _ rfl)
   have C10:=(k.2.1.cell (p:=⟨bb,off+i*11+10,none⟩) hbb).trans (hc 10 _ rfl)
   rw [Nat.add_zero] at C0
   clear hc
   have hal:Below wr.heap.size wr (wr.alloc (.cells #[.string sn,.int .i64 sl,.int .i64 sc,.bool sb,.bool se,.string sd,.string su,.int .i64 sw,.int .i64 sr,.slice p1 m p3,.slice p4 ni p6] 55)):=(Below.refl _ _).alloc Nat.le.refl _
   have hX:Bn (wr.alloc (.cells #[.string sn,.int .i64 sl,.int .i64 sc,.bool sb,.bool se,.string sd,.string su,.int .i64 sw,.int .i64 sr,.slice p1 m p3,.slice p4 ni p6] 55)) wr.heap.size [.string sn,.int .i64 sl,.int .i64 sc,.bool sb,.bool se,.string sd,.string su,.int .i64 sw,.int .i64 sr,.slice p1 m p3,.slice p4 ni p6]:=Bn.new wr [.string sn,.int .i64 sl,.int .i64 sc,.bool sb,.bool se,.string sd,.string su,.int .i64 sw,.int .i64 sr,.slice p1 m p3,.slice p4 ni p6] 55 _ rfl
   have hO:(wr.alloc (.cells #[.string sn,.int .i64 sl,.int .i64 sc,.bool sb,.bool se,.string sd,.string su,.int .i64 sw,.int .i64 sr,.slice p1 m p3,.slice p4 ni p6] 55)).heap[wr.heap.size]?=some (.cells #[.string sn,.int .i64 sl,.int .i64 sc,.bool sb,.bool se,.string sd,.string su,.int .i64 sw,.int .i64 sr,.slice p1 m p3,.slice p4 ni p6] 55 (0,0)):=blk_new _ _
   have hbS:b≠wr.heap.size:=Nat.ne_of_lt k.1.lt
   have hBx:B<=(wr.alloc (.cells #[.string sn,.int .i64 sl,.int .i64 sc,.bool sb,.bool se,.string sd,.string su,.int .i64 sw,.int .i64 sr,.slice p1 m p3,.slice p4 ni p6] 55)).heap.size:=Nat.le_trans hB (Nat.le_trans k.2.1.size hal.size)
   have hk0:Wx B b L0 w (wr.alloc (.cells #[.string sn,.int .i64 sl,.int .i64 sc,.bool sb,.bool se,.string sd,.string su,.int .i64 sw,.int .i64 sr,.slice p1 m p3,.slice p4 ni p6] 55)):=k.on hB hal
   have HKW:Hid (Wx B b L0 w (wr.alloc (.cells #[.string sn,.int .i64 sl,.int .i64 sc,.bool sb,.bool se,.string sd,.string su,.int .i64 sw,.int .i64 sr,.slice p1 m p3,.slice p4 ni p6] 55))):=hk0
   have k:Wx B b L0 (wr.alloc (.cells #[.string sn,.int .i64 sl,.int .i64 sc,.bool sb,.bool se,.string sd,.string su,.int .i64 sw,.int .i64 sr,.slice p1 m p3,.slice p4 ni p6] 55)) (wr.alloc (.cells #[.string sn,.int .i64 sl,.int .i64 sc,.bool sb,.bool se,.string sd,.string su,.int .i64 sw,.int .i64 sr,.slice p1 m p3,.slice p4 ni p6] 55)):=⟨hk0.1,Below.refl _ _,Lib.OthersKept.refl _ _ _⟩
   clear hk0
   go_upto_region 3 with fail
   clear C0 C1 C2 C3 C4 C5 C6 C7 C8 C9 C10
   generalize (wr.alloc (.cells #[.string sn,.int .i64 sl,.int .i64 sc,.bool sb,.bool se,.string sd,.string su,.int .i64 sw,.int .i64 sr,.slice p1 m p3,.slice p4 ni p6] 55))=wx at *
   have c0:=(hX 0 _ rfl).1
   have c1:=(hX 1 _ rfl).1
   have c2:=(hX 2 _ rfl).1
   have c3:=(hX 3 _ rfl).1
   have c4:=(hX 4 _ rfl).1
   have c5:=(hX 5 _ rfl).1
   have c6:=(hX 6 _ rfl).1
   have c7:=(hX 7 _ rfl).1
   have c8:=(hX 8 _ rfl).1
   have c9:=(hX 9 _ rfl).1
   have c10:=(hX 10 _ rfl).1
   clear hX hal
   obtain ⟨S,hS⟩:∃ S,wr.heap.size=S:=⟨_,rfl⟩
   rw [hS] at c0 c1 c2 c3 c4 c5 c6 c7 c8 c9 c10 hO hbS ⊢
   clear hS
   have HPX:Hid (∀ w1,Below B wx w1->Pow w1):=fun w1 bb=>HP.out w1 (HKW.out.2.1.trans bb)
   have hline:=fun t l' w1 k ht=>lineX (B:=B) (b:=b) (w:=wx) hBx n t l' w1 k hn1 ht
   have hkind:∀ (l1:List UInt8) (w1:World),Wx B b l1 wx w1->Calls Tryz.prog 139 #[.pointer (some ⟨b,0,none⟩),.int .i64 ((n:Int)+1),.agg #[.string sn,.int .i64 sl,.int .i64 sc,.bool sb,.bool se,.string sd,.string su,.int .i64 sw,.int .i64 sr,.slice p1 m p3,.slice p4 ni p6]] w1 fun e w'=>e=.returned (.tuple #[])/\Wx B b ((kndW (n+1) q.1).foldl wpL l1) wx w':=fun l1 w1 k1=>(HKD.out l1 w1 k1.1 (Nat.le_trans hBx k1.2.1.size) (HPX.out w1 k1.2.1)).mono (fun e w' hh=>⟨hh.1,k1.trans hh.2⟩)
   have hinn:∀ (l1:List UInt8) (w1:World),Wx B b l1 wx w1->Calls Tryz.prog 80 #[.pointer (some ⟨b,0,none⟩),.int .i64 ((n:Int)+1),.slice p4 ni p6] w1 fun e w'=>e=.returned (.tuple #[])/\Wx B b (((q.2.map (stW d (n+1))).flatten).foldl wpL l1) wx w':=fun l1 w1 k1=>(HIQ.out l1 w1 _ k1.1 (Nat.le_trans hBx k1.2.1.size) (HIN.out.bel (kp_st d) (HKW.out.2.1.trans k1.2.1)) (fun w2 b2=>HPX.out w2 (k1.2.1.trans b2))).mono (fun e w' hh=>⟨hh.1,k1.trans hh.2⟩)
   go_wp2_with (first
    | (go_at_call 79;refine (hline _ _ _ k (by assumption)).mono ?_;clear k;rintro e w2 ⟨rfl,k⟩;have y0:=keep_cell (p:=⟨S,0,none⟩) (keepX k.2.2 hO hbS (by decide)) c0;have y1:=keep_cell (p:=⟨S,1,none⟩) (keepX k.2.2 hO hbS (by decide)) c1;have y2:=keep_cell (p:=⟨S,2,none⟩) (keepX k.2.2 hO hbS (by decide)) c2;have y3:=keep_cell (p:=⟨S,3,none⟩) (keepX k.2.2 hO hbS (by decide)) c3;have y4:=keep_cell (p:=⟨S,4,none⟩) (keepX k.2.2 hO hbS (by decide)) c4;have y5:=keep_cell (p:=⟨S,5,none⟩) (keepX k.2.2 hO hbS (by decide)) c5;have y6:=keep_cell (p:=⟨S,6,none⟩) (keepX k.2.2 hO hbS (by decide)) c6;have y7:=keep_cell (p:=⟨S,7,none⟩) (keepX k.2.2 hO hbS (by decide)) c7;have y8:=keep_cell (p:=⟨S,8,none⟩) (keepX k.2.2 hO hbS (by decide)) c8;have y9:=keep_cell (p:=⟨S,9,none⟩) (keepX k.2.2 hO hbS (by decide)) c9;have y10:=keep_cell (p:=⟨S,10,none⟩) (keepX k.2.2 hO hbS (by decide)) c10)
    | (go_at_call 139;refine (hkind _ _ k).mono ?_;clear k;rintro e w2 ⟨rfl,k⟩;have y0:=keep_cell (p:=⟨S,0,none⟩) (keepX k.2.2 hO hbS (by decide)) c0;have y1:=keep_cell (p:=⟨S,1,none⟩) (keepX k.2.2 hO hbS (by decide)) c1;have y2:=keep_cell (p:=⟨S,2,none⟩) (keepX k.2.2 hO hbS (by decide)) c2;have y3:=keep_cell (p:=⟨S,3,none⟩) (keepX k.2.2 hO hbS (by decide)) c3;have y4:=keep_cell (p:=⟨S,4,none⟩) (keepX k.2.2 hO hbS (by decide)) c4;have y5:=keep_cell (p:=⟨S,5,none⟩) (keepX k.2.2 hO hbS (by decide)) c5;have y6:=keep_cell (p:=⟨S,6,none⟩) (keepX k.2.2 hO hbS (by decide)) c6;have y7:=keep_cell (p:=⟨S,7,none⟩) (keepX k.2.2 hO hbS (by decide)) c7;have y8:=keep_cell (p:=⟨S,8,none⟩) (keepX k.2.2 hO hbS (by decide)) c8;have y9:=keep_cell (p:=⟨S,9,none⟩) (keepX k.2.2 hO hbS (by decide)) c9;have y10:=keep_cell (p:=⟨S,10,none⟩) (keepX k.2.2 hO hbS (by decide)) c10)
    | fail)
   obtain ⟨L1,hL1⟩:∃ L,(kndW (n+1) q.1).foldl wpL (wlL L0 n (bl x2))=L:=⟨_,rfl⟩
   rw [hL1] at k
   have HTK1:=HTK.out
   rw [hL1] at HTK1
   have HTK2:=mkHid HTK1
   clear hL1 HTK1 HTK HKD
   go_loopw [31] (fun ix wr2=>∃ (i2:Nat),i2<=m/\ix=.int .i64 (i2:Int)/\Wx B b ((((q.1.2.2.2.2.take i2).map (onW (n+1))).flatten).foldl wpL L1) wx wr2) (fun ix _=>m - (RowKit.intOf ix).toNat)
   case atStart=>exact ⟨0,Nat.zero_le _,rfl,k⟩
   case round=>
    clear k
    obtain ⟨i2,hi2,rfl,k⟩:=hrel
    by_cases hlt2:i2 < m
    ·have hil2:i2 < q.1.2.2.2.2.length:=by rw [HM.out];exact hlt2
     obtain ⟨b2,off2,s1,s3,rfl,hbb2,hsr,hc2⟩:=onB_at HON.out i2 hil2
     obtain ⟨hfo,hco⟩:=HOF.out _ (List.getElem_mem hil2)
     have htk2:(((q.1.2.2.2.2.take (i2+1)).map (onW (n+1))).flatten).foldl wpL L1=(onW (n+1) q.1.2.2.2.2[i2]).foldl wpL ((((q.1.2.2.2.2.take i2).map (onW (n+1))).flatten).foldl wpL L1):=by
      rw [List.take_succ_eq_append_getElem hil2,List.map_append,List.flatten_append,List.foldl_append]
      simp
     obtain ⟨o,ho⟩:∃ o,q.1.2.2.2.2[i2]=o:=⟨_,rfl⟩
     rw [ho] at hsr hc2 hfo hco htk2
     obtain ⟨ns,hns⟩:∃ m,o.2.2.2.1.length=m:=⟨_,rfl⟩
     have HNS:Hid (o.2.2.2.1.length=ns):=hns
     rw [hns] at hsr hc2
     obtain ⟨ev,eq1,eo1,_⟩:=letter_of o.1
     obtain ⟨tg,eq2,eo2,_⟩:=letter_of o.2.2.1
     obtain ⟨ol,hol⟩:∃ x,o.2.2.2.2.1=x:=⟨_,rfl⟩
     obtain ⟨oc,hoc⟩:∃ x,o.2.2.2.2.2=x:=⟨_,rfl⟩
     have hgf:=gdV_form o.2.1
     obtain ⟨gv,ego⟩:∃ x,x=gdV o.2.1:=⟨_,rfl⟩
     have hov:onV o (.slice s1 ns s3)=[.string ev,gv,.string tg,.slice s1 ns s3,.int .i64 ol,.int .i64 oc]:=by unfold onV sV;rw [eq1,eq2,hol,hoc,ego]
     rw [hov] at hc2
     rw [<- ego] at hgf
     obtain ⟨L2,hL2⟩:∃ L,(((q.1.2.2.2.2.take i2).map (onW (n+1))).flatten).foldl wpL L1=L:=⟨_,rfl⟩
     rw [hL2] at k htk2
     have HT2:=mkHid htk2
     clear htk2 hL2 ho hns eq1 eq2 hol hoc hov
     have j1:(i2:Int) < (m:Int):=by omega
     have j2:(0:Int)<=(i2:Int):=by omega
     have C0:=((HKW.out.2.1.trans k.2.1).cell (p:=⟨b2,off2+i2*6+0,none⟩) hbb2).trans (hc2 0 _ rfl)
     have C1:=((HKW.out.2.1.trans k.2.1).cell (p:=⟨b2,off2+i2*6+1,none⟩) hbb2).trans (hc2 1 _ rfl)
     have C2:=((HKW.out.2.1.trans k.2.1).cell (p:=⟨b2,off2+i2*6+2,none⟩) hbb2).trans (hc2 2 _ rfl)
     have C3:=((HKW.out.2.1.trans k.2.1).cell (p:=⟨b2,off2+i2*6+3,none⟩) hbb2).trans (hc2 3 _ rfl)
     have C4:=((HKW.out.2.1.trans k.2.1).cell (p:=⟨b2,off2+i2*6+4,none⟩) hbb2).trans (hc2 4 _ rfl)
     have C5:=((HKW.out.2.1.trans k.2.1).cell (p:=⟨b2,off2+i2*6+5,none⟩) hbb2).trans (hc2 5 _ rfl)
     rw [Nat.add_zero] at C0
     clear hc2 hkind hinn hline
     rcases hgf with rfl|⟨gu,gy,rfl⟩
     ·skip
      have hal:Below wr.heap.size wr (wr.alloc (.cells #[.string ev,.nilIface,.string tg,.slice s1 ns s3,.int .i64 ol,.int .i64 oc] 133)):=(Below.refl _ _).alloc Nat.le.refl _
      have hX:Bn (wr.alloc (.cells #[.string ev,.nilIface,.string tg,.slice s1 ns s3,.int .i64 ol,.int .i64 oc] 133)) wr.heap.size [.string ev,.nilIface,.string tg,.slice s1 ns s3,.int .i64 ol,.int .i64 oc]:=Bn.new wr [.string ev,.nilIface,.string tg,.slice s1 ns s3,.int .i64 ol,.int .i64 oc] 133 _ rfl
      have kx:=k.on hBx hal
      have hon:Calls Tryz.prog 140 #[.pointer (some ⟨b,0,none⟩),.int .i64 ((n:Int)+1),.agg #[.string ev,.nilIface,.string tg,.slice s1 ns s3,.int .i64 ol,.int .i64 oc]] (wr.alloc (.cells #[.string ev,.nilIface,.string tg,.slice s1 ns s3,.int .i64 ol,.int .i64 oc] 133)) fun e w'=>e=.returned (.tuple #[])/\Wx B b ((onW (n+1) o).foldl wpL L2) wx w':=by
       have:=onR_any (n+1) o ev tg _ s1 ns s3 ol oc kx.1 (Nat.le_trans hBx kx.2.1.size) (by omega) hfo hco eo1 ego eo2 (hsr.bel kp_set (HKW.out.2.1.trans kx.2.1)) HNS.out (fun w2 b2=>HPX.out w2 (kx.2.1.trans b2))
       rw [Int.natCast_add] at this
       exact this.mono (fun e w' hh=>⟨hh.1,kx.trans hh.2⟩)
      clear eo1 eo2 ego hsr hfo hco k kx
      go_upto_region 8 with fail
      clear C0 C1 C2 C3 C4 C5
      generalize (wr.alloc (.cells #[.string ev,.nilIface,.string tg,.slice s1 ns s3,.int .i64 ol,.int .i64 oc] 133))=wy at *
      have x0:=(hX 0 _ rfl).1
      obtain ⟨x1',_⟩:=hX 1 _ rfl
      obtain ⟨x2',_⟩:=hX 2 _ rfl
      obtain ⟨x3',_⟩:=hX 3 _ rfl
      obtain ⟨x4',_⟩:=hX 4 _ rfl
      obtain ⟨x5',_⟩:=hX 5 _ rfl
      go_wp2_with (first
       | (go_at_call 140;refine hon.mono ?_;rintro e w3 ⟨rfl,k⟩)
       | fail)
      rw [<- HT2.out] at k
      go_wp2
      go_roundw
      case rel=>exact ⟨i2+1,hlt2,by go_num,k⟩
      case measure=>simp [RowKit.intOf];omega
     ·skip
      have hal:Below wr.heap.size wr (wr.alloc (.cells #[.string ev,.iface gu gy,.string tg,.slice s1 ns s3,.int .i64 ol,.int .i64 oc] 133)):=(Below.refl _ _).alloc Nat.le.refl _
      have hX:Bn (wr.alloc (.cells #[.string ev,.iface gu gy,.string tg,.slice s1 ns s3,.int .i64 ol,.int .i64 oc] 133)) wr.heap.size [.string ev,.iface gu gy,.string tg,.slice s1 ns s3,.int .i64 ol,.int .i64 oc]:=Bn.new wr [.string ev,.iface gu gy,.string tg,.slice s1 ns s3,.int .i64 ol,.int .i64 oc] 133 _ rfl
      have kx:=k.on hBx hal
      have hon:Calls Tryz.prog 140 #[.pointer (some ⟨b,0,none⟩),.int .i64 ((n:Int)+1),.agg #[.string ev,.iface gu gy,.string tg,.slice s1 ns s3,.int .i64 ol,.int .i64 oc]] (wr.alloc (.cells #[.string ev,.iface gu gy,.string tg,.slice s1 ns s3,.int .i64 ol,.int .i64 oc] 133)) fun e w'=>e=.returned (.tuple #[])/\Wx B b ((onW (n+1) o).foldl wpL L2) wx w':=by
       have:=onR_any (n+1) o ev tg _ s1 ns s3 ol oc kx.1 (Nat.le_trans hBx kx.2.1.size) (by omega) hfo hco eo1 ego eo2 (hsr.bel kp_set (HKW.out.2.1.trans kx.2.1)) HNS.out (fun w2 b2=>HPX.out w2 (kx.2.1.trans b2))
       rw [Int.natCast_add] at this
       exact this.mono (fun e w' hh=>⟨hh.1,kx.trans hh.2⟩)
      clear eo1 eo2 ego hsr hfo hco k kx
      go_upto_region 8 with fail
      clear C0 C1 C2 C3 C4 C5
      generalize (wr.alloc (.cells #[.string ev,.iface gu gy,.string tg,.slice s1 ns s3,.int .i64 ol,.int .i64 oc] 133))=wy at *
      have x0:=(hX 0 _ rfl).1
      obtain ⟨x1',_⟩:=hX 1 _ rfl
      obtain ⟨x2',_⟩:=hX 2 _ rfl
      obtain ⟨x3',_⟩:=hX 3 _ rfl
      obtain ⟨x4',_⟩:=hX 4 _ rfl
      obtain ⟨x5',_⟩:=hX 5 _ rfl
      go_wp2_with (first
       | (go_at_call 140;refine hon.mono ?_;rintro e w3 ⟨rfl,k⟩)
       | fail)
      rw [<- HT2.out] at k
      go_wp2
      go_roundw
      case rel=>exact ⟨i2+1,hlt2,by go_num,k⟩
      case measure=>simp [RowKit.intOf];omega
    ·have j1:¬ (i2:Int) < (m:Int):=by omega
     obtain rfl:i2=m:=by omega
     have y10:=keep_cell (p:=⟨S,10,none⟩) (keepX k.2.2 hO hbS (by decide)) c10
     go_wp2_with (first
      | (go_at_call 80;refine (hinn _ _ k).mono ?_;clear k;rintro e w2 ⟨rfl,k⟩)
      | (go_at_call 79;refine (hline _ _ _ k (by assumption)).mono ?_;clear k;rintro e w2 ⟨rfl,k⟩)
      | fail)
     rw [<- HTK2.out] at k
     go_roundw
     case rel=>exact ⟨i+1,hlti,by go_num,HKW.out.trans k⟩
     case measure=>simp [RowKit.intOf];omega
  ·have i1:¬ (i:Int) < (m0:Int):=by omega
   have hie:ts.take i=ts:=List.take_of_length_le (by rw [HN.out];omega)
   rw [hie] at k
   go_wp2
   go_end0
   exact ⟨rfl,k⟩
theorem wsts_zero:WsC 0:=by
 intro B b l w n ts v h hB hn hs hf hp
 have hl:ts=[]:=by
  cases ts with
  | nil=>rfl
  | cons t r=>exact Empty.elim t
 subst hl
 exact wsts_in (d:=0) n [] v h hB hn (by
  obtain ⟨a,cap,e,h1,h2,h3⟩:=hs
  exact ⟨a,cap,e,h1,h2,fun i hi=>absurd hi (Nat.not_lt_zero i)⟩) (fun t ht=>by simp at ht) hp (fun t ht=>by simp at ht)
theorem wsts_step {d:Nat}(IH:WsC d):WsC (d+1):=by
 intro B b l w n ts v h hB hn hs hf hp
 refine wsts_in n ts v h hB hn hs hf hp (fun t ht l1 w1 v1 hw1 hB1 hr hp1=>?_)
 obtain ⟨t1,t2,t3,t4,t5⟩:=stF_parts (hf t ht).1
 have:=IH B b l1 w1 (n+1) t.2 v1 hw1 hB1 (by omega) hr (fun x hx=>⟨List.all_eq_true.1 t5 x hx,(hf t ht).2.2 x hx⟩) hp1
 rw [Int.natCast_add] at this
 exact this
theorem wsts_any:∀ d,WsC d
 | 0=>wsts_zero
 | d+1=>wsts_step (wsts_any d)
