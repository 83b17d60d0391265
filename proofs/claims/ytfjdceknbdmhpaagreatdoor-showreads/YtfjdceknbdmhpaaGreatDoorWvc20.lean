import Derived.Test.YtfjdceknbdmhpaaGreatDoorWvc19
import Derived.Test.YtfjdceknbdmhpaaGreatDoorWvc15
import Derived.Test.YtfjdceknbdmhpaaGreatDoorWvc17
/- Package show's Print. -/
namespace Go.Proofs.YtfjdceknbdmhpaaGreatDoor
open Go.RowKit Go.Lib
set_option linter.unusedSimpArgs false
set_option linter.unusedVariables false
attribute [local go_sem ↓] Go.wp_at_zero Go.wp_at_succ
/-- All parts are short. -/
def SmL (cs:List (List UInt8)):Prop:=∀ c∈cs,c.length≤100000
theorem SmL.app {a b:List (List UInt8)} (h:SmL a) (k:SmL b):SmL (a++b):=fun c hc=>(List.mem_append.1 hc).elim (h c) (k c)
theorem SmL.flat {α:Type} {f:α→List (List UInt8)} {l:List α} (h:∀ x∈l,SmL (f x)):SmL (l.map f).flatten:=fun c hc=>by
 obtain ⟨a,ha,hca⟩:=List.mem_flatten.1 hc
 obtain ⟨x,hx,rfl⟩:=List.mem_map.1 ha
 exact h x hx c hca
theorem SmL.ln {n:Nat} {s:List UInt8} (hn:n≤1000) (hs:s.length≤100000):SmL (lnW n s):=fun c hc=>by
 unfold lnW at hc
 simp only [List.mem_cons,List.not_mem_nil,or_false] at hc
 rcases hc with rfl | rfl | rfl
 ·rw [List.length_replicate];omega
 ·exact hs
 ·show 1≤_;omega
theorem plain_96 {s:List UInt8} (h:plainB s=true):s.length≤96:=name_len (plain_name h)
theorem smL_on {n:Nat} {o:OnC} (hn:n≤1000) (hf:onF o=true) (hc:OnCl o):SmL (onW n o):=by
 obtain ⟨f1,f2,f3,f4⟩:=onF_parts hf
 have h1:=plain_96 f1
 have h3:=plain_96 f3
 intro c hcm
 unfold onW grdW at hcm
 simp only [List.mem_append,List.mem_cons,List.not_mem_nil,or_false,List.mem_map] at hcm
 rcases hcm with (rfl | rfl) | hg | rfl | ⟨s,hs,rfl⟩ | rfl
 ·rw [List.length_replicate];omega
 ·simp only [List.length_append,List.length_cons,List.length_nil];omega
 ·by_cases hgb:o.2.1.1=true
  ·rw [if_pos hgb] at hg
   simp only [List.mem_cons,List.not_mem_nil,or_false] at hg
   subst hg
   have:=(ex_text (hc.1 hgb) (f2 hgb)).2.1
   simp only [List.length_append,List.length_cons,List.length_nil];omega
  ·rw [if_neg hgb] at hg
   cases hg
 ·simp only [List.length_append,List.length_cons,List.length_nil];omega
 ·obtain ⟨g1,_,g3,_⟩:=set_text (List.all_eq_true.1 f4 s hs) (hc.2 s hs)
  unfold setW
  simp only [List.length_append,List.length_cons,List.length_nil];omega
 ·show 1≤_;omega
theorem smL_knd {n:Nat} {h:HdC} (hn:n≤1000) (hf:kndF h=true):SmL (kndW n h):=by
 unfold kndW
 by_cases h1:h.2.1.1=true
 ·rw [if_pos h1];exact SmL.ln hn (by show 3≤_;omega)
 ·rw [if_neg h1]
  by_cases h2:h.2.1.2=true
  ·rw [if_pos h2];exact SmL.ln hn (by show 3≤_;omega)
  ·rw [if_neg h2]
   by_cases h3:h.2.2.1.1≠[]
   ·rw [if_pos h3]
    obtain ⟨_,_,k3,k4,k5,k6⟩:=kndF_step hf (step_do h3)
    have q3:=plain_96 k3
    have q4:=plain_96 k4
    have q5:=dc_len (nb_of k5)
    have q6:=dc_len (nb_of k6)
    refine SmL.ln hn ?_
    unfold doW
    simp only [List.length_append,List.length_cons,List.length_nil];omega
   ·rw [if_neg h3];exact fun c hc=>by cases hc
theorem smL_st:∀ (d n:Nat) (t:St d),stF d n t=true→StCl d t→SmL (stW d n t)
 | 0,_,t,_,_=>Empty.elim t
 | d+1,n,t,h,hc=>by
  obtain ⟨h1,h2,h3,h4,h5⟩:=stF_parts h
  have q2:=plain_96 h2
  refine SmL.app (SmL.ln (by omega) ?_) (SmL.app (smL_knd (by omega) h3) (SmL.app (SmL.flat fun o ho=>smL_on (by omega) (List.all_eq_true.1 h4 o ho) (hc.1 o ho)) (SmL.app (SmL.flat fun x hx=>smL_st d (n+1) x (List.all_eq_true.1 h5 x hx) (hc.2 x hx)) (SmL.ln (by omega) (by show 1≤_;omega)))))
  unfold stnW
  simp only [List.length_append,List.length_cons,List.length_nil];omega
theorem smL_ch {d:Nat} {c:ChX d} (h:chF d c=true) (hc:∀ t∈c.2.2.2,StCl d t):SmL (chW d c):=by
 obtain ⟨h1,h2,h3,h4⟩:=chF_parts h
 have q1:=plain_96 h1
 have q2:=dc_len (nb_of h2)
 refine SmL.app (SmL.ln (by omega) ?_) (SmL.app (SmL.flat fun v hv=>SmL.ln (by omega) ?_) (SmL.app (SmL.flat fun x hx=>smL_st d 1 x (List.all_eq_true.1 h4 x hx) (hc x hx)) (SmL.ln (by omega) (by show 1≤_;omega))))
 ·unfold chnW
  simp only [List.length_append,List.length_cons,List.length_nil];omega
 ·have hv:=List.all_eq_true.1 h3 v hv
  unfold varF at hv
  simp only [Bool.and_eq_true,decide_eq_true_eq] at hv
  have q3:=plain_96 hv.1
  have q4:=znW_len hv.2
  simp only [List.length_append,List.length_cons,List.length_nil];omega
theorem fold_le:∀ (cs:List (List UInt8)) (l:List UInt8),SmL cs→l.length≤200000→(cs.foldl wpL l).length≤200000
 | [],l,_,hl=>hl
 | c :: cs,l,h,hl=>by
  rw [List.foldl_cons]
  refine fold_le cs _ (fun x hx=>h x (by simp [hx])) ?_
  unfold wpL
  have:=h c (by simp)
  split
  ·rw [List.length_append];omega
  ·exact hl
/-- What Print answers. -/
def prG (d:Nat) (c:ChX d):List UInt8 × Int:=if chF d c=true then (if (txQ (chQ d c)).length≤12000∧(tkQ (chQ d c)).length≤3000 then (txQ (chQ d c),0) else ([],4)) else ([],1)
theorem wr_words {d:Nat} {c:ChX d} (h:chF d c=true) (hc:∀ t∈c.2.2.2,StCl d t):∃ L,(chW d c).foldl wpL []=L∧L≠[]∧L.length≤200000∧prG d c=if (wordsS L).2.2=0 then (L,0) else ([],(wordsS L).2.2):=by
 refine ⟨_,rfl,?_,fold_le _ _ (smL_ch h hc) (by simp),?_⟩
 ·intro e
  by_cases hl:(txQ (chQ d c)).length≤12000
  ·rw [wr_short h hl] at e
   unfold chQ at e
   rw [txQ_app] at e
   have:=(List.append_eq_nil_iff.1 e).1
   simp [txQ,pieQ,kwQ,wChart] at this
  ·have:=wr_long h hl
   rw [e] at this
   simp at this
 ·unfold prG
  rw [if_pos h]
  by_cases hl:(txQ (chQ d c)).length≤12000
  ·rw [wr_short h hl]
   have hw:=words_Q (fitQ_ch h hc)
   by_cases hk:(tkQ (chQ d c)).length≤3000
   ·rw [if_pos ⟨hl,hk⟩] at hw ⊢
    have e0:(wordsS (txQ (chQ d c))).2.2=0:=congrArg Prod.snd hw
    rw [if_pos e0]
   ·rw [if_neg (fun q=>hk q.2)] at hw ⊢
    have e0:(wordsS (txQ (chQ d c))).2.2=4:=congrArg Prod.snd hw
    rw [if_neg (by rw [e0];decide),e0]
  ·have hL:=wr_long h hl
   rw [if_neg (fun q=>hl q.1)]
   generalize (chW d c).foldl wpL []=L at hL
   have e0:(wordsS L).2.2=4:=by unfold wordsS;rw [if_pos hL]
   rw [if_neg (by rw [e0];decide),e0]
set_option maxRecDepth 100000 in
set_option maxHeartbeats 16000000 in
theorem print_no {w:World} (s0:ByteArray) (vn pl pc:Int) (p1:Option Addr) (nv p3:Nat) (p4:Option Addr) (ni p6:Nat) (hF:∀ w1,Below w.heap.size w w1→Calls Tryz.prog 21 #[.agg #[.string s0,.int .i64 vn,.int .i64 pl,.int .i64 pc,.slice p1 nv p3,.slice p4 ni p6]] w1 fun e w'=>e=.returned (.bool false)∧Below w1.heap.size w1 w') :
  Calls Tryz.prog 19 #[.agg #[.string s0,.int .i64 vn,.int .i64 pl,.int .i64 pc,.slice p1 nv p3,.slice p4 ni p6]] w fun e w'=>e=.returned (.tuple #[.string ⟨#[]⟩,.int .i64 1])∧Below w.heap.size w w':=by
 have hal:Below w.heap.size w (w.alloc (.cells #[.string s0,.int .i64 vn,.int .i64 pl,.int .i64 pc,.slice p1 nv p3,.slice p4 ni p6] 33)):=(Below.refl w.heap.size w).alloc (Nat.le_refl _) _
 have hX:Bn (w.alloc (.cells #[.string s0,.int .i64 vn,.int .i64 pl,.int .i64 pc,.slice p1 nv p3,.slice p4 ni p6] 33)) w.heap.size [.string s0,.int .i64 vn,.int .i64 pl,.int .i64 pc,.slice p1 nv p3,.slice p4 ni p6]:=Bn.new w [.string s0,.int .i64 vn,.int .i64 pl,.int .i64 pc,.slice p1 nv p3,.slice p4 ni p6] 33 _ rfl
 have hF1:=hF _ hal
 go_enter Tryz.func19,Tryz.ntmps19
 go_upto_region 1 with fail
 generalize (w.alloc (.cells #[.string s0,.int .i64 vn,.int .i64 pl,.int .i64 pc,.slice p1 nv p3,.slice p4 ni p6] 33))=wx at *
 obtain ⟨c0,_⟩:=hX 0 _ rfl
 obtain ⟨c1,_⟩:=hX 1 _ rfl
 obtain ⟨c2,_⟩:=hX 2 _ rfl
 obtain ⟨c3,_⟩:=hX 3 _ rfl
 obtain ⟨c4,_⟩:=hX 4 _ rfl
 obtain ⟨c5,_⟩:=hX 5 _ rfl
 go_wp2_with (first
  | (go_at_call 21;refine hF1.mono ?_;rintro e w1 ⟨rfl,b1⟩)
  | fail)
 go_ret2
 exact ⟨rfl,hal.trans (b1.mono hal.size)⟩
set_option maxRecDepth 100000 in
set_option maxHeartbeats 16000000 in
theorem print_yes {w:World} (s0:ByteArray) (vn pl pc:Int) (p1:Option Addr) (nv p3:Nat) (p4:Option Addr) (ni p6:Nat) (L:List UInt8) (h0:L≠[]) (hL:L.length≤200000) (hF:∀ w1,Below w.heap.size w w1→Calls Tryz.prog 21 #[.agg #[.string s0,.int .i64 vn,.int .i64 pl,.int .i64 pc,.slice p1 nv p3,.slice p4 ni p6]] w1 fun e w'=>e=.returned (.bool true)∧Below w1.heap.size w1 w')
  (hC:∀ B b w1,Below w.heap.size w w1→w.heap.size≤B→B≤w1.heap.size→Wr B b [] w1→Calls Tryz.prog 44 #[.pointer (some ⟨b,0,none⟩),.agg #[.string s0,.int .i64 vn,.int .i64 pl,.int .i64 pc,.slice p1 nv p3,.slice p4 ni p6]] w1 fun e w'=>e=.returned (.tuple #[])∧Wx B b L w1 w') :
  Calls Tryz.prog 19 #[.agg #[.string s0,.int .i64 vn,.int .i64 pl,.int .i64 pc,.slice p1 nv p3,.slice p4 ni p6]] w fun e w'=>e=.returned (.tuple #[.string ⟨(if (wordsS L).2.2=0 then L else []).toArray⟩,.int .i64 (wordsS L).2.2])∧Below w.heap.size w w':=by
 have hal:Below w.heap.size w (w.alloc (.cells #[.string s0,.int .i64 vn,.int .i64 pl,.int .i64 pc,.slice p1 nv p3,.slice p4 ni p6] 33)):=(Below.refl w.heap.size w).alloc (Nat.le_refl _) _
 have hX:Bn (w.alloc (.cells #[.string s0,.int .i64 vn,.int .i64 pl,.int .i64 pc,.slice p1 nv p3,.slice p4 ni p6] 33)) w.heap.size [.string s0,.int .i64 vn,.int .i64 pl,.int .i64 pc,.slice p1 nv p3,.slice p4 ni p6]:=Bn.new w [.string s0,.int .i64 vn,.int .i64 pl,.int .i64 pc,.slice p1 nv p3,.slice p4 ni p6] 33 _ rfl
 have hF1:=hF _ hal
 obtain ⟨LT,hLT,eLT,zLT⟩:=letter_of L
 have hWd:=fun w1=>pWords_any LT w1 (by omega)
 rw [eLT] at hWd
 obtain ⟨we,hwe⟩:∃ x,(wordsS L).2.2=x:=⟨_,rfl⟩
 obtain ⟨wl,hwl⟩:∃ x,(wordsS L).2.1.1=x:=⟨_,rfl⟩
 obtain ⟨wc,hwc⟩:∃ x,(wordsS L).2.1.2=x:=⟨_,rfl⟩
 have hWf:∀ w1,Calls Tryz.prog 46 #[.string LT] w1 fun e w'=>∃ u1 u2 u3,e=.returned (.tuple #[.slice u1 u2 u3,.agg #[.int .i64 wl,.int .i64 wc],.int .i64 we])∧Below w1.heap.size w1 w':=fun w1=>(hWd w1).mono (fun e w' hh=>by
  obtain ⟨u,h1,h2,h3⟩:=hh
  rw [hwe,hwl,hwc] at h1
  rcases h2.2 with ⟨hu,_⟩ | ⟨g,cap,cur,hu,_⟩
  ·rw [hu] at h1
   exact ⟨_,_,_,h1,h3⟩
  ·rw [hu] at h1
   exact ⟨_,_,_,h1,h3⟩)
 rw [hwe]
 obtain ⟨TX,hTX⟩:∃ TX:ByteArray,(⟨(if we=0 then L else []).toArray⟩:ByteArray)=TX:=⟨_,rfl⟩
 rw [hTX]
 have HTX:=mkHid hTX
 clear hWd hwe hwl hwc hTX
 go_enter Tryz.func19,Tryz.ntmps19
 go_upto_region 1 with fail
 generalize (w.alloc (.cells #[.string s0,.int .i64 vn,.int .i64 pl,.int .i64 pc,.slice p1 nv p3,.slice p4 ni p6] 33))=wx at *
 obtain ⟨c0,_⟩:=hX 0 _ rfl
 obtain ⟨c1,_⟩:=hX 1 _ rfl
 obtain ⟨c2,_⟩:=hX 2 _ rfl
 obtain ⟨c3,_⟩:=hX 3 _ rfl
 obtain ⟨c4,_⟩:=hX 4 _ rfl
 obtain ⟨c5,_⟩:=hX 5 _ rfl
 have hlt:=hX.lt
 go_upto_region 3 with (first
  | (go_at_call 21;refine hF1.mono ?_;rintro e w1 ⟨rfl,b1⟩)
  | fail)
 have hb1:=hal.trans (b1.mono hal.size)
 have hX1:=hX.on b1
 have hal2:Below w1.heap.size w1 (w1.alloc (.cells #[.pointer none,.slice none 0 0] 80)):=(Below.refl _ _).alloc (Nat.le_refl _) _
 have hWr:Wr w1.heap.size w1.heap.size [] (w1.alloc (.cells #[.pointer none,.slice none 0 0] 80)):=.inl ⟨Nat.le_refl _,_,blk_new _ _,World.ownsRowF_of (World.ownsRow_nil _ _ _ _),by simp [Value.ownBlock]⟩
 have hCh:=hC w1.heap.size w1.heap.size _ (hb1.trans (hal2.mono hb1.size)) hb1.size hal2.size hWr
 have hX2:=hX1.on hal2
 go_upto_region 4 with fail
 generalize (w1.alloc (.cells #[.pointer none,.slice none 0 0] 80))=wy at *
 clear c0 c1 c2 c3 c4 c5 hF1 hF hC
 obtain ⟨c0,_⟩:=hX2 0 _ rfl
 obtain ⟨c1,_⟩:=hX2 1 _ rfl
 obtain ⟨c2,_⟩:=hX2 2 _ rfl
 obtain ⟨c3,_⟩:=hX2 3 _ rfl
 obtain ⟨c4,_⟩:=hX2 4 _ rfl
 obtain ⟨c5,_⟩:=hX2 5 _ rfl
 obtain ⟨b,hbb⟩:∃ b,w1.heap.size=b:=⟨_,rfl⟩
 rw [hbb] at hCh hWr ⊢
 have HB:Hid (w1.heap.size=b):=hbb
 have hbw:w.heap.size≤b:=by have:=hb1.size;omega
 have hal3:Below w.heap.size w wy:=hb1.trans (hal2.mono hb1.size)
 have hSt:∀ w2,Wr b b L w2→Calls Tryz.prog 45 #[.pointer (some ⟨b,0,none⟩)] w2 fun e w'=>e=.returned (.string LT)∧Below b w2 w':=fun w2 hw2=>by
  rw [← hLT];exact wString_any hw2 h0
 clear hbb hX hX1 hX2 hWr hal hal2 b1 hb1
 by_cases hz:we=0
 ·subst hz
  have hTX:=HTX.out
  rw [if_pos rfl,hLT] at hTX
  subst hTX
  clear hLT HTX
  go_wp2_with (first
   | (go_at_call 44;refine hCh.mono ?_;rintro e w2 ⟨rfl,k⟩)
   | (go_at_call 45;refine (hSt _ k.1).mono ?_;rintro e w3 ⟨rfl,b3⟩)
   | (go_at_call 46;refine (hWf _).mono ?_;rintro e w4 ⟨u1,u2,u3,rfl,b4⟩)
   | fail)
  go_ret2
  have hb4:Below w.heap.size w w4:=by
   have q1:=hal3.trans (k.2.1.mono hbw)
   have q2:=q1.trans (b3.mono hbw)
   exact q2.trans (b4.mono q2.size)
  refine ⟨rfl,?_⟩
  first
   | exact hb4.alloc hb4.size _
   | exact (hb4.alloc hb4.size _).setCell (p:=⟨w4.heap.size,0,none⟩) hb4.size _
 ·have hz2:(we == 0)=false:=by simpa using hz
  have i1:¬ we=0:=hz
  have hTX:=HTX.out
  rw [if_neg hz] at hTX
  subst hTX
  clear hLT HTX
  go_wp2_with (first
   | (go_at_call 44;refine hCh.mono ?_;rintro e w2 ⟨rfl,k⟩)
   | (go_at_call 45;refine (hSt _ k.1).mono ?_;rintro e w3 ⟨rfl,b3⟩)
   | (go_at_call 46;refine (hWf _).mono ?_;rintro e w4 ⟨u1,u2,u3,rfl,b4⟩)
   | fail)
  go_ret2
  have hb4:Below w.heap.size w w4:=by
   have q1:=hal3.trans (k.2.1.mono hbw)
   have q2:=q1.trans (b3.mono hbw)
   exact q2.trans (b4.mono q2.size)
  refine ⟨rfl,?_⟩
  first
   | exact hb4.alloc hb4.size _
   | exact (hb4.alloc hb4.size _).setCell (p:=⟨w4.heap.size,0,none⟩) hb4.size _
/-- Print, whatever the chart is. -/
theorem printC_any {ok:Nat→Prop} {w:World} {d:Nat} {c:ChG d} {v:Value} (h:RdC ok w d c v) (hk:ChK d c) (hcl:∀ t∈c.2.2.2,StCl d t) (hp:Pow w) :
  Calls Tryz.prog 19 #[v] w fun e w'=>e=.returned (.tuple #[.string ⟨(prG d c).1.toArray⟩,.int .i64 (prG d c).2])∧Below w.heap.size w w':=by
 have hF:∀ w1,Below w.heap.size w w1→Calls Tryz.prog 21 #[v] w1 fun e w'=>e=.returned (.bool (chF d c))∧Below w1.heap.size w1 w':=fun w1 b1=>formedC_any (h.keep (ok':=ok) (fun b hb hl=>⟨hb,b1.block b hl⟩)) hk (hp.below b1)
 obtain ⟨sv,ss,rfl,hv,hs⟩:=h
 obtain ⟨p1,p3,rfl,_⟩:=hv.form
 obtain ⟨p4,p6,rfl,_⟩:=hs.form
 obtain ⟨s0,e0,eb,_⟩:=letter_of c.1.1
 have es:sV c.1.1=.string s0:=by unfold sV;rw [e0]
 rw [es] at hF ⊢
 cases hcf:chF d c with
 | false=>
  rw [hcf] at hF
  have e:prG d c=([],1):=by unfold prG;rw [if_neg (by rw [hcf];decide)]
  rw [e]
  exact print_no s0 _ _ _ p1 _ p3 p4 _ p6 hF
 | true=>
  rw [hcf] at hF
  obtain ⟨L,hL,h0,hl,hpr⟩:=wr_words hcf hcl
  have e:prG d c=((if (wordsS L).2.2=0 then L else []),(wordsS L).2.2):=by
   rw [hpr]
   split
   ·next hh=>rw [hh]
   ·rfl
  rw [e]
  refine print_yes s0 _ _ _ p1 _ p3 p4 _ p6 L h0 hl hF (fun B b w1 b1 hB1 hB2 hw1=>?_)
  have:=wchart_walk c s0 c.2.1 c.1.2.1 c.1.2.2 p1 _ p3 p4 _ p6 hw1 hB2 eb rfl (hv.stay kp_var (ok':=fun x=>x < B) (fun b hb hl=>⟨Nat.lt_of_lt_of_le hl hB1,b1.block b hl⟩)) rfl (hs.stay (kp_st d) (ok':=fun x=>x < B) (fun b hb hl=>⟨Nat.lt_of_lt_of_le hl hB1,b1.block b hl⟩)) hcf hcl (fun w2 b2=>hp.below (b1.trans (b2.mono hB1)))
  rw [hL] at this
  exact this
end Go.Proofs.YtfjdceknbdmhpaaGreatDoor
/- A printed chart is read as it was, but for places. Math alone. -/
namespace Go.Proofs.YtfjdceknbdmhpaaGreatDoor
open Go.RowKit Go.Lib
set_option linter.unusedSimpArgs false
set_option linter.unusedVariables false
/-- The reader stands at these words, without an error. -/
def AtT (r:RsC) (ts:List Tk):Prop:=r.1.map tkW=ts∧r.2.2=0
theorem AtT.cons {r:RsC} {x:Tk} {ts:List Tk} (h:AtT r (x :: ts)):∃ w l,r.1=w :: l∧tkW w=x∧l.map tkW=ts:=by
 obtain ⟨h1,h2⟩:=h
 cases hr:r.1 with
 | nil=>rw [hr] at h1;cases h1
 | cons w l=>
  rw [hr,List.map_cons] at h1
  injection h1 with a b
  exact ⟨w,l,rfl,a,b⟩
theorem is_at {r:RsC} {k:Nat} {s:List UInt8} {ts:List Tk} (h:AtT r ((k,s) :: ts)) (s':List UInt8):isC s' r=decide (s=s'):=by
 obtain ⟨w,l,hr,hw,_⟩:=h.cons
 unfold isC
 rw [decide_eq_true h.2,hr]
 show (true && decide ((tkW w).2=s'))=_
 rw [hw];rfl
theorem take_at {r:RsC} {k:Nat} {s:List UInt8} {ts:List Tk} (h:AtT r ((k,s) :: ts)) (fin:Pl):AtT (takeR fin s r) ts:=by
 obtain ⟨w,l,hr,hw,hl⟩:=h.cons
 unfold takeR
 rw [if_pos (by rw [is_at h,decide_eq_true rfl]),hr]
 exact ⟨hl,h.2⟩
theorem name_at {r:RsC} {k:Nat} {s:List UInt8} {ts:List Tk} (h:AtT r ((k,s) :: ts)) (hp:plainB s=true) (fin:Pl):(nameR fin r).1.1=s∧AtT (nameR fin r).2 ts:=by
 obtain ⟨w,l,hr,hw,hl⟩:=h.cons
 obtain ⟨r1,r2⟩:=r
 obtain rfl:r1=w :: l:=hr
 have h0:r2.2=0:=h.2
 have e:nameR fin (w :: l,r2)=if r2.2=0∧plainB (tkW w).2=true then (((tkW w).2,wPl w),(l,r2)) else (([],(0,0)),failC 12 (hereR fin (w :: l,r2)) (w :: l,r2)):=rfl
 rw [e,hw,if_pos ⟨h0,hp⟩]
 exact ⟨rfl,hl,h0⟩
theorem num_at {r:RsC} {s:List UInt8} {ts:List Tk} (h:AtT r ((2,s) :: ts)) (fin:Pl):(numR fin r).1=valB 0 s∧AtT (numR fin r).2 ts:=by
 obtain ⟨w,l,hr,hw,hl⟩:=h.cons
 obtain ⟨r1,r2⟩:=r
 obtain rfl:r1=w :: l:=hr
 have h0:r2.2=0:=h.2
 have e:numR fin (w :: l,r2)=if r2.2=0∧w.1=2 then (valB 0 (tkW w).2,(l,r2)) else (0,failC 12 (hereR fin (w :: l,r2)) (w :: l,r2)):=rfl
 have hk:w.1=2:=congrArg Prod.fst hw
 rw [e,hw,if_pos ⟨h0,hk⟩]
 exact ⟨rfl,hl,h0⟩
theorem expr_at {r:RsC} {x:Sx} {ts:List Tk} (h:AtT r (tkQ (exQ x)++ts)) (hc:ClX x) (hf:exF x=true) (he:Ends 1 ts) (fin:Pl):Alk (exprR fin r).1 x.2∧AtT (exprR fin r).2 ts:=by
 obtain ⟨ho,hr⟩:=exF_parts hc hf
 have hfm:fmC x.1 x.2=true:=by
  unfold exF at hf
  exact ((Bool.and_eq_true _ _).mp hf).1
 have e1:tkQ (exQ x)=(tks dcN x.1 x.2).2:=by
  unfold exQ
  rw [tkQ_qE,(pcs_tks dcN x.1 x.2).2]
 rw [e1] at h
 obtain ⟨h1,h2⟩:=h
 obtain ⟨L,hL⟩:∃ L,r.1.map tkW=L:=⟨_,rfl⟩
 have hLl:L=(tks dcN x.1 x.2).2++ts:=by rw [← hL,h1]
 obtain ⟨y,hy,ha⟩:=(both_any (valB 0) rsvB L dcN x.1).1 x.2 hc ho 1 (7*L.length+6+(7*x.1+5)) 0 ts (Nat.le_refl _) (tks_st ho).1 (by omega) (by rw [List.drop_zero,hLl]) he
 rw [psr_same (by omega) (by omega) (by omega),Nat.zero_add] at hy
 have ht:takeC L=(y,(tks dcN x.1 x.2).2.length,0):=by
  unfold takeC rdC
  rw [hy,if_neg (by show ¬ (0:Int)≤-1;decide),if_pos (by show fmX y=true;rw [ha.fm,hfm])]
 have e:exprR fin r=(y,(r.1.drop (tks dcN x.1 x.2).2.length,r.2)):=by
  unfold exprR
  rw [if_neg (by simpa using h2),hL,ht]
  rfl
 rw [e]
 refine ⟨ha,?_,h2⟩
 show (r.1.drop (tks dcN x.1 x.2).2.length).map tkW=ts
 rw [List.map_drop,hL,hLl,List.drop_left]
/-- Two lists, member by member. -/
def L2 {α β:Type} (R:α→β→Prop):List α→List β→Prop
 | [],[]=>True
 | a :: l,b :: m=>R a b∧L2 R l m
 | _,_=>False
def AkT (s s':List UInt8 × Sx):Prop:=s.1=s'.1∧Alk s'.2 s.2.2
def AkO (o o':OnC):Prop:=o.1=o'.1∧o.2.1.1=o'.2.1.1∧(o.2.1.1=true→Alk o'.2.1.2 o.2.1.2.2)∧o.2.2.1=o'.2.2.1∧L2 AkT o.2.2.2.1 o'.2.2.2.1
def AkS:(d d':Nat)→St d→St d'→Prop
 | 0,_,t,_=>Empty.elim t
 | _+1,0,_,t=>Empty.elim t
 | d+1,d'+1,t,t'=>t.1.1.1=t'.1.1.1∧t.1.2.1=t'.1.2.1∧t.1.2.2.1=t'.1.2.2.1∧t.1.2.2.2.1=t'.1.2.2.2.1∧L2 AkO t.1.2.2.2.2 t'.1.2.2.2.2∧L2 (AkS d d') t.2 t'.2
def AkV (v v':List UInt8 × Int × Pl):Prop:=v.1=v'.1∧v.2.1=v'.2.1
def AkC (d d':Nat) (c:ChX d) (c':ChX d'):Prop:=c.1.1=c'.1.1∧c.2.1=c'.2.1∧L2 AkV c.2.2.1 c'.2.2.1∧L2 (AkS d d') c.2.2.2 c'.2.2.2
/-- What may stand behind an on. -/
def Nxt (ts:List Tk):Prop:=∀ w r,ts=w :: r→lv w.2=0∧w.2≠wSet
theorem nxt_of {k:Nat} {s:List UInt8} {ts:List Tk} (h:lv s=0∧s≠wSet):Nxt ((k,s) :: ts):=fun w r e=>by
 injection e with e1 _
 rw [← e1];exact h
theorem ends_of {k:Nat} {s:List UInt8} {ts:List Tk} (h:lv s=0):Ends 1 ((k,s) :: ts):=fun w r e=>by
 injection e with e1 _
 rw [← e1]
 show lv s < 1
 omega
def setT (s:List UInt8 × Sx):List Tk:=(1,wSet) :: (1,s.1) :: (3,[61]) :: tkQ (exQ s.2)
theorem sets_at (fin:Pl):∀ (l:List (List UInt8 × Sx)) (acc:List (List UInt8 × Sx)) (r:RsC) (g:Nat) (ts:List Tk),l.all setF=true→(∀ s∈l,ClX s.2)→l.length < g→Nxt ts→AtT r ((l.map setT).flatten++ts)→
  ∃ l',(setsR fin g acc r).1=acc++l'∧L2 AkT l l'∧AtT (setsR fin g acc r).2 ts
 | [],acc,r,0,ts,_,_,hg,_,_=>by simp at hg
 | [],acc,r,g+1,ts,_,_,_,hn,h=>by
  have h:AtT r ts:=h
  have hi:isC wSet r=false:=by
   cases ts with
   | nil=>
    have:r.1=[]:=by simpa using h.1
    unfold isC
    rw [this];simp
   | cons w t=>
    obtain ⟨k,s⟩:=w
    rw [is_at h]
    exact decide_eq_false (hn _ _ rfl).2
  have e:setsR fin (g+1) acc r=(acc,r):=by
   show (if isC wSet r=true then _ else _)=_
   rw [if_neg (by rw [hi];decide)]
  rw [e]
  exact ⟨[],by simp,trivial,h⟩
 | s :: l,acc,r,0,ts,_,_,hg,_,_=>by simp at hg
 | s :: l,acc,r,g+1,ts,hf,hc,hg,hn,h=>by
  rw [List.all_cons,Bool.and_eq_true] at hf
  have hs:=hf.1
  unfold setF at hs
  rw [Bool.and_eq_true] at hs
  rw [List.map_cons,List.flatten_cons,List.append_assoc] at h
  have h:AtT r ((1,wSet) :: (1,s.1) :: (3,[61]) :: (tkQ (exQ s.2)++((l.map setT).flatten++ts))):=h
  have hi:isC wSet r=true:=by rw [is_at h,decide_eq_true rfl]
  have a1:=take_at h fin
  obtain ⟨n1,a2⟩:=name_at a1 hs.1 fin
  have a3:=take_at a2 fin
  have hE:Ends 1 ((l.map setT).flatten++ts):=by
   cases l with
   | nil=>exact fun w r e=>by have:=(hn w r e).1;omega
   | cons z l=>exact ends_of (by decide)
  obtain ⟨n2,a4⟩:=expr_at a3 (hc s List.mem_cons_self) hs.2 hE fin
  obtain ⟨l',e1,e2,e3⟩:=sets_at fin l (acc++[((nameR fin (takeR fin wSet r)).1.1,(exprR fin (takeR fin [61] (nameR fin (takeR fin wSet r)).2)).1)]) _ g ts hf.2 (fun x hx=>hc x (List.mem_cons_of_mem _ hx)) (by simp at hg;omega) hn a4
  have e:setsR fin (g+1) acc r=setsR fin g (acc++[((nameR fin (takeR fin wSet r)).1.1,(exprR fin (takeR fin [61] (nameR fin (takeR fin wSet r)).2)).1)]) (exprR fin (takeR fin [61] (nameR fin (takeR fin wSet r)).2)).2:=by
   show (if isC wSet r=true then _ else _)=_
   rw [if_pos hi]
  rw [e]
  refine ⟨((nameR fin (takeR fin wSet r)).1.1,(exprR fin (takeR fin [61] (nameR fin (takeR fin wSet r)).2)).1) :: l',?_,⟨⟨n1.symm,n2⟩,e2⟩,e3⟩
  rw [e1];simp
theorem tkQ_tb:∀ n,tkQ (tbQ n)=[]
 | 0=>rfl
 | n+1=>tkQ_tb n
theorem tkQ_flat {α:Type} {f:α→List Pq} {g:α→List Tk} (h:∀ x,tkQ (f x)=g x):∀ l:List α,tkQ ((l.map f).flatten)=(l.map g).flatten
 | []=>rfl
 | x :: l=>by rw [List.map_cons,List.flatten_cons,tkQ_app,h x,tkQ_flat h l];rfl
theorem len_flat {α:Type} {g:α→List Tk} (h:∀ x,1≤(g x).length):∀ l:List α,l.length≤((l.map g).flatten).length
 | []=>by simp
 | x :: l=>by
  have:=len_flat h l
  have:=h x
  rw [List.map_cons,List.flatten_cons,List.length_append,List.length_cons]
  omega
theorem tkQ_set (s:List UInt8 × Sx):tkQ (setQ s)=setT s:=by
 unfold setQ
 rw [tkQ_app];rfl
def grdT (g:Bool × Sx):List Tk:=if g.1=true then (1,wIf) :: tkQ (exQ g.2) else []
def onT (o:OnC):List Tk:=(1,wOn) :: (1,o.1) :: (grdT o.2.1++((1,wGo) :: (1,o.2.2.1) :: (o.2.2.2.1.map setT).flatten))
theorem tkQ_on (n:Nat) (o:OnC):tkQ (onQ n o)=onT o:=by
 have hg:tkQ (grdQ o.2.1)=grdT o.2.1:=by
  unfold grdQ grdT
  split
  ·rw [tkQ_app];rfl
  ·rfl
 unfold onQ onT
 rw [tkQ_app,tkQ_tb,List.nil_append,tkQ_app,tkQ_app,hg,tkQ_app,tkQ_app,tkQ_flat tkQ_set]
 show [(1,wOn),(1,o.1)]++(grdT o.2.1++([(1,wGo),(1,o.2.2.1)]++((o.2.2.2.1.map setT).flatten++[])))=_
 rw [List.append_nil];rfl
theorem on_at {r:RsC} {o:OnC} {ts:List Tk} (h:AtT r (onT o++ts)) (hf:onF o=true) (hc:OnCl o) (hn:Nxt ts) (fin:Pl):AkO o (onR fin r).1∧AtT (onR fin r).2 ts:=by
 obtain ⟨h1,h2,h3,h4⟩:=onF_parts hf
 have h:AtT r ((1,wOn) :: (1,o.1) :: (grdT o.2.1++((1,wGo) :: (1,o.2.2.1) :: (o.2.2.2.1.map setT).flatten)++ts)):=h
 have a1:=take_at h fin
 obtain ⟨n1,a2⟩:=name_at a1 h1 fin
 obtain ⟨R2,hR2⟩:∃ x,nameR fin (takeR fin wOn r)=x:=⟨_,rfl⟩
 rw [hR2] at n1 a2
 rw [List.append_assoc] at a2
 obtain ⟨G,hG⟩:∃ g:(Bool × Sx) × RsC,(if isC wIf R2.2=true then ((fun x=>((true,x.1),x.2)) (exprR fin (takeR fin wIf R2.2))) else ((false,noX),R2.2))=g:=⟨_,rfl⟩
 have hGp:o.2.1.1=G.1.1∧(o.2.1.1=true→Alk G.1.2 o.2.1.2.2)∧AtT G.2 ((1,wGo) :: (1,o.2.2.1) :: ((o.2.2.2.1.map setT).flatten++ts)):=by
  cases hb:o.2.1.1 with
  | true=>
   have e:grdT o.2.1=(1,wIf) :: tkQ (exQ o.2.1.2):=by unfold grdT;rw [if_pos hb]
   rw [e] at a2
   have a2:AtT R2.2 ((1,wIf) :: (tkQ (exQ o.2.1.2)++((1,wGo) :: (1,o.2.2.1) :: ((o.2.2.2.1.map setT).flatten++ts)))):=a2
   have hi:isC wIf R2.2=true:=by rw [is_at a2,decide_eq_true rfl]
   rw [if_pos hi] at hG
   obtain ⟨n2,a3⟩:=expr_at (take_at a2 fin) (hc.1 hb) (h2 hb) (ends_of (by decide)) fin
   rw [← hG]
   exact ⟨rfl,fun _=>n2,a3⟩
  | false=>
   have e:grdT o.2.1=[]:=by unfold grdT;rw [if_neg (by rw [hb];decide)]
   rw [e] at a2
   have a2:AtT R2.2 ((1,wGo) :: (1,o.2.2.1) :: ((o.2.2.2.1.map setT).flatten++ts)):=a2
   have hi:isC wIf R2.2=false:=by rw [is_at a2];decide
   rw [if_neg (by rw [hi];decide)] at hG
   rw [← hG]
   exact ⟨rfl,fun q=>absurd q (by decide),a2⟩
 obtain ⟨g1,g2,g3⟩:=hGp
 have a4:=take_at g3 fin
 obtain ⟨n3,a5⟩:=name_at a4 h3 fin
 obtain ⟨R5,hR5⟩:∃ x,nameR fin (takeR fin wGo G.2)=x:=⟨_,rfl⟩
 rw [hR5] at n3 a5
 have hlen:o.2.2.2.1.length < R5.2.1.length+1:=by
  have e1:(R5.2.1.map tkW).length=((o.2.2.2.1.map setT).flatten++ts).length:=by rw [a5.1]
  have e2:=len_flat (g:=setT) (fun x=>by unfold setT;simp) o.2.2.2.1
  rw [List.length_map,List.length_append] at e1
  omega
 obtain ⟨l',s1,s2,s3⟩:=sets_at fin o.2.2.2.1 [] R5.2 (R5.2.1.length+1) ts h4 hc.2 hlen hn a5
 have e:onR fin r=((R2.1.1,G.1,R5.1.1,(setsR fin (R5.2.1.length+1) [] R5.2).1,R2.1.2),(setsR fin (R5.2.1.length+1) [] R5.2).2):=by
  unfold onR
  simp only
  rw [hR2,hG,hR5]
 rw [e]
 refine ⟨⟨n1.symm,g1,g2,n3.symm,?_⟩,s3⟩
 show L2 AkT o.2.2.2.1 (setsR fin (R5.2.1.length+1) [] R5.2).1
 rw [s1]
 exact s2
theorem val_dc {n:Int} (h:0≤n):valB 0 (dcN n)=n:=by
 unfold dcN
 rw [dd_val n.toNat n.toNat (Nat.le_refl _)]
 omega
/-- No word that tells a state's kind. -/
def Knd (ts:List Tk):Prop:=∀ w r,ts=w :: r→w.2≠wAll∧w.2≠wEnd∧w.2≠wDo
theorem is_not {r:RsC} {ts:List Tk} (h:AtT r ts) {s:List UInt8} (hn:∀ w t,ts=w :: t→w.2≠s):isC s r=false:=by
 cases ts with
 | nil=>
  have:r.1=[]:=by simpa using h.1
  unfold isC
  rw [this];simp
 | cons w t=>
  obtain ⟨k,s⟩:=w
  rw [is_at h]
  exact decide_eq_false (hn _ _ rfl)
def kndT (h:HdC):List Tk:=
 if h.2.1.1=true then [(1,wAll)] else if h.2.1.2=true then [(1,wEnd)] else
 if h.2.2.1.1≠[] then [(1,wDo),(1,h.2.2.1.1),(1,wUndo),(1,h.2.2.1.2),(1,wAt),(2,dcN h.2.2.2.1.1),(1,wRetries),(2,dcN h.2.2.2.1.2)] else []
theorem tkQ_knd (n:Nat) (h:HdC):tkQ (kndQ n h)=kndT h:=by
 unfold kndQ kndT
 split
 ·rw [tkQ_app,tkQ_tb];rfl
 ·split
  ·rw [tkQ_app,tkQ_tb];rfl
  ·split
   ·rw [tkQ_app,tkQ_tb];rfl
   ·rfl
theorem step_no {h:HdC} (hs:stepB h=false):h.2.2.1=([],[])∧h.2.2.2.1=(0,0):=by
 unfold stepB at hs
 simp only [Bool.not_eq_false',Bool.and_eq_true,decide_eq_true_eq] at hs
 obtain ⟨⟨⟨a,b⟩,c⟩,d⟩:=hs
 exact ⟨Prod.ext a b,Prod.ext c d⟩
theorem kind_at {r:RsC} {h:HdC} {ts:List Tk} (ha:AtT r (kndT h++ts)) (hf:kndF h=true) (hk:Knd ts) (fin:Pl):(kindR fin r).1=(h.2.1,h.2.2.1,h.2.2.2.1)∧AtT (kindR fin r).2 ts:=by
 unfold kndT at ha
 by_cases hA:h.2.1.1=true
 ·rw [if_pos hA] at ha
  have ha:AtT r ((1,wAll) :: ts):=ha
  have hs:stepB h=false:=by
   cases hb:stepB h with
   | false=>rfl
   | true=>have:=(kndF_step hf hb).1;rw [hA] at this;cases this
  obtain ⟨s1,s2⟩:=step_no hs
  have hE:h.2.1.2=false:=by
   unfold kndF at hf
   rw [hs,if_neg (by decide),hA] at hf
   simpa using hf
  unfold kindR
  rw [if_pos (by rw [is_at ha,decide_eq_true rfl])]
  refine ⟨?_,take_at ha fin⟩
  rw [s1,s2]
  exact Prod.ext (Prod.ext hA.symm hE.symm) rfl
 ·rw [if_neg hA] at ha
  have hA:h.2.1.1=false:=by simpa using hA
  by_cases hE:h.2.1.2=true
  ·rw [if_pos hE] at ha
   have ha:AtT r ((1,wEnd) :: ts):=ha
   have hs:stepB h=false:=by
    cases hb:stepB h with
    | false=>rfl
    | true=>have:=(kndF_step hf hb).2.1;rw [hE] at this;cases this
   obtain ⟨s1,s2⟩:=step_no hs
   unfold kindR
   rw [if_neg (by rw [is_at ha];decide),if_pos (by rw [is_at ha,decide_eq_true rfl])]
   refine ⟨?_,take_at ha fin⟩
   rw [s1,s2]
   exact Prod.ext (Prod.ext hA.symm hE.symm) rfl
  ·rw [if_neg hE] at ha
   have hE:h.2.1.2=false:=by simpa using hE
   by_cases hD:h.2.2.1.1≠[]
   ·rw [if_pos hD] at ha
    obtain ⟨_,_,h3,h4,h5,h6⟩:=kndF_step hf (step_do hD)
    have ha:AtT r ((1,wDo) :: (1,h.2.2.1.1) :: (1,wUndo) :: (1,h.2.2.1.2) :: (1,wAt) :: (2,dcN h.2.2.2.1.1) :: (1,wRetries) :: (2,dcN h.2.2.2.1.2) :: ts):=ha
    unfold kindR
    rw [if_neg (by rw [is_at ha];decide),if_neg (by rw [is_at ha];decide),if_pos (by rw [is_at ha,decide_eq_true rfl])]
    simp only
    have a1:=take_at ha fin
    obtain ⟨n1,a2⟩:=name_at a1 h3 fin
    have a3:=take_at a2 fin
    obtain ⟨n2,a4⟩:=name_at a3 h4 fin
    have a5:=take_at a4 fin
    obtain ⟨n3,a6⟩:=num_at a5 fin
    have a7:=take_at a6 fin
    obtain ⟨n4,a8⟩:=num_at a7 fin
    rw [val_dc (nb_of h5).1] at n3
    rw [val_dc (nb_of h6).1] at n4
    refine ⟨?_,a8⟩
    rw [n1,n2,n3,n4]
    exact Prod.ext (Prod.ext hA.symm hE.symm) rfl
   ·rw [if_neg hD] at ha
    have ha:AtT r ts:=ha
    have hD:h.2.2.1.1=[]:=by simpa using hD
    have hs:stepB h=false:=by
     cases hb:stepB h with
     | false=>rfl
     | true=>
      have:=plain_name (kndF_step hf hb).2.2.1
      rw [hD] at this
      revert this;decide
    obtain ⟨s1,s2⟩:=step_no hs
    unfold kindR
    rw [if_neg (by rw [is_not ha (fun w t e=>(hk w t e).1)];decide),if_neg (by rw [is_not ha (fun w t e=>(hk w t e).2.1)];decide),if_neg (by rw [is_not ha (fun w t e=>(hk w t e).2.2)];decide)]
    refine ⟨?_,ha⟩
    rw [s1,s2]
    exact Prod.ext (Prod.ext hA.symm hE.symm) rfl
theorem len_le_at {r:RsC} {ts:List Tk} (h:AtT r ts):r.1.length=ts.length:=by rw [← h.1,List.length_map]
section
variable {α β:Type} (fin:Pl) (inner:RsC→α × RsC) (f:β→List Tk) (R:β→α→Prop)
theorem ins_at (ts:List Tk):∀ (ss:List β) (g:Nat) (os:List OnC) (acc:List α) (r:RsC),(∀ x∈ss,(∃ u,f x=(1,wState) :: u)∧∀ r' ts',AtT r' (f x++ts')→R x (inner r').1∧AtT (inner r').2 ts')→ss.length < g→AtT r ((ss.map f).flatten++(3,[125]) :: ts)→
  ∃ ss',(inR fin inner g os acc r).1=(os,acc++ss')∧L2 R ss ss'∧AtT (inR fin inner g os acc r).2 ((3,[125]) :: ts)
 | _,0,_,_,_,_,hg,_=>by omega
 | [],g+1,os,acc,r,_,_,h=>by
  have h:AtT r ((3,[125]) :: ts):=h
  have e:inR fin inner (g+1) os acc r=((os,acc),r):=by
   show (if r.2.2=0∧isC [125] r=false then _ else _)=_
   rw [if_neg (fun q=>by have:=q.2;rw [is_at h,decide_eq_true rfl] at this;cases this)]
  rw [e]
  exact ⟨[],by simp,trivial,h⟩
 | x :: ss,g+1,os,acc,r,hi,hg,h=>by
  obtain ⟨⟨u,hu⟩,hx⟩:=hi x List.mem_cons_self
  rw [List.map_cons,List.flatten_cons,List.append_assoc] at h
  obtain ⟨h1,h2⟩:=hx r _ h
  have h':=h
  rw [hu] at h'
  have h':AtT r ((1,wState) :: (u++((ss.map f).flatten++(3,[125]) :: ts))):=h'
  have e:inR fin inner (g+1) os acc r=inR fin inner g os (acc++[(inner r).1]) (inner r).2:=by
   show (if r.2.2=0∧isC [125] r=false then _ else _)=_
   rw [if_pos ⟨h.2,by rw [is_at h'];decide⟩,if_neg (by rw [is_at h'];decide)]
  obtain ⟨ss',e1,e2,e3⟩:=ins_at ts ss g os (acc++[(inner r).1]) (inner r).2 (fun y hy=>hi y (List.mem_cons_of_mem _ hy)) (by simp at hg;omega) h2
  rw [e]
  exact ⟨(inner r).1 :: ss',by rw [e1];simp,⟨h1,e2⟩,e3⟩
theorem in_at (ts:List Tk) (ss:List β) (hi:∀ x∈ss,(∃ u,f x=(1,wState) :: u)∧∀ r' ts',AtT r' (f x++ts')→R x (inner r').1∧AtT (inner r').2 ts'):∀ (ol:List OnC) (g:Nat) (os:List OnC) (acc:List α) (r:RsC),ol.all onF=true→(∀ o∈ol,OnCl o)→ol.length+ss.length < g→AtT r ((ol.map onT).flatten++((ss.map f).flatten++(3,[125]) :: ts))→
  ∃ ol' ss',(inR fin inner g os acc r).1=(os++ol',acc++ss')∧L2 AkO ol ol'∧L2 R ss ss'∧AtT (inR fin inner g os acc r).2 ((3,[125]) :: ts)
 | [],g,os,acc,r,_,_,hg,h=>by
  obtain ⟨ss',e1,e2,e3⟩:=ins_at fin inner f R ts ss g os acc r hi (by simpa using hg) h
  exact ⟨[],ss',by rw [e1];simp,trivial,e2,e3⟩
 | o :: ol,0,os,acc,r,_,_,hg,_=>by omega
 | o :: ol,g+1,os,acc,r,hf,hc,hg,h=>by
  rw [List.all_cons,Bool.and_eq_true] at hf
  rw [List.map_cons,List.flatten_cons,List.append_assoc] at h
  have hn:Nxt ((ol.map onT).flatten++((ss.map f).flatten++(3,[125]) :: ts)):=by
   cases ol with
   | cons o2 ol=>exact nxt_of (by decide)
   | nil=>
    cases ss with
    | nil=>exact nxt_of (by decide)
    | cons x ss=>
     obtain ⟨⟨u,hu⟩,_⟩:=hi x List.mem_cons_self
     rw [List.map_cons,List.flatten_cons,hu]
     exact nxt_of (by decide)
  obtain ⟨h1,h2⟩:=on_at h hf.1 (hc o List.mem_cons_self) hn fin
  have h':AtT r ((1,wOn) :: ((1,o.1) :: (grdT o.2.1++((1,wGo) :: (1,o.2.2.1) :: (o.2.2.2.1.map setT).flatten))++((ol.map onT).flatten++((ss.map f).flatten++(3,[125]) :: ts)))):=h
  have e:inR fin inner (g+1) os acc r=inR fin inner g (os++[(onR fin r).1]) acc (onR fin r).2:=by
   show (if r.2.2=0∧isC [125] r=false then _ else _)=_
   rw [if_pos ⟨h.2,by rw [is_at h'];decide⟩,if_pos (by rw [is_at h',decide_eq_true rfl])]
  obtain ⟨ol',ss',e1,e2,e3,e4⟩:=in_at ts ss hi ol g (os++[(onR fin r).1]) acc (onR fin r).2 hf.2 (fun y hy=>hc y (List.mem_cons_of_mem _ hy)) (by simp at hg;omega) h2
  rw [e]
  exact ⟨(onR fin r).1 :: ol',ss',by rw [e1];simp,⟨h1,e2⟩,e3,e4⟩
end
def stT:(d:Nat)→St d→List Tk
 | 0,t=>Empty.elim t
 | d+1,t=>(1,wState) :: (1,t.1.1.1) :: (3,[123]) :: (kndT t.1++((t.1.2.2.2.2.map onT).flatten++((t.2.map (stT d)).flatten++[(3,[125])])))
theorem tkQ_st:∀ (d n:Nat) (t:St d),tkQ (stQ d n t)=stT d t
 | 0,_,t=>Empty.elim t
 | d+1,n,t=>by
  show tkQ (tbQ n++([kwQ wState,spQ,kwQ t.1.1.1,spQ,sgQ 123,nlQ]++(kndQ (n+1) t.1++((t.1.2.2.2.2.map (onQ (n+1))).flatten++((t.2.map (stQ d (n+1))).flatten++(tbQ n++[sgQ 125,nlQ]))))))=_
  rw [tkQ_app,tkQ_tb,List.nil_append,tkQ_app,tkQ_app,tkQ_knd,tkQ_app,tkQ_flat (tkQ_on (n+1)),tkQ_app,tkQ_flat (tkQ_st d (n+1)),tkQ_app,tkQ_tb]
  rfl
theorem knd_of {k:Nat} {s:List UInt8} {ts:List Tk} (h:s≠wAll∧s≠wEnd∧s≠wDo):Knd ((k,s) :: ts):=fun w r e=>by
 injection e with e1 _
 rw [← e1];exact h
theorem st_at (fin:Pl):∀ (d n:Nat) (t:St d),stF d n t=true→StCl d t→∀ k,k+n=7→∀ (r:RsC) (ts:List Tk),AtT r (stT d t++ts)→AkS d (k+1) t (stR fin k r).1∧AtT (stR fin k r).2 ts
 | 0,_,t,_,_=>Empty.elim t
 | d+1,n,t,hf,hc=>fun k hk r ts h=>by
  obtain ⟨h1,h2,h3,h4,h5⟩:=stF_parts hf
  obtain ⟨k,rfl⟩:∃ k',k=k'+1:=⟨k - 1,by omega⟩
  rw [List.all_eq_true] at h5
  have h:AtT r ((1,wState) :: (1,t.1.1.1) :: (3,[123]) :: ((kndT t.1++((t.1.2.2.2.2.map onT).flatten++((t.2.map (stT d)).flatten++[(3,[125])])))++ts)):=h
  have a1:=take_at h fin
  obtain ⟨n1,a2⟩:=name_at a1 h2 fin
  have a3:=take_at a2 fin
  rw [List.append_assoc,List.append_assoc,List.append_assoc] at a3
  have hK:Knd ((t.1.2.2.2.2.map onT).flatten++((t.2.map (stT d)).flatten++([(3,[125])]++ts))):=by
   cases ho:t.1.2.2.2.2 with
   | cons o ol=>exact knd_of (by decide)
   | nil=>
    cases hi:t.2 with
    | nil=>exact knd_of (by decide)
    | cons x l=>
     cases d with
     | zero=>exact Empty.elim x
     | succ d=>exact knd_of (by decide)
  obtain ⟨n2,a4⟩:=kind_at a3 h3 hK fin
  have hlen:t.1.2.2.2.2.length+t.2.length < (kindR fin (takeR fin [123] (nameR fin (takeR fin wState r)).2)).2.1.length+1:=by
   rw [len_le_at a4,List.length_append,List.length_append]
   have e1:=len_flat (g:=onT) (fun x=>by unfold onT;simp) t.1.2.2.2.2
   have e2:=len_flat (g:=stT d) (fun x=>by
    cases d with
    | zero=>exact Empty.elim x
    | succ d=>show 1≤((1,wState) :: _).length;simp) t.2
   omega
  obtain ⟨ol',ss',e1,e2,e3,e4⟩:=in_at fin (stR fin k) (stT d) (AkS d (k+1)) ts t.2 (fun x hx=>⟨by
    cases d with
    | zero=>exact Empty.elim x
    | succ d=>exact ⟨_,rfl⟩,fun r' ts' hr=>st_at fin d (n+1) x (h5 x hx) (hc.2 x hx) k (by omega) r' ts' hr⟩) t.1.2.2.2.2 _ [] [] _ h4 hc.1 hlen a4
  have e:stR fin (k+1) r=((((nameR fin (takeR fin wState r)).1,(kindR fin (takeR fin [123] (nameR fin (takeR fin wState r)).2)).1.1,(kindR fin (takeR fin [123] (nameR fin (takeR fin wState r)).2)).1.2.1,(kindR fin (takeR fin [123] (nameR fin (takeR fin wState r)).2)).1.2.2,(inR fin (stR fin k) ((kindR fin (takeR fin [123] (nameR fin (takeR fin wState r)).2)).2.1.length+1) [] [] (kindR fin (takeR fin [123] (nameR fin (takeR fin wState r)).2)).2).1.1),(inR fin (stR fin k) ((kindR fin (takeR fin [123] (nameR fin (takeR fin wState r)).2)).2.1.length+1) [] [] (kindR fin (takeR fin [123] (nameR fin (takeR fin wState r)).2)).2).1.2),takeR fin [125] (inR fin (stR fin k) ((kindR fin (takeR fin [123] (nameR fin (takeR fin wState r)).2)).2.1.length+1) [] [] (kindR fin (takeR fin [123] (nameR fin (takeR fin wState r)).2)).2).2):=rfl
  rw [e]
  refine ⟨?_,take_at e4 fin⟩
  refine ⟨n1.symm,?_,?_,?_,?_,?_⟩
  ·show t.1.2.1=(kindR fin _).1.1
   rw [n2]
  ·show t.1.2.2.1=(kindR fin _).1.2.1
   rw [n2]
  ·show t.1.2.2.2.1=(kindR fin _).1.2.2
   rw [n2]
  ·show L2 AkO _ (inR fin _ _ _ _ _).1.1
   rw [e1];exact e2
  ·show L2 (AkS d (k+1)) _ (inR fin _ _ _ _ _).1.2
   rw [e1];exact e3
theorem sts_at (fin:Pl) (d:Nat) (ts:List Tk):∀ (l:List (St d)) (g:Nat) (acc:List (St 7)) (r:RsC),(∀ t∈l,stF d 1 t=true∧StCl d t)→l.length < g→AtT r ((l.map (stT d)).flatten++(3,[125]) :: ts)→
  ∃ l',(stsR fin g acc r).1=acc++l'∧L2 (AkS d 7) l l'∧AtT (stsR fin g acc r).2 ((3,[125]) :: ts)
 | _,0,_,_,_,hg,_=>by omega
 | [],g+1,acc,r,_,_,h=>by
  have h:AtT r ((3,[125]) :: ts):=h
  have e:stsR fin (g+1) acc r=(acc,r):=by
   show (if r.2.2=0∧isC [125] r=false then _ else _)=_
   rw [if_neg (fun q=>by have:=q.2;rw [is_at h,decide_eq_true rfl] at this;cases this)]
  rw [e]
  exact ⟨[],by simp,trivial,h⟩
 | x :: l,g+1,acc,r,hx,hg,h=>by
  rw [List.map_cons,List.flatten_cons,List.append_assoc] at h
  obtain ⟨h1,h2⟩:=st_at fin d 1 x (hx x List.mem_cons_self).1 (hx x List.mem_cons_self).2 6 rfl r _ h
  have hne:isC [125] r=false:=by
   cases d with
   | zero=>exact Empty.elim x
   | succ d=>
    have h':AtT r ((1,wState) :: ((1,x.1.1.1) :: (3,[123]) :: (kndT x.1++((x.1.2.2.2.2.map onT).flatten++((x.2.map (stT d)).flatten++[(3,[125])])))++((l.map (stT (d+1))).flatten++(3,[125]) :: ts))):=h
    rw [is_at h'];decide
  have e:stsR fin (g+1) acc r=stsR fin g (acc++[(stR fin 6 r).1]) (stR fin 6 r).2:=by
   show (if r.2.2=0∧isC [125] r=false then _ else _)=_
   rw [if_pos ⟨h.2,hne⟩]
  obtain ⟨l',e1,e2,e3⟩:=sts_at fin d ts l g (acc++[(stR fin 6 r).1]) (stR fin 6 r).2 (fun y hy=>hx y (List.mem_cons_of_mem _ hy)) (by simp at hg;omega) h2
  rw [e]
  exact ⟨(stR fin 6 r).1 :: l',by rw [e1];simp,⟨h1,e2⟩,e3⟩
def numT (n:Int):List Tk:=if n < 0 then [(3,[45]),(2,dcN (-n))] else [(2,dcN n)]
def varT (v:List UInt8 × Int × Pl):List Tk:=(1,wVar) :: (1,v.1) :: (3,[61]) :: numT v.2.1
theorem tkQ_var (v:List UInt8 × Int × Pl):tkQ (varQ v)=varT v:=by
 have hn:tkQ (nmQ v.2.1)=numT v.2.1:=by
  unfold nmQ numT
  split <;> rfl
 unfold varQ varT
 rw [tkQ_app,tkQ_tb,List.nil_append,tkQ_app,tkQ_app,hn]
 show [(1,wVar),(1,v.1),(3,[61])]++(numT v.2.1++[])=_
 rw [List.append_nil];rfl
theorem vars_at (fin:Pl) (ts:List Tk) (hn:∀ w t,ts=w :: t→w.2≠wVar):∀ (l:List (List UInt8 × Int × Pl)) (g:Nat) (acc:List (List UInt8 × Int × Pl)) (r:RsC),l.all varF=true→l.length < g→AtT r ((l.map varT).flatten++ts)→
  ∃ l',(varsR fin g acc r).1=acc++l'∧L2 AkV l l'∧AtT (varsR fin g acc r).2 ts
 | _,0,_,_,_,hg,_=>by omega
 | [],g+1,acc,r,_,_,h=>by
  have h:AtT r ts:=h
  have e:varsR fin (g+1) acc r=(acc,r):=by
   show (if isC wVar r=true then _ else _)=_
   rw [if_neg (by rw [is_not h hn];decide)]
  rw [e]
  exact ⟨[],by simp,trivial,h⟩
 | v :: l,g+1,acc,r,hf,hg,h=>by
  rw [List.all_cons,Bool.and_eq_true] at hf
  have hv:=hf.1
  unfold varF at hv
  rw [Bool.and_eq_true,decide_eq_true_eq] at hv
  rw [List.map_cons,List.flatten_cons,List.append_assoc] at h
  have h:AtT r ((1,wVar) :: (1,v.1) :: (3,[61]) :: (numT v.2.1++((l.map varT).flatten++ts))):=h
  have a1:=take_at h fin
  obtain ⟨n1,a2⟩:=name_at a1 hv.1 fin
  have a3:=take_at a2 fin
  obtain ⟨B,hB⟩:∃ x,takeR fin [61] (nameR fin (takeR fin wVar r)).2=x:=⟨_,rfl⟩
  rw [hB] at a3
  obtain ⟨N,hN⟩:∃ x:Int × RsC,(if isC [45] B=true then (fun x=>(-x.1,x.2)) (numR fin (takeR fin [45] B)) else numR fin B)=x:=⟨_,rfl⟩
  have hNp:N.1=v.2.1∧AtT N.2 ((l.map varT).flatten++ts):=by
   unfold numT at a3
   by_cases hz:v.2.1 < 0
   ·rw [if_pos hz] at a3
    have a3:AtT B ((3,[45]) :: (2,dcN (-v.2.1)) :: ((l.map varT).flatten++ts)):=a3
    rw [if_pos (by rw [is_at a3,decide_eq_true rfl])] at hN
    obtain ⟨n2,a4⟩:=num_at (take_at a3 fin) fin
    rw [val_dc (by omega)] at n2
    rw [← hN]
    exact ⟨by show -(numR fin (takeR fin [45] B)).1=_;rw [n2];omega,a4⟩
   ·rw [if_neg hz] at a3
    have a3:AtT B ((2,dcN v.2.1) :: ((l.map varT).flatten++ts)):=a3
    have hne:isC [45] B=false:=by
     rw [is_at a3]
     refine decide_eq_false (fun q=>?_)
     have:=num_dc (n:=v.2.1) (by omega) (by omega)
     rw [q] at this
     revert this;decide
    rw [if_neg (by rw [hne];decide)] at hN
    obtain ⟨n2,a4⟩:=num_at a3 fin
    rw [val_dc (by omega)] at n2
    rw [← hN]
    exact ⟨n2,a4⟩
  have e:varsR fin (g+1) acc r=varsR fin g (acc++[((nameR fin (takeR fin wVar r)).1.1,N.1,(nameR fin (takeR fin wVar r)).1.2)]) N.2:=by
   show (if isC wVar r=true then _ else _)=_
   rw [if_pos (by rw [is_at h,decide_eq_true rfl])]
   simp only
   rw [hB,hN]
  obtain ⟨l',e1,e2,e3⟩:=vars_at fin ts hn l g (acc++[((nameR fin (takeR fin wVar r)).1.1,N.1,(nameR fin (takeR fin wVar r)).1.2)]) N.2 hf.2 (by simp at hg;omega) hNp.2
  rw [e]
  exact ⟨((nameR fin (takeR fin wVar r)).1.1,N.1,(nameR fin (takeR fin wVar r)).1.2) :: l',by rw [e1];simp,⟨⟨n1.symm,hNp.1.symm⟩,e2⟩,e3⟩
def chT (d:Nat) (c:ChX d):List Tk:=(1,wChart) :: (1,c.1.1) :: (2,dcN c.2.1) :: (3,[123]) :: ((c.2.2.1.map varT).flatten++((c.2.2.2.map (stT d)).flatten++[(3,[125])]))
theorem tkQ_ch (d:Nat) (c:ChX d):tkQ (chQ d c)=chT d c:=by
 unfold chQ chT
 rw [tkQ_app,tkQ_app,tkQ_flat tkQ_var,tkQ_app,tkQ_flat (tkQ_st d 1)]
 rfl
theorem ch_at {d:Nat} {c:ChX d} (hf:chF d c=true) (hc:∀ t∈c.2.2.2,StCl d t) (fin:Pl) {ws:List Wd} (h:ws.map tkW=chT d c):∃ c',chR fin ws=(c',(0,0),0)∧AkC d 7 c c':=by
 obtain ⟨h1,h2,h3,h4⟩:=chF_parts hf
 rw [List.all_eq_true] at h4
 have h:AtT (ws,(0,0),0) ((1,wChart) :: (1,c.1.1) :: (2,dcN c.2.1) :: (3,[123]) :: ((c.2.2.1.map varT).flatten++((c.2.2.2.map (stT d)).flatten++[(3,[125])]))):=⟨h,rfl⟩
 have a1:=take_at h fin
 obtain ⟨n1,a2⟩:=name_at a1 h1 fin
 obtain ⟨A,hA⟩:∃ x,nameR fin (takeR fin wChart (ws,(0,0),0))=x:=⟨_,rfl⟩
 rw [hA] at n1 a2
 obtain ⟨n2,a3⟩:=num_at a2 fin
 obtain ⟨N,hN⟩:∃ x,numR fin A.2=x:=⟨_,rfl⟩
 rw [hN] at n2 a3
 rw [val_dc (nb_of h2).1] at n2
 have a4:=take_at a3 fin
 obtain ⟨B,hB⟩:∃ x,takeR fin [123] N.2=x:=⟨_,rfl⟩
 rw [hB] at a4
 have hl1:c.2.2.1.length < B.1.length+1:=by
  rw [len_le_at a4,List.length_append]
  have e1:=len_flat (g:=varT) (fun x=>by unfold varT;simp) c.2.2.1
  omega
 obtain ⟨vl,v1,v2,v3⟩:=vars_at fin ((c.2.2.2.map (stT d)).flatten++[(3,[125])]) (fun w t e=>by
  cases hs:c.2.2.2 with
  | nil=>rw [hs] at e;injection e with e1 _;rw [← e1];show ([125]:List UInt8)≠wVar;decide
  | cons x l=>
   cases d with
   | zero=>exact Empty.elim x
   | succ d=>rw [hs] at e;injection e with e1 _;rw [← e1];show wState≠wVar;decide) c.2.2.1 (B.1.length+1) [] B h3 hl1 a4
 obtain ⟨V,hV⟩:∃ x,varsR fin (B.1.length+1) [] B=x:=⟨_,rfl⟩
 rw [hV] at v1 v3
 have hl2:c.2.2.2.length < V.2.1.length+1:=by
  rw [len_le_at v3,List.length_append]
  have e2:=len_flat (g:=stT d) (fun x=>by
   cases d with
   | zero=>exact Empty.elim x
   | succ d=>show 1≤((1,wState) :: _).length;simp) c.2.2.2
  omega
 obtain ⟨sl,s1,s2,s3⟩:=sts_at fin d [] c.2.2.2 (V.2.1.length+1) [] V.2 (fun t ht=>⟨h4 t ht,hc t ht⟩) hl2 v3
 obtain ⟨S,hS⟩:∃ x,stsR fin (V.2.1.length+1) [] V.2=x:=⟨_,rfl⟩
 rw [hS] at s1 s3
 have a5:=take_at s3 fin
 have hz:(takeR fin [125] S.2).1=[]:=by simpa using a5.1
 refine ⟨(A.1,N.1,V.1,S.1),?_,n1.symm,n2.symm,?_,?_⟩
 ·unfold chR
  simp only
  rw [hA,hN,hB,hV,hS]
  have hz2:(if (takeR fin [125] S.2).2.2=0∧(takeR fin [125] S.2).1≠[] then failC 12 (hereR fin (takeR fin [125] S.2)) (takeR fin [125] S.2) else takeR fin [125] S.2)=takeR fin [125] S.2:=if_neg (fun q=>q.2 hz)
  rw [hz2,if_pos a5.2]
 ·show L2 AkV _ V.1
  rw [v1];exact v2
 ·show L2 (AkS d 7) _ S.1
  rw [s1];exact s2
/-- What is printed is read, and alike but for places. -/
theorem read_printed {d:Nat} {c:ChX d} (hf:chF d c=true) (hc:∀ t∈c.2.2.2,StCl d t) (hl:(txQ (chQ d c)).length≤12000) (hn:(tkQ (chQ d c)).length≤3000):∃ c',readC (txQ (chQ d c))=(c',(0,0),0)∧AkC d 7 c c':=by
 have hw:=words_Q (fitQ_ch hf hc)
 rw [if_pos ⟨hl,hn⟩] at hw
 obtain ⟨h1,h2⟩:=er_words hw
 rw [tkQ_ch] at h2
 unfold readC
 rw [if_neg (by simpa using h1)]
 exact ch_at hf hc _ h2
end Go.Proofs.YtfjdceknbdmhpaaGreatDoor
/- awake of the laws of show; what a formed chart holds. -/
namespace Go.Proofs.YtfjdceknbdmhpaaGreatDoor
open Go.RowKit Go.Lib
set_option linter.unusedSimpArgs false
set_option linter.unusedVariables false
attribute [local go_sem ↓] Go.wp_at_zero Go.wp_at_succ
/-- The chart of awake. -/
def awCS:ChG 1:=(([97],(0,0)),1,[],[((([98],(0,0)),(false,true),([],[]),(0,0),[]),[])])
def awTS:List UInt8:=[99,104,97,114,116,32,97,32,49,32,123,10,9,115,116,97,116,101,32,98,32,123,10,9,9,101,110,100,10,9,125,10,125,10]
theorem awCS_pr:prG 1 awCS=(awTS,0):=by kernel_rfl
theorem awCS_k:ChK 1 awCS:=⟨by decide,fun x hx=>(by cases hx),fun t ht=>by
 rw [List.mem_singleton.1 ht]
 exact ⟨⟨by decide,by decide,by decide,fun o ho=>(by cases ho)⟩,fun x hx=>Empty.elim x⟩⟩
theorem awCS_cl:∀ t∈awCS.2.2.2,StCl 1 t:=fun t ht=>by
 rw [List.mem_singleton.1 ht]
 exact ⟨fun o ho=>(by cases ho),fun x hx=>Empty.elim x⟩
theorem awCS_rd (w:World):RdC (fun _=>True) (w.alloc (.cells #[.string ⟨#[98]⟩,.int .i64 0,.int .i64 0,.bool false,.bool true,.string ⟨#[]⟩,.string ⟨#[]⟩,.int .i64 0,.int .i64 0,.slice none 0 0,.slice none 0 0] 55)) 1 awCS (.agg #[.string ⟨#[97]⟩,.int .i64 1,.int .i64 0,.int .i64 0,.slice none 0 0,.slice (some ⟨w.heap.size,0,none⟩) 1 1]):=by
 have hX:Bn (w.alloc (.cells #[.string ⟨#[98]⟩,.int .i64 0,.int .i64 0,.bool false,.bool true,.string ⟨#[]⟩,.string ⟨#[]⟩,.int .i64 0,.int .i64 0,.slice none 0 0,.slice none 0 0] 55)) w.heap.size [.string ⟨#[98]⟩,.int .i64 0,.int .i64 0,.bool false,.bool true,.string ⟨#[]⟩,.string ⟨#[]⟩,.int .i64 0,.int .i64 0,.slice none 0 0,.slice none 0 0]:=Bn.new w [.string ⟨#[98]⟩,.int .i64 0,.int .i64 0,.bool false,.bool true,.string ⟨#[]⟩,.string ⟨#[]⟩,.int .i64 0,.int .i64 0,.slice none 0 0,.slice none 0 0] 55 _ rfl
 refine ⟨_,_,rfl,rdK_none _ _ _ _,some ⟨w.heap.size,0,none⟩,1,rfl,by decide,by decide,fun i hi=>?_⟩
 have hi0:i=0:=by
  have:i < 1:=hi
  omega
 subst hi0
 refine ⟨w.heap.size,0,[.string ⟨#[98]⟩,.int .i64 0,.int .i64 0,.bool false,.bool true,.string ⟨#[]⟩,.string ⟨#[]⟩,.int .i64 0,.int .i64 0,.slice none 0 0,.slice none 0 0],rfl,trivial,hX.lt,rfl,⟨_,_,rfl,rdK_none _ _ _ _,rdK_none _ _ _ _⟩,fun j u hu=>?_⟩
 have:=(hX j u hu).1
 simpa using this
set_option maxRecDepth 100000 in
set_option maxHeartbeats 4000000 in
theorem awakeS (w:World) (hp:Pow w):Calls Tryz.prog 18 #[] w fun e w'=>e=.returned (.bool true)∧Below w.heap.size w w':=by
 have hal:Below w.heap.size w (w.alloc (.cells #[.string ⟨#[98]⟩,.int .i64 0,.int .i64 0,.bool false,.bool true,.string ⟨#[]⟩,.string ⟨#[]⟩,.int .i64 0,.int .i64 0,.slice none 0 0,.slice none 0 0] 55)):=(Below.refl w.heap.size w).alloc (Nat.le_refl _) _
 have h1:=printC_any (awCS_rd w) awCS_k awCS_cl (hp.below hal)
 rw [awCS_pr] at h1
 go_enter Tryz.func18,Tryz.ntmps18
 go_wp2_with (first
  | (go_at_call 19;refine h1.mono ?_;rintro e w1 ⟨rfl,b1⟩)
  | fail)
 go_ret
 exact ⟨rfl,hal.trans (b1.mono hal.size)⟩
/-- What a formed chart holds. -/
theorem onK_of {o:OnC} (hf:onF o=true) (hc:OnCl o):OnK o:=by
 obtain ⟨f1,f2,f3,f4⟩:=onF_parts hf
 have q1:=plain_96 f1
 have q3:=plain_96 f3
 refine ⟨by omega,by omega,fun hg=>?_,fun s hs=>?_⟩
 ·have hx:=f2 hg
  have h2:fmX o.2.1.2=true∧plX o.2.1.2=true:=by unfold exF at hx;rwa [Bool.and_eq_true] at hx
  obtain ⟨u,y,e⟩:=fm_iface (hc.1 hg) h2.1
  exact ⟨ex_ok (hc.1 hg) hx,by have:=(fm_parts h2.1).1;unfold cntX;omega,by rw [e];exact fun q=>by cases q⟩
 ·have hs1:=List.all_eq_true.1 f4 s hs
  unfold setF at hs1
  rw [Bool.and_eq_true] at hs1
  have h2:fmX s.2=true∧plX s.2=true:=by have:=hs1.2;unfold exF at this;rwa [Bool.and_eq_true] at this
  have q5:=plain_96 hs1.1
  exact ⟨⟨by omega,ex_ok (hc.2 s hs) hs1.2⟩,by have:=(fm_parts h2.1).1;unfold cntX;omega⟩
theorem knd_len {h:HdC} (hf:kndF h=true):h.2.2.1.1.length≤140737488351232∧h.2.2.1.2.length≤140737488351232:=by
 cases hs:stepB h with
 | true=>
  obtain ⟨_,_,k3,k4,_,_⟩:=kndF_step hf hs
  have q3:=plain_96 k3
  have q4:=plain_96 k4
  omega
 | false=>
  obtain ⟨e1,_⟩:=step_no hs
  rw [e1]
  simp
theorem stK_of:∀ (d n:Nat) (t:St d),stF d n t=true→StCl d t→StK d t
 | 0,_,t,_,_=>Empty.elim t
 | d+1,n,t,h,hc=>by
  obtain ⟨h1,h2,h3,h4,h5⟩:=stF_parts h
  have q2:=plain_96 h2
  obtain ⟨k1,k2⟩:=knd_len h3
  exact ⟨⟨by omega,k1,k2,fun o ho=>onK_of (List.all_eq_true.1 h4 o ho) (hc.1 o ho)⟩,fun x hx=>stK_of d (n+1) x (List.all_eq_true.1 h5 x hx) (hc.2 x hx)⟩
theorem chK_of {d:Nat} {c:ChG d} (h:chF d c=true) (hc:∀ t∈c.2.2.2,StCl d t):ChK d c:=by
 obtain ⟨h1,h2,h3,h4⟩:=chF_parts h
 have q1:=plain_96 h1
 refine ⟨by omega,fun v hv=>?_,fun t ht=>stK_of d 1 t (List.all_eq_true.1 h4 t ht) (hc t ht)⟩
 have hv:=List.all_eq_true.1 h3 v hv
 unfold varF at hv
 simp only [Bool.and_eq_true,decide_eq_true_eq] at hv
 have q3:=plain_96 hv.1
 omega
end Go.Proofs.YtfjdceknbdmhpaaGreatDoor
