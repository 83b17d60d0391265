import Derived.Test.YtlgnahpfggagoaaGreatDoorWzc14
import Derived.Test.YtlgnahpfggagoaaGreatDoorWzc06
import Derived.Test.YtlgnahpfggagoaaGreatDoorWzc04
/- What the program's Take does. -/
namespace Go.Proofs.YtlgnahpfggagoaaGreatDoor
open Go.RowKit Go.Lib
set_option linter.unusedSimpArgs false
set_option linter.unusedVariables false
attribute [local go_sem ↓] Go.wp_at_zero Go.wp_at_succ
theorem rdr_start (w:World):Rdr (w.alloc (.cells #[.slice none 0 0,.slice none 0 0,.int .i64 0,.bool false] 215)) w.heap.size ⟨[],[],0,false⟩ (.slice none 0 0) (.slice none 0 0):=
 ⟨B4.new w _ _ _ _ _ _ rfl,World.ownsRow_nil _ _ _ _,World.ownsRow_nil _ _ _ _,fun g hg=>by simp [Value.ownBlock] at hg⟩
/-- What is told, out of what the two stacks tell. -/
def ofOut (r:Option Sx × Nat):Sx × Nat × Int:=match r.1 with | some x=>if fmX x=true then (x,r.2,0) else (noX,0,13) | none=>(noX,r.2,12)
theorem take_out {ws:List Wd}(h:∀ w∈ws,OneW w.1 w.2.1):takeC (ws.map tkW)=ofOut (rnY (leafY (valB 0) rsvB) (ws.map tkW) ⟨[],[],0,false⟩ 0)∧
  ∀ x n,rnY (leafY (valB 0) rsvB) (ws.map tkW) ⟨[],[],0,false⟩ 0=(some x,n)→Fine x∧cntX x≤n:=by
 have hy:=yard_psr (nb:=valB 0) (rsv:=rsvB) (l:=ws.map tkW) (good_all h) (f:=7*(ws.map tkW).length+6) (by omega)
 have hf:BadOr _ 0 (rdC (ws.map tkW)):=fine_read h _ 1 0 (by omega) (by omega)
 have e:psr (valB 0) rsvB (ws.map tkW) (7*(ws.map tkW).length+6) 1 0 (-1)=rdC (ws.map tkW):=rfl
 rw [e] at hy
 obtain ⟨O,hO⟩:∃ O,rnY (leafY (valB 0) rsvB) (ws.map tkW) ⟨[],[],0,false⟩ 0=O:=⟨_,rfl⟩
 rw [hO] at hy ⊢
 unfold takeC
 rcases hf with ⟨h1,h2⟩ | h1
 ·have hlt:(rdC (ws.map tkW)).2.2 < 0:=by rw [h1];decide
  rw [if_pos hlt] at hy
  subst hy
  rw [if_neg (by omega)]
  refine ⟨rfl,fun x n hx=>?_⟩
  simp only [Prod.mk.injEq,Option.some.injEq] at hx
  obtain ⟨rfl,rfl⟩:=hx
  exact ⟨h2.1,by have:=h2.2;omega⟩
 ·rw [if_neg (by omega)] at hy
  subst hy
  rw [if_pos h1]
  exact ⟨rfl,fun x n hx=>by simp at hx⟩
theorem celsW_at (ws:List Wd) (i:Nat) (h:i < ws.length):(celsW ws)[i*4]?=some (.int .i64 ((ws[i]).1:Int))∧(celsW ws)[i*4+1]?=some (.string (txt (ws[i]).2.1))∧(celsW ws)[i*4+2]?=some (.int .i64 (ws[i]).2.2.1)∧(celsW ws)[i*4+3]?=some (.int .i64 (ws[i]).2.2.2):=by
 induction ws generalizing i with
 | nil=>simp at h
 | cons x t ih=>
  cases i with
  | zero=>exact ⟨rfl,rfl,rfl,rfl⟩
  | succ k=>
   have hk:=ih k (by simpa using h)
   have e:∀ j,(celsW (x :: t))[(k+1)*4+j]?=(celsW t)[k*4+j]?:=fun j=>by
    show (celW x++celsW t)[(k+1)*4+j]?=_
    rw [List.getElem?_append_right (by simp [celW];omega)]
    congr 1
    simp [celW];omega
   exact ⟨(e 0).trans hk.1,(e 1).trans hk.2.1,(e 2).trans hk.2.2.1,(e 3).trans hk.2.2.2⟩
/-- Words in memory, read. -/
theorem ownW_rd {w:World}{base e:Nat}{v:Value}{ws:List Wd}(h:OwnW w base e v ws):∃ a cap,v=.slice a ws.length cap∧ws.length≤cap∧cap≤maxLen∧∀ (i:Nat) (hi:i < ws.length),∃ g,a=some ⟨g,0,none⟩∧g < w.heap.size∧w.cell? ⟨g,i*4,none⟩=some (.int .i64 ((ws[i]).1:Int))∧w.cell? ⟨g,i*4+1,none⟩=some (.string (txt (ws[i]).2.1))∧w.cell? ⟨g,i*4+2,none⟩=some (.int .i64 (ws[i]).2.2.1)∧w.cell? ⟨g,i*4+3,none⟩=some (.int .i64 (ws[i]).2.2.2):=by
 have hc:=fun g=>World.ownsRow.cells h (g:=g)
 rcases h.2 with ⟨h1,h2⟩ | ⟨g,cap,cur,rfl,hb,hg,h3,h4,_⟩
 ·exact ⟨none,0,by rw [h1,h2],by omega,by simp [maxLen],fun i hi=>by omega⟩
 ·refine ⟨_,_,rfl,h3,h4,fun i hi=>⟨g,rfl,(Array.getElem?_eq_some_iff.1 hg).1,?_⟩⟩
  obtain ⟨e0,e1,e2,e3⟩:=celsW_at ws i hi
  have c0:=hc g rfl _ _ e0
  have c1:=hc g rfl _ _ e1
  have c2:=hc g rfl _ _ e2
  have c3:=hc g rfl _ _ e3
  rw [addr_plain] at c0 c1 c2 c3
  exact ⟨c0,c1,c2,c3⟩
set_option maxRecDepth 100000 in
set_option maxHeartbeats 4000000 in
theorem pTake_rd {w:World}{a:Option Addr}{cap:Nat}{ws:List Wd}(q1:ws.length≤cap) (q2:cap≤maxLen) (hrd:∀ (i:Nat) (hi:i < ws.length),∃ g off,a=some ⟨g,off,none⟩∧g < w.heap.size∧w.cell? ⟨g,off+i*4,none⟩=some (.int .i64 ((ws[i]).1:Int))∧w.cell? ⟨g,off+i*4+1,none⟩=some (.string (txt (ws[i]).2.1))∧w.cell? ⟨g,off+i*4+2,none⟩=some (.int .i64 (ws[i]).2.2.1)∧w.cell? ⟨g,off+i*4+3,none⟩=some (.int .i64 (ws[i]).2.2.2)) (h1:∀ x∈ws,OneW x.1 x.2.1) (hl:ws.length≤3000) :
  Calls Tryz.prog 131 #[.slice a ws.length cap] w fun e w'=>e=.returned (.tuple #[exX (takeC (ws.map tkW)).1,.int .i64 ((takeC (ws.map tkW)).2.1:Int),.int .i64 (takeC (ws.map tkW)).2.2])∧Below w.heap.size w w':=by
 obtain ⟨ht1,ht2⟩:=take_out h1
 rw [ht1]
 obtain ⟨OUT,hO⟩:∃ OUT,rnY (leafY (valB 0) rsvB) (ws.map tkW) ⟨[],[],0,false⟩ 0=OUT:=⟨_,rfl⟩
 rw [hO] at ht2 ⊢
 have hO0:Hid (rnY (leafY (valB 0) rsvB) (ws.map tkW) ⟨[],[],0,false⟩ 0=OUT):=hO
 have HT:Hid (∀ x n,OUT=(some x,n)→Fine x∧cntX x≤n):=ht2
 have HR:Hid (∀ (i:Nat) (hi:i < ws.length),∃ g off,a=some ⟨g,off,none⟩∧g < w.heap.size∧w.cell? ⟨g,off+i*4,none⟩=some (.int .i64 ((ws[i]).1:Int))∧w.cell? ⟨g,off+i*4+1,none⟩=some (.string (txt (ws[i]).2.1))∧w.cell? ⟨g,off+i*4+2,none⟩=some (.int .i64 (ws[i]).2.2.1)∧w.cell? ⟨g,off+i*4+3,none⟩=some (.int .i64 (ws[i]).2.2.2)):=hrd
 have H1:Hid (∀ x∈ws,OneW x.1 x.2.1):=h1
 clear hrd h1 ht1 ht2 hO
 have hs:=rdr_start w
 have hb0:Below w.heap.size w (w.alloc (.cells #[.slice none 0 0,.slice none 0 0,.int .i64 0,.bool false] 215)):=(Below.refl _ _).alloc (Nat.le_refl _) _
 go_enter Tryz.func131,Tryz.ntmps131
 go_wp2
 go_loopw [6] (fun v wr=>∃ (n:Nat) (y:Yd) (vv ww:Value),v=.int .i64 (n:Int)∧n≤ws.length∧Rdr wr w.heap.size y vv ww∧InvY y n∧Hid (rnY (leafY (valB 0) rsvB) (ws.map tkW) y n=OUT)∧Below w.heap.size w wr) (fun v _=>ws.length - (RowKit.intOf v).toNat)
 case atStart=>exact ⟨0,_,_,_,rfl,Nat.zero_le _,hs,inv_start,hO0,hb0⟩
 case round=>
  obtain ⟨n,y,vv,ww,rfl,hn,hr,hi,ho,hb⟩:=hrel
  have i2:(0:Int)≤(n:Int):=by omega
  clear hs hb0 hO0
  by_cases hlt:n < ws.length
  ·have i1:(n:Int) < (ws.length:Int):=by omega
   obtain ⟨g,off,rfl,hg,c0,c1,c2,c3⟩:=HR.out n hlt
   have h1n:=H1.out ws[n] (List.getElem_mem hlt)
   have hget:(ws.map tkW)[n]?=some (tkW ws[n]):=by rw [List.getElem?_map,List.getElem?_eq_getElem hlt];rfl
   have d0:=(hb.cell (p:=⟨g,off+n*4,none⟩) hg).trans c0
   have d1:=(hb.cell (p:=⟨g,off+n*4+1,none⟩) hg).trans c1
   have d2:=(hb.cell (p:=⟨g,off+n*4+2,none⟩) hg).trans c2
   have d3:=(hb.cell (p:=⟨g,off+n*4+3,none⟩) hg).trans c3
   obtain ⟨⟨K,seg,ln,co⟩,hx⟩:∃ x,ws[n]=x:=⟨_,rfl⟩
   rw [hx] at h1n hget d0 d1 d2 d3
   simp only [tkW] at h1n hget d0 d1 d2 d3
   have hT:=takes_any hr hi (by omega) h1n ln co
   have hstep:=ho.out
   rw [rnY_some hget] at hstep
   have hinv:=inv_step (leaf:=leafY (valB 0) rsvB) hi (K,byt seg)
   obtain ⟨r,hrr⟩:∃ r,stp (leafY (valB 0) rsvB) y (K,byt seg)=r:=⟨_,rfl⟩
   simp only [hrr] at hT hstep hinv
   obtain ⟨y1,b1⟩:=r
   obtain ⟨tx,htx⟩:∃ tx,txt seg=tx:=⟨_,rfl⟩
   unfold wdV at hT
   rw [htx] at hT d1
   clear c0 c1 c2 c3 hx hrr htx hr hi ho h1n hget
   simp only at hT hstep hinv
   cases b1 with
   | true=>
    rw [if_pos rfl] at hstep
    have hN:Hid (rnY (leafY (valB 0) rsvB) (ws.map tkW) y1 (n+1)=OUT):=hstep
    go_wp2_with (first
     | (go_at_call 150;refine hT.mono ?_;rintro e w1 ⟨rfl,⟨vv1,ww1,hr1⟩,b1⟩))
    go_roundw
    case rel=>exact ⟨n+1,y1,vv1,ww1,by go_num,hlt,hr1,hinv,hN,hb.trans b1⟩
    case measure=>simp [RowKit.intOf];omega
   | false=>
    rw [if_neg Bool.false_ne_true] at hstep
    have hS:Hid (stopY y1 n=OUT):=hstep
    obtain ⟨V,W,o,b⟩:=y1
    have hQ:=hS.out
    have hbk:=brk_le W
    have hio:=hinv.o
    have hiw:=hinv.w
    simp only at hio hiw
    unfold stopY at hQ
    simp only at hQ
    have hFm:=fun (x:Sx) (hx:Fine x∧cntX x≤n) w1=>formedP x.1 x.2 w1 hx.1.cl (by have:=hx.2;show cnt x.1 x.2≤100000;unfold cntX at this;omega) hx.1.sh
    by_cases hq:b=true∧o=0
    ·rw [if_pos hq] at hQ
     obtain ⟨rfl,rfl⟩:=hq
     have hiv:V.length=bins W+1:=hinv.v
     obtain ⟨x,hx⟩:=jn_all hiv hio.symm
     rw [hx] at hQ
     have hfine:=HT.out x n hQ.symm
     have hFx:=hFm x hfine
     have hE:=fun w2 vv2 ww2 (h2:Rdr w2 w.heap.size ⟨V,W,0,true⟩ vv2 ww2)=>end_any h2 hiv (by omega) hx
     have hMx:=fun w2 vv2 ww2 (h2:Rdr w2 w.heap.size ⟨V,W,0,true⟩ vv2 ww2)=>mayEnd_any h2 (by show (0:Nat)≤4000;omega)
     simp only [decide_true,Bool.and_true] at hMx
     have hres:ofOut OUT=if fmX x=true then (x,n,0) else (noX,0,13):=by rw [← hQ];rfl
     obtain ⟨fb,hfb⟩:∃ fb,fmC x.1 x.2=fb:=⟨_,rfl⟩
     have hfb':fmX x=fb:=hfb
     rw [hfb'] at hres
     simp only [hfb] at hFx
     have hFx:∀ w1,Calls Tryz.prog 110 #[exX x] w1 fun r w'=>r=.returned (.bool fb)∧Below w1.heap.size w1 w':=hFx
     have hxf:=exX_form x
     obtain ⟨xv,hxv⟩:∃ xv,exX x=xv:=⟨_,rfl⟩
     rw [hxv] at hxf
     simp only [hxv] at hFx hE
     clear hfb hfb' hfine hFm hQ hx hiv hio hiw hbk
     cases fb with
     | true=>
      rw [if_pos rfl] at hres
      have HX:Hid (exX x=xv):=hxv
      have HRS:Hid (ofOut OUT=(x,n,0)):=hres
      clear hres hxv
      go_wp2_with (first
       | (go_at_call 150;refine hT.mono ?_;rintro e w1 ⟨rfl,⟨vv1,ww1,hr1⟩,b1⟩)
       | (go_at_call 151;refine (hMx _ _ _ hr1).mono ?_;rintro e w2 ⟨rfl,b2⟩;have hr2:=hr1.on b2;have hb2:=(hb.trans b1).trans (b2.mono (hb.trans b1).size))
       | (go_at_call 152;refine (hE _ _ _ hr2).mono ?_;rintro e w3 ⟨rfl,b3⟩;have hb3:=hb2.trans b3)
       | (go_at_call 110;refine (hFx _).mono ?_;rintro e w4 ⟨rfl,b4⟩;have hb4:=hb3.trans (b4.mono hb3.size)))
      go_ret3
      refine ⟨?_,hb4⟩
      rw [HRS.out]
      show _=Ending.returned (.tuple #[exX x,.int .i64 (n:Int),.int .i64 0])
      rw [HX.out];rfl
     | false=>
      rw [if_neg Bool.false_ne_true] at hres
      have HRS:Hid (ofOut OUT=(noX,0,13)):=hres
      clear hres hxv
      go_wp2_with (first
       | (go_at_call 150;refine hT.mono ?_;rintro e w1 ⟨rfl,⟨vv1,ww1,hr1⟩,b1⟩)
       | (go_at_call 151;refine (hMx _ _ _ hr1).mono ?_;rintro e w2 ⟨rfl,b2⟩;have hr2:=hr1.on b2;have hb2:=(hb.trans b1).trans (b2.mono (hb.trans b1).size))
       | (go_at_call 152;refine (hE _ _ _ hr2).mono ?_;rintro e w3 ⟨rfl,b3⟩;have hb3:=hb2.trans b3)
       | (go_at_call 110;refine (hFx _).mono ?_;rintro e w4 ⟨rfl,b4⟩;have hb4:=hb3.trans (b4.mono hb3.size)))
      go_ret3
      exact ⟨by rw [HRS.out];rfl,hb4⟩
    ·rw [if_neg hq] at hQ
     have hbo:(b && decide (o=0))=false:=by
      cases b with
      | false=>rfl
      | true=>exact decide_eq_false (fun e=>hq ⟨rfl,e⟩)
     have hMx:=fun w2 vv2 ww2 (h2:Rdr w2 w.heap.size ⟨V,W,o,b⟩ vv2 ww2)=>mayEnd_any h2 (by show o≤4000;omega)
     simp only [hbo] at hMx
     have HRS:Hid (ofOut OUT=(noX,n,12)):=by show _=_;rw [← hQ];rfl
     clear hbo hq hFm hQ hio hiw hbk
     go_wp2_with (first
      | (go_at_call 150;refine hT.mono ?_;rintro e w1 ⟨rfl,⟨vv1,ww1,hr1⟩,b1⟩)
      | (go_at_call 151;refine (hMx _ _ _ hr1).mono ?_;rintro e w2 ⟨rfl,b2⟩;have hb2:=(hb.trans b1).trans (b2.mono (hb.trans b1).size)))
     go_ret3
     exact ⟨by rw [HRS.out];rfl,hb2⟩
  ·have i1:¬ (n:Int) < (ws.length:Int):=by omega
   have hstep:=ho.out
   rw [rnY_none (by rw [List.getElem?_eq_none_iff,List.length_map];omega)] at hstep
   have hS:Hid (stopY y n=OUT):=hstep
   clear ho hstep
   obtain ⟨V,W,o,b⟩:=y
   have hQ:=hS.out
   have hbk:=brk_le W
   have hio:=hi.o
   have hiw:=hi.w
   simp only at hio hiw
   unfold stopY at hQ
   simp only at hQ
   have hFm:=fun (x:Sx) (hx:Fine x∧cntX x≤n) w1=>formedP x.1 x.2 w1 hx.1.cl (by have:=hx.2;show cnt x.1 x.2≤100000;unfold cntX at this;omega) hx.1.sh
   by_cases hq:b=true∧o=0
   ·rw [if_pos hq] at hQ
    obtain ⟨rfl,rfl⟩:=hq
    have hiv:V.length=bins W+1:=hi.v
    obtain ⟨x,hx⟩:=jn_all hiv hio.symm
    rw [hx] at hQ
    have hfine:=HT.out x n hQ.symm
    have hFx:=hFm x hfine
    have hE:=fun w2 vv2 ww2 (h2:Rdr w2 w.heap.size ⟨V,W,0,true⟩ vv2 ww2)=>end_any h2 hiv (by omega) hx
    have hMx:=fun w2 vv2 ww2 (h2:Rdr w2 w.heap.size ⟨V,W,0,true⟩ vv2 ww2)=>mayEnd_any h2 (by show (0:Nat)≤4000;omega)
    simp only [decide_true,Bool.and_true] at hMx
    have hres:ofOut OUT=if fmX x=true then (x,n,0) else (noX,0,13):=by rw [← hQ];rfl
    obtain ⟨fb,hfb⟩:∃ fb,fmC x.1 x.2=fb:=⟨_,rfl⟩
    have hfb':fmX x=fb:=hfb
    rw [hfb'] at hres
    simp only [hfb] at hFx
    have hFx:∀ w1,Calls Tryz.prog 110 #[exX x] w1 fun r w'=>r=.returned (.bool fb)∧Below w1.heap.size w1 w':=hFx
    have hxf:=exX_form x
    obtain ⟨xv,hxv⟩:∃ xv,exX x=xv:=⟨_,rfl⟩
    rw [hxv] at hxf
    simp only [hxv] at hFx hE
    clear hfb hfb' hfine hFm hQ hx hiv hio hiw hbk
    cases fb with
    | true=>
     rw [if_pos rfl] at hres
     have HX:Hid (exX x=xv):=hxv
     have HRS:Hid (ofOut OUT=(x,n,0)):=hres
     clear hres hxv
     go_wp2_with (first
      | (go_at_call 151;refine (hMx _ _ _ hr).mono ?_;rintro e w2 ⟨rfl,b2⟩;have hr2:=hr.on b2;have hb2:=hb.trans (b2.mono hb.size))
      | (go_at_call 152;refine (hE _ _ _ hr2).mono ?_;rintro e w3 ⟨rfl,b3⟩;have hb3:=hb2.trans b3)
      | (go_at_call 110;refine (hFx _).mono ?_;rintro e w4 ⟨rfl,b4⟩;have hb4:=hb3.trans (b4.mono hb3.size)))
     go_ret3
     refine ⟨?_,hb4⟩
     rw [HRS.out]
     show _=Ending.returned (.tuple #[exX x,.int .i64 (n:Int),.int .i64 0])
     rw [HX.out];rfl
    | false=>
     rw [if_neg Bool.false_ne_true] at hres
     have HRS:Hid (ofOut OUT=(noX,0,13)):=hres
     clear hres hxv
     go_wp2_with (first
      | (go_at_call 151;refine (hMx _ _ _ hr).mono ?_;rintro e w2 ⟨rfl,b2⟩;have hr2:=hr.on b2;have hb2:=hb.trans (b2.mono hb.size))
      | (go_at_call 152;refine (hE _ _ _ hr2).mono ?_;rintro e w3 ⟨rfl,b3⟩;have hb3:=hb2.trans b3)
      | (go_at_call 110;refine (hFx _).mono ?_;rintro e w4 ⟨rfl,b4⟩;have hb4:=hb3.trans (b4.mono hb3.size)))
     go_ret3
     exact ⟨by rw [HRS.out];rfl,hb4⟩
   ·rw [if_neg hq] at hQ
    have hbo:(b && decide (o=0))=false:=by
     cases b with
     | false=>rfl
     | true=>exact decide_eq_false (fun e=>hq ⟨rfl,e⟩)
    have hMx:=fun w2 vv2 ww2 (h2:Rdr w2 w.heap.size ⟨V,W,o,b⟩ vv2 ww2)=>mayEnd_any h2 (by show o≤4000;omega)
    simp only [hbo] at hMx
    have HRS:Hid (ofOut OUT=(noX,n,12)):=by show _=_;rw [← hQ];rfl
    clear hbo hq hFm hQ hio hiw hbk
    go_wp2_with (first
     | (go_at_call 151;refine (hMx _ _ _ hr).mono ?_;rintro e w2 ⟨rfl,b2⟩;have hb2:=hb.trans (b2.mono hb.size)))
    go_ret3
    exact ⟨by rw [HRS.out];rfl,hb2⟩
theorem Pr.word {w:World}{X:Nat}{a:Option Addr}{cap:Nat}{ws:List Wd}{fin:Pl}{r:RsC}(h:Pr w X a cap ws fin r) (hk:Wk ws cap) {x:Wd}{l:List Wd}(hr:r.1=x :: l):OneW x.1 x.2.1:=by
 obtain ⟨n,_,h2,_⟩:=h
 rw [hr] at h2
 obtain ⟨hn,_,hx⟩:=drop_cons h2
 rw [← hx hn]
 exact hk.o _ (List.getElem_mem hn)
theorem name_word {w:World}{X:Nat}{a:Option Addr}{cap:Nat}{ws:List Wd}{fin:Pl}{r:RsC}(h:Pr w X a cap ws fin r) (hk:Wk ws cap):(wordR 1 fin r).2=(nameR fin r).2∧∃ k,wdA (wordR 1 fin r).1=.agg #[.int .i64 k,sV (nameR fin r).1.1,.int .i64 (nameR fin r).1.2.1,.int .i64 (nameR fin r).1.2.2]:=by
 have ho:=fun x l=>h.word hk (x:=x) (l:=l)
 unfold wordR nameR
 cases hr:r.1 with
 | nil=>exact ⟨rfl,_,rfl⟩
 | cons x l=>
  have h1:=kind_name (ho x l hr)
  have h2:plainB (tkW x).2=true↔x.1=1∧rsvB (tkW x).2=false:=by
   unfold plainB
   rw [Bool.and_eq_true,h1]
   exact and_congr Iff.rfl (by cases rsvB (tkW x).2 <;> simp)
  simp only
  by_cases hc:r.2.2=0∧x.1=1∧rsvB (tkW x).2=false
  ·rw [if_pos hc,if_pos ⟨hc.1,h2.2 hc.2⟩]
   exact ⟨rfl,_,rfl⟩
  ·rw [if_neg hc,if_neg (fun e=>hc ⟨e.1,h2.1 e.2⟩)]
   exact ⟨rfl,_,rfl⟩
theorem num_word {w:World}{X:Nat}{a:Option Addr}{cap:Nat}{ws:List Wd}{fin:Pl}{r:RsC}(h:Pr w X a cap ws fin r) (hk:Wk ws cap):(wordR 2 fin r).2=(numR fin r).2∧∃ k s p q,wdA (wordR 2 fin r).1=.agg #[.int .i64 k,.string s,.int .i64 p,.int .i64 q]∧((s=⟨#[]⟩∧(numR fin r).1=0)∨(numB (bl s)=true∧(numR fin r).1=valB 0 (bl s))):=by
 have ho:=fun x l=>h.word hk (x:=x) (l:=l)
 unfold wordR numR
 cases hr:r.1 with
 | nil=>exact ⟨rfl,_,_,_,_,rfl,.inl ⟨rfl,rfl⟩⟩
 | cons x l=>
  have h1:=(ho x l hr).kind
  simp only
  by_cases hc:r.2.2=0∧x.1=2
  ·have hn:numB (tkW x).2=true:=by
    rcases h1 with ⟨k,_⟩ | ⟨_,n⟩ | ⟨k,_⟩
    ·omega
    ·exact n
    ·omega
   rw [if_pos hc,if_pos ⟨hc.1,hc.2,rsv_num hn⟩]
   exact ⟨rfl,_,_,_,_,rfl,.inr ⟨hn,rfl⟩⟩
  ·rw [if_neg hc,if_neg (fun e=>hc ⟨e.1,e.2.1⟩)]
   exact ⟨rfl,_,_,_,_,rfl,.inl ⟨rfl,rfl⟩⟩
theorem at_blk {w w':World}{N:Nat}{a b:Value}(h:At w N a b) (hb:w'.heap[N]?=w.heap[N]?):At w' N a b:=
 ⟨keep_cell (p:=⟨N,0,none⟩) hb h.1,keep_cell (p:=⟨N,1,none⟩) hb h.2.1,(frozen_of_block hb).trans h.2.2.1,(frozen_of_block hb).trans h.2.2.2⟩
abbrev zP:Obj:=.cells #[.int .i64 0,.int .i64 0] 23
theorem alP (w:World):Below w.heap.size w (w.alloc zP):=(Below.refl _ _).alloc (Nat.le_refl _) _
theorem name_res {w4:World}{R:Nat}{a b s:Value}{tmps:Array Value}(h0:w4.cell? ⟨R,0,none⟩=some a) (h1:w4.cell? ⟨R,1,none⟩=some b) (ht:tmps.getD 3 undef=.pointer (some ⟨R,0,none⟩)) (h2:tmps.getD 2 undef=s):(results Tryz.f72 tmps).run Tryz.prog w4=.ok (.tuple #[s,.agg #[a,b]]) w4:=by
 have ht':tmps[3]?.getD undef=.pointer (some ⟨R,0,none⟩):=by simpa using ht
 have h2':tmps[2]?.getD undef=s:=by simpa using h2
 simp [results,Tryz.results72,go_sem,ht',h2',h0,h1]
set_option maxRecDepth 100000 in
set_option maxHeartbeats 4000000 in
theorem pname_any {w:World}{X:Nat}{a:Option Addr}{cap:Nat}{ws:List Wd}{fin:Pl}{r:RsC}(h:Pr w X a cap ws fin r) (hk:Wk ws cap) :
  Calls Tryz.prog 72 #[.pointer (some ⟨X,0,none⟩)] w fun e w'=>e=.returned (.tuple #[sV (nameR fin r).1.1,.agg #[.int .i64 (nameR fin r).1.2.1,.int .i64 (nameR fin r).1.2.2]])∧Pr w' X a cap ws fin (nameR fin r).2∧Fx X w w':=by
 have hX:=h.lt
 have hW:=word_any (h.on (alP w)) hk 1
 obtain ⟨e1,k,e2⟩:=name_word h hk
 rw [e1,e2] at hW
 obtain ⟨⟨⟨nm,ln,co⟩,r2⟩,hR⟩:∃ x,nameR fin r=x:=⟨_,rfl⟩
 rw [hR] at hW ⊢
 simp only at hW ⊢
 have hA:At (w.alloc zP) w.heap.size (.int .i64 0) (.int .i64 0):=At.new w _ _ _ _ rfl
 unfold sV at hW ⊢
 clear e1 e2 hR
 go_enter Tryz.func72,Tryz.ntmps72
 go_upto_region 2 with (first
  | (go_at_call 104;refine hW.mono ?_;rintro e w1 ⟨rfl,hp,hf⟩))
 have hA1:At w1 w.heap.size (.int .i64 0) (.int .i64 0):=at_blk hA (hf.block w.heap.size (by simp) (fun e=>by have:w.heap.size=X:=Option.some.inj e;omega))
 have hal:Below w1.heap.size w1 (w1.alloc (.cells #[.int .i64 k,.string ⟨nm.toArray⟩,.int .i64 ln,.int .i64 co] 100)):=(Below.refl _ _).alloc (Nat.le_refl _) _
 have hA2:=hA1.keep hal
 have hB2:B4 (w1.alloc (.cells #[.int .i64 k,.string ⟨nm.toArray⟩,.int .i64 ln,.int .i64 co] 100)) w1.heap.size (.int .i64 k) (.string ⟨nm.toArray⟩) (.int .i64 ln) (.int .i64 co):=B4.new _ _ _ _ _ _ _ rfl
 have hp2:=hp.on hal
 have hF2:Fx X w (w1.alloc (.cells #[.int .i64 k,.string ⟨nm.toArray⟩,.int .i64 ln,.int .i64 co] 100)):=((Fx.of (alP w) (Nat.le_refl _)).trans hf).alloc _
 obtain ⟨N,hN⟩:∃ N,w1.heap.size=N:=⟨_,rfl⟩
 rw [hN] at hB2 ⊢
 obtain ⟨y0,y1,y2,y3,z0,z1,z2,z3⟩:=id hB2
 obtain ⟨p0,p1,p2,p3⟩:=id hA2
 clear hA hA1 hf hp hal hW hN hB2
 generalize w1.alloc (.cells #[.int .i64 k,.string ⟨nm.toArray⟩,.int .i64 ln,.int .i64 co] 100)=w2 at *
 go_region
 go_wp2
 obtain ⟨q0,q1,_,_⟩:=(hA2.set0 (.int .i64 ln)).set1 (.int .i64 co)
 exact bodyPost_ret (name_res q0 q1 rfl rfl) rfl ⟨rfl,((hp2.far hX _).far hX _).on ((Below.refl _ _).drew),((hF2.setN (Nat.le_refl _) _).setN (Nat.le_refl _) _).drew⟩
/-- What strconv.ErrSyntax holds. -/
def Ey (w:World) (X:Nat):Prop:=(∃ ev,w.cell? ⟨renA.g 15,0,none⟩=some ev∧(ev=.nilIface∨∃ te pe,ev=.iface te pe))∧renA.g 15 < X
theorem Ey.fx {w w':World}{X:Nat}(h:Ey w X) (hf:Fx X w w'):Ey w' X:=by
 obtain ⟨⟨ev,h1,h2⟩,h3⟩:=h
 have hlt:renA.g 15 < w.heap.size:=World.block_lt_of_cell? w _ h1
 exact ⟨⟨ev,keep_cell (p:=⟨renA.g 15,0,none⟩) (hf.block _ hlt (fun e=>by have:renA.g 15=X:=Option.some.inj e;omega)) h1,h2⟩,h3⟩
theorem Ey.on {w w':World}{X:Nat}(h:Ey w X) (hb:Below w.heap.size w w'):Ey w' X:=h.fx (Fx.of hb (Nat.le_refl _))
theorem Ey.far {w:World}{X Y i:Nat}(h:Ey w X) (hY:X < Y) (u:Value):Ey (w.setCell ⟨Y,i,none⟩ u) X:=by
 obtain ⟨⟨ev,h1,h2⟩,h3⟩:=h
 exact ⟨⟨ev,cell_far4 (by omega) h1,h2⟩,h3⟩
theorem atoi_any {w:World}{X:Nat}(hE:Ey w X) (s:ByteArray) (n:Int) (h:(s=⟨#[]⟩∧n=0)∨(numB (bl s)=true∧n=valB 0 (bl s))):Calls Tryz.prog 105 #[.string s] w fun e w'=>(∃ u,e=.returned (.tuple #[.int .i64 n,u]))∧Below w.heap.size w w':=by
 rcases h with ⟨rfl,rfl⟩ | ⟨hs,rfl⟩
 ·obtain ⟨⟨ev,h1,h2⟩,_⟩:=hE
  refine (Any.strconv_Atoi_syntax laysA ⟨#[]⟩ (by decide) rfl ev w h1 h2).mono ?_
  rintro e w' ⟨N,rfl,_,_,hb⟩
  exact ⟨⟨_,rfl⟩,hb⟩
 ·have hl:=(num_len hs).1
  refine (Any.strconv_Atoi_ok laysA s (by rw [← bl_length];omega) (valB 0 (bl s)) (atoi_num hs) w).mono ?_
  rintro e w' ⟨rfl,hw⟩
  refine ⟨⟨_,rfl⟩,?_⟩
  rcases hw with rfl | ⟨t,rfl⟩
  ·exact Below.refl _ _
  ·exact bytesWorld_below _ _ _
set_option maxRecDepth 100000 in
set_option maxHeartbeats 4000000 in
theorem pnum_any {w:World}{X:Nat}{a:Option Addr}{cap:Nat}{ws:List Wd}{fin:Pl}{r:RsC}(h:Pr w X a cap ws fin r) (hk:Wk ws cap) (hE:Ey w X) :
  Calls Tryz.prog 73 #[.pointer (some ⟨X,0,none⟩)] w fun e w'=>e=.returned (.int .i64 (numR fin r).1)∧Pr w' X a cap ws fin (numR fin r).2∧Fx X w w':=by
 have hW:=word_any h hk 2
 obtain ⟨e1,k,s,p,q,e2,e3⟩:=num_word h hk
 rw [e1,e2] at hW
 have hA:=fun w1 (hE1:Ey w1 X)=>atoi_any hE1 s (numR fin r).1 e3
 obtain ⟨⟨n,r2⟩,hR⟩:∃ x,numR fin r=x:=⟨_,rfl⟩
 rw [hR] at hW ⊢
 simp only [hR] at hA
 simp only at hW ⊢
 have hfl:∀ w1,(Instr.field 100 (.agg #[.int .i64 k,.string s,.int .i64 p,.int .i64 q]) 1).run Tryz.prog w1=.ok (.string s) w1:=fun w1=>by kernel_rfl
 clear e1 e2 e3 hR
 go_enter Tryz.func73,Tryz.ntmps73
 go_wp2_with (first
  | (go_at_call 104;refine hW.mono ?_;rintro e w1 ⟨rfl,hp,hf⟩;have hE1:=hE.fx hf)
  | (go_at_call 105;refine (hA _ hE1).mono ?_;rintro e w2 ⟨⟨u,rfl⟩,hb⟩))
 go_ret
 exact ⟨rfl,hp.on hb,hf.trans (Fx.of hb (Nat.le_refl _))⟩
end Go.Proofs.YtlgnahpfggagoaaGreatDoor
/- How many words an expression takes. -/
namespace Go.Proofs.YtlgnahpfggagoaaGreatDoor
open Go.RowKit Go.Lib
set_option linter.unusedSimpArgs false
set_option linter.unusedVariables false
theorem stop_sndP (y:Yd) (n:Nat):(stopY y n).2=n:=by unfold stopY;split <;> rfl
theorem runY_leP (leaf:Tk→Option Sx):∀ (r:List Tk) (y:Yd) (n:Nat),(runY leaf y r n).2≤n+r.length
 | [],y,n=>by show (stopY y n).2≤_;rw [stop_sndP];omega
 | w :: r,y,n=>by
  unfold runY
  split
  ·have:=runY_leP leaf r (stp leaf y w).1 (n+1)
   rw [List.length_cons];omega
  ·rw [stop_sndP];omega
theorem take_le {ws:List Wd}(h:∀ w∈ws,OneW w.1 w.2.1):(takeC (ws.map tkW)).2.1≤ws.length:=by
 rw [(take_out h).1]
 have h1:=runY_leP (leafY (valB 0) rsvB) (ws.map tkW) ⟨[],[],0,false⟩ 0
 have h2:rnY (leafY (valB 0) rsvB) (ws.map tkW) ⟨[],[],0,false⟩ 0=runY (leafY (valB 0) rsvB) ⟨[],[],0,false⟩ (ws.map tkW) 0:=rfl
 rw [← h2,List.length_map] at h1
 generalize rnY (leafY (valB 0) rsvB) (ws.map tkW) ⟨[],[],0,false⟩ 0=O at h1 ⊢
 obtain ⟨o,n⟩:=O
 unfold ofOut
 cases o with
 | none=>simp only at h1 ⊢;omega
 | some x=>
  simp only at h1 ⊢
  split
  ·show n≤_;omega
  ·exact Nat.zero_le _
theorem take_kinds {l:List Tk}:(takeC l).2.2=0∨((takeC l).1=noX∧(takeC l).2.1=0∧(takeC l).2.2=13)∨((takeC l).1=noX∧(takeC l).2.2=12):=by
 unfold takeC
 split
 ·exact .inr (.inr ⟨rfl,rfl⟩)
 ·split
  ·exact .inl rfl
  ·exact .inr (.inl ⟨rfl,rfl,rfl⟩)
end Go.Proofs.YtlgnahpfggagoaaGreatDoor
/- What the program's expression and set do. -/
namespace Go.Proofs.YtlgnahpfggagoaaGreatDoor
open Go.RowKit Go.Lib
set_option linter.unusedSimpArgs false
set_option linter.unusedVariables false
attribute [local go_sem ↓] Go.wp_at_zero Go.wp_at_succ
/-- The words from n on, as a slice. -/
theorem slice_from {w:World}{X n:Nat}{a:Option Addr}{cap:Nat}{ws:List Wd}(hL:RdL w X a ws) (hn:n≤ws.length) (hc:ws.length≤cap):∃ a1,(∀ W,(Instr.slice 92 (.slice a ws.length cap) (some (.int .i64 (n:Int))) none none).run Tryz.prog W=.ok (.slice a1 (ws.drop n).length (cap - n)) W)∧RdL w X a1 (ws.drop n):=by
 refine ⟨(if cap=n then a else a.map (·.add (n*4))),fun W=>?_,fun i hi=>?_⟩
 ·have h:=run_slice_l (P:=Tryz.prog) (w:=W) (t:=92) (a:=a) (len:=ws.length) (cap:=cap) (ht:=by kernel_rfl) .i64 (n:Int) (by omega) (by omega)
  have e:(sizeOf (Tryz.prog.elem 92)).run Tryz.prog W=.ok 4 W:=by kernel_rfl
  rw [h,e]
  simp [Result.andThen,sliced]
 ·rw [List.length_drop] at hi
  obtain ⟨g,off,rfl,hg,c0,c1,c2,c3⟩:=hL (n+i) (by omega)
  have e:(ws.drop n)[i]'(by rw [List.length_drop];exact hi)=ws[n+i]:=by rw [List.getElem_drop]
  rw [if_neg (by omega),e]
  refine ⟨g,off+n*4,by simp [Addr.add],hg,?_,?_,?_,?_⟩
  ·rw [show off+n*4+i*4=off+(n+i)*4 by omega];exact c0
  ·rw [show off+n*4+i*4+1=off+(n+i)*4+1 by omega];exact c1
  ·rw [show off+n*4+i*4+2=off+(n+i)*4+2 by omega];exact c2
  ·rw [show off+n*4+i*4+3=off+(n+i)*4+3 by omega];exact c3
set_option maxRecDepth 100000 in
set_option maxHeartbeats 4000000 in
theorem expr_any {w:World}{X:Nat}{a:Option Addr}{cap:Nat}{ws:List Wd}{fin:Pl}{r:RsC}(h:Pr w X a cap ws fin r) (hk:Wk ws cap) :
  Calls Tryz.prog 118 #[.pointer (some ⟨X,0,none⟩)] w fun e w'=>e=.returned (exX (exprR fin r).1)∧Pr w' X a cap ws fin (exprR fin r).2∧Fx X w w':=by
 obtain ⟨n,h1,h2,h3,h4⟩:=id h
 have hX:=h.lt
 have hlen:=hk.l
 obtain ⟨b,hb⟩:∃ b,r.2.2=b:=⟨_,rfl⟩
 obtain ⟨c0,c1,c2,f1,f2,hL⟩:=id h1
 rw [hb] at c2
 obtain ⟨RS,hRS⟩:∃ RS,exprR fin r=RS:=⟨_,rfl⟩
 rw [hRS]
 unfold exprR at hRS
 by_cases hz:b≠0
 ·rw [if_pos (by rw [hb];exact hz)] at hRS
  have i1:(b != 0)=true:=by simpa using hz
  subst hRS
  clear hL h1 h2 h3 h4 hb hz
  go_enter Tryz.func118,Tryz.ntmps118
  go_wp2
  go_ret
  exact ⟨rfl,h,Fx.refl X w⟩
 ·rw [if_neg (by rw [hb];exact hz)] at hRS
  have hz0:b=0:=Decidable.not_not.1 hz
  subst hz0
  obtain ⟨a1,hsl,hL1⟩:=slice_from hL h3 hk.c
  have hl2:(ws.drop n).length≤3000:=by rw [List.length_drop];omega
  have h1w:∀ x∈ws.drop n,OneW x.1 x.2.1:=fun x hx=>hk.o x (List.mem_of_mem_drop hx)
  have hmx:=hk.m
  have hTk:∀ w1,Fx X w w1→Calls Tryz.prog 131 #[.slice a1 (ws.drop n).length (cap - n)] w1 _:=fun w1 hf=>pTake_rd (by rw [List.length_drop];have:=hk.c;omega) (by omega) (fun i hi=>by
   obtain ⟨g,off,q1,q2,q3⟩:=hL1.fx hX hf i hi
   exact ⟨g,off,q1,Nat.lt_trans q2 (Nat.lt_of_lt_of_le hX hf.size),q3⟩) h1w hl2
  have hle:=take_le h1w
  rw [h2] at hRS
  rw [List.length_drop] at hle
  obtain ⟨⟨x,m,f⟩,hT⟩:∃ t,takeC ((ws.drop n).map tkW)=t:=⟨_,rfl⟩
  have hkd:=take_kinds (l:=(ws.drop n).map tkW)
  rw [hT] at hle hkd hRS
  simp only [hT,List.length_drop] at hTk
  simp only [List.length_drop] at hsl
  simp only at hle hkd hTk hRS
  have i5:IntKind.i64.wrap ((n:Int)+(m:Int))=(n:Int)+(m:Int):=by rw [IntKind.wrap_i64];omega
  have i7:((n+m:Nat):Int)=(n:Int)+(m:Int):=by omega
  obtain ⟨xv,hxv⟩:∃ xv,exX x=xv:=⟨_,rfl⟩
  simp only [hxv] at hTk
  have hF:=fun w1 (hr:Rr w1 X a cap ws (n+m) 0)=>pfail_any hr f
  rw [hb] at h1
  have HZ:Hid ((f=0→RS=(x,(ws.drop (n+m),r.2)))∧(f≠0→RS.1=x∧∀ w4,Rr w4 X a cap ws (n+m) (if (0:Int)=0 then f else 0)→Pr w4 X a cap ws fin RS.2)∧exX x=xv∧∀ w4,Rr w4 X a cap ws (n+m) 0→Pr w4 X a cap ws fin (ws.drop (n+m),r.2)):=by
   refine ⟨fun q=>?_,fun q=>?_,hxv,fun w4 hr4=>?_⟩
   ·rw [if_pos q,List.drop_drop] at hRS;exact hRS.symm
   ·have hP:∀ w4,Rr w4 X a cap ws (n+m) (if (0:Int)=0 then f else 0)→Pr w4 X a cap ws fin (failC f (hereR fin (ws.drop (n+m),r.2)) (ws.drop (n+m),r.2)):=fun w4 hr4=>Pr.bad (r:=(ws.drop (n+m),r.2)) (by show Rr _ X a cap ws (n+m) (if r.2.2=0 then f else r.2.2);rw [hb];exact hr4) rfl (by omega) (fun e=>absurd hb e)
    rw [if_neg q] at hRS
    rcases hkd with q0 | ⟨q1,q2,q3⟩ | ⟨q1,q2⟩
    ·exact absurd q0 q
    ·rw [if_pos q3] at hRS
     subst hRS
     refine ⟨rfl,fun w4 hr4=>?_⟩
     have:=hP w4 hr4
     subst q2
     rw [Nat.add_zero,← h2,q3] at this
     exact this
    ·rw [if_neg (by omega),List.drop_drop] at hRS
     subst hRS
     exact ⟨rfl,hP⟩
   ·exact ⟨n+m,by show Rr _ X a cap ws (n+m) r.2.2;rw [hb];exact hr4,rfl,by omega,fun e=>absurd hb e⟩
  clear hT hkd h2 h4 hL hL1 hxv hb hz h1w hRS
  by_cases hf0:f=0
  ·have i1:(f != 0)=false:=by simp [hf0]
   go_enter Tryz.func118,Tryz.ntmps118
   go_upto_region 3 with fail
   go_region_held_law (fun W=>W.cell? ⟨X,0,none⟩=some (.slice a ws.length cap)∧W.cell? ⟨X,1,none⟩=some (.int .i64 (n:Int)))
    (refine ⟨?_,?_⟩ <;> assumption)
    (first
     | (go_at_call 131;(with_reducible refine (hTk _ ((Fx.refl X w).drew)).mono ?_);rintro e w2 ⟨rfl,b2⟩;have hR2:=h1.on (((Below.refl _ w).drew).trans b2);have hF2:=(Fx.refl X w).drew.trans (Fx.of b2 (Nat.le_refl _));have k0:=hR2.c0;have k1:=hR2.c1))
   have g1:=hR2.f1
   have hR3:=hR2.set1 (n+m)
   have hF3:=hF2.setX (i:=1) (.int .i64 ((n+m:Nat):Int))
   rw [i7] at hR3 hF3
   clear c0 c1 c2 f1 f2
   go_wp2
   go_ret
   obtain ⟨z1,_,z3,z4⟩:=HZ.out
   rw [z1 hf0]
   exact ⟨by rw [z3];rfl,z4 _ hR3,hF3⟩
  ·have i1:(f != 0)=true:=by simp [hf0]
   go_enter Tryz.func118,Tryz.ntmps118
   go_upto_region 3 with fail
   go_region_held_law (fun W=>W.cell? ⟨X,0,none⟩=some (.slice a ws.length cap)∧W.cell? ⟨X,1,none⟩=some (.int .i64 (n:Int)))
    (refine ⟨?_,?_⟩ <;> assumption)
    (first
     | (go_at_call 131;(with_reducible refine (hTk _ ((Fx.refl X w).drew)).mono ?_);rintro e w2 ⟨rfl,b2⟩;have hR2:=h1.on (((Below.refl _ w).drew).trans b2);have hF2:=(Fx.refl X w).drew.trans (Fx.of b2 (Nat.le_refl _));have k0:=hR2.c0;have k1:=hR2.c1))
   have g1:=hR2.f1
   have hR3:=hR2.set1 (n+m)
   have hF3:=hF2.setX (i:=1) (.int .i64 ((n+m:Nat):Int))
   rw [i7] at hR3 hF3
   clear c0 c1 c2 f1 f2
   go_upto_region 6 with fail
   generalize w2.setCell ⟨X,1,none⟩ (.int .i64 ((n:Int)+(m:Int)))=W3 at *
   go_wp2_with (first
    | (go_at_call 78;refine (hF _ hR3).mono ?_;rintro e w4 ⟨⟨u,rfl⟩,hr4,hf4⟩))
   go_ret
   obtain ⟨_,z2,z3,_⟩:=HZ.out
   obtain ⟨z5,z6⟩:=z2 hf0
   exact ⟨by rw [z5,z3];rfl,z6 _ hr4,hF3.trans hf4⟩
def setR (fin:Pl) (r:RsC):(List UInt8 × Sx) × RsC:=(((nameR fin r).1.1,(exprR fin (takeR fin [61] (nameR fin r).2)).1),(exprR fin (takeR fin [61] (nameR fin r).2)).2)
abbrev zS2:Obj:=.cells #[.string ⟨#[]⟩,.nilIface] 82
theorem set_res {w4:World}{R:Nat}{a b:Value}{tmps:Array Value}(hR:Bn w4 R [a,b]) (ht:tmps.getD 2 undef=.pointer (some ⟨R,0,none⟩)):(results Tryz.f119 tmps).run Tryz.prog w4=.ok (.agg #[a,b]) w4:=by
 have ht':tmps[2]?.getD undef=.pointer (some ⟨R,0,none⟩):=by simpa using ht
 have c0:=(hR 0 _ rfl).1
 have c1:=(hR 1 _ rfl).1
 simp [results,Tryz.results119,go_sem,ht',c0,c1]
set_option maxRecDepth 100000 in
set_option maxHeartbeats 4000000 in
theorem pset_any {w:World}{X:Nat}{a:Option Addr}{cap:Nat}{ws:List Wd}{fin:Pl}{r:RsC}(h:Pr w X a cap ws fin r) (hk:Wk ws cap) :
  Calls Tryz.prog 119 #[.pointer (some ⟨X,0,none⟩)] w fun e w'=>e=.returned (.agg #[sV (setR fin r).1.1,exX (setR fin r).1.2])∧Pr w' X a cap ws fin (setR fin r).2∧Fx X w w':=by
 have hX:=h.lt
 have hbel:Below w.heap.size w ((w.alloc zS2).alloc zS2):=((Below.refl _ _).alloc (Nat.le_refl _) _).alloc (by simp) _
 have hp0:=h.on hbel
 have hA0:Bn ((w.alloc zS2).alloc zS2) w.heap.size [.string ⟨#[]⟩,.nilIface]:=(Bn.new w [.string ⟨#[]⟩,.nilIface] 82 _ rfl).on ((Below.refl _ _).alloc (Nat.le_refl _) _)
 have hB0:Bn ((w.alloc zS2).alloc zS2) (w.heap.size+1) [.string ⟨#[]⟩,.nilIface]:=Bn.new (w.alloc zS2) [.string ⟨#[]⟩,.nilIface] 82 _ (by simp)
 have hN:=pname_any hp0 hk
 unfold setR
 obtain ⟨⟨⟨nm,ln,co⟩,r1⟩,hR1⟩:∃ x,nameR fin r=x:=⟨_,rfl⟩
 rw [hR1] at hN ⊢
 simp only at hN ⊢
 have hM:=fun w1 (hp:Pr w1 X a cap ws fin r1)=>must_any hp hk [61]
 obtain ⟨r2,hR2⟩:∃ r2,takeR fin [61] r1=r2:=⟨_,rfl⟩
 simp only [hR2] at hM ⊢
 have hXp:=fun w1 (hp:Pr w1 X a cap ws fin r2)=>expr_any hp hk
 obtain ⟨⟨x,r3⟩,hR3⟩:∃ y,exprR fin r2=y:=⟨_,rfl⟩
 simp only [hR3] at hXp ⊢
 have hxf:=exX_form x
 obtain ⟨xv,hxv⟩:∃ xv,exX x=xv:=⟨_,rfl⟩
 simp only [hxv] at hXp hxf ⊢
 obtain ⟨nv,hnv⟩:∃ nv,(⟨nm.toArray⟩:ByteArray)=nv:=⟨_,rfl⟩
 unfold sV at hN ⊢
 simp only [hnv] at hN ⊢
 have hF0:Fx X w ((w.alloc zS2).alloc zS2):=Fx.of hbel (Nat.le_refl _)
 clear hR1 hR2 hR3 hxv hnv hbel h
 go_enter Tryz.func119,Tryz.ntmps119
 go_upto_region 2 with fail
 generalize (w.alloc zS2).alloc zS2=w0 at *
 go_upto_region 3 with (first
  | (go_at_call 72;refine hN.mono ?_;rintro e w1 ⟨rfl,hp1,hf1⟩;have hA1:=hA0.fx hf1 (by omega);have hB1:=hB0.fx hf1 (by omega);have hF1:=hF0.trans hf1;obtain ⟨b0,g0⟩:=hB1 0 _ rfl))
 have hA2:=hA1.far (X:=w.heap.size+1) (i:=0) (by omega) (.string nv)
 have hB2:=hB1.set (i:=0) (by simp) (.string nv)
 have hp2:=hp1.far (Y:=w.heap.size+1) (i:=0) (by omega) (.string nv)
 have hF2:=hF1.setN (N:=w.heap.size+1) (i:=0) (by omega) (.string nv)
 clear hA0 hB0 hA1 hB1 hp1 hf1 hF1 hF0 b0 g0 hp0 hN
 generalize w1.setCell ⟨w.heap.size+1,0,none⟩ (.string nv)=w2 at *
 go_upto_region 4 with (first
  | (go_at_call 71;refine (hM _ hp2).mono ?_;rintro e w3 ⟨⟨u,rfl⟩,hp3,hf3⟩))
 have hA3:=hA2.fx hf3 (by omega)
 have hB3:=hB2.fx hf3 (by omega)
 have hF3:=hF2.trans hf3
 clear hA2 hB2 hp2 hF2 hf3 hM
 rcases hxf with rfl | ⟨xu,xy,rfl⟩
 all_goals (
  go_upto_region 5 with (first
   | (go_at_call 118;refine (hXp _ hp3).mono ?_;rintro e w4 ⟨rfl,hp4,hf4⟩;have hA4:=hA3.fx hf4 (by omega);have hB4:=hB3.fx hf4 (by omega);have hF4:=hF3.trans hf4;obtain ⟨b1,g1⟩:=hB4 1 _ rfl)))
 ·have hA5:=hA4.far (X:=w.heap.size+1) (i:=1) (by omega) .nilIface
  have hB5:=hB4.set (i:=1) (by simp) .nilIface
  have hp5:=hp4.far (Y:=w.heap.size+1) (i:=1) (by omega) .nilIface
  have hF5:=hF4.setN (N:=w.heap.size+1) (i:=1) (by omega) .nilIface
  clear hA3 hB3 hA4 hB4 hp3 hp4 hf4 hF3 hF4 b1 g1
  generalize w4.setCell ⟨w.heap.size+1,1,none⟩ .nilIface=w5 at *
  obtain ⟨b0,g0⟩:=hB5 0 _ rfl
  obtain ⟨b1,g1⟩:=hB5 1 _ rfl
  obtain ⟨a0,k0⟩:=hA5 0 _ rfl
  obtain ⟨a1,k1⟩:=hA5 1 _ rfl
  go_wp2
  exact bodyPost_ret (set_res ((hA5.set (i:=0) (by simp) _).set (i:=1) (by simp) _) rfl) rfl ⟨rfl,(hp5.far hX _).far hX _,(hF5.setN (Nat.le_refl _) _).setN (Nat.le_refl _) _⟩
 ·have hA5:=hA4.far (X:=w.heap.size+1) (i:=1) (by omega) (.iface xu xy)
  have hB5:=hB4.set (i:=1) (by simp) (.iface xu xy)
  have hp5:=hp4.far (Y:=w.heap.size+1) (i:=1) (by omega) (.iface xu xy)
  have hF5:=hF4.setN (N:=w.heap.size+1) (i:=1) (by omega) (.iface xu xy)
  clear hA3 hB3 hA4 hB4 hp3 hp4 hf4 hF3 hF4 b1 g1
  generalize w4.setCell ⟨w.heap.size+1,1,none⟩ (.iface xu xy)=w5 at *
  obtain ⟨b0,g0⟩:=hB5 0 _ rfl
  obtain ⟨b1,g1⟩:=hB5 1 _ rfl
  obtain ⟨a0,k0⟩:=hA5 0 _ rfl
  obtain ⟨a1,k1⟩:=hA5 1 _ rfl
  go_wp2
  exact bodyPost_ret (set_res ((hA5.set (i:=0) (by simp) _).set (i:=1) (by simp) _) rfl) rfl ⟨rfl,(hp5.far hX _).far hX _,(hF5.setN (Nat.le_refl _) _).setN (Nat.le_refl _) _⟩
/-- What stands behind var. -/
def varR (fin:Pl) (r:RsC):(List UInt8 × Int × Pl) × RsC:=
 let a:=nameR fin r
 let b:=takeR fin [61] a.2
 let n:=if isC [45] b=true then (fun x=>(-x.1,x.2)) (numR fin (takeR fin [45] b)) else numR fin b
 ((a.1.1,n.1,a.1.2),n.2)
abbrev zV4:Obj:=.cells #[.string ⟨#[]⟩,.int .i64 0,.int .i64 0,.int .i64 0] 61
theorem var_res {w4:World}{R:Nat}{a b c d:Value}{tmps:Array Value}(hR:Bn w4 R [a,b,c,d]) (ht:tmps.getD 2 undef=.pointer (some ⟨R,0,none⟩)):(results Tryz.f75 tmps).run Tryz.prog w4=.ok (.agg #[a,b,c,d]) w4:=by
 have ht':tmps[2]?.getD undef=.pointer (some ⟨R,0,none⟩):=by simpa using ht
 have c0:=(hR 0 _ rfl).1
 have c1:=(hR 1 _ rfl).1
 have c2:=(hR 2 _ rfl).1
 have c3:=(hR 3 _ rfl).1
 simp [results,Tryz.results75,go_sem,ht',c0,c1,c2,c3]
theorem num_range {w:World}{X:Nat}{a:Option Addr}{cap:Nat}{ws:List Wd}{fin:Pl}{r:RsC}(h:Pr w X a cap ws fin r) (hk:Wk ws cap):0≤(numR fin r).1∧(numR fin r).1≤1000000000:=by
 obtain ⟨_,k,s,p,q,_,e3⟩:=num_word h hk
 rcases e3 with ⟨_,e⟩ | ⟨hs,e⟩
 ·rw [e];omega
 ·rw [e];exact num_small hs
set_option maxRecDepth 100000 in
set_option maxHeartbeats 4000000 in
theorem pvar_any {w:World}{X:Nat}{a:Option Addr}{cap:Nat}{ws:List Wd}{fin:Pl}{r:RsC}(h:Pr w X a cap ws fin r) (hk:Wk ws cap) (hE:Ey w X) :
  Calls Tryz.prog 75 #[.pointer (some ⟨X,0,none⟩)] w fun e w'=>e=.returned (.agg (varV (varR fin r).1).toArray)∧Pr w' X a cap ws fin (varR fin r).2∧Fx X w w':=by
 have hX:=h.lt
 have hbel:Below w.heap.size w ((w.alloc zV4).alloc zV4):=((Below.refl _ _).alloc (Nat.le_refl _) _).alloc (by simp) _
 have hp0:=h.on hbel
 have hE0:=hE.on hbel
 have hA0:Bn ((w.alloc zV4).alloc zV4) w.heap.size [.string ⟨#[]⟩,.int .i64 0,.int .i64 0,.int .i64 0]:=(Bn.new w [.string ⟨#[]⟩,.int .i64 0,.int .i64 0,.int .i64 0] 61 _ rfl).on ((Below.refl _ _).alloc (Nat.le_refl _) _)
 have hB0:Bn ((w.alloc zV4).alloc zV4) (w.heap.size+1) [.string ⟨#[]⟩,.int .i64 0,.int .i64 0,.int .i64 0]:=Bn.new (w.alloc zV4) [.string ⟨#[]⟩,.int .i64 0,.int .i64 0,.int .i64 0] 61 _ (by simp)
 have hN:=pname_any hp0 hk
 unfold varR
 obtain ⟨⟨⟨nm,ln,co⟩,r1⟩,hR1⟩:∃ x,nameR fin r=x:=⟨_,rfl⟩
 rw [hR1] at hN ⊢
 simp only at hN ⊢
 have hM:=fun w1 (hp:Pr w1 X a cap ws fin r1)=>must_any hp hk [61]
 obtain ⟨r2,hR2⟩:∃ r2,takeR fin [61] r1=r2:=⟨_,rfl⟩
 simp only [hR2] at hM ⊢
 have hS:=fun w1 (hp:Pr w1 X a cap ws fin r2)=>skips_any hp hk [45]
 obtain ⟨nv,hnv⟩:∃ nv,(⟨nm.toArray⟩:ByteArray)=nv:=⟨_,rfl⟩
 unfold varV
 unfold sV at hN ⊢
 simp only [hnv] at hN ⊢
 have hF0:Fx X w ((w.alloc zV4).alloc zV4):=Fx.of hbel (Nat.le_refl _)
 clear hR1 hR2 hnv hbel h
 cases hi:isC [45] r2 with
 | true=>
  simp only [hi,skR_yes hi] at hS
  rw [if_pos rfl]
  have hNm:=fun w1 (hp:Pr w1 X a cap ws fin (takeR fin [45] r2)) (he:Ey w1 X)=>pnum_any hp hk he
  have hrg:=fun w1 (hp:Pr w1 X a cap ws fin (takeR fin [45] r2))=>num_range hp hk
  obtain ⟨r3,hR3⟩:∃ r3,takeR fin [45] r2=r3:=⟨_,rfl⟩
  simp only [hR3] at hS hNm hrg ⊢
  obtain ⟨⟨n,r4⟩,hR4⟩:∃ y,numR fin r3=y:=⟨_,rfl⟩
  simp only [hR4] at hNm hrg ⊢
  clear hR3 hR4 hi
  go_enter Tryz.func75,Tryz.ntmps75
  go_upto_region 2 with fail
  generalize (w.alloc zV4).alloc zV4=w0 at *
  go_upto_region 3 with (first
   | (go_at_call 72;refine hN.mono ?_;rintro e w1 ⟨rfl,hp1,hf1⟩;have hA1:=hA0.fx hf1 (by omega);have hB1:=hB0.fx hf1 (by omega);have hE1:=hE0.fx hf1;have hF1:=hF0.trans hf1;obtain ⟨b0,g0⟩:=hB1 0 _ rfl;obtain ⟨b2,g2⟩:=hB1 2 _ rfl;obtain ⟨b3,g3⟩:=hB1 3 _ rfl))
  have hfx:Fx X w1 (((w1.setCell ⟨w.heap.size+1,0,none⟩ (.string nv)).setCell ⟨w.heap.size+1,2,none⟩ (.int .i64 ln)).setCell ⟨w.heap.size+1,3,none⟩ (.int .i64 co))∨True:=.inr trivial
  have hA2:=((hA1.far (X:=w.heap.size+1) (i:=0) (by omega) (.string nv)).far (X:=w.heap.size+1) (i:=2) (by omega) (.int .i64 ln)).far (X:=w.heap.size+1) (i:=3) (by omega) (.int .i64 co)
  have hB2:=((hB1.set (i:=0) (by simp) (.string nv)).set (i:=2) (by simp) (.int .i64 ln)).set (i:=3) (by simp) (.int .i64 co)
  have hp2:=((hp1.far (Y:=w.heap.size+1) (i:=0) (by omega) (.string nv)).far (Y:=w.heap.size+1) (i:=2) (by omega) (.int .i64 ln)).far (Y:=w.heap.size+1) (i:=3) (by omega) (.int .i64 co)
  have hF2:=((hF1.setN (N:=w.heap.size+1) (i:=0) (by omega) (.string nv)).setN (N:=w.heap.size+1) (i:=2) (by omega) (.int .i64 ln)).setN (N:=w.heap.size+1) (i:=3) (by omega) (.int .i64 co)
  have hE2:=hE.fx hF2
  clear hA0 hB0 hA1 hB1 hp1 hf1 hF1 hF0 b0 g0 b2 g2 b3 g3 hp0 hN hE1 hE0 hfx
  generalize ((w1.setCell ⟨w.heap.size+1,0,none⟩ (.string nv)).setCell ⟨w.heap.size+1,2,none⟩ (.int .i64 ln)).setCell ⟨w.heap.size+1,3,none⟩ (.int .i64 co)=w2 at *
  go_upto_region 5 with (first
   | (go_at_call 71;refine (hM _ hp2).mono ?_;rintro e w3 ⟨⟨u,rfl⟩,hp3,hf3⟩;have hA3:=hA2.fx hf3 (by omega);have hB3:=hB2.fx hf3 (by omega);have hF3:=hF2.trans hf3)
   | (go_at_call 74;refine (hS _ hp3).mono ?_;rintro e w4 ⟨rfl,hp4,hf4⟩;have hA4:=hA3.fx hf4 (by omega);have hB4:=hB3.fx hf4 (by omega);have hF4:=hF3.trans hf4))
  obtain ⟨q1,q2⟩:=hrg _ hp4
  have i1:IntKind.i64.wrap (-n) = -n:=by rw [IntKind.wrap_i64];omega
  have hE4:=hE.fx hF4
  clear hA2 hB2 hp2 hF2 hA3 hB3 hp3 hf3 hF3 hf4 hM hS
  go_upto_region 7 with (first
   | (go_at_call 73;refine (hNm _ hp4 hE4).mono ?_;rintro e w5 ⟨rfl,hp5,hf5⟩;have hA5:=hA4.fx hf5 (by omega);have hB5:=hB4.fx hf5 (by omega);have hF5:=hF4.trans hf5;obtain ⟨b1,g1⟩:=hB5 1 _ rfl))
  have hA6:=hA5.far (X:=w.heap.size+1) (i:=1) (by omega) (.int .i64 (-n))
  have hB6:=hB5.set (i:=1) (by simp) (.int .i64 (-n))
  have hp6:=hp5.far (Y:=w.heap.size+1) (i:=1) (by omega) (.int .i64 (-n))
  have hF6:=hF5.setN (N:=w.heap.size+1) (i:=1) (by omega) (.int .i64 (-n))
  clear hA4 hB4 hp4 hF4 hA5 hB5 hp5 hf5 hF5 b1 g1
  generalize w5.setCell ⟨w.heap.size+1,1,none⟩ (.int .i64 (-n))=w6 at *
  obtain ⟨b0,g0⟩:=hB6 0 _ rfl
  obtain ⟨b1,g1⟩:=hB6 1 _ rfl
  obtain ⟨b2,g2⟩:=hB6 2 _ rfl
  obtain ⟨b3,g3⟩:=hB6 3 _ rfl
  obtain ⟨a0,k0⟩:=hA6 0 _ rfl
  obtain ⟨a1,k1⟩:=hA6 1 _ rfl
  obtain ⟨a2,k2⟩:=hA6 2 _ rfl
  obtain ⟨a3,k3⟩:=hA6 3 _ rfl
  go_wp2
  exact bodyPost_ret (var_res ((((hA6.set (i:=0) (by simp) _).set (i:=1) (by simp) _).set (i:=2) (by simp) _).set (i:=3) (by simp) _) rfl) rfl ⟨rfl,(((hp6.far hX _).far hX _).far hX _).far hX _,(((hF6.setN (Nat.le_refl _) _).setN (Nat.le_refl _) _).setN (Nat.le_refl _) _).setN (Nat.le_refl _) _⟩
 | false=>
  simp only [hi,skR_no hi] at hS
  rw [if_neg (by decide)]
  have hNm:=fun w1 (hp:Pr w1 X a cap ws fin r2) (he:Ey w1 X)=>pnum_any hp hk he
  obtain ⟨⟨n,r4⟩,hR4⟩:∃ y,numR fin r2=y:=⟨_,rfl⟩
  simp only [hR4] at hNm ⊢
  clear hR4 hi
  go_enter Tryz.func75,Tryz.ntmps75
  go_upto_region 2 with fail
  generalize (w.alloc zV4).alloc zV4=w0 at *
  go_upto_region 3 with (first
   | (go_at_call 72;refine hN.mono ?_;rintro e w1 ⟨rfl,hp1,hf1⟩;have hA1:=hA0.fx hf1 (by omega);have hB1:=hB0.fx hf1 (by omega);have hE1:=hE0.fx hf1;have hF1:=hF0.trans hf1;obtain ⟨b0,g0⟩:=hB1 0 _ rfl;obtain ⟨b2,g2⟩:=hB1 2 _ rfl;obtain ⟨b3,g3⟩:=hB1 3 _ rfl))
  have hA2:=((hA1.far (X:=w.heap.size+1) (i:=0) (by omega) (.string nv)).far (X:=w.heap.size+1) (i:=2) (by omega) (.int .i64 ln)).far (X:=w.heap.size+1) (i:=3) (by omega) (.int .i64 co)
  have hB2:=((hB1.set (i:=0) (by simp) (.string nv)).set (i:=2) (by simp) (.int .i64 ln)).set (i:=3) (by simp) (.int .i64 co)
  have hp2:=((hp1.far (Y:=w.heap.size+1) (i:=0) (by omega) (.string nv)).far (Y:=w.heap.size+1) (i:=2) (by omega) (.int .i64 ln)).far (Y:=w.heap.size+1) (i:=3) (by omega) (.int .i64 co)
  have hF2:=((hF1.setN (N:=w.heap.size+1) (i:=0) (by omega) (.string nv)).setN (N:=w.heap.size+1) (i:=2) (by omega) (.int .i64 ln)).setN (N:=w.heap.size+1) (i:=3) (by omega) (.int .i64 co)
  clear hA0 hB0 hA1 hB1 hp1 hf1 hF1 hF0 b0 g0 b2 g2 b3 g3 hp0 hN hE1 hE0
  generalize ((w1.setCell ⟨w.heap.size+1,0,none⟩ (.string nv)).setCell ⟨w.heap.size+1,2,none⟩ (.int .i64 ln)).setCell ⟨w.heap.size+1,3,none⟩ (.int .i64 co)=w2 at *
  go_upto_region 6 with (first
   | (go_at_call 71;refine (hM _ hp2).mono ?_;rintro e w3 ⟨⟨u,rfl⟩,hp3,hf3⟩;have hA3:=hA2.fx hf3 (by omega);have hB3:=hB2.fx hf3 (by omega);have hF3:=hF2.trans hf3)
   | (go_at_call 74;refine (hS _ hp3).mono ?_;rintro e w4 ⟨rfl,hp4,hf4⟩;have hA4:=hA3.fx hf4 (by omega);have hB4:=hB3.fx hf4 (by omega);have hF4:=hF3.trans hf4))
  have hE4:=hE.fx hF4
  clear hA2 hB2 hp2 hF2 hA3 hB3 hp3 hf3 hF3 hf4 hM hS
  go_upto_region 7 with (first
   | (go_at_call 73;refine (hNm _ hp4 hE4).mono ?_;rintro e w5 ⟨rfl,hp5,hf5⟩;have hA5:=hA4.fx hf5 (by omega);have hB5:=hB4.fx hf5 (by omega);have hF5:=hF4.trans hf5;obtain ⟨b1,g1⟩:=hB5 1 _ rfl))
  have hA6:=hA5.far (X:=w.heap.size+1) (i:=1) (by omega) (.int .i64 n)
  have hB6:=hB5.set (i:=1) (by simp) (.int .i64 n)
  have hp6:=hp5.far (Y:=w.heap.size+1) (i:=1) (by omega) (.int .i64 n)
  have hF6:=hF5.setN (N:=w.heap.size+1) (i:=1) (by omega) (.int .i64 n)
  clear hA4 hB4 hp4 hF4 hA5 hB5 hp5 hf5 hF5 b1 g1
  generalize w5.setCell ⟨w.heap.size+1,1,none⟩ (.int .i64 n)=w6 at *
  obtain ⟨b0,g0⟩:=hB6 0 _ rfl
  obtain ⟨b1,g1⟩:=hB6 1 _ rfl
  obtain ⟨b2,g2⟩:=hB6 2 _ rfl
  obtain ⟨b3,g3⟩:=hB6 3 _ rfl
  obtain ⟨a0,k0⟩:=hA6 0 _ rfl
  obtain ⟨a1,k1⟩:=hA6 1 _ rfl
  obtain ⟨a2,k2⟩:=hA6 2 _ rfl
  obtain ⟨a3,k3⟩:=hA6 3 _ rfl
  go_wp2
  exact bodyPost_ret (var_res ((((hA6.set (i:=0) (by simp) _).set (i:=1) (by simp) _).set (i:=2) (by simp) _).set (i:=3) (by simp) _) rfl) rfl ⟨rfl,(((hp6.far hX _).far hX _).far hX _).far hX _,(((hF6.setN (Nat.le_refl _) _).setN (Nat.le_refl _) _).setN (Nat.le_refl _) _).setN (Nat.le_refl _) _⟩
abbrev KdC:=(Bool × Bool) × (List UInt8 × List UInt8) × (Int × Int)
/-- A state's cells, its kind put in. -/
def stV (c0 c1 c2:Value) (k:KdC) (so si:Value):List Value:=[c0,c1,c2,.bool k.1.1,.bool k.1.2,sV k.2.1.1,sV k.2.1.2,.int .i64 k.2.2.1,.int .i64 k.2.2.2,so,si]
def zK:KdC:=((false,false),([],[]),(0,0))
set_option maxRecDepth 100000 in
set_option maxHeartbeats 4000000 in
theorem kind_any {w:World}{X Y:Nat}{a:Option Addr}{cap:Nat}{ws:List Wd}{fin:Pl}{r:RsC}(h:Pr w X a cap ws fin r) (hk:Wk ws cap) (hE:Ey w X) (hXY:X < Y) {c0 c1 c2 so si:Value}(hB:Bn w Y (stV c0 c1 c2 zK so si)) :
  Calls Tryz.prog 106 #[.pointer (some ⟨X,0,none⟩),.pointer (some ⟨Y,0,none⟩)] w fun e w'=>(∃ u,e=.returned u)∧Pr w' X a cap ws fin (kindR fin r).2∧Bn w' Y (stV c0 c1 c2 (kindR fin r).1 so si)∧Fy X Y w w':=by
 unfold kindR
 have hS1:=skips_any h hk wAll
 have e1:(⟨wAll.toArray⟩:ByteArray)=⟨#[97,108,108]⟩:=rfl
 have e2:(⟨wEnd.toArray⟩:ByteArray)=⟨#[101,110,100]⟩:=rfl
 have e3:(⟨wDo.toArray⟩:ByteArray)=⟨#[100,111]⟩:=rfl
 have e4:(⟨wUndo.toArray⟩:ByteArray)=⟨#[117,110,100,111]⟩:=rfl
 have e5:(⟨wAt.toArray⟩:ByteArray)=⟨#[97,116]⟩:=rfl
 have e6:(⟨wRetries.toArray⟩:ByteArray)=⟨#[114,101,116,114,105,101,115]⟩:=rfl
 rw [e1] at hS1
 have hYX:Y≠X:=by omega
 cases h1:isC wAll r with
 | true=>
  rw [h1,skR_yes h1] at hS1
  rw [if_pos rfl]
  generalize takeR fin wAll r=r1 at *
  go_enter Tryz.func106,Tryz.ntmps106
  go_upto_region 1 with (first
   | (go_at_call 74;refine hS1.mono ?_;rintro e w1 ⟨rfl,hp1,hf1⟩))
  have hB1:Bn w1 Y (stV c0 c1 c2 zK so si):=Bn.fx (c:=c0) hB hf1 hYX
  obtain ⟨b3,g3⟩:=hB1 3 _ rfl
  go_wp2
  go_end0
  exact ⟨⟨_,rfl⟩,hp1.far hXY _,hB1.set (i:=3) (by simp [stV]) (.bool true),(Fy.of hf1).setY _⟩
 | false=>
  rw [h1,skR_no h1] at hS1
  rw [if_neg (by decide)]
  have hS2:=fun w1 (hp:Pr w1 X a cap ws fin r)=>skips_any hp hk wEnd
  rw [e2] at hS2
  cases h2:isC wEnd r with
  | true=>
   simp only [h2,skR_yes h2] at hS2
   rw [if_pos rfl]
   generalize takeR fin wEnd r=r1 at *
   go_enter Tryz.func106,Tryz.ntmps106
   go_upto_region 2 with (first
    | (go_at_call 74;refine hS1.mono ?_;rintro e w0 ⟨rfl,hp0,hf0⟩))
   go_upto_region 3 with (first
    | (go_at_call 74;refine (hS2 _ hp0).mono ?_;rintro e w1 ⟨rfl,hp1,hf1⟩))
   have hB1:Bn w1 Y (stV c0 c1 c2 zK so si):=Bn.fx (c:=c0) (Bn.fx (c:=c0) hB hf0 hYX) hf1 hYX
   obtain ⟨b3,g3⟩:=hB1 4 _ rfl
   go_wp2
   go_end0
   exact ⟨⟨_,rfl⟩,hp1.far hXY _,hB1.set (i:=4) (by simp [stV]) (.bool true),(Fy.of (hf0.trans hf1)).setY _⟩
  | false=>
   simp only [h2,skR_no h2] at hS2
   rw [if_neg (by decide)]
   have hS3:=fun w1 (hp:Pr w1 X a cap ws fin r)=>skips_any hp hk wDo
   rw [e3] at hS3
   cases h3:isC wDo r with
   | true=>
    simp only [h3,skR_yes h3] at hS3
    rw [if_pos rfl]
    simp only
    have hN1:=fun w1 (hp:Pr w1 X a cap ws fin (takeR fin wDo r))=>pname_any hp hk
    generalize takeR fin wDo r=r1 at *
    obtain ⟨⟨⟨nm1,ln1,co1⟩,r2⟩,hR1⟩:∃ x,nameR fin r1=x:=⟨_,rfl⟩
    simp only [hR1] at hN1 ⊢
    have hM1:=fun w1 (hp:Pr w1 X a cap ws fin r2)=>must_any hp hk wUndo
    have hN2:=fun w1 (hp:Pr w1 X a cap ws fin (takeR fin wUndo r2))=>pname_any hp hk
    generalize takeR fin wUndo r2=r3 at *
    obtain ⟨⟨⟨nm2,ln2,co2⟩,r4⟩,hR2⟩:∃ x,nameR fin r3=x:=⟨_,rfl⟩
    simp only [hR2] at hN2 ⊢
    have hM2:=fun w1 (hp:Pr w1 X a cap ws fin r4)=>must_any hp hk wAt
    have hN3:=fun w1 (hp:Pr w1 X a cap ws fin (takeR fin wAt r4)) (he:Ey w1 X)=>pnum_any hp hk he
    generalize takeR fin wAt r4=r5 at *
    obtain ⟨⟨n1,r6⟩,hR3⟩:∃ x,numR fin r5=x:=⟨_,rfl⟩
    simp only [hR3] at hN3 ⊢
    have hM3:=fun w1 (hp:Pr w1 X a cap ws fin r6)=>must_any hp hk wRetries
    have hN4:=fun w1 (hp:Pr w1 X a cap ws fin (takeR fin wRetries r6)) (he:Ey w1 X)=>pnum_any hp hk he
    generalize takeR fin wRetries r6=r7 at *
    obtain ⟨⟨n2,r8⟩,hR4⟩:∃ x,numR fin r7=x:=⟨_,rfl⟩
    simp only [hR4] at hN4 ⊢
    rw [e4] at hM1
    rw [e5] at hM2
    rw [e6] at hM3
    unfold sV at hN1 hN2
    clear hR1 hR2 hR3 hR4
    obtain ⟨nv1,hnv1⟩:∃ nv,(⟨nm1.toArray⟩:ByteArray)=nv:=⟨_,rfl⟩
    obtain ⟨nv2,hnv2⟩:∃ nv,(⟨nm2.toArray⟩:ByteArray)=nv:=⟨_,rfl⟩
    simp only [hnv1,hnv2] at hN1 hN2
    have HN:Hid ((⟨nm1.toArray⟩:ByteArray)=nv1∧(⟨nm2.toArray⟩:ByteArray)=nv2):=⟨hnv1,hnv2⟩
    clear hnv1 hnv2
    go_enter Tryz.func106,Tryz.ntmps106
    go_upto_region 2 with (first
     | (go_at_call 74;refine hS1.mono ?_;rintro e w1 ⟨rfl,hp1,hf1⟩))
    go_upto_region 4 with (first
     | (go_at_call 74;refine (hS2 _ hp1).mono ?_;rintro e w2 ⟨rfl,hp2,hf2⟩))
    go_upto_region 5 with (first
     | (go_at_call 74;refine (hS3 _ hp2).mono ?_;rintro e w3 ⟨rfl,hp3,hf3⟩))
    have hF3:Fy X Y w w3:=Fy.of ((hf1.trans hf2).trans hf3)
    have hE3:=hE.fx ((hf1.trans hf2).trans hf3)
    have hB3:Bn w3 Y (stV c0 c1 c2 zK so si):=Bn.fx (c:=c0) hB ((hf1.trans hf2).trans hf3) hYX
    clear hS1 hS2 hS3 hp1 hf1 hp2 hf2 hf3 hB hE h
    go_upto_region 6 with (first
     | (go_at_call 72;refine (hN1 _ hp3).mono ?_;rintro e w4 ⟨rfl,hp4,hf4⟩;have hB4:Bn w4 Y (stV c0 c1 c2 zK so si):=Bn.fx (c:=c0) hB3 hf4 hYX;obtain ⟨b5,g5⟩:=hB4 5 _ rfl))
    have hB5:=hB4.set (i:=5) (by simp [stV]) (.string nv1)
    have hp5:=hp4.far (i:=5) hXY (.string nv1)
    have hE5:=(hE3.fx hf4).far hXY (i:=5) (.string nv1)
    have hF5:=(hF3.trans (Fy.of hf4)).setY (i:=5) (.string nv1)
    clear hB3 hB4 b5 g5 hp3 hp4 hE3 hF3 hf4 hN1
    generalize w4.setCell ⟨Y,5,none⟩ (.string nv1)=w5 at *
    go_upto_region 7 with (first
     | (go_at_call 71;refine (hM1 _ hp5).mono ?_;rintro e w6 ⟨⟨u,rfl⟩,hp6,hf6⟩))
    have hB6:=Bn.fx (c:=c0) hB5 hf6 hYX
    have hE6:=hE5.fx hf6
    have hF6:=hF5.trans (Fy.of hf6)
    clear hB5 hE5 hF5 hf6 hp5 hM1
    go_upto_region 8 with (first
     | (go_at_call 72;refine (hN2 _ hp6).mono ?_;rintro e w7 ⟨rfl,hp7,hf7⟩;have hB7:=Bn.fx (c:=c0) hB6 hf7 hYX;obtain ⟨b5,g5⟩:=hB7 6 _ rfl))
    have hB8:=hB7.set (i:=6) (by simp [stV]) (.string nv2)
    have hp8:=hp7.far (i:=6) hXY (.string nv2)
    have hE8:=(hE6.fx hf7).far hXY (i:=6) (.string nv2)
    have hF8:=(hF6.trans (Fy.of hf7)).setY (i:=6) (.string nv2)
    clear hB6 hB7 b5 g5 hp6 hp7 hE6 hF6 hf7 hN2
    generalize w7.setCell ⟨Y,6,none⟩ (.string nv2)=w8 at *
    go_upto_region 9 with (first
     | (go_at_call 71;refine (hM2 _ hp8).mono ?_;rintro e w9 ⟨⟨u,rfl⟩,hp9,hf9⟩))
    have hB9:=Bn.fx (c:=c0) hB8 hf9 hYX
    have hE9:=hE8.fx hf9
    have hF9:=hF8.trans (Fy.of hf9)
    clear hB8 hE8 hF8 hf9 hp8 hM2
    go_upto_region 10 with (first
     | (go_at_call 73;refine (hN3 _ hp9 hE9).mono ?_;rintro e wa ⟨rfl,hpa,hfa⟩;have hBa:=Bn.fx (c:=c0) hB9 hfa hYX;obtain ⟨b5,g5⟩:=hBa 7 _ rfl))
    have hBb:=hBa.set (i:=7) (by simp [stV]) (.int .i64 n1)
    have hpb:=hpa.far (i:=7) hXY (.int .i64 n1)
    have hEb:=(hE9.fx hfa).far hXY (i:=7) (.int .i64 n1)
    have hFb:=(hF9.trans (Fy.of hfa)).setY (i:=7) (.int .i64 n1)
    clear hB9 hBa b5 g5 hp9 hpa hE9 hF9 hfa hN3
    generalize wa.setCell ⟨Y,7,none⟩ (.int .i64 n1)=wb at *
    go_upto_region 11 with (first
     | (go_at_call 71;refine (hM3 _ hpb).mono ?_;rintro e wc ⟨⟨u,rfl⟩,hpc,hfc⟩))
    have hBc:=Bn.fx (c:=c0) hBb hfc hYX
    have hEc:=hEb.fx hfc
    have hFc:=hFb.trans (Fy.of hfc)
    clear hBb hEb hFb hfc hpb hM3
    go_wp2_with (first
     | (go_at_call 73;refine (hN4 _ hpc hEc).mono ?_;rintro e wd ⟨rfl,hpd,hfd⟩;have hBd:=Bn.fx (c:=c0) hBc hfd hYX;obtain ⟨b5,g5⟩:=hBd 8 _ rfl))
    go_end0
    have hBe:=hBd.set (i:=8) (by simp [stV]) (.int .i64 n2)
    obtain ⟨hv1,hv2⟩:=HN.out
    subst hv1
    subst hv2
    exact ⟨⟨_,rfl⟩,hpd.far hXY _,hBe,(hFc.trans (Fy.of hfd)).setY _⟩
   | false=>
    simp only [h3,skR_no h3] at hS3
    rw [if_neg (by decide)]
    go_enter Tryz.func106,Tryz.ntmps106
    go_upto_region 2 with (first
     | (go_at_call 74;refine hS1.mono ?_;rintro e w0 ⟨rfl,hp0,hf0⟩))
    go_upto_region 4 with (first
     | (go_at_call 74;refine (hS2 _ hp0).mono ?_;rintro e w1 ⟨rfl,hp1,hf1⟩))
    go_wp2_with (first
     | (go_at_call 74;refine (hS3 _ hp1).mono ?_;rintro e w2 ⟨rfl,hp2,hf2⟩))
    go_end0
    exact ⟨⟨_,rfl⟩,hp2,Bn.fx (c:=c0) hB ((hf0.trans hf1).trans hf2) hYX,Fy.of ((hf0.trans hf1).trans hf2)⟩
end Go.Proofs.YtlgnahpfggagoaaGreatDoor
