import Derived.Test.YtfjdceknbdmhpaaGreatDoorWxc14
import Derived.BigRegion
import Derived.Test.YtfjdceknbdmhpaaGreatDoorWxc04
import Derived.Deep.RegionLaw
import Derived.Shelf.LaysC
import Derived.Shelf.Strconv.ParseIntPublic10
import Derived.Test.YtfjdceknbdmhpaaGreatDoorRows
import Derived.Test.YtfjdceknbdmhpaaGreatDoorWxc12
import Derived.Test.YtfjdceknbdmhpaaGreatDoorWxc11
import Derived.Shelf.Strconv.AtoiAll
set_option maxRecDepth 100000
set_option maxHeartbeats 32000000
namespace Go.Proofs.YtfjdceknbdmhpaaGreatDoor
open Go.RowKit Go.Lib
set_option linter.unusedSimpArgs false
set_option linter.unusedVariables false
attribute [local go_sem ↓] Go.wp_at_zero Go.wp_at_succ
theorem joinOne_un {w:World}{X:Nat}{x:Sx}{V:List Sx}{W:List Sg2}{o:Nat}{b:Bool}{vv ww:Value}(h:Rdr w X ⟨x :: V,W,o,b⟩ vv ww) (t:List UInt8) (hl:V.length<=4000) :
  Calls Tryz.prog 299 #[.pointer (some ⟨X,0,none⟩),.agg #[.string ⟨t.toArray⟩,.int .i64 6]] w fun e w'=>(∃ u,e=.returned u)/\(∃ vv',Rdr w' X ⟨mk1 (if t=[33] then 3 else 4) x :: V,W,o,b⟩ vv' ww/\Fr2 X vv ww w w' vv' ww)/\Below X w w':=by
 have hb:=h.b
 have hw:=h.w
 have ha:=h.a
 obtain ⟨g,cap,rfl,h1,h2,h3,h4,c1,fz,ho⟩:=own_last1 h.v
 obtain ⟨q,hq⟩:∃ q,exX x=q:=⟨_,rfl⟩
 have hqf:=exX_form x
 rw [hq] at c1 hqf
 have i2:IntKind.i64.wrap ((V.length:Int)+1 - 1)=(V.length:Int):=by rw [IntKind.wrap_i64];omega
 have i4:IntKind.i64.wrap ((V.length:Int)+1)=(V.length:Int)+1:=by rw [IntKind.wrap_i64];omega
 have hbel:Below w.heap.size w (w.alloc (.cells #[.string ⟨t.toArray⟩,.int .i64 6] 347)):=(Below.refl _ w).alloc Nat.le.refl _
 have hA:=hb.keep hbel
 have c1':=(hbel.cell (p:=⟨g,V.length,none⟩) h4).trans c1
 have z1:=(hbel.frozen (p:=⟨g,V.length,none⟩) h4).trans (fz _)
 have ho4:=World.ownsRow.alloc ho (.cells #[.string ⟨t.toArray⟩,.int .i64 6] 347)
 have hw3:=World.ownsRow.alloc hw (.cells #[.string ⟨t.toArray⟩,.int .i64 6] 347)
 have p1:(w.alloc (.cells #[.string ⟨t.toArray⟩,.int .i64 6] 347)).cell? ⟨w.heap.size,0,none⟩=some (.string ⟨t.toArray⟩):=by simp
 have p2:(w.alloc (.cells #[.string ⟨t.toArray⟩,.int .i64 6] 347)).cell? ⟨w.heap.size,1,none⟩=some (.int .i64 6):=by simp
 obtain ⟨y0,y1,y2,y3,f0,f1,f2,f3⟩:=id hA
 have j2:(V.length:Int) < (V.length:Int)+1:=by omega
 have j3:(0:Int)<=(V.length:Int):=by omega
 have j4:(0:Int)<=(V.length:Int)+1:=by omega
 have j5:(V.length:Int)+1<=(cap:Int):=by omega
 have hXg:g≠X:=by omega
 have haw:ww.ownBlock≠some g:=ha g rfl
 obtain ⟨k,hk⟩:∃ k:Int,(if t=[33] then (3:Int) else 4)=k:=⟨_,rfl⟩
 rw [hk]
 have hkk:(t == [33])=true/\exX (mk1 k x)=.iface 195 (.agg #[q])∨(t == [33])=false/\exX (mk1 k x)=.iface 196 (.agg #[q]):=by
  rw [<- hk,<- hq]
  by_cases e:t=[33]
  ·left;rw [if_pos e];exact ⟨by rw [e];rfl,exX_not x⟩
  ·right;rw [if_neg e];exact ⟨beq_eq_false_iff_ne.2 e,exX_neg x⟩
 clear h ha c1 fz hq hk
 have hob:∀ u:Value,(w.setCell ⟨g,V.length,none⟩ u).ownsRow (X+1) 130 1 (.slice (some ⟨g,0,none⟩) (V.length+1) cap) (V.length+1) (V.reverse.map exX++[u]):=fun u=>own_set1 (by simp) ho
 have hwb:∀ u:Value,(w.setCell ⟨g,V.length,none⟩ u).ownsRow (X+1) 347 2 ww W.length (cels2 W.reverse):=fun u=>rdr_far (y:=⟨V,W,o,b⟩) hw haw u (vv:=.nilIface)
 have hbb:∀ u:Value,B4 (w.setCell ⟨g,V.length,none⟩ u) X (.slice (some ⟨g,0,none⟩) (V.length+1) cap) ww (.int .i64 (o:Int)) (.bool b):=fun u=>hb.far hXg u
 have hbl:∀ u:Value,Below X w (w.setCell ⟨g,V.length,none⟩ u):=fun u=>(Below.refl _ _).setCell (by show X<=g;omega) _
 have hfr:∀ u:Value,Fr2 X (.slice (some ⟨g,0,none⟩) (V.length+1) cap) ww w (w.setCell ⟨g,V.length,none⟩ u) (.slice (some ⟨g,0,none⟩) (V.length+1) cap) ww:=fun u=>(Fr2.refl X _ ww w).setV (g:=g) rfl V.length u
 have hal:∀ wx:World,Below wx.heap.size wx (wx.alloc (.cells #[.string ⟨t.toArray⟩,.int .i64 6] 347)):=fun wx=>(Below.refl _ _).alloc Nat.le.refl _
 have hX:=hb.lt
 clear hb hw ho ho4 hw3 hbel hA
 rcases hqf with rfl|⟨qu,qy,rfl⟩<;>rcases hkk with ⟨e1,hu⟩|⟨e1,hu⟩
 all_goals (
  have hB:=hbb (exX (mk1 k x))
  have ho5:=hob (exX (mk1 k x))
  have hw4:=hwb (exX (mk1 k x))
  have hb2:=hbl (exX (mk1 k x))
  have hF:=hfr (exX (mk1 k x))
  rw [hu] at hB ho5 hw4 hb2 hF
  obtain ⟨q0,q1,q2,q3,g0,g1,g2,g3⟩:=id (hB.keep (hal _))
  clear hob hwb hbb hbl hfr
  go_enter Tryz.func299,Tryz.ntmps299
  go_wp2
  go_end0
  refine ⟨⟨_,rfl⟩,⟨_,⟨(hB.set0 _).keep (hal _),?_,World.ownsRow.alloc (ownsRow_setCell_below hw4 (Nat.lt_succ_self X) _) _,fun k hk=>?_⟩,(hF.setX 0 _).on (hal _)⟩,((hb2.setCell (Nat.le_refl X) _).alloc (by simp;omega) _)⟩
  ·show World.ownsRow _ _ _ _ _ (V.length+1) ((mk1 k x :: V).reverse.map exX)
   rw [List.reverse_cons,List.map_append,List.map_singleton,hu]
   exact World.ownsRow.alloc (ownsRow_setCell_below ho5 (Nat.lt_succ_self X) _) _
  ·simp only [Value.ownBlock,Option.some.injEq] at hk
   rw [<- hk];exact haw)
theorem joinOne_any {w:World}{X:Nat}{V:List Sx}{W:List Sg2}{o:Nat}{b:Bool}{vv ww:Value}(h:Rdr w X ⟨V,W,o,b⟩ vv ww) (s:Sg2) (h6:s.2=6->1<=V.length) (h2:s.2≠6->2<=V.length) (hl:V.length<=4000) :
  Calls Tryz.prog 299 #[.pointer (some ⟨X,0,none⟩),.agg #[.string ⟨s.1.toArray⟩,.int .i64 (s.2:Int)]] w fun e w'=>(∃ u,e=.returned u)/\(∃ vv',Rdr w' X ⟨jn1 V s,W,o,b⟩ vv' ww/\Fr2 X vv ww w w' vv' ww)/\Below X w w':=by
 by_cases hs:s.2=6
 ·match V,h6 hs,h,hl with
  | x :: V,_,h,hl=>
   have e:jn1 (x :: V) s=mk1 (if s.1=[33] then 3 else 4) x :: V:=by unfold jn1;rw [if_pos hs]
   rw [e,hs]
   exact joinOne_un h s.1 (by rw [List.length_cons] at hl;omega)
 ·match V,h2 hs,h,hl with
  | x :: z :: V,_,h,hl=>
   have e:jn1 (x :: z :: V) s=mk2 ⟨s.1.toArray⟩ z x :: V:=by unfold jn1;rw [if_neg hs]
   rw [e]
   exact joinOne_bin h s hs (by rw [List.length_cons,List.length_cons] at hl;omega)
def bins:List Sg2->Nat
 | []=>0
 | s :: W=>bins W+(if s.2=0∨s.2=6 then 0 else 1)
def brk:List Sg2->Nat
 | []=>0
 | s :: W=>brk W+(if s.2=0 then 1 else 0)
theorem jn1_len {V:List Sx}{s:Sg2}{W:List Sg2}(h0:s.2≠0) (h:V.length=bins (s :: W)+1):(jn1 V s).length=bins W+1/\(s.2=6->1<=V.length)/\(s.2≠6->2<=V.length):=by
 unfold bins at h
 unfold jn1
 by_cases h6:s.2=6
 ·rw [if_pos (.inr h6)] at h
  rw [if_pos h6]
  refine ⟨?_,fun _=>by omega,fun h=>absurd h6 h⟩
  match V,h with
  | x :: V,h=>exact h
 ·rw [if_neg (fun q=>q.elim h0 h6)] at h
  rw [if_neg h6]
  refine ⟨?_,fun h=>absurd h h6,fun _=>by omega⟩
  match V,h with
  | x :: z :: V,h=>
   rw [List.length_cons,List.length_cons] at h
   show (V.length+1)=_
   omega
  | [x],h=>simp at h
theorem jn_ok {k:Nat}(hk:1<=k):∀ (W:List Sg2) (V:List Sx),V.length=bins W+1->(jn k V W).1.length=bins (jn k V W).2+1/\brk (jn k V W).2=brk W/\(jn k V W).2.length<=W.length/\topL (jn k V W).2 < k
 | [],V,h=>⟨h,rfl,Nat.le_refl _,hk⟩
 | s :: W,V,h=>by
  unfold jn
  by_cases hs:k<=s.2
  ·rw [if_pos hs]
   obtain ⟨a,b,c,d⟩:=jn_ok hk W (jn1 V s) (jn1_len (by omega) h).1
   refine ⟨a,?_,by rw [List.length_cons];omega,d⟩
   rw [b]
   show brk W=brk W+_
   rw [if_neg (by omega)];rfl
  ·rw [if_neg hs]
   exact ⟨h,rfl,Nat.le_refl _,by show s.2 < k;omega⟩
theorem bins_le:∀ W,bins W<=W.length
 | []=>Nat.le_refl _
 | s :: W=>by
  have:=bins_le W
  show bins W+_<=W.length+1
  split<;>omega
def wlen (X:Nat) (w:World):Nat:=match w.cell? ⟨X,1,none⟩ with|some (.slice _ n _)=>n|_=>0
theorem Rdr.wlen {w:World}{X:Nat}{y:Yd}{vv ww:Value}(h:Rdr w X y vv ww):wlen X w=y.W.length:=by
 obtain ⟨a,cap,rfl,_⟩:=own_form h.w
 unfold Go.Proofs.YtfjdceknbdmhpaaGreatDoor.wlen
 rw [h.b.c1]
theorem Rdr.popW {w:World}{X g cap:Nat}{V:List Sx}{s:Sg2}{W:List Sg2}{o:Nat}{b:Bool}{vv:Value}(h:Rdr w X ⟨V,s :: W,o,b⟩ vv (.slice (some ⟨g,0,none⟩) (W.length+1) cap)) :
  Rdr (w.setCell ⟨X,1,none⟩ (.slice (some ⟨g,0,none⟩) W.length cap)) X ⟨V,W,o,b⟩ vv (.slice (some ⟨g,0,none⟩) W.length cap):=by
 obtain ⟨g',cap',e,_,_,_,_,_,_,ho⟩:=own_last2 h.w
 simp only [Value.slice.injEq,Option.some.injEq,Addr.mk.injEq,and_true,true_and] at e
 obtain ⟨rfl,rfl⟩:=e
 exact ⟨h.b.set1 _,ownsRow_setCell_below h.v (Nat.lt_succ_self X) _,ownsRow_setCell_below ho (Nat.lt_succ_self X) _,h.a⟩
theorem below_draws (B:Nat) (w:World) (m:Nat):Below B w (w.drewN m):=⟨rfl,rfl,rfl,Nat.le_refl _,fun _ _=>rfl⟩
theorem join_any {w:World}{X:Nat}{V:List Sx}{W:List Sg2}{o:Nat}{b:Bool}{vv ww:Value}(h:Rdr w X ⟨V,W,o,b⟩ vv ww) (k:Nat) (hk:1<=k) (hk6:k<=7) (hV:V.length=bins W+1) (hl:W.length<=3001) :
  Calls Tryz.prog 282 #[.pointer (some ⟨X,0,none⟩),.int .i64 (k:Int)] w fun e w'=>(∃ u,e=.returned u)/\(∃ vv' ww',Rdr w' X ⟨(jn k V W).1,(jn k V W).2,o,b⟩ vv' ww'/\Fr2 X vv ww w w' vv' ww')/\Below X w w':=by
 obtain ⟨R,hR⟩:∃ R,jn k V W=R:=⟨_,rfl⟩
 rw [hR]
 have hR0:Hid (jn k V W=R):=hR
 clear hR
 go_enter Tryz.func282,Tryz.ntmps282
 go_wp2
 go_loopw [] (fun wr=>∃ (V':List Sx) (W':List Sg2) (vv' ww':Value),Rdr wr X ⟨V',W',o,b⟩ vv' ww'/\Fr2 X vv ww w wr vv' ww'/\Hid (jn k V' W'=R)/\Hid (V'.length=bins W'+1)/\W'.length<=3001/\Below X w wr) (fun wr=>wlen X wr)
 case atStart=>exact ⟨V,W,vv,ww,h,Fr2.refl X vv ww w,hR0,hV,hl,Below.refl _ _⟩
 case round=>
  obtain ⟨V',W',vv',ww',hr,hf,hj,hv,hl',hb⟩:=hrel
  have hL:=last_any hr (by show W'.length<=4000;omega)
  simp only at hL
  clear h hR0 hV hl
  by_cases hc:k<=topL W'
  ·cases W' with
   | nil=>exact absurd hc (by show ¬ k<=0;omega)
   | cons s W'=>
   have hc':k<=s.2:=hc
   have i1:(k:Int)<=(topL (s :: W'):Int):=by omega
   have hm:=hr.wlen
   obtain ⟨hn1,hn2,hn3⟩:=jn1_len (W:=W') (by omega) hv.out
   have hjj:Hid (jn k (jn1 V' s) W'=R):=by
    have:=hj.out
    rw [jn,if_pos hc'] at this
    exact this
   have hnn:Hid ((jn1 V' s).length=bins W'+1):=hn1
   have hvl:V'.length<=4000:=by
    have:=bins_le (s :: W')
    have:=hv.out
    omega
   obtain ⟨g,cap,rfl,a1,a2,a3,a4,c0,c1,ho⟩:=own_last2 hr.w
   have hJ:=fun m=>joinOne_any (hr.drewN m) s hn2 hn3 hvl
   have c0':∀ m,(wr.drewN m).cell? ⟨g,W'.length*2,none⟩=some (.string ⟨s.1.toArray⟩):=fun _=>c0
   have c1':∀ m,(wr.drewN m).cell? ⟨g,W'.length*2+1,none⟩=some (.int .i64 (s.2:Int)):=fun _=>c1
   have y1:∀ m,(wr.drewN m).cell? ⟨X,1,none⟩=some (.slice (some ⟨g,0,none⟩) (W'.length+1) cap):=fun _=>hr.b.c1
   rw [List.length_cons] at hl'
   have i2:IntKind.i64.wrap ((W'.length:Int)+1 - 1)=(W'.length:Int):=by rw [IntKind.wrap_i64];omega
   have i3:(W'.length:Int) < (W'.length:Int)+1:=by omega
   have i4:(0:Int)<=(W'.length:Int):=by omega
   have i5:(W'.length:Int)<=(cap:Int):=by omega
   clear hj hv hn1 hn2 hn3
   go_wp2_with (first
    | (go_at_call 296;refine hL.mono ?_;rintro e w1 ⟨rfl,m,rfl⟩;have hJm:=hJ m;have y1m:=y1 m;have c0m:=c0' m;have c1m:=c1' m;clear hJ y1 c0' c1' c0 c1 hL;have hbm:Below X w (wr.drewN m):=hb.trans (below_draws _ _ m);have hfm:=hf.on (below_draws _ _ m);generalize wr.drewN m=wm at *)
    | (go_at_call 299;refine hJm.mono ?_;rintro e w2 ⟨⟨u,rfl⟩,⟨vv2,hr2,hf2⟩,b2⟩;have hb2:=hbm.trans b2;have hf3:=hfm.trans hf2;obtain ⟨q0,q1,q2,q3,g0,g1,g2,g3⟩:=id hr2.b))
   have hr3:=hr2.popW
   exact ⟨⟨_,_,_,_,hr3,(hf3.setX 1 _).rows rfl rfl,hjj,hnn,by omega,hb2.setCell (Nat.le_refl X) _⟩,by rw [hr3.wlen,hm];exact Nat.lt_succ_self _⟩
  ·have i1:¬ (k:Int)<=(topL W':Int):=by omega
   have hjj:=hj.out
   rw [jn_skip (by omega)] at hjj
   subst hjj
   go_wp2_with (first
    | (go_at_call 296;refine hL.mono ?_;rintro e w1 ⟨rfl,m,rfl⟩))
   go_end0
   exact ⟨⟨_,rfl⟩,⟨_,_,hr.drewN m,hf.on (below_draws _ _ m)⟩,hb.trans (below_draws _ _ m)⟩
theorem Tryz.infoSg:(Tryz.prog.info? 347).map (fun i=>(i.zero,i.size,i.bytes))=some (some (.agg #[.string ⟨#[]⟩,.int .i64 0]),2,24):=by kernel_rfl
theorem src_sign {P:Program}{t e:TypeId}(ht:P.underlying t=some (.slice e)) (w:World) (s:Sg2) :
  Src P 2 t (.slice (some ⟨w.heap.size,0,none⟩) 1 1) 1 (cel2 s) (w.alloc (.cells #[.string ⟨s.1.toArray⟩,.int .i64 (s.2:Int)] e)):=by
 have h:=World.ownsRow_lit (base:=w.heap.size) (e:=e) (size:=2) w #[.string ⟨s.1.toArray⟩,.int .i64 (s.2:Int)] 1 Nat.le.refl (by simp [maxLen]) (by simp)
 exact Src.ofSlice _ ht _ 1 1 _ (by simp [cel2]) (by simpa [cel2] using h.cells (g:=w.heap.size) rfl) (by simp [cel2,Value.oneCell'])
theorem wait_any {w:World}{X:Nat}{V:List Sx}{W:List Sg2}{o:Nat}{b:Bool}{vv ww:Value}(h:Rdr w X ⟨V,W,o,b⟩ vv ww) (t:List UInt8) (k:Nat) (hk:k<=6) (hl:W.length<=3001) (ht:t.length<=12000) :
  Calls Tryz.prog 297 #[.pointer (some ⟨X,0,none⟩),.string ⟨t.toArray⟩,.int .i64 (k:Int)] w fun e w'=>(∃ u,e=.returned u)/\(∃ ww',Rdr w' X ⟨V,(t,k) :: W,o,b⟩ vv ww')/\Below X w w':=by
 obtain ⟨i0,hi,hz0,hz1,hz2⟩:=info_parts Tryz.infoSg
 obtain ⟨a,cap,rfl,hcap⟩:=own_form h.w
 simp only at h
 have hC:=fun w1=>pClone_any ⟨t.toArray⟩ w1 (by show t.toArray.size<=_;simp;omega)
 obtain ⟨y0,y1,y2,y3,f0,f1,f2,f3⟩:=id h.b
 go_enter Tryz.func297,Tryz.ntmps297
 go_wp2
 go_region_law (first
   | (refine step_append_at _ (by rfl) (.tmp 10) (.tmp 15) 317 317 (by rfl) (X+1) 347 i0 (.agg #[.string ⟨#[]⟩,.int .i64 0]) 2 24 Tryz.underlying317 hi hz0 hz1 hz2 rfl _ W.length _ (by rfl) (World.ownsRow.alloc hr3.w _) _ 1 (cel2 (t,k)) (by rfl) (src_sign Tryz.underlying317 w3 (t,k)) 1 (.inr (by omega)) Nat.le.refl (by unfold maxLen;omega) (by simp;have:=hr3.lt;omega) ?_;intro v4 w4 ho6 hg4 hat;obtain ⟨a4,cap4,rfl,hc4⟩:=own_form ho6;have hb4:Below (X+1) (w3.alloc (.cells #[.string ⟨t.toArray⟩,.int .i64 (k:Int)] 347)) w4:=(Below.refl _ _).grown hg4 (by simp;have:=hr3.lt;omega) (fun k hk=>(World.ownsRow.lt hr3.w k hk).1);have hB4:=hr4.b.keepB hb4 (Nat.lt_succ_self X);have p1:=hB4.c1;have r1:=hB4.f1)
   | (go_simp;refine (hC _).mono ?_;rintro e w3 ⟨rfl,b3⟩;have b3':Below w.heap.size w w3:=((Below.refl _ w).drew).trans b3;have hr3:=h.on b3';have c1:=hr3.b.c1;have d1:=hr3.b.f1;have hr4:=hr3.on (((Below.refl _ w3).alloc Nat.le.refl (.cells #[.string ⟨t.toArray⟩,.int .i64 (k:Int)] 347)));have c2:=hr4.b.c1;have d2:=hr4.b.f1))
 all_goals (
  have hne:vv.ownBlock=none∨vv.ownBlock≠(Value.slice a W.length cap).ownBlock:=by
   cases hq:vv.ownBlock with
   | none=>exact .inl rfl
   | some g=>exact .inr (fun e=>h.a g hq e.symm)
  have hv4:=World.ownsRow.kept hr4.v hg4 hne
  have hbb:Below X w w4:=((b3'.mono (Nat.le_of_lt h.lt)).alloc (Nat.le_of_lt hr3.lt) _).trans (hb4.mono (Nat.le_succ X))
  go_end0
  refine ⟨⟨_,rfl⟩,⟨_,hB4.set1 _,ownsRow_setCell_below hv4 (Nat.lt_succ_self X) _,?_,fun g hg e=>?_⟩,hbb.setCell (Nat.le_refl X) _⟩
  ·refine ownsRow_setCell_below ?_ (Nat.lt_succ_self X) _
   rw [List.reverse_cons,cels2_app]
   have e:cels2 [(t,k)]=cel2 (t,k):=by simp [cels2]
   rw [e]
   exact ho6
  ·rcases hat with q|q
   ·exact h.a g hg (q.symm.trans e)
   ·have hlt:=(World.ownsRow.lt hr3.v g hg).2
    have:some g=some (w3.alloc (.cells #[.string ⟨t.toArray⟩,.int .i64 (k:Int)] 347)).heap.size:=e.symm.trans q
    simp at this
    omega)
end Go.Proofs.YtfjdceknbdmhpaaGreatDoor
namespace Go.Proofs.YtfjdceknbdmhpaaGreatDoor
open Go.Shelf
set_option linter.unusedVariables false
def renP:Ren:={ f:=fun x=>match x with|174=>308|247=>243|245=>213|287=>266|279=>244|280=>245|281=>246|282=>247|321=>278|322=>279|316=>76|171=>47|205=>267|243=>84|246=>85|283=>147|284=>148|285=>149|286=>150|129=>201|317=>200|318=>202|319=>203|320=>204|337=>236|338=>237|n=>n,t:=fun x=>match x with|9=>9|3=>3|2=>2|75=>226|85=>287|4=>4|167=>286|5=>5|53=>212|175=>312|46=>255|168=>289|37=>76|0=>0|210=>315|21=>21|127=>147|145=>332|143=>330|171=>211|173=>215|212=>252|51=>253|20=>20|213=>254|232=>307|233=>308|80=>82|n=>n,g:=fun x=>match x with|15=>5|16=>6|17=>0|18=>3|19=>4|n=>n }
theorem laysP:LaysC.n174 Tryz.prog renP:=
 {mixed:=by kernel_rfl,f129:=Tryz.func201.trans (congrArg some (by kernel_rfl)),f171:=Tryz.func47.trans (congrArg some (by kernel_rfl)),f174:=Tryz.func308.trans (congrArg some (by kernel_rfl)),f205:=Tryz.func267.trans (congrArg some (by kernel_rfl)),f243:=Tryz.func84.trans (congrArg some (by kernel_rfl)),f245:=Tryz.func213.trans (congrArg some (by kernel_rfl)),f246:=Tryz.func85.trans (congrArg some (by kernel_rfl)),f247:=Tryz.func243.trans (congrArg some (by kernel_rfl)),f279:=Tryz.func244.trans (congrArg some (by kernel_rfl)),f280:=Tryz.func245.trans (congrArg some (by kernel_rfl)),f281:=Tryz.func246.trans (congrArg some (by kernel_rfl)),f282:=Tryz.func247.trans (congrArg some (by kernel_rfl)),f283:=Tryz.func147.trans (congrArg some (by kernel_rfl)),f284:=Tryz.func148.trans (congrArg some (by kernel_rfl)),f285:=Tryz.func149.trans (congrArg some (by kernel_rfl)),f286:=Tryz.func150.trans (congrArg some (by kernel_rfl)),f287:=Tryz.func266.trans (congrArg some (by kernel_rfl)),f316:=Tryz.func76.trans (congrArg some (by kernel_rfl)),f317:=Tryz.func200.trans (congrArg some (by kernel_rfl)),f318:=Tryz.func202.trans (congrArg some (by kernel_rfl)),f319:=Tryz.func203.trans (congrArg some (by kernel_rfl)),f320:=Tryz.func204.trans (congrArg some (by kernel_rfl)),f321:=Tryz.func278.trans (congrArg some (by kernel_rfl)),f322:=Tryz.func279.trans (congrArg some (by kernel_rfl)),f337:=Tryz.func236.trans (congrArg some (by kernel_rfl)),f338:=Tryz.func237.trans (congrArg some (by kernel_rfl)),t0:=Tryz.underlying0,a0:=Tryz.isAgg0,z0:=Tryz.sizeOf0,v0:=Tryz.zeroValue0,t2:=Tryz.underlying2,a2:=Tryz.isAgg2,z2:=Tryz.sizeOf2,v2:=Tryz.zeroValue2,t3:=Tryz.underlying3,a3:=Tryz.isAgg3,z3:=Tryz.sizeOf3,v3:=Tryz.zeroValue3,t4:=Tryz.underlying4,a4:=Tryz.isAgg4,z4:=Tryz.sizeOf4,v4:=Tryz.zeroValue4,t5:=Tryz.underlying5,a5:=Tryz.isAgg5,z5:=Tryz.sizeOf5,v5:=Tryz.zeroValue5,t9:=Tryz.underlying9,a9:=Tryz.isAgg9,z9:=Tryz.sizeOf9,v9:=Tryz.zeroValue9,t20:=Tryz.underlying20,a20:=Tryz.isAgg20,z20:=Tryz.sizeOf20,v20:=Tryz.zeroValue20,t21:=Tryz.underlying21,a21:=Tryz.isAgg21,z21:=Tryz.sizeOf21,v21:=Tryz.zeroValue21,t37:=Tryz.underlying76,a37:=Tryz.isAgg76,z37:=Tryz.sizeOf76,v37:=Tryz.zeroValue76,t46:=Tryz.underlying255,a46:=Tryz.isAgg255,z46:=Tryz.sizeOf255,v46:=Tryz.zeroValue255,t51:=Tryz.underlying253,a51:=Tryz.isAgg253,z51:=Tryz.sizeOf253,v51:=Tryz.zeroValue253,t53:=Tryz.underlying212,a53:=Tryz.isAgg212,z53:=Tryz.sizeOf212,v53:=Tryz.zeroValue212,t75:=Tryz.underlying226,a75:=Tryz.isAgg226,z75:=Tryz.sizeOf226,v75:=Tryz.zeroValue226,t85:=Tryz.underlying287,a85:=Tryz.isAgg287,z85:=Tryz.sizeOf287,v85:=Tryz.zeroValue287,t127:=Tryz.underlying147,a127:=Tryz.isAgg147,z127:=Tryz.sizeOf147,v127:=Tryz.zeroValue147,t143:=Tryz.underlying330,a143:=Tryz.isAgg330,z143:=Tryz.sizeOf330,v143:=Tryz.zeroValue330,t145:=Tryz.underlying332,a145:=Tryz.isAgg332,z145:=Tryz.sizeOf332,v145:=Tryz.zeroValue332,t167:=Tryz.underlying286,a167:=Tryz.isAgg286,z167:=Tryz.sizeOf286,v167:=Tryz.zeroValue286,t168:=Tryz.underlying289,a168:=Tryz.isAgg289,z168:=Tryz.sizeOf289,v168:=Tryz.zeroValue289,t171:=Tryz.underlying211,a171:=Tryz.isAgg211,z171:=Tryz.sizeOf211,v171:=Tryz.zeroValue211,t173:=Tryz.underlying215,a173:=Tryz.isAgg215,z173:=Tryz.sizeOf215,v173:=Tryz.zeroValue215,t175:=Tryz.underlying312,a175:=Tryz.isAgg312,z175:=Tryz.sizeOf312,v175:=Tryz.zeroValue312,t210:=Tryz.underlying315,a210:=Tryz.isAgg315,z210:=Tryz.sizeOf315,v210:=Tryz.zeroValue315,t212:=Tryz.underlying252,a212:=Tryz.isAgg252,z212:=Tryz.sizeOf252,v212:=Tryz.zeroValue252,t213:=Tryz.underlying254,a213:=Tryz.isAgg254,z213:=Tryz.sizeOf254,t232:=Tryz.underlying307,a232:=Tryz.isAgg307,z232:=Tryz.sizeOf307,v232:=Tryz.zeroValue307,t233:=Tryz.underlying308,a233:=Tryz.isAgg308,z233:=Tryz.sizeOf308,v233:=Tryz.zeroValue308,g15:=by kernel_rfl,g16:=by kernel_rfl,g17:=by kernel_rfl,g18:=by kernel_rfl,g19:=by kernel_rfl,t80:=Tryz.underlying82,a80:=Tryz.isAgg82,z80:=Tryz.sizeOf82,v80:=Tryz.zeroValue82,i0:=by kernel_rfl,i2:=by kernel_rfl,i3:=by kernel_rfl,i4:=by kernel_rfl,i5:=by kernel_rfl,i9:=by kernel_rfl,i20:=by kernel_rfl,i21:=by kernel_rfl,i37:=by kernel_rfl,i46:=by kernel_rfl,i51:=by kernel_rfl,i53:=by kernel_rfl,i75:=by kernel_rfl,i80:=by kernel_rfl,i85:=by kernel_rfl,i127:=by kernel_rfl,i143:=by kernel_rfl,i145:=by kernel_rfl,i167:=by kernel_rfl,i168:=by kernel_rfl,i171:=by kernel_rfl,i173:=by kernel_rfl,i175:=by kernel_rfl,i210:=by kernel_rfl,i212:=by kernel_rfl,i232:=by kernel_rfl,i233:=by kernel_rfl,m15:=by kernel_rfl,m16:=by kernel_rfl,m17:=by kernel_rfl,m18:=by kernel_rfl,m19:=by kernel_rfl,c0:=by kernel_rfl,c2:=by kernel_rfl,c3:=by kernel_rfl,c4:=by kernel_rfl,c5:=by kernel_rfl,c9:=by kernel_rfl,c20:=by kernel_rfl,c21:=by kernel_rfl,c37:=by kernel_rfl,c46:=by kernel_rfl,c51:=by kernel_rfl,c53:=by kernel_rfl,c75:=by kernel_rfl,c80:=by kernel_rfl,c85:=by kernel_rfl,c127:=by kernel_rfl,c143:=by kernel_rfl,c145:=by kernel_rfl,c167:=by kernel_rfl,c168:=by kernel_rfl,c171:=by kernel_rfl,c173:=by kernel_rfl,c175:=by kernel_rfl,c210:=by kernel_rfl,c212:=by kernel_rfl,c213:=by kernel_rfl,c232:=by kernel_rfl,c233:=by kernel_rfl }
end Go.Proofs.YtfjdceknbdmhpaaGreatDoor
namespace Go.Proofs.YtfjdceknbdmhpaaGreatDoor
open Go.RowKit Go.Lib
set_option linter.unusedSimpArgs false
set_option linter.unusedVariables false
attribute [local go_sem ↓] Go.wp_at_zero Go.wp_at_succ
theorem pParseInt_any (s:ByteArray) (hs:numB (bl s)=true) (w:World):Calls Tryz.prog 308 #[.string s,.int .i64 10,.int .i64 64] w fun e w'=>e=.returned (.tuple #[.int .i64 (valB 0 (bl s)),.nilIface])/\Below w.heap.size w w':=by
 have hl:=(num_len hs).1
 have h:=Any.strconv_ParseInt_10_at64_ok laysP s (by rw [<- bl_length];omega) (valB 0 (bl s)) (parse_num hs) w
 refine Calls.mono h ?_
 rintro e w' ⟨rfl,hw⟩
 refine ⟨rfl,?_⟩
 rcases hw with rfl|⟨t,rfl⟩
 ·exact Below.refl _ _
 ·exact bytesWorld_below _ _ _
theorem closes_no {w:World}{X:Nat}{V:List Sx}{W:List Sg2}{b:Bool}{vv ww:Value}(h:Rdr w X ⟨V,W,0,b⟩ vv ww) :
  Calls Tryz.prog 295 #[.pointer (some ⟨X,0,none⟩)] w fun e w'=>e=.returned (.bool false)/\w=w':=by
 obtain ⟨y0,y1,y2,y3,f0,f1,f2,f3⟩:=id h.b
 simp only at y2
 go_enter Tryz.func295,Tryz.ntmps295
 go_wp2
 go_ret
 exact ⟨rfl,rfl⟩
theorem brk_top {W:List Sg2}(h:brk W≠0) (ht:topL W < 1):∃ s W',W=s :: W'/\brk W=brk W'+1/\bins W=bins W':=by
 cases W with
 | nil=>exact absurd rfl h
 | cons s W=>
  have h0:s.2=0:=by have:s.2 < 1:=ht;omega
  refine ⟨s,W,rfl,?_,?_⟩
  ·show brk W+_=_;rw [if_pos h0]
  ·show bins W+_=_;rw [if_pos (.inl h0)];rfl
theorem closes_yes {w:World}{X:Nat}{V:List Sx}{W:List Sg2}{o:Nat}{b:Bool}{vv ww:Value}(h:Rdr w X ⟨V,W,o,b⟩ vv ww) (ho:o≠0) (hob:o=brk W) (hV:V.length=bins W+1) (hl:W.length<=3001) :
  Calls Tryz.prog 295 #[.pointer (some ⟨X,0,none⟩)] w fun e w'=>e=.returned (.bool true)/\(∃ vv' ww',Rdr w' X ⟨(jn 1 V W).1,(jn 1 V W).2.tail,o - 1,b⟩ vv' ww')/\Below X w w':=by
 obtain ⟨y0,y1,y2,y3,f0,f1,f2,f3⟩:=id h.b
 have hJ:=join_any h 1 (by omega) (by omega) hV hl
 obtain ⟨a1,a2,a3,a4⟩:=jn_ok (k:=1) (by omega) W V hV
 obtain ⟨s,W',e,_,_⟩:=brk_top (W:=(jn 1 V W).2) (by omega) a4
 obtain ⟨V',hV'⟩:∃ V',(jn 1 V W).1=V':=⟨_,rfl⟩
 rw [e,hV'] at hJ
 rw [e,hV',List.tail_cons]
 rw [e,List.length_cons] at a3
 have hob':o<=4000:=by
  have:∀ W,brk W<=W.length:=fun W=>by
   induction W with
   | nil=>exact Nat.le_refl _
   | cons x r ih=>show brk r+_<=r.length+1;split<;>omega
  have:=this W
  omega
 obtain ⟨q,rfl⟩:∃ q,o=q+1:=⟨o - 1,by omega⟩
 have i1:(((q+1:Nat):Int) == 0)=false:=beq_eq_false_iff_ne.2 (by omega)
 simp only at y2
 clear hob ho hV a1 a2 a4 e hV' h
 go_enter Tryz.func295,Tryz.ntmps295
 go_wp2_with (first
  | (go_at_call 282;refine hJ.mono ?_;rintro e w1 ⟨⟨u,rfl⟩,⟨vv1,ww1,hr1,_⟩,b1⟩;obtain ⟨g,cap,rfl,q1,q2,q3,q4,c0,c1,hoo⟩:=own_last2 hr1.w;obtain ⟨z0,z1,z2,z3,g0,g1,g2,g3⟩:=id hr1.b))
 have i2:IntKind.i64.wrap ((W'.length:Int)+1 - 1)=(W'.length:Int):=by rw [IntKind.wrap_i64];omega
 have i4:(0:Int)<=(W'.length:Int):=by omega
 have i5:(W'.length:Int)<=(cap:Int):=by omega
 go_region
 have hr2:=hr1.popW.drew
 have hb2:Below X w (w1.setCell ⟨X,1,none⟩ (.slice (some ⟨g,0,none⟩) W'.length cap)).drew:=(b1.setCell (Nat.le_refl X) _).drew
 clear hr1 z0 z1 z2 z3 g0 g1 g2 g3 b1 y0 y1 y2 y3 f0 f1 f2 f3 hJ c0 c1 hoo
 obtain ⟨z0,z1,z2,z3,g0,g1,g2,g3⟩:=id hr2.b
 simp only at z2
 generalize (w1.setCell ⟨X,1,none⟩ (.slice (some ⟨g,0,none⟩) W'.length cap)).drew=w2 at *
 have i6:IntKind.i64.wrap (((q+1:Nat):Int) - 1)=(q:Int):=by rw [IntKind.wrap_i64];omega
 go_wp2
 go_ret
 exact ⟨rfl,⟨_,_,hr2.b.set2 _,ownsRow_setCell_below hr2.v (Nat.lt_succ_self X) _,ownsRow_setCell_below hr2.w (Nat.lt_succ_self X) _,hr2.a⟩,hb2.setCell (Nat.le_refl X) _⟩
end Go.Proofs.YtfjdceknbdmhpaaGreatDoor
namespace Go.Proofs.YtfjdceknbdmhpaaGreatDoor
open Go.Shelf
set_option linter.unusedVariables false
def renA:Ren:={ f:=fun x=>match x with|172=>165|244=>212|245=>213|247=>243|279=>244|280=>245|281=>246|282=>247|287=>266|316=>76|171=>47|205=>267|321=>278|322=>279|243=>84|246=>85|283=>147|284=>148|285=>149|286=>150|129=>201|317=>200|318=>202|319=>203|320=>204|337=>236|338=>237|n=>n,t:=fun x=>match x with|9=>9|3=>3|75=>226|76=>227|4=>4|5=>5|167=>286|37=>76|0=>0|85=>287|2=>2|168=>289|53=>212|175=>312|46=>255|210=>315|127=>147|145=>332|143=>330|21=>21|171=>211|173=>215|212=>252|51=>253|20=>20|213=>254|232=>307|233=>308|80=>82|n=>n,g:=fun x=>match x with|15=>5|16=>6|17=>0|18=>3|19=>4|n=>n }
theorem laysA:LaysC.n172 Tryz.prog renA:=
 {mixed:=by kernel_rfl,f129:=Tryz.func201.trans (congrArg some (by kernel_rfl)),f171:=Tryz.func47.trans (congrArg some (by kernel_rfl)),f172:=Tryz.func165.trans (congrArg some (by kernel_rfl)),f205:=Tryz.func267.trans (congrArg some (by kernel_rfl)),f243:=Tryz.func84.trans (congrArg some (by kernel_rfl)),f244:=Tryz.func212.trans (congrArg some (by kernel_rfl)),f245:=Tryz.func213.trans (congrArg some (by kernel_rfl)),f246:=Tryz.func85.trans (congrArg some (by kernel_rfl)),f247:=Tryz.func243.trans (congrArg some (by kernel_rfl)),f279:=Tryz.func244.trans (congrArg some (by kernel_rfl)),f280:=Tryz.func245.trans (congrArg some (by kernel_rfl)),f281:=Tryz.func246.trans (congrArg some (by kernel_rfl)),f282:=Tryz.func247.trans (congrArg some (by kernel_rfl)),f283:=Tryz.func147.trans (congrArg some (by kernel_rfl)),f284:=Tryz.func148.trans (congrArg some (by kernel_rfl)),f285:=Tryz.func149.trans (congrArg some (by kernel_rfl)),f286:=Tryz.func150.trans (congrArg some (by kernel_rfl)),f287:=Tryz.func266.trans (congrArg some (by kernel_rfl)),f316:=Tryz.func76.trans (congrArg some (by kernel_rfl)),f317:=Tryz.func200.trans (congrArg some (by kernel_rfl)),f318:=Tryz.func202.trans (congrArg some (by kernel_rfl)),f319:=Tryz.func203.trans (congrArg some (by kernel_rfl)),f320:=Tryz.func204.trans (congrArg some (by kernel_rfl)),f321:=Tryz.func278.trans (congrArg some (by kernel_rfl)),f322:=Tryz.func279.trans (congrArg some (by kernel_rfl)),f337:=Tryz.func236.trans (congrArg some (by kernel_rfl)),f338:=Tryz.func237.trans (congrArg some (by kernel_rfl)),t0:=Tryz.underlying0,a0:=Tryz.isAgg0,z0:=Tryz.sizeOf0,v0:=Tryz.zeroValue0,t2:=Tryz.underlying2,a2:=Tryz.isAgg2,z2:=Tryz.sizeOf2,v2:=Tryz.zeroValue2,t3:=Tryz.underlying3,a3:=Tryz.isAgg3,z3:=Tryz.sizeOf3,v3:=Tryz.zeroValue3,t4:=Tryz.underlying4,a4:=Tryz.isAgg4,z4:=Tryz.sizeOf4,v4:=Tryz.zeroValue4,t5:=Tryz.underlying5,a5:=Tryz.isAgg5,z5:=Tryz.sizeOf5,v5:=Tryz.zeroValue5,t9:=Tryz.underlying9,a9:=Tryz.isAgg9,z9:=Tryz.sizeOf9,v9:=Tryz.zeroValue9,t20:=Tryz.underlying20,a20:=Tryz.isAgg20,z20:=Tryz.sizeOf20,v20:=Tryz.zeroValue20,t21:=Tryz.underlying21,a21:=Tryz.isAgg21,z21:=Tryz.sizeOf21,v21:=Tryz.zeroValue21,t37:=Tryz.underlying76,a37:=Tryz.isAgg76,z37:=Tryz.sizeOf76,v37:=Tryz.zeroValue76,t46:=Tryz.underlying255,a46:=Tryz.isAgg255,z46:=Tryz.sizeOf255,v46:=Tryz.zeroValue255,t51:=Tryz.underlying253,a51:=Tryz.isAgg253,z51:=Tryz.sizeOf253,v51:=Tryz.zeroValue253,t53:=Tryz.underlying212,a53:=Tryz.isAgg212,z53:=Tryz.sizeOf212,v53:=Tryz.zeroValue212,t75:=Tryz.underlying226,a75:=Tryz.isAgg226,z75:=Tryz.sizeOf226,v75:=Tryz.zeroValue226,t76:=Tryz.underlying227,a76:=Tryz.isAgg227,z76:=Tryz.sizeOf227,v76:=Tryz.zeroValue227,t85:=Tryz.underlying287,a85:=Tryz.isAgg287,z85:=Tryz.sizeOf287,v85:=Tryz.zeroValue287,t127:=Tryz.underlying147,a127:=Tryz.isAgg147,z127:=Tryz.sizeOf147,v127:=Tryz.zeroValue147,t143:=Tryz.underlying330,a143:=Tryz.isAgg330,z143:=Tryz.sizeOf330,v143:=Tryz.zeroValue330,t145:=Tryz.underlying332,a145:=Tryz.isAgg332,z145:=Tryz.sizeOf332,v145:=Tryz.zeroValue332,t167:=Tryz.underlying286,a167:=Tryz.isAgg286,z167:=Tryz.sizeOf286,v167:=Tryz.zeroValue286,t168:=Tryz.underlying289,a168:=Tryz.isAgg289,z168:=Tryz.sizeOf289,v168:=Tryz.zeroValue289,t171:=Tryz.underlying211,a171:=Tryz.isAgg211,z171:=Tryz.sizeOf211,v171:=Tryz.zeroValue211,t173:=Tryz.underlying215,a173:=Tryz.isAgg215,z173:=Tryz.sizeOf215,v173:=Tryz.zeroValue215,t175:=Tryz.underlying312,a175:=Tryz.isAgg312,z175:=Tryz.sizeOf312,v175:=Tryz.zeroValue312,t210:=Tryz.underlying315,a210:=Tryz.isAgg315,z210:=Tryz.sizeOf315,v210:=Tryz.zeroValue315,t212:=Tryz.underlying252,a212:=Tryz.isAgg252,z212:=Tryz.sizeOf252,v212:=Tryz.zeroValue252,t213:=Tryz.underlying254,a213:=Tryz.isAgg254,z213:=Tryz.sizeOf254,t232:=Tryz.underlying307,a232:=Tryz.isAgg307,z232:=Tryz.sizeOf307,v232:=Tryz.zeroValue307,t233:=Tryz.underlying308,a233:=Tryz.isAgg308,z233:=Tryz.sizeOf308,v233:=Tryz.zeroValue308,g15:=by kernel_rfl,g16:=by kernel_rfl,g17:=by kernel_rfl,g18:=by kernel_rfl,g19:=by kernel_rfl,t80:=Tryz.underlying82,a80:=Tryz.isAgg82,z80:=Tryz.sizeOf82,v80:=Tryz.zeroValue82,i0:=by kernel_rfl,i2:=by kernel_rfl,i3:=by kernel_rfl,i4:=by kernel_rfl,i5:=by kernel_rfl,i9:=by kernel_rfl,i20:=by kernel_rfl,i21:=by kernel_rfl,i37:=by kernel_rfl,i46:=by kernel_rfl,i51:=by kernel_rfl,i53:=by kernel_rfl,i75:=by kernel_rfl,i76:=by kernel_rfl,i80:=by kernel_rfl,i85:=by kernel_rfl,i127:=by kernel_rfl,i143:=by kernel_rfl,i145:=by kernel_rfl,i167:=by kernel_rfl,i168:=by kernel_rfl,i171:=by kernel_rfl,i173:=by kernel_rfl,i175:=by kernel_rfl,i210:=by kernel_rfl,i212:=by kernel_rfl,i232:=by kernel_rfl,i233:=by kernel_rfl,m15:=by kernel_rfl,m16:=by kernel_rfl,m17:=by kernel_rfl,m18:=by kernel_rfl,m19:=by kernel_rfl,c0:=by kernel_rfl,c2:=by kernel_rfl,c3:=by kernel_rfl,c4:=by kernel_rfl,c5:=by kernel_rfl,c9:=by kernel_rfl,c20:=by kernel_rfl,c21:=by kernel_rfl,c37:=by kernel_rfl,c46:=by kernel_rfl,c51:=by kernel_rfl,c53:=by kernel_rfl,c75:=by kernel_rfl,c76:=by kernel_rfl,c80:=by kernel_rfl,c85:=by kernel_rfl,c127:=by kernel_rfl,c143:=by kernel_rfl,c145:=by kernel_rfl,c167:=by kernel_rfl,c168:=by kernel_rfl,c171:=by kernel_rfl,c173:=by kernel_rfl,c175:=by kernel_rfl,c210:=by kernel_rfl,c212:=by kernel_rfl,c213:=by kernel_rfl,c232:=by kernel_rfl,c233:=by kernel_rfl }
end Go.Proofs.YtfjdceknbdmhpaaGreatDoor
namespace Go.Proofs.YtfjdceknbdmhpaaGreatDoor
open Go.RowKit Go.Lib
set_option linter.unusedSimpArgs false
set_option linter.unusedVariables false
attribute [local go_sem ↓] Go.wp_at_zero Go.wp_at_succ
def wordR (k:Nat) (fin:Pl) (r:RsC):Option Wd × RsC:=match r.1 with
 | []=>(none,failC 12 (hereR fin r) r)
 | x :: l=>if r.2.2=0/\x.1=k/\rsvB (tkW x).2=false then (some x,(l,r.2)) else (none,failC 12 (hereR fin r) r)
def wdA:Option Wd->Value
 | none=>.agg #[.int .i64 0,.string ⟨#[]⟩,.int .i64 0,.int .i64 0]
 | some x=>.agg #[.int .i64 (x.1:Int),.string (txt x.2.1),.int .i64 x.2.2.1,.int .i64 x.2.2.2]
theorem at4_res {w4:World}{R:Nat}{a b c e:Value}{tmps:Array Value}(hR:World.cell? w4 ⟨R,0,none⟩=some a/\World.cell? w4 ⟨R,1,none⟩=some b/\World.cell? w4 ⟨R,2,none⟩=some c/\World.cell? w4 ⟨R,3,none⟩=some e) (ht:tmps.getD 4 undef=.pointer (some ⟨R,0,none⟩)):(results Tryz.f164 tmps).run Tryz.prog w4=.ok (.agg #[a,b,c,e]) w4:=by
 obtain ⟨c0,c1,c2,c3⟩:=hR
 have ht':tmps[4]?.getD undef=.pointer (some ⟨R,0,none⟩):=by simpa using ht
 simp [results,Tryz.results164,go_sem,ht',c0,c1,c2,c3]
theorem B4.atP {w:World}{N:Nat}{a b c e:Value}(h:B4 w N a b c e):w.cell? ⟨N,0,none⟩=some a/\w.cell? ⟨N,1,none⟩=some b/\w.cell? ⟨N,2,none⟩=some c/\w.cell? ⟨N,3,none⟩=some e:=⟨h.c0,h.c1,h.c2,h.c3⟩
theorem B4.fxP {w w':World}{X N:Nat}{a b c e:Value}(h:B4 w N a b c e) (hf:Fx X w w') (hN:N≠X):B4 w' N a b c e:=by
 have hb:w'.heap[N]?=w.heap[N]?:=hf.block N h.lt (fun q=>hN (Option.some.inj q))
 have hc:∀ i,w'.cell? ⟨N,i,none⟩=w.cell? ⟨N,i,none⟩:=fun i=>World.cell?_of_block (w:=w) (a:=⟨N,i,none⟩) hb
 have hz:∀ i,w'.frozen? ⟨N,i,none⟩=w.frozen? ⟨N,i,none⟩:=fun i=>World.frozen?_of_block (w:=w) (a:=⟨N,i,none⟩) hb
 exact ⟨(hc 0).trans h.c0,(hc 1).trans h.c1,(hc 2).trans h.c2,(hc 3).trans h.c3,(hz 0).trans h.f0,(hz 1).trans h.f1,(hz 2).trans h.f2,(hz 3).trans h.f3⟩
theorem Fx.put4' {X N:Nat}{a b:World}(h:Fx X a b) (hN:a.heap.size<=N) (c0 c1 c2 c3:Value):Fx X a (Go.Proofs.YtfjdceknbdmhpaaGreatDoor.put4 b N c0 c1 c2 c3):=(((h.setN hN c0).setN hN c1).setN hN c2).setN hN c3
theorem Rr.put4 {w:World}{X N:Nat}{a:Option Addr}{cap:Nat}{ws:List Wd}{n:Nat}{b:Int}(h:Rr w X a cap ws n b) (hN:X < N) (c0 c1 c2 c3:Value):Rr (put4 w N c0 c1 c2 c3) X a cap ws n b:=(((h.far hN c0).far hN c1).far hN c2).far hN c3
abbrev zGW:Obj:=.cells #[.int .i64 0,.string ⟨#[]⟩,.int .i64 0,.int .i64 0] 106
theorem alGW (w:World):Below w.heap.size w (w.alloc zGW):=(Below.refl _ _).alloc Nat.le.refl _
theorem word_no {w:World}{X:Nat}{a:Option Addr}{cap:Nat}{ws:List Wd}{fin:Pl}{r:RsC}(h:Pr w X a cap ws fin r) (hk:Wk ws cap) (k:Nat) (hno:r.2.2≠0∨r.1=[]∨∃ x l,r.1=x :: l/\(x.1≠k∨rsvB (tkW x).2=true)) :
  Calls Tryz.prog 164 #[.pointer (some ⟨X,0,none⟩),.int .i64 (k:Int)] w fun e w'=>e=.returned (wdA none)/\Pr w' X a cap ws fin (failC 12 (hereR fin r) r)/\Fx X w w':=by
 obtain ⟨n,h1,h2,h3,h4⟩:=id h
 have hX:=h.lt
 have hR0:=h1.on (alGW w)
 have hB0:B4 (w.alloc zGW) w.heap.size (.int .i64 0) (.string ⟨#[]⟩) (.int .i64 0) (.int .i64 0):=B4.new w _ _ _ _ _ _ rfl
 have hF:=fun w1 (hr:Rr w1 X a cap ws n r.2.2)=>pfail_any hr 12
 have hRs:=fun s w1=>pReserved_any s w1
 have hcap:=hk.c
 have hbad:∀ w',Rr w' X a cap ws n (if r.2.2=0 then 12 else r.2.2)->Pr w' X a cap ws fin (failC 12 (hereR fin r) r):=fun w' hr=>Pr.bad hr h2 h3 h4
 have HB:Hid (∀ w',Rr w' X a cap ws n (if r.2.2=0 then 12 else r.2.2)->Pr w' X a cap ws fin (failC 12 (hereR fin r) r)):=hbad
 obtain ⟨c0,c1,c2,f1,f2,hL⟩:=id hR0
 obtain ⟨b,hb⟩:∃ b,r.2.2=b:=⟨_,rfl⟩
 rw [hb] at c2 hno
 have i2:(0:Int)<=(n:Int):=by omega
 have hend:∀ w1,Fx X (w.alloc zGW) w1->Rr w1 X a cap ws n (if r.2.2=0 then 12 else r.2.2)->B4 w1 w.heap.size (.int .i64 0) (.string ⟨#[]⟩) (.int .i64 0) (.int .i64 0)/\Fx X w w1:=fun w1 hf hr=>⟨hB0.fxP hf (by omega),(Fx.of (alGW w) Nat.le.refl).trans hf⟩
 have HEnd:Hid (∀ w1,Fx X (w.alloc zGW) w1->Rr w1 X a cap ws n (if r.2.2=0 then 12 else r.2.2)->B4 w1 w.heap.size (.int .i64 0) (.string ⟨#[]⟩) (.int .i64 0) (.int .i64 0)/\Fx X w w1):=hend
 clear hbad hend
 by_cases hz:b=0
 ·subst hz
  rcases hno with q|q|⟨x,l,q,q2⟩
  ·exact absurd rfl q
  ·rw [q] at h2
   have hn:=drop_nil h2 h3
   have i1:(n == ws.length)=true:=by simpa using hn
   have i3:((n:Int) == (ws.length:Int))=true:=by simp [hn]
   clear hL h2 h3 h4 q hn hB0 hRs
   go_enter Tryz.func164,Tryz.ntmps164
   go_wp2
   go_quiet (fail)
   have hr1:=hR0.on (draws _ nq)
   have hfq:Fx X (w.alloc zGW) ((w.alloc zGW).drewN nq):=(Fx.refl _ _).drewN nq
   generalize (w.alloc zGW).drewN nq=w1 at *
   go_upto_region 3 with (first
    | (go_at_call 106;refine (hF _ hr1).mono ?_;rintro e w2 ⟨⟨u,rfl⟩,hr2,hf2⟩))
   obtain ⟨hB2,hF2⟩:=HEnd.out _ (hfq.trans hf2) hr2
   obtain ⟨y0,y1,y2,y3,z0,z1,z2,z3⟩:=id hB2
   go_wp2
   exact bodyPost_ret (at4_res (hB2.put _ _ _ _).atP rfl) rfl ⟨rfl,HB.out _ (hr2.put4 hX _ _ _ _),hF2.put4' Nat.le.refl _ _ _ _⟩
  ·rw [q] at h2
   obtain ⟨hn,_,hx⟩:=drop_cons h2
   obtain ⟨g,off,rfl,hgX,d0,d1,d2,d3⟩:=hL n hn
   have i1:((n:Int) == (ws.length:Int))=false:=by simp;omega
   have i3:(n:Int) < (ws.length:Int):=by omega
   rw [hx hn] at d0 d1
   have hd1:(w.alloc zGW).cell? ⟨g,off+n*4+1,none⟩=some (.string ⟨(tkW x).2.toArray⟩):=d1
   have hRv:=fun w1=>hRs ⟨(tkW x).2.toArray⟩ w1
   have e2:bl ⟨(tkW x).2.toArray⟩=(tkW x).2:=rfl
   simp only [e2] at hRv
   obtain ⟨bs,hbs⟩:∃ bs,(tkW x).2=bs:=⟨_,rfl⟩
   obtain ⟨K,hK⟩:∃ K,x.1=K:=⟨_,rfl⟩
   simp only [hbs,hK] at hd1 d0 hRv q2
   clear hL h2 h3 h4 q hB0 hRs d1 d2 d3 hx e2 hbs hK
   by_cases hk1:K=k
   ·have i4:((K:Int) != (k:Int))=false:=by simp [hk1]
    have hrs:rsvB bs=true:=q2.resolve_left (fun e=>e hk1)
    simp only [hrs] at hRv
    have hRq:∀ n,Calls Tryz.prog 90 #[.string ⟨bs.toArray⟩] ((w.alloc zGW).drewN n) fun e w'=>e=.returned (.bool true)/\∃ m,w'=(w.alloc zGW).drewN m:=fun n=>(hRv _).mono (fun e w' hh=>⟨hh.1,n,hh.2.symm⟩)
    clear q2 hrs hk1 hRv
    go_enter Tryz.func164,Tryz.ntmps164
    go_wp2
    go_quiet (exact hRq _)
    have hr1:=hR0.on (draws _ nq)
    have hfq:Fx X (w.alloc zGW) ((w.alloc zGW).drewN nq):=(Fx.refl _ _).drewN nq
    generalize (w.alloc zGW).drewN nq=w1 at *
    go_upto_region 3 with (first
     | (go_at_call 106;refine (hF _ hr1).mono ?_;rintro e w2 ⟨⟨u,rfl⟩,hr2,hf2⟩))
    obtain ⟨hB2,hF2⟩:=HEnd.out _ (hfq.trans hf2) hr2
    obtain ⟨y0,y1,y2,y3,z0,z1,z2,z3⟩:=id hB2
    go_wp2
    exact bodyPost_ret (at4_res (hB2.put _ _ _ _).atP rfl) rfl ⟨rfl,HB.out _ (hr2.put4 hX _ _ _ _),hF2.put4' Nat.le.refl _ _ _ _⟩
   ·have i4:((K:Int) != (k:Int))=true:=by simp;omega
    clear q2 hRv
    go_enter Tryz.func164,Tryz.ntmps164
    go_wp2
    go_quiet (fail)
    have hr1:=hR0.on (draws _ nq)
    have hfq:Fx X (w.alloc zGW) ((w.alloc zGW).drewN nq):=(Fx.refl _ _).drewN nq
    generalize (w.alloc zGW).drewN nq=w1 at *
    go_upto_region 3 with (first
     | (go_at_call 106;refine (hF _ hr1).mono ?_;rintro e w2 ⟨⟨u,rfl⟩,hr2,hf2⟩))
    obtain ⟨hB2,hF2⟩:=HEnd.out _ (hfq.trans hf2) hr2
    obtain ⟨y0,y1,y2,y3,z0,z1,z2,z3⟩:=id hB2
    go_wp2
    exact bodyPost_ret (at4_res (hB2.put _ _ _ _).atP rfl) rfl ⟨rfl,HB.out _ (hr2.put4 hX _ _ _ _),hF2.put4' Nat.le.refl _ _ _ _⟩
 ·have i1:(b != 0)=true:=by simpa using hz
  clear hL h2 h3 h4 hno hB0 hRs
  go_enter Tryz.func164,Tryz.ntmps164
  go_wp2
  go_quiet (fail)
  have hr1:=hR0.on (draws _ nq)
  have hfq:Fx X (w.alloc zGW) ((w.alloc zGW).drewN nq):=(Fx.refl _ _).drewN nq
  generalize (w.alloc zGW).drewN nq=w1 at *
  go_upto_region 3 with (first
   | (go_at_call 106;refine (hF _ hr1).mono ?_;rintro e w2 ⟨⟨u,rfl⟩,hr2,hf2⟩))
  obtain ⟨hB2,hF2⟩:=HEnd.out _ (hfq.trans hf2) hr2
  obtain ⟨y0,y1,y2,y3,z0,z1,z2,z3⟩:=id hB2
  go_wp2
  exact bodyPost_ret (at4_res (hB2.put _ _ _ _).atP rfl) rfl ⟨rfl,HB.out _ (hr2.put4 hX _ _ _ _),hF2.put4' Nat.le.refl _ _ _ _⟩
theorem word_yes {w:World}{X:Nat}{a:Option Addr}{cap:Nat}{ws:List Wd}{fin:Pl}{r:RsC}(h:Pr w X a cap ws fin r) (hk:Wk ws cap) {x:Wd}{l:List Wd}(h0:r.2.2=0) (hr:r.1=x :: l) (hrs:rsvB (tkW x).2=false) :
  Calls Tryz.prog 164 #[.pointer (some ⟨X,0,none⟩),.int .i64 (x.1:Int)] w fun e w'=>e=.returned (wdA (some x))/\Pr w' X a cap ws fin (l,r.2)/\Fx X w w':=by
 obtain ⟨n,h1,h2,h3,h4⟩:=id h
 have hX:=h.lt
 have hR0:=h1.on (alGW w)
 have hB0:B4 (w.alloc zGW) w.heap.size (.int .i64 0) (.string ⟨#[]⟩) (.int .i64 0) (.int .i64 0):=B4.new w _ _ _ _ _ _ rfl
 have hcap:=hk.c
 have hlen:=hk.l
 rw [hr] at h2
 have HS:Hid (∀ w',Rr w' X a cap ws (n+1) r.2.2->Pr w' X a cap ws fin (l,r.2)):=fun w' q=>Pr.step q h2 h0
 rw [h0] at h1 hR0 HS
 obtain ⟨hn,_,hx⟩:=drop_cons h2
 obtain ⟨c0,c1,c2,f1,f2,hL⟩:=id hR0
 obtain ⟨g,off,rfl,hgX,d0,d1,d2,d3⟩:=hL n hn
 have i1:((n:Int) == (ws.length:Int))=false:=by simp;omega
 have i2:(0:Int)<=(n:Int):=by omega
 have i3:(n:Int) < (ws.length:Int):=by omega
 have i5:IntKind.i64.wrap ((n:Int)+1)=(n:Int)+1:=by rw [IntKind.wrap_i64];omega
 have i6:IntKind.i64.wrap ((n:Int)+1 - 1)=(n:Int):=by rw [IntKind.wrap_i64];omega
 rw [hx hn] at d0 d1 d2 d3
 have hRv:=fun w1=>pReserved_any (txt x.2.1) w1
 have e2:bl (txt x.2.1)=(tkW x).2:=rfl
 rw [e2,hrs] at hRv
 have hRq:∀ n,Calls Tryz.prog 90 #[.string (txt x.2.1)] ((w.alloc zGW).drewN n) fun e w'=>e=.returned (.bool false)/\∃ m,w'=(w.alloc zGW).drewN m:=fun n=>(hRv _).mono (fun e w' hh=>⟨hh.1,n,hh.2.symm⟩)
 unfold wdA
 obtain ⟨K,seg,ln,co⟩:=x
 simp only at d0 d1 d2 d3 hRq ⊢
 obtain ⟨bs,hbs⟩:∃ bs,txt seg=bs:=⟨_,rfl⟩
 rw [hbs] at d1 hRq ⊢
 have hfr:∀ m,Rr (((w.alloc zGW).drewN m).setCell ⟨X,1,none⟩ (.int .i64 ((n+1:Nat):Int))) X (some ⟨g,off,none⟩) cap ws (n+1) 0/\B4 (((w.alloc zGW).drewN m).setCell ⟨X,1,none⟩ (.int .i64 ((n+1:Nat):Int))) w.heap.size (.int .i64 0) (.string ⟨#[]⟩) (.int .i64 0) (.int .i64 0)/\Fx X w (((w.alloc zGW).drewN m).setCell ⟨X,1,none⟩ (.int .i64 ((n+1:Nat):Int))):=fun m=>
  ⟨(hR0.on (draws _ m)).set1 (n+1),(hB0.keep (draws _ m)).far (by omega) _,(((Fx.of (alGW w) Nat.le.refl).drewN m).setX _)⟩
 have HF:Hid (∀ m,Rr (((w.alloc zGW).drewN m).setCell ⟨X,1,none⟩ (.int .i64 ((n+1:Nat):Int))) X (some ⟨g,off,none⟩) cap ws (n+1) 0/\B4 (((w.alloc zGW).drewN m).setCell ⟨X,1,none⟩ (.int .i64 ((n+1:Nat):Int))) w.heap.size (.int .i64 0) (.string ⟨#[]⟩) (.int .i64 0) (.int .i64 0)/\Fx X w (((w.alloc zGW).drewN m).setCell ⟨X,1,none⟩ (.int .i64 ((n+1:Nat):Int)))):=hfr
 have HX:Hid (∀ hn:n < ws.length,ws[n]=(K,seg,ln,co)):=hx
 clear hfr hL h2 h3 h4 hB0 hRv hrs e2 h0 hx hr
 go_enter Tryz.func164,Tryz.ntmps164
 go_wp2
 go_quiet (exact hRq _)
 obtain ⟨hR2,hB2,hF2⟩:=HF.out nq
 have hr1:=hR0.on (draws _ nq)
 clear c0 c1 c2 f1 f2 d0 d1 d2 d3
 obtain ⟨c0,c1,c2,f1,f2,hL⟩:=id hr1
 clear hL
 generalize (w.alloc zGW).drewN nq=w1 at *
 go_upto_region 5 with fail
 obtain ⟨y0,y1,y2,y3,z0,z1,z2,z3⟩:=id hB2
 clear c0 c1 c2 f1 f2 hr1
 obtain ⟨c0,c1,c2,f1,f2,hL⟩:=id hR2
 obtain ⟨g',off',hgg,hgX',d0,d1,d2,d3⟩:=hL n hn
 simp only [Option.some.injEq,Addr.mk.injEq,and_true] at hgg
 obtain ⟨rfl,rfl⟩:=hgg
 rw [HX.out hn] at d0 d1 d2 d3
 simp only [hbs] at d0 d1 d2 d3
 have i7:(((n+1:Nat):Int))=(n:Int)+1:=by omega
 rw [i7] at c1 y0 y1 y2 y3 z0 z1 z2 z3 hB2 hF2 hR2 c0 c2 f1 f2 d0 d1 d2 d3
 clear hL
 generalize w1.setCell ⟨X,1,none⟩ (.int .i64 ((n:Int)+1))=w2 at *
 go_region
 go_wp2
 exact bodyPost_ret (at4_res (hB2.put _ _ _ _).atP rfl) rfl ⟨rfl,HS.out _ ((hR2.put4 hX _ _ _ _).on ((Below.refl _ _).drew)),(hF2.put4' Nat.le.refl _ _ _ _).drew⟩
theorem word_any {w:World}{X:Nat}{a:Option Addr}{cap:Nat}{ws:List Wd}{fin:Pl}{r:RsC}(h:Pr w X a cap ws fin r) (hk:Wk ws cap) (k:Nat) :
  Calls Tryz.prog 164 #[.pointer (some ⟨X,0,none⟩),.int .i64 (k:Int)] w fun e w'=>e=.returned (wdA (wordR k fin r).1)/\Pr w' X a cap ws fin (wordR k fin r).2/\Fx X w w':=by
 unfold wordR
 cases hr:r.1 with
 | nil=>exact word_no h hk k (.inr (.inl hr))
 | cons x l=>
  simp only
  by_cases hc:r.2.2=0/\x.1=k/\rsvB (tkW x).2=false
  ·rw [if_pos hc]
   obtain ⟨h0,rfl,hrs⟩:=hc
   exact word_yes h hk h0 hr hrs
  ·rw [if_neg hc]
   refine word_no h hk k ?_
   by_cases h0:r.2.2=0
   ·refine .inr (.inr ⟨x,l,hr,?_⟩)
    by_cases hk1:x.1=k
    ·refine .inr ?_
     cases hb:rsvB (tkW x).2 with
     | true=>rfl
     | false=>exact absurd ⟨h0,hk1,hb⟩ hc
    ·exact .inl hk1
   ·exact .inl h0
theorem own_one {w:World}{base e:Nat}{v:Value}{x:Wd}(h:OwnW w base e v [x]):∃ g cap,v=.slice (some ⟨g,0,none⟩) 1 cap/\base<=g/\g < w.heap.size/\w.cell? ⟨g,0,none⟩=some (.int .i64 (x.1:Int))/\w.cell? ⟨g,1,none⟩=some (.string (txt x.2.1)):=by
 have hc:=fun g=>World.ownsRow.cells h (g:=g)
 rcases h.2 with ⟨_,hn⟩|⟨g,cap,cur,rfl,hb,hg,_⟩
 ·simp at hn
 ·have c0:=hc g rfl 0 (.int .i64 (x.1:Int)) rfl
  have c1:=hc g rfl 1 (.string (txt x.2.1)) rfl
  rw [addr_plain] at c0 c1
  exact ⟨g,cap,rfl,hb,(Array.getElem?_eq_some_iff.1 hg).1,c0,c1⟩
theorem bl_txt (seg:List Ru):bl (txt seg)=byt seg:=rfl
theorem leafOf_any {K:Nat}{seg:List Ru}(h:OneW K seg) (ln co:Int) (w:World) (hK:K≠3) :
  Calls Tryz.prog 298 #[.agg #[.int .i64 (K:Int),.string (txt seg),.int .i64 ln,.int .i64 co]] w fun e w'=>
   e=.returned (match leafY (valB 0) rsvB (K,byt seg) with|some x=>.tuple #[exX x,.bool true]|none=>.tuple #[.nilIface,.bool false])/\Below w.heap.size w w':=by
 have hW:=fun w1=>pWords_any (txt seg) w1 (by have:=h.l;rw [<- bl_length,bl_txt];omega)
 simp only [bl_txt,h.words] at hW
 have hP:=pParseInt_any (txt seg)
 have hR:=fun w1=>pReserved_any (txt seg) w1
 have hkind:=h.kind
 rw [bl_txt] at hP hR
 have hq0:Below w.heap.size w (w.alloc (.cells #[.int .i64 (K:Int),.string (txt seg),.int .i64 ln,.int .i64 co] 106)):=(Below.refl _ _).alloc Nat.le.refl _
 have hA0:=At4.new w (.int .i64 (K:Int)) (.string (txt seg)) (.int .i64 ln) (.int .i64 co) 106
 obtain ⟨tx,htx⟩:∃ tx,txt seg=tx:=⟨_,rfl⟩
 simp only [htx] at hW hP hR hq0 hA0 ⊢
 have hbeq:(tx.toList != tx.toList)=false:=by simp
 have drN:∀ (wx:World) (m:Nat),Below w.heap.size w wx->Below w.heap.size w (wx.drewN m):=fun wx m hx=>hx.trans (below_draws _ _ m)
 rcases hkind with ⟨rfl,hn⟩|⟨rfl,hn⟩|⟨rfl,_⟩
 ·obtain ⟨y0,y1,y2,y3⟩:=id hA0
  obtain ⟨rb,hrb⟩:∃ rb,rsvB (byt seg)=rb:=⟨_,rfl⟩
  have hv:leafY (valB 0) rsvB (1,byt seg)=if rb=false then some (mk0 2 0 ⟨(byt seg).toArray⟩) else none:=by
   unfold leafY
   rw [if_neg (by show ¬ 1=2;decide),hrb]
   cases rb<;>rfl
  rw [hv]
  have hex:∀ x,(⟨(byt seg).toArray⟩:ByteArray)=x->exX (mk0 2 0 ⟨(byt seg).toArray⟩)=.iface 193 (.agg #[.string x]):=fun x hx=>by rw [hx];exact exX_ref x
  have hex:=hex tx htx
  rw [hrb] at hR
  clear hv hn hrb
  cases rb with
  | false=>
   rw [if_pos rfl]
   simp only [hex]
   go_enter Tryz.func298,Tryz.ntmps298
   go_wp2_with (first
    | (go_at_call 46;refine (hW _).mono ?_;rintro e w1 ⟨u,rfl,hown,b1⟩;obtain ⟨g,cap,rfl,q1,q2,c0,c1⟩:=own_one hown;have hA1:=hA0.keepB b1 (by simp);have hb1:=hq0.trans (b1.mono hq0.size);have hB2:=(Below.refl w1.heap.size w1).alloc Nat.le.refl (.cells #[.int .i64 0,.int .i64 0] 23);have d0:(w1.alloc (.cells #[.int .i64 0,.int .i64 0] 23)).cell? ⟨g,0,none⟩=some (.int .i64 1):=(hB2.cell (p:=⟨g,0,none⟩) q2).trans c0;have d1:(w1.alloc (.cells #[.int .i64 0,.int .i64 0] 23)).cell? ⟨g,1,none⟩=some (.string tx):=((hB2.cell (p:=⟨g,1,none⟩) q2).trans c1).trans (congrArg (fun z=>some (Value.string z)) htx);have hA2:=hA1.keepB hB2 (World.block_lt_of_cell? w1 _ hA1.1);have hb2:=hb1.trans (hB2.mono hb1.size);obtain ⟨z0,z1,z2,z3⟩:=id hA2;clear hA1 hA0 hB2 c0 c1 hown b1 hb1 hW hq0 y0 y1 y2 y3))
   generalize w1.alloc (.cells #[.int .i64 0,.int .i64 0] 23)=w2 at *
   go_quiet (fail)
   go_wp2_with (first
    | (go_at_call 90;refine (hR _).mono ?_;rintro e w3 ⟨rfl,rfl⟩))
   go_ret2
   exact ⟨rfl,drN _ _ hb2⟩
  | true=>
   rw [if_neg (by decide)]
   simp only
   go_enter Tryz.func298,Tryz.ntmps298
   go_wp2_with (first
    | (go_at_call 46;refine (hW _).mono ?_;rintro e w1 ⟨u,rfl,hown,b1⟩;obtain ⟨g,cap,rfl,q1,q2,c0,c1⟩:=own_one hown;have hA1:=hA0.keepB b1 (by simp);have hb1:=hq0.trans (b1.mono hq0.size);have hB2:=(Below.refl w1.heap.size w1).alloc Nat.le.refl (.cells #[.int .i64 0,.int .i64 0] 23);have d0:(w1.alloc (.cells #[.int .i64 0,.int .i64 0] 23)).cell? ⟨g,0,none⟩=some (.int .i64 1):=(hB2.cell (p:=⟨g,0,none⟩) q2).trans c0;have d1:(w1.alloc (.cells #[.int .i64 0,.int .i64 0] 23)).cell? ⟨g,1,none⟩=some (.string tx):=((hB2.cell (p:=⟨g,1,none⟩) q2).trans c1).trans (congrArg (fun z=>some (Value.string z)) htx);have hA2:=hA1.keepB hB2 (World.block_lt_of_cell? w1 _ hA1.1);have hb2:=hb1.trans (hB2.mono hb1.size);obtain ⟨z0,z1,z2,z3⟩:=id hA2;clear hA1 hA0 hB2 c0 c1 hown b1 hb1 hW hq0 y0 y1 y2 y3))
   generalize w1.alloc (.cells #[.int .i64 0,.int .i64 0] 23)=w2 at *
   go_quiet (fail)
   go_wp2_with (first
    | (go_at_call 90;refine (hR _).mono ?_;rintro e w3 ⟨rfl,rfl⟩))
   go_ret2
   exact ⟨rfl,drN _ _ hb2⟩
 ·have hv:leafY (valB 0) rsvB (2,byt seg)=some (mk0 1 (valB 0 (byt seg)) ⟨#[]⟩):=by unfold leafY;rw [if_pos rfl]
  rw [hv]
  simp only [exX_lit]
  have hP1:=hP hn
  obtain ⟨vb,hvb⟩:∃ vb,valB 0 (byt seg)=vb:=⟨_,rfl⟩
  rw [hvb] at hP1 ⊢
  clear hv hn hP hvb
  obtain ⟨y0,y1,y2,y3⟩:=id hA0
  go_enter Tryz.func298,Tryz.ntmps298
  go_wp2_with (first
   | (go_at_call 46;refine (hW _).mono ?_;rintro e w1 ⟨u,rfl,hown,b1⟩;obtain ⟨g,cap,rfl,q1,q2,c0,c1⟩:=own_one hown;have hA1:=hA0.keepB b1 (by simp);have hb1:=hq0.trans (b1.mono hq0.size);have hB2:=(Below.refl w1.heap.size w1).alloc Nat.le.refl (.cells #[.int .i64 0,.int .i64 0] 23);have d0:(w1.alloc (.cells #[.int .i64 0,.int .i64 0] 23)).cell? ⟨g,0,none⟩=some (.int .i64 2):=(hB2.cell (p:=⟨g,0,none⟩) q2).trans c0;have d1:(w1.alloc (.cells #[.int .i64 0,.int .i64 0] 23)).cell? ⟨g,1,none⟩=some (.string tx):=((hB2.cell (p:=⟨g,1,none⟩) q2).trans c1).trans (congrArg (fun z=>some (Value.string z)) htx);have hA2:=hA1.keepB hB2 (World.block_lt_of_cell? w1 _ hA1.1);have hb2:=hb1.trans (hB2.mono hb1.size);obtain ⟨z0,z1,z2,z3⟩:=id hA2;clear hA1 hA0 hB2 c0 c1 hown b1 hb1 hW hq0 y0 y1 y2 y3))
  generalize w1.alloc (.cells #[.int .i64 0,.int .i64 0] 23)=w2 at *
  go_quiet (fail)
  go_wp2_with (first
   | (go_at_call 308;refine (hP1 _).mono ?_;rintro e w3 ⟨rfl,b3⟩;have hb3:=(drN _ _ hb2).trans (b3.mono (drN _ _ hb2).size)))
  go_region
  all_goals go_wp2
  all_goals go_ret2
  all_goals exact ⟨rfl,hb3.drew⟩
 ·exact absurd rfl hK
abbrev wdV (K:Nat) (seg:List Ru) (ln co:Int):Value:=.agg #[.int .i64 (K:Int),.string (txt seg),.int .i64 ln,.int .i64 co]
theorem src_expr {P:Program}{t e:TypeId}(ht:P.underlying t=some (.slice e)) (w:World) (v:Value) (hv:v=.nilIface∨∃ u y,v=.iface u y) :
  Src P 1 t (.slice (some ⟨w.heap.size,0,none⟩) 1 1) 1 [v] (w.alloc (.cells #[v] e)):=by
 have h:=World.ownsRow_lit (base:=w.heap.size) (e:=e) (size:=1) w #[v] 1 Nat.le.refl (by simp [maxLen]) (by simp)
 refine Src.ofSlice _ ht _ 1 1 _ (by simp) (by simpa using h.cells (g:=w.heap.size) rfl) (fun u hu=>?_)
 simp only [List.mem_singleton] at hu
 rcases hv with rfl|⟨u',y',rfl⟩<;>subst hu<;>rfl
theorem leaf_form {w:Tk}{x:Sx}(h:leafY (valB 0) rsvB w=some x):∃ u y,exX x=.iface u y:=by
 unfold leafY at h
 split at h
 ·obtain rfl:=Option.some.inj h;exact ⟨_,_,exX_lit _⟩
 ·split at h
  ·obtain rfl:=Option.some.inj h;exact ⟨_,_,exX_ref _⟩
  ·cases h
theorem ahead_leaf {w:World}{X K:Nat}{seg:List Ru}{V:List Sx}{W:List Sg2}{o:Nat}{vv ww:Value}(h:Rdr w X ⟨V,W,o,false⟩ vv ww) (h1:OneW K seg) (ln co:Int) (hK:K≠3) (hl:V.length<=3001) {x:Sx}(hx:leafY (valB 0) rsvB (K,byt seg)=some x) :
  Calls Tryz.prog 281 #[.pointer (some ⟨X,0,none⟩),wdV K seg ln co] w fun e w'=>e=.returned (.bool true)/\(∃ vv' ww',Rdr w' X ⟨x :: V,W,o,true⟩ vv' ww')/\Below X w w':=by
 obtain ⟨i0,hi,hz0,hz1,hz2⟩:=info_parts Tryz.infoE
 have hL:=fun w1=>leafOf_any h1 ln co w1 hK
 rw [hx] at hL
 simp only at hL
 have hxf:∃ u y,exX x=.iface u y:=leaf_form hx
 obtain ⟨xv,hxv⟩:∃ xv,exX x=xv:=⟨_,rfl⟩
 simp only [hxv] at hL hxf
 obtain ⟨a,cap,rfl,hcap⟩:=own_form h.v
 simp only at h
 obtain ⟨tx,htx⟩:∃ tx,txt seg=tx:=⟨_,rfl⟩
 unfold wdV
 simp only [htx] at hL ⊢
 have hq0:Below w.heap.size w (w.alloc (.cells #[.int .i64 (K:Int),.string tx,.int .i64 ln,.int .i64 co] 106)):=(Below.refl _ _).alloc Nat.le.refl _
 have hA0:=At4.new w (.int .i64 (K:Int)) (.string tx) (.int .i64 ln) (.int .i64 co) 106
 obtain ⟨y0,y1,y2,y3⟩:=id hA0
 have k3:((K:Int) != 3)=true:=by simp;omega
 clear h1 hx htx
 obtain ⟨xu,xy,rfl⟩:=hxf
 ·go_enter Tryz.func281,Tryz.ntmps281
  go_wp2_with (first
   | (go_at_call 298;refine (hL _).mono ?_;rintro e w1 ⟨rfl,b1⟩;have hb1:=hq0.trans (b1.mono hq0.size);have hr1:=h.on hb1;obtain ⟨z0,z1,z2,z3,g0,g1,g2,g3⟩:=id hr1.b)
   | (at_builtin;refine wpList_append_at _ rfl (.tmp 20) (.tmp 22) 242 242 rfl (X+1) 130 i0 .nilIface 1 16 Tryz.underlying242 hi hz0 hz1 hz2 rfl _ V.length _ rfl (World.ownsRow.alloc hr1.v _) _ 1 [.iface xu xy] rfl (src_expr Tryz.underlying242 w1 _ (.inr ⟨_,_,rfl⟩)) 1 (.inr (by omega)) Nat.le.refl (by unfold maxLen;omega) (by simp;have:=hr1.lt;omega) ?_;intro v4 w4 ho6 hg4 hat;obtain ⟨a4,cap4,rfl,hc4⟩:=own_form ho6;have hr4:=hr1.on ((Below.refl _ w1).alloc Nat.le.refl (.cells #[.iface xu xy] 130));have hb4:Below (X+1) (w1.alloc (.cells #[.iface xu xy] 130)) w4:=(Below.refl _ _).grown hg4 (by simp;have:=hr1.lt;omega) (fun k hk=>(World.ownsRow.lt hr1.v k hk).1);have hB4:=hr4.b.keepB hb4 (Nat.lt_succ_self X);clear z0 z1 z2 z3 g0 g1 g2 g3;obtain ⟨z0,z1,z2,z3,g0,g1,g2,g3⟩:=id hB4))
  go_ret
  have hne:ww.ownBlock=none∨ww.ownBlock≠(Value.slice a V.length cap).ownBlock:=by
   cases hq:ww.ownBlock with
   | none=>exact .inl rfl
   | some g=>exact .inr (fun e=>h.a g e.symm hq)
  have hw4:=World.ownsRow.kept hr4.w hg4 hne
  have hbb:Below X w w4:=((hb1.mono (Nat.le_of_lt h.lt)).alloc (Nat.le_of_lt hr1.lt) _).trans (hb4.mono (Nat.le_succ X))
  refine ⟨rfl,⟨_,_,(hB4.set0 _).set3 _,?_,ownsRow_setCell_below (ownsRow_setCell_below hw4 (Nat.lt_succ_self X) _) (Nat.lt_succ_self X) _,fun g hg e=>?_⟩,(hbb.setCell (Nat.le_refl X) _).setCell (Nat.le_refl X) _⟩
  ·refine ownsRow_setCell_below (ownsRow_setCell_below ?_ (Nat.lt_succ_self X) _) (Nat.lt_succ_self X) _
   show World.ownsRow _ _ _ _ _ (V.length+1) ((x :: V).reverse.map exX)
   rw [List.reverse_cons,List.map_append,List.map_singleton,hxv]
   exact ho6
  ·rcases hat with q|q
   ·exact h.a g (q.symm.trans hg) e
   ·have hlt:=(World.ownsRow.lt hr1.w g e).2
    have:some g=some (w1.alloc (.cells #[.iface xu xy] 130)).heap.size:=hg.symm.trans q
    simp at this
    omega
theorem ahead_no {w:World}{X K:Nat}{seg:List Ru}{V:List Sx}{W:List Sg2}{o:Nat}{vv ww:Value}(h:Rdr w X ⟨V,W,o,false⟩ vv ww) (h1:OneW K seg) (ln co:Int) (hK:K≠3) (hx:leafY (valB 0) rsvB (K,byt seg)=none) :
  Calls Tryz.prog 281 #[.pointer (some ⟨X,0,none⟩),wdV K seg ln co] w fun e w'=>e=.returned (.bool false)/\(∃ vv' ww',Rdr w' X ⟨V,W,o,false⟩ vv' ww')/\Below X w w':=by
 have hL:=fun w1=>leafOf_any h1 ln co w1 hK
 rw [hx] at hL
 simp only at hL
 obtain ⟨tx,htx⟩:∃ tx,txt seg=tx:=⟨_,rfl⟩
 unfold wdV
 simp only [htx] at hL ⊢
 have hq0:Below w.heap.size w (w.alloc (.cells #[.int .i64 (K:Int),.string tx,.int .i64 ln,.int .i64 co] 106)):=(Below.refl _ _).alloc Nat.le.refl _
 have hA0:=At4.new w (.int .i64 (K:Int)) (.string tx) (.int .i64 ln) (.int .i64 co) 106
 obtain ⟨y0,y1,y2,y3⟩:=id hA0
 have k3:((K:Int) != 3)=true:=by simp;omega
 clear h1 hx htx
 go_enter Tryz.func281,Tryz.ntmps281
 go_wp2_with (first
  | (go_at_call 298;refine (hL _).mono ?_;rintro e w1 ⟨rfl,b1⟩;have hb1:=hq0.trans (b1.mono hq0.size);have hr1:=h.on hb1))
 go_ret
 exact ⟨rfl,⟨_,_,hr1⟩,hb1.mono (Nat.le_of_lt h.lt)⟩
theorem Rdr.setO {w:World}{X:Nat}{V:List Sx}{W:List Sg2}{o:Nat}{b:Bool}{vv ww:Value}(h:Rdr w X ⟨V,W,o,b⟩ vv ww) (o':Nat):Rdr (w.setCell ⟨X,2,none⟩ (.int .i64 (o':Int))) X ⟨V,W,o',b⟩ vv ww:=
 ⟨h.b.set2 _,ownsRow_setCell_below h.v (Nat.lt_succ_self X) _,ownsRow_setCell_below h.w (Nat.lt_succ_self X) _,h.a⟩
theorem Rdr.setB {w:World}{X:Nat}{V:List Sx}{W:List Sg2}{o:Nat}{b:Bool}{vv ww:Value}(h:Rdr w X ⟨V,W,o,b⟩ vv ww) (b':Bool):Rdr (w.setCell ⟨X,3,none⟩ (.bool b')) X ⟨V,W,o,b'⟩ vv ww:=
 ⟨h.b.set3 _,ownsRow_setCell_below h.v (Nat.lt_succ_self X) _,ownsRow_setCell_below h.w (Nat.lt_succ_self X) _,h.a⟩
abbrev sgV (t:List UInt8) (ln co:Int):Value:=.agg #[.int .i64 3,.string ⟨t.toArray⟩,.int .i64 ln,.int .i64 co]
theorem ahead_par {w:World}{X:Nat}{V:List Sx}{W:List Sg2}{o:Nat}{vv ww:Value}(h:Rdr w X ⟨V,W,o,false⟩ vv ww) (ln co:Int) (hl:W.length<=3001) (ho:o<=4000) :
  Calls Tryz.prog 281 #[.pointer (some ⟨X,0,none⟩),sgV [40] ln co] w fun e w'=>e=.returned (.bool true)/\(∃ vv' ww',Rdr w' X ⟨V,([40],0) :: W,o+1,false⟩ vv' ww')/\Below X w w':=by
 have hX:=h.lt
 have hq1:Rdr (w.setCell ⟨X,2,none⟩ (.int .i64 ((o:Int)+1))) X ⟨V,W,o+1,false⟩ vv ww:=h.setO (o+1)
 have hq0:Below w.heap.size w (w.alloc (.cells #[.int .i64 3,.string ⟨#[40]⟩,.int .i64 ln,.int .i64 co] 106)):=(Below.refl _ _).alloc Nat.le.refl _
 have hA0:=At4.new w (.int .i64 3) (.string ⟨#[40]⟩) (.int .i64 ln) (.int .i64 co) 106
 obtain ⟨y0,y1,y2,y3⟩:=id hA0
 have hr0:=h.on hq0
 obtain ⟨z0,z1,z2,z3,g0,g1,g2,g3⟩:=id hr0.b
 have i1:IntKind.i64.wrap ((o:Int)+1)=(o:Int)+1:=by rw [IntKind.wrap_i64];omega
 simp only at z2
 have hW:=fun w1 (hr:Rdr w1 X ⟨V,W,o+1,false⟩ vv ww)=>wait_any hr [40] 0 (by omega) hl (by simp)
 unfold sgV
 go_enter Tryz.func281,Tryz.ntmps281
 go_wp2_with (first
  | (go_at_call 297;refine (hW _ (hq1.on ((Below.refl _ _).alloc Nat.le.refl _))).mono ?_;rintro e w1 ⟨⟨u,rfl⟩,⟨ww1,hr1⟩,b1⟩))
 go_ret
 refine ⟨rfl,⟨_,_,hr1⟩,Below.trans (((Below.refl X w).setCell (Nat.le_refl X) _).alloc (by simp;omega) _) b1⟩
theorem ahead_un {w:World}{X:Nat}{V:List Sx}{W:List Sg2}{o:Nat}{vv ww:Value}(h:Rdr w X ⟨V,W,o,false⟩ vv ww) (t:List UInt8) (hu:t=[33]∨t=[45]) (ln co:Int) (hl:W.length<=3001) :
  Calls Tryz.prog 281 #[.pointer (some ⟨X,0,none⟩),sgV t ln co] w fun e w'=>e=.returned (.bool true)/\(∃ vv' ww',Rdr w' X ⟨V,(t,6) :: W,o,false⟩ vv' ww')/\Below X w w':=by
 have hX:=h.lt
 have hW:=fun w1 (hr:Rdr w1 X ⟨V,W,o,false⟩ vv ww)=>wait_any hr t 6 (by omega) hl (by rcases hu with rfl|rfl<;>simp)
 have hq0:Below w.heap.size w (w.alloc (.cells #[.int .i64 3,.string ⟨t.toArray⟩,.int .i64 ln,.int .i64 co] 106)):=(Below.refl _ _).alloc Nat.le.refl _
 have hA0:=At4.new w (.int .i64 3) (.string ⟨t.toArray⟩) (.int .i64 ln) (.int .i64 co) 106
 obtain ⟨y0,y1,y2,y3⟩:=id hA0
 have hr0:=h.on hq0
 have hW0:=hW _ hr0
 unfold sgV
 rcases hu with rfl|rfl
 all_goals (
  go_enter Tryz.func281,Tryz.ntmps281
  go_wp2_with (first
   | (go_at_call 297;refine hW0.mono ?_;rintro e w1 ⟨⟨u,rfl⟩,⟨ww1,hr1⟩,b1⟩))
  go_ret
  exact ⟨rfl,⟨_,_,hr1⟩,(hq0.mono (Nat.le_of_lt hX)).trans b1⟩)
theorem ahead_sign {w:World}{X:Nat}{V:List Sx}{W:List Sg2}{o:Nat}{vv ww:Value}(h:Rdr w X ⟨V,W,o,false⟩ vv ww) (t:List UInt8) (ht:t.length<=12000) (ln co:Int) (hl:W.length<=3001) (ho:o<=4000) :
  Calls Tryz.prog 281 #[.pointer (some ⟨X,0,none⟩),sgV t ln co] w fun e w'=>e=.returned (.bool (stA (leafY (valB 0) rsvB) ⟨V,W,o,false⟩ (3,t)).2)/\(∃ vv' ww',Rdr w' X (stA (leafY (valB 0) rsvB) ⟨V,W,o,false⟩ (3,t)).1 vv' ww')/\Below X w w':=by
 have hq0:Below w.heap.size w (w.alloc (.cells #[.int .i64 3,.string ⟨t.toArray⟩,.int .i64 ln,.int .i64 co] 106)):=(Below.refl _ _).alloc Nat.le.refl _
 have hA0:=At4.new w (.int .i64 3) (.string ⟨t.toArray⟩) (.int .i64 ln) (.int .i64 co) 106
 obtain ⟨y0,y1,y2,y3⟩:=id hA0
 have hr0:=h.on hq0
 have hX:=h.lt
 obtain ⟨z0,z1,z2,z3,g0,g1,g2,g3⟩:=id hr0.b
 unfold stA sgV
 rw [if_neg (by simp)]
 by_cases h40:t=[40]
 ·subst h40
  rw [if_pos rfl]
  exact ahead_par h ln co hl ho
 ·rw [if_neg h40]
  by_cases hu:t=[33]∨t=[45]
  ·rw [if_pos hu]
   exact ahead_un h t hu ln co hl
  ·rw [if_neg hu]
   have e1:(t == [40])=false:=beq_eq_false_iff_ne.2 h40
   have e2:(t == [33])=false:=beq_eq_false_iff_ne.2 (fun e=>hu (.inl e))
   have e3:(t == [45])=false:=beq_eq_false_iff_ne.2 (fun e=>hu (.inr e))
   go_enter Tryz.func281,Tryz.ntmps281
   go_wp2
   go_ret
   exact ⟨rfl,⟨_,_,hr0⟩,hq0.mono (Nat.le_of_lt h.lt)⟩
theorem behind_kind {w:World}{X K:Nat}{seg:List Ru}{y:Yd}{vv ww:Value}(h:Rdr w X y vv ww) (ln co:Int) (hK:K≠3) :
  Calls Tryz.prog 280 #[.pointer (some ⟨X,0,none⟩),wdV K seg ln co] w fun e w'=>e=.returned (.bool false)/\(∃ vv' ww',Rdr w' X y vv' ww')/\Below X w w':=by
 obtain ⟨tx,htx⟩:∃ tx,txt seg=tx:=⟨_,rfl⟩
 unfold wdV
 rw [htx]
 have hq0:Below w.heap.size w (w.alloc (.cells #[.int .i64 (K:Int),.string tx,.int .i64 ln,.int .i64 co] 106)):=(Below.refl _ _).alloc Nat.le.refl _
 have k3:((K:Int) != 3)=true:=by simp;omega
 go_enter Tryz.func280,Tryz.ntmps280
 go_wp2
 go_ret
 exact ⟨rfl,⟨_,_,h.on hq0⟩,hq0.mono (Nat.le_of_lt h.lt)⟩
theorem behind_shut {w:World}{X:Nat}{V:List Sx}{W:List Sg2}{o:Nat}{b:Bool}{vv ww:Value}(h:Rdr w X ⟨V,W,o,b⟩ vv ww) (ln co:Int) (hob:o=brk W) (hV:V.length=bins W+1) (hl:W.length<=3001) :
  Calls Tryz.prog 280 #[.pointer (some ⟨X,0,none⟩),sgV [41] ln co] w fun e w'=>e=.returned (.bool (stB ⟨V,W,o,b⟩ (3,[41])).2)/\(∃ vv' ww',Rdr w' X (stB ⟨V,W,o,b⟩ (3,[41])).1 vv' ww')/\Below X w w':=by
 have hq0:Below w.heap.size w (w.alloc (.cells #[.int .i64 3,.string ⟨#[41]⟩,.int .i64 ln,.int .i64 co] 106)):=(Below.refl _ _).alloc Nat.le.refl _
 have hr0:=h.on hq0
 have hX:=h.lt
 have hb0:=hq0.mono (Nat.le_of_lt hX)
 unfold sgV
 by_cases ho:o=0
 ·rw [stB_shut0 (by simp) rfl ho]
  subst ho
  clear hob
  have hC:=closes_no hr0
  go_enter Tryz.func280,Tryz.ntmps280
  go_wp2_with (first
   | (go_at_call 295;refine hC.mono ?_;rintro e w1 ⟨rfl,rfl⟩))
  go_ret
  exact ⟨rfl,⟨_,_,hr0⟩,hb0⟩
 ·rw [stB_shut (by simp) rfl ho]
  have hC:=closes_yes hr0 ho hob hV hl
  go_enter Tryz.func280,Tryz.ntmps280
  go_wp2_with (first
   | (go_at_call 295;refine hC.mono ?_;rintro e w1 ⟨rfl,⟨vv1,ww1,hr1⟩,b1⟩))
  go_ret
  exact ⟨rfl,⟨_,_,hr1⟩,hb0.trans b1⟩
theorem behind_none {w:World}{X:Nat}{y:Yd}{vv ww:Value}(h:Rdr w X y vv ww) (t:List UInt8) (ln co:Int) (h41:¬ t=[41]) (hv:lv t=0) :
  Calls Tryz.prog 280 #[.pointer (some ⟨X,0,none⟩),sgV t ln co] w fun e w'=>e=.returned (.bool false)/\(∃ vv' ww',Rdr w' X y vv' ww')/\Below X w w':=by
 have hq0:Below w.heap.size w (w.alloc (.cells #[.int .i64 3,.string ⟨t.toArray⟩,.int .i64 ln,.int .i64 co] 106)):=(Below.refl _ _).alloc Nat.le.refl _
 have hL:=fun w1=>pLevel_any ⟨t.toArray⟩ w1
 have e:lv (bl ⟨t.toArray⟩)=0:=hv
 rw [e] at hL
 have e1:(t == [41])=false:=beq_eq_false_iff_ne.2 h41
 clear e hv
 unfold sgV
 go_enter Tryz.func280,Tryz.ntmps280
 go_wp2_with (first
  | (go_at_call 277;refine (hL _).mono ?_;rintro e w1 ⟨rfl,rfl⟩))
 go_ret
 exact ⟨rfl,⟨_,_,h.on hq0⟩,hq0.mono (Nat.le_of_lt h.lt)⟩
theorem At4.blk {w w':World}{N:Nat}{a b c e:Value}(h:At4 w N a b c e) (hb:w'.heap[N]?=w.heap[N]?):At4 w' N a b c e:=by
 refine ⟨?_,?_,?_,?_⟩
 ·rw [World.cell?_of_block (w:=w) (a:=⟨N,0,none⟩) hb];exact h.1
 ·rw [World.cell?_of_block (w:=w) (a:=⟨N,1,none⟩) hb];exact h.2.1
 ·rw [World.cell?_of_block (w:=w) (a:=⟨N,2,none⟩) hb];exact h.2.2.1
 ·rw [World.cell?_of_block (w:=w) (a:=⟨N,3,none⟩) hb];exact h.2.2.2
theorem behind_op {w:World}{X:Nat}{V:List Sx}{W:List Sg2}{o:Nat}{b:Bool}{vv ww:Value}(h:Rdr w X ⟨V,W,o,b⟩ vv ww) (t:List UInt8) (ln co:Int) (k:Nat) (hk:lv t=k) (hk1:1<=k) (hV:V.length=bins W+1) (hl:W.length<=3001) :
  Calls Tryz.prog 280 #[.pointer (some ⟨X,0,none⟩),sgV t ln co] w fun e w'=>e=.returned (.bool (stB ⟨V,W,o,b⟩ (3,t)).2)/\(∃ vv' ww',Rdr w' X (stB ⟨V,W,o,b⟩ (3,t)).1 vv' ww')/\Below X w w':=by
 have hq0:Below w.heap.size w (w.alloc (.cells #[.int .i64 3,.string ⟨t.toArray⟩,.int .i64 ln,.int .i64 co] 106)):=(Below.refl _ _).alloc Nat.le.refl _
 have hr0:=h.on hq0
 have hX:=h.lt
 have hb0:=hq0.mono (Nat.le_of_lt hX)
 have hA0:=At4.new w (.int .i64 3) (.string ⟨t.toArray⟩) (.int .i64 ln) (.int .i64 co) 106
 have hkeep:∀ w1 vv1 ww1,Fr2 X vv ww (w.alloc (.cells #[.int .i64 3,.string ⟨t.toArray⟩,.int .i64 ln,.int .i64 co] 106)) w1 vv1 ww1->At4 w1 w.heap.size (.int .i64 3) (.string ⟨t.toArray⟩) (.int .i64 ln) (.int .i64 co):=fun w1 vv1 ww1 hf=>
  hA0.blk (hf.block _ (by simp) (by omega) (fun e=>by have:=(World.ownsRow.lt h.v _ e).2;omega) (fun e=>by have:=(World.ownsRow.lt h.w _ e).2;omega))
 have hL:=fun w1=>pLevel_any ⟨t.toArray⟩ w1
 have e:lv (bl ⟨t.toArray⟩)=k:=hk
 rw [e] at hL
 have hk5:=lv_le t
 rw [hk] at hk5
 have e1:(t == [41])=false:=beq_eq_false_iff_ne.2 (not41 (by omega))
 have ht:=(lv_opr (s:=t) (by omega)).2
 have k0:((k:Int) == 0)=false:=beq_eq_false_iff_ne.2 (by omega)
 have i1:IntKind.i64.wrap ((k:Int)+1)=(k:Int)+1:=by rw [IntKind.wrap_i64];omega
 have hJ1:=join_any hr0 (k+1) (by omega) (by omega) hV hl
 obtain ⟨a1,a2,a3,a4⟩:=jn_ok (k:=k+1) (by omega) W V hV
 have hjj:=jn_jn (k:=k) (k':=k+1) (by omega) W V
 obtain ⟨b1,b2,b3,b4⟩:=jn_ok (k:=k) (by omega) W V hV
 have hN:∀ m:Nat,(((m+1:Nat)):Int)=(m:Int)+1:=fun m=>by omega
 rw [hN] at hJ1
 have hLa:=fun w1 vv1 ww1 (hr1:Rdr w1 X ⟨(jn (k+1) V W).1,(jn (k+1) V W).2,o,b⟩ vv1 ww1)=>last_any hr1 (by show (jn (k+1) V W).2.length<=4000;omega)
 simp only at hLa
 have hJ2:=fun w1 vv1 ww1 (hr1:Rdr w1 X ⟨(jn (k+1) V W).1,(jn (k+1) V W).2,o,b⟩ vv1 ww1)=>join_any hr1 k (by omega) (by omega) a1 (by omega)
 rw [hjj] at hJ2
 obtain ⟨V1,hV1⟩:∃ V1,(jn (k+1) V W).1=V1:=⟨_,rfl⟩
 obtain ⟨W1,hW1⟩:∃ W1,(jn (k+1) V W).2=W1:=⟨_,rfl⟩
 obtain ⟨V2,hV2⟩:∃ V2,(jn k V W).1=V2:=⟨_,rfl⟩
 obtain ⟨W2,hW2⟩:∃ W2,(jn k V W).2=W2:=⟨_,rfl⟩
 have hWt:=fun w1 vv1 ww1 (hr1:Rdr w1 X ⟨V2,W2,o,b⟩ vv1 ww1)=>wait_any hr1 t k (by omega) (by rw [<- hW2];omega) (by omega)
 simp only [hV1,hW1,hV2,hW2] at hJ1 hJ2 hLa a1 a2 a3 a4
 by_cases htwo:k=3/\topL (jn (k+1) V W).2=3
 ·obtain ⟨h3,ht3⟩:=htwo
  subst h3
  rw [stB_two (by simp) hk ht3]
  simp only [hV1,hW1] at ht3 ⊢
  rw [ht3] at hLa
  clear hjj hV1 hW1 hV2 hW2 hWt hJ2 h hk
  unfold sgV
  go_enter Tryz.func280,Tryz.ntmps280
  go_wp2_with (first
   | (go_at_call 277;refine (hL _).mono ?_;rintro e w1 ⟨rfl,rfl⟩)
   | (go_at_call 282;refine hJ1.mono ?_;rintro e w1 ⟨⟨u,rfl⟩,⟨vv1,ww1,hr1,hf1⟩,b1⟩)
   | (go_at_call 296;refine (hLa _ _ _ hr1).mono ?_;rintro e w2 ⟨rfl,m,rfl⟩))
  go_ret
  exact ⟨rfl,⟨_,_,hr1.drewN m⟩,(hb0.trans b1).trans (below_draws _ _ m)⟩
 ·rw [stB_op (by simp) hk hk1 htwo]
  simp only [hV1,hW1] at htwo
  simp only [hV2,hW2]
  unfold sgV
  by_cases h3:k=3
  ·have ht3:((topL W1:Int) == 3)=false:=beq_eq_false_iff_ne.2 (fun e=>htwo ⟨h3,by omega⟩)
   have k3:((k:Int) == 3)=true:=by simp;omega
   clear hjj hV1 hW1 hV2 hW2 h hk htwo h3 e
   go_enter Tryz.func280,Tryz.ntmps280
   go_wp2_with (first
    | (go_at_call 297;refine (hWt _ _ _ hr3).mono ?_;rintro e w4 ⟨⟨u4,rfl⟩,⟨ww4,hr4⟩,b4⟩;obtain ⟨z0,z1,z2,z3,g0,g1,g2,g3⟩:=id hr4.b)
    | (go_at_call 282;refine (hJ2 _ _ _ hr2).mono ?_;rintro e w3 ⟨⟨u3,rfl⟩,⟨vv3,ww3,hr3,hf3⟩,b3⟩;obtain ⟨x0,x1,x2,x3⟩:=hkeep _ _ _ ((hf1.on (below_draws _ _ m)).trans hf3))
    | (go_at_call 296;refine (hLa _ _ _ hr1).mono ?_;rintro e w2 ⟨rfl,m,rfl⟩;have hr2:=hr1.drewN m)
    | (go_at_call 277;refine (hL _).mono ?_;rintro e w1 ⟨rfl,rfl⟩)
    | (go_at_call 282;refine hJ1.mono ?_;rintro e w1 ⟨⟨u,rfl⟩,⟨vv1,ww1,hr1,hf1⟩,b1⟩))
   go_ret
   exact ⟨rfl,⟨_,_,hr4.setB false⟩,((((hb0.trans b1).trans (below_draws _ _ m)).trans b3).trans b4).setCell (Nat.le_refl X) _⟩
  ·have k3:((k:Int) == 3)=false:=beq_eq_false_iff_ne.2 (by omega)
   clear hjj hV1 hW1 hV2 hW2 h hk htwo h3 e
   go_enter Tryz.func280,Tryz.ntmps280
   go_wp2_with (first
    | (go_at_call 297;refine (hWt _ _ _ hr3).mono ?_;rintro e w4 ⟨⟨u4,rfl⟩,⟨ww4,hr4⟩,b4⟩;obtain ⟨z0,z1,z2,z3,g0,g1,g2,g3⟩:=id hr4.b)
    | (go_at_call 282;refine (hJ2 _ _ _ hr1).mono ?_;rintro e w3 ⟨⟨u3,rfl⟩,⟨vv3,ww3,hr3,hf3⟩,b3⟩;obtain ⟨x0,x1,x2,x3⟩:=hkeep _ _ _ (hf1.trans hf3))
    | (go_at_call 277;refine (hL _).mono ?_;rintro e w1 ⟨rfl,rfl⟩)
    | (go_at_call 282;refine hJ1.mono ?_;rintro e w1 ⟨⟨u,rfl⟩,⟨vv1,ww1,hr1,hf1⟩,b1⟩))
   go_ret
   exact ⟨rfl,⟨_,_,hr4.setB false⟩,(((hb0.trans b1).trans b3).trans b4).setCell (Nat.le_refl X) _⟩
