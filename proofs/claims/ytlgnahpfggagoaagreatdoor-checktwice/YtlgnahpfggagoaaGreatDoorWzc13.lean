import Derived.Test.YtlgnahpfggagoaaGreatDoorWzc04
import Derived.BigRegion
import Derived.Test.YtlgnahpfggagoaaGreatDoorWzc05
import Derived.Deep.RegionLaw
import Derived.Deep.RegionHeldLaw
import Derived.Shelf.LaysC
import Derived.Shelf.Strconv.ParseIntPublic10
import Derived.Test.YtlgnahpfggagoaaGreatDoorRows
import Derived.Test.YtlgnahpfggagoaaGreatDoorWzc12
/- What the program's joinOne and join do. -/
namespace Go.Proofs.YtlgnahpfggagoaaGreatDoor
open Go.RowKit Go.Lib
set_option linter.unusedSimpArgs false
set_option linter.unusedVariables false
attribute [local go_sem ↓] Go.wp_at_zero Go.wp_at_succ
theorem addr_plain (g i:Nat):(⟨g,0,none⟩:Addr).add i=⟨g,i,none⟩:=by unfold Addr.add;split <;> simp_all
/-- The last operand, in memory. -/
theorem own_last1 {w:World}{base e:Nat}{v:Value}{x:Sx}{V:List Sx}(h:w.ownsRow base e 1 v (x :: V).length ((x :: V).reverse.map exX)):∃ g cap,v=.slice (some ⟨g,0,none⟩) (V.length+1) cap∧V.length+1≤cap∧cap≤maxLen∧base≤g∧g < w.heap.size∧
  w.cell? ⟨g,V.length,none⟩=some (exX x)∧(∀ j,w.frozen? ⟨g,j,none⟩=false)∧w.ownsRow base e 1 (.slice (some ⟨g,0,none⟩) (V.length+1) cap) (V.length+1) (V.reverse.map exX++[exX x]):=by
 rw [List.length_cons,List.reverse_cons,List.map_append] at h
 have hl:(V.reverse.map exX).length=V.length:=by simp
 have hc:=fun g=>World.ownsRow.cells h (g:=g)
 have h':=h
 rcases h.2 with ⟨_,h2⟩ | ⟨g,cap,cur,rfl,hb,hg,hnc,hcm,hcs,htake⟩
 ·omega
 ·have c0:=hc g rfl V.length (exX x) (by rw [List.getElem?_append_right (by omega),hl,Nat.sub_self];rfl)
  rw [addr_plain] at c0
  exact ⟨g,cap,rfl,hnc,hcm,hb,(Array.getElem?_eq_some_iff.1 hg).1,c0,fun j=>World.ownsRow.frozenAt h' j,h'⟩
/-- The last operand written anew. -/
theorem own_set1 {w:World}{base e g cap n:Nat}{xs:List Value}{a u:Value}(hn:xs.length=n) (h:w.ownsRow base e 1 (.slice (some ⟨g,0,none⟩) (n+1) cap) (n+1) (xs++[a])):(w.setCell ⟨g,n,none⟩ u).ownsRow base e 1 (.slice (some ⟨g,0,none⟩) (n+1) cap) (n+1) (xs++[u]):=by
 have:=(World.ownsRow.stored h n u).1
 subst hn
 rw [List.set_append_right _ _ (Nat.le_refl _),Nat.sub_self] at this
 exact this
theorem rdr_far {w:World}{X g i:Nat}{y:Yd}{vv ww:Value}(h:w.ownsRow (X+1) 240 2 ww y.W.length (cels2 y.W.reverse)) (ha:ww.ownBlock≠some g) (u:Value):(w.setCell ⟨g,i,none⟩ u).ownsRow (X+1) 240 2 ww y.W.length (cels2 y.W.reverse):=
 own_keep h (fun k hk=>Below.heap_setCell _ _ _ _ (fun e=>ha (by rw [hk];exact congrArg some e)))
set_option maxRecDepth 100000 in
set_option maxHeartbeats 4000000 in
theorem joinOne_bin {w:World}{X:Nat}{x z:Sx}{V:List Sx}{W:List Sg2}{o:Nat}{b:Bool}{vv ww:Value}(h:Rdr w X ⟨x :: z :: V,W,o,b⟩ vv ww) (s:Sg2) (hs:¬ s.2=6) (hl:V.length≤4000) :
  Calls Tryz.prog 177 #[.pointer (some ⟨X,0,none⟩),.agg #[.string ⟨s.1.toArray⟩,.int .i64 (s.2:Int)]] w fun e w'=>(∃ u,e=.returned u)∧(∃ vv',Rdr w' X ⟨mk2 ⟨s.1.toArray⟩ z x :: V,W,o,b⟩ vv' ww∧Fr2 X vv ww w w' vv' ww)∧Below X w w':=by
 have hb:=h.b
 have hw:=h.w
 have ha:=h.a
 obtain ⟨g,cap,rfl,h1,h2,h3,h4,c1,fz,ho⟩:=own_last1 h.v
 simp only [List.length_cons] at h1 c1 ho hb ha
 have ho2:w.ownsRow (X+1) 76 1 (.slice (some ⟨g,0,none⟩) (V.length+1) cap) (V.length+1) ((z :: V).reverse.map exX):=ownsRow_pop (by simp) ho
 have c0:w.cell? ⟨g,V.length,none⟩=some (exX z):=by
  have:=World.ownsRow.cells ho2 (g:=g) rfl V.length (exX z) (by rw [List.reverse_cons,List.map_append,List.getElem?_append_right (by simp)];simp)
  rwa [addr_plain] at this
 obtain ⟨q,hq⟩:∃ q,exX x=q:=⟨_,rfl⟩
 obtain ⟨r,hr⟩:∃ r,exX z=r:=⟨_,rfl⟩
 have hqf:=exX_form x
 have hrf:=exX_form z
 rw [hq] at c1 hqf
 rw [hr] at c0 hrf
 have l1:((s.2:Int) != 6)=true:=by simp;omega
 have i2:IntKind.i64.wrap ((V.length:Int)+1+1 - 1)=(V.length:Int)+1:=by rw [IntKind.wrap_i64];omega
 have i3:IntKind.i64.wrap ((V.length:Int)+1 - 1)=(V.length:Int):=by rw [IntKind.wrap_i64];omega
 have i4:IntKind.i64.wrap ((V.length:Int)+1)=(V.length:Int)+1:=by rw [IntKind.wrap_i64];omega
 have hbel:Below w.heap.size w (w.alloc (.cells #[.string ⟨s.1.toArray⟩,.int .i64 (s.2:Int)] 240)):=(Below.refl _ w).alloc (Nat.le_refl _) _
 have hA:=hb.keep hbel
 have c1':=(hbel.cell (p:=⟨g,V.length+1,none⟩) h4).trans c1
 have c0':=(hbel.cell (p:=⟨g,V.length,none⟩) h4).trans c0
 have z1:=(hbel.frozen (p:=⟨g,V.length,none⟩) h4).trans (fz _)
 have ho3:=World.ownsRow.alloc ho2 (.cells #[.string ⟨s.1.toArray⟩,.int .i64 (s.2:Int)] 240)
 have hw3:=World.ownsRow.alloc hw (.cells #[.string ⟨s.1.toArray⟩,.int .i64 (s.2:Int)] 240)
 have p1:(w.alloc (.cells #[.string ⟨s.1.toArray⟩,.int .i64 (s.2:Int)] 240)).cell? ⟨w.heap.size,0,none⟩=some (.string ⟨s.1.toArray⟩):=by simp
 have p2:(w.alloc (.cells #[.string ⟨s.1.toArray⟩,.int .i64 (s.2:Int)] 240)).cell? ⟨w.heap.size,1,none⟩=some (.int .i64 (s.2:Int)):=by simp
 obtain ⟨y0,y1,y2,y3,f0,f1,f2,f3⟩:=id hA
 have j1:(V.length:Int) < (V.length:Int)+1+1:=by omega
 have j2:(V.length:Int)+1 < (V.length:Int)+1+1:=by omega
 have j3:(0:Int)≤(V.length:Int):=by omega
 have j4:(0:Int)≤(V.length:Int)+1:=by omega
 have j5:(V.length:Int)+1≤(cap:Int):=by omega
 have hu:exX (mk2 ⟨s.1.toArray⟩ z x)=.iface 111 (.agg #[.string ⟨s.1.toArray⟩,r,q]):=by rw [exX_mk2,hr,hq]
 have hXg:g≠X:=by omega
 have haw:ww.ownBlock≠some g:=ha g rfl
 have ho4:(w.alloc (.cells #[.string ⟨s.1.toArray⟩,.int .i64 (s.2:Int)] 240)).ownsRow (X+1) 76 1 (.slice (some ⟨g,0,none⟩) (V.length+1) cap) (V.length+1) (V.reverse.map exX++[exX z]):=by rw [List.reverse_cons,List.map_append] at ho3;exact ho3
 clear h hb ha hw ho ho2 ho3 c0 c1 fz hq hr
 rcases hqf with rfl | ⟨qu,qy,rfl⟩ <;> rcases hrf with rfl | ⟨ru,ry,rfl⟩
 all_goals (
  go_enter Tryz.func177,Tryz.ntmps177
  go_wp2
  generalize w.alloc (.cells #[.string ⟨s.1.toArray⟩,.int .i64 (s.2:Int)] 240)=wa at *
  go_region
  have ho5:=own_set1 (u:=exX (mk2 ⟨s.1.toArray⟩ z x)) (by simp) ho4
  have hB:=hA.far hXg (i:=V.length) (exX (mk2 ⟨s.1.toArray⟩ z x))
  have hw4:=rdr_far (y:=⟨mk2 ⟨s.1.toArray⟩ z x :: V,W,o,b⟩) hw3 haw (exX (mk2 ⟨s.1.toArray⟩ z x)) (vv:=.nilIface) (i:=V.length)
  have hF:=(((Fr2.refl X (.slice (some ⟨g,0,none⟩) (V.length+1+1) cap) ww w).on hbel).setV (g:=g) rfl V.length (exX (mk2 ⟨s.1.toArray⟩ z x)))
  have hbel2:Below X w (wa.setCell ⟨g,V.length,none⟩ (exX (mk2 ⟨s.1.toArray⟩ z x))):=(hbel.mono (by omega)).setCell (by show X≤g;omega) _
  rw [hu] at ho5 hB hw4 hbel2 hF
  clear hA y0 y1 y2 y3 f0 f1 f2 f3 ho4 hw3 hbel c0' c1' z1 p1 p2
  obtain ⟨y0,y1,y2,y3,f0,f1,f2,f3⟩:=id hB
  generalize wa.setCell ⟨g,V.length,none⟩ _=wb at *
  go_wp2
  go_end0
  refine ⟨⟨_,rfl⟩,⟨_,Rdr.drew ⟨hB.set0 _,?_,ownsRow_setCell_below hw4 (Nat.lt_succ_self X) _,fun k hk=>?_⟩,((hF.setX 0 _).on ((Below.refl _ _).drew)).rows rfl rfl⟩,((hbel2.setCell (Nat.le_refl _) _).drew)⟩
  ·show World.ownsRow _ _ _ _ _ (V.length+1) ((mk2 ⟨s.1.toArray⟩ z x :: V).reverse.map exX)
   rw [List.reverse_cons,List.map_append,List.map_singleton,hu]
   exact ownsRow_setCell_below ho5 (Nat.lt_succ_self X) _
  ·simp only [Value.ownBlock,Option.some.injEq] at hk
   rw [← hk];exact haw)
set_option maxRecDepth 100000 in
set_option maxHeartbeats 4000000 in
theorem joinOne_un {w:World}{X:Nat}{x:Sx}{V:List Sx}{W:List Sg2}{o:Nat}{b:Bool}{vv ww:Value}(h:Rdr w X ⟨x :: V,W,o,b⟩ vv ww) (t:List UInt8) (hl:V.length≤4000) :
  Calls Tryz.prog 177 #[.pointer (some ⟨X,0,none⟩),.agg #[.string ⟨t.toArray⟩,.int .i64 6]] w fun e w'=>(∃ u,e=.returned u)∧(∃ vv',Rdr w' X ⟨mk1 (if t=[33] then 3 else 4) x :: V,W,o,b⟩ vv' ww∧Fr2 X vv ww w w' vv' ww)∧Below X w w':=by
 have hb:=h.b
 have hw:=h.w
 have ha:=h.a
 obtain ⟨g,cap,rfl,h1,h2,h3,h4,c1,fz,ho⟩:=own_last1 h.v
 obtain ⟨q,hq⟩:∃ q,exX x=q:=⟨_,rfl⟩
 have hqf:=exX_form x
 rw [hq] at c1 hqf
 have i2:IntKind.i64.wrap ((V.length:Int)+1 - 1)=(V.length:Int):=by rw [IntKind.wrap_i64];omega
 have i4:IntKind.i64.wrap ((V.length:Int)+1)=(V.length:Int)+1:=by rw [IntKind.wrap_i64];omega
 have hbel:Below w.heap.size w (w.alloc (.cells #[.string ⟨t.toArray⟩,.int .i64 6] 240)):=(Below.refl _ w).alloc (Nat.le_refl _) _
 have hA:=hb.keep hbel
 have c1':=(hbel.cell (p:=⟨g,V.length,none⟩) h4).trans c1
 have z1:=(hbel.frozen (p:=⟨g,V.length,none⟩) h4).trans (fz _)
 have ho4:=World.ownsRow.alloc ho (.cells #[.string ⟨t.toArray⟩,.int .i64 6] 240)
 have hw3:=World.ownsRow.alloc hw (.cells #[.string ⟨t.toArray⟩,.int .i64 6] 240)
 have p1:(w.alloc (.cells #[.string ⟨t.toArray⟩,.int .i64 6] 240)).cell? ⟨w.heap.size,0,none⟩=some (.string ⟨t.toArray⟩):=by simp
 have p2:(w.alloc (.cells #[.string ⟨t.toArray⟩,.int .i64 6] 240)).cell? ⟨w.heap.size,1,none⟩=some (.int .i64 6):=by simp
 obtain ⟨y0,y1,y2,y3,f0,f1,f2,f3⟩:=id hA
 have j2:(V.length:Int) < (V.length:Int)+1:=by omega
 have j3:(0:Int)≤(V.length:Int):=by omega
 have j4:(0:Int)≤(V.length:Int)+1:=by omega
 have j5:(V.length:Int)+1≤(cap:Int):=by omega
 have hXg:g≠X:=by omega
 have haw:ww.ownBlock≠some g:=ha g rfl
 obtain ⟨k,hk⟩:∃ k:Int,(if t=[33] then (3:Int) else 4)=k:=⟨_,rfl⟩
 rw [hk]
 have hkk:(t == [33])=true∧exX (mk1 k x)=.iface 108 (.agg #[q])∨(t == [33])=false∧exX (mk1 k x)=.iface 109 (.agg #[q]):=by
  rw [← hk,← hq]
  by_cases e:t=[33]
  ·left;rw [if_pos e];exact ⟨by rw [e];rfl,exX_not x⟩
  ·right;rw [if_neg e];exact ⟨beq_eq_false_iff_ne.2 e,exX_neg x⟩
 clear h ha c1 fz hq hk
 have hob:∀ u:Value,(w.setCell ⟨g,V.length,none⟩ u).ownsRow (X+1) 76 1 (.slice (some ⟨g,0,none⟩) (V.length+1) cap) (V.length+1) (V.reverse.map exX++[u]):=fun u=>own_set1 (by simp) ho
 have hwb:∀ u:Value,(w.setCell ⟨g,V.length,none⟩ u).ownsRow (X+1) 240 2 ww W.length (cels2 W.reverse):=fun u=>rdr_far (y:=⟨V,W,o,b⟩) hw haw u (vv:=.nilIface)
 have hbb:∀ u:Value,B4 (w.setCell ⟨g,V.length,none⟩ u) X (.slice (some ⟨g,0,none⟩) (V.length+1) cap) ww (.int .i64 (o:Int)) (.bool b):=fun u=>hb.far hXg u
 have hbl:∀ u:Value,Below X w (w.setCell ⟨g,V.length,none⟩ u):=fun u=>(Below.refl _ _).setCell (by show X≤g;omega) _
 have hfr:∀ u:Value,Fr2 X (.slice (some ⟨g,0,none⟩) (V.length+1) cap) ww w (w.setCell ⟨g,V.length,none⟩ u) (.slice (some ⟨g,0,none⟩) (V.length+1) cap) ww:=fun u=>(Fr2.refl X _ ww w).setV (g:=g) rfl V.length u
 have hal:∀ wx:World,Below wx.heap.size wx (wx.alloc (.cells #[.string ⟨t.toArray⟩,.int .i64 6] 240)):=fun wx=>(Below.refl _ _).alloc (Nat.le_refl _) _
 have hX:=hb.lt
 clear hb hw ho ho4 hw3 hbel hA
 rcases hqf with rfl | ⟨qu,qy,rfl⟩ <;> rcases hkk with ⟨e1,hu⟩ | ⟨e1,hu⟩
 all_goals (
  have hB:=hbb (exX (mk1 k x))
  have ho5:=hob (exX (mk1 k x))
  have hw4:=hwb (exX (mk1 k x))
  have hb2:=hbl (exX (mk1 k x))
  have hF:=hfr (exX (mk1 k x))
  rw [hu] at hB ho5 hw4 hb2 hF
  obtain ⟨q0,q1,q2,q3,g0,g1,g2,g3⟩:=id (hB.keep (hal _))
  clear hob hwb hbb hbl hfr
  go_enter Tryz.func177,Tryz.ntmps177
  go_wp2
  go_end0
  refine ⟨⟨_,rfl⟩,⟨_,⟨(hB.set0 _).keep (hal _),?_,World.ownsRow.alloc (ownsRow_setCell_below hw4 (Nat.lt_succ_self X) _) _,fun k hk=>?_⟩,(hF.setX 0 _).on (hal _)⟩,((hb2.setCell (Nat.le_refl X) _).alloc (by simp;omega) _)⟩
  ·show World.ownsRow _ _ _ _ _ (V.length+1) ((mk1 k x :: V).reverse.map exX)
   rw [List.reverse_cons,List.map_append,List.map_singleton,hu]
   exact World.ownsRow.alloc (ownsRow_setCell_below ho5 (Nat.lt_succ_self X) _) _
  ·simp only [Value.ownBlock,Option.some.injEq] at hk
   rw [← hk];exact haw)
theorem joinOne_any {w:World}{X:Nat}{V:List Sx}{W:List Sg2}{o:Nat}{b:Bool}{vv ww:Value}(h:Rdr w X ⟨V,W,o,b⟩ vv ww) (s:Sg2) (h6:s.2=6→1≤V.length) (h2:s.2≠6→2≤V.length) (hl:V.length≤4000) :
  Calls Tryz.prog 177 #[.pointer (some ⟨X,0,none⟩),.agg #[.string ⟨s.1.toArray⟩,.int .i64 (s.2:Int)]] w fun e w'=>(∃ u,e=.returned u)∧(∃ vv',Rdr w' X ⟨jn1 V s,W,o,b⟩ vv' ww∧Fr2 X vv ww w w' vv' ww)∧Below X w w':=by
 by_cases hs:s.2=6
 ·match V,h6 hs,h,hl with
  | x :: V,_,h,hl=>
   have e:jn1 (x :: V) s=mk1 (if s.1=[33] then 3 else 4) x :: V:=by unfold jn1;rw [if_pos hs]
   rw [e,hs]
   exact joinOne_un h s.1 (by rw [List.length_cons] at hl;omega)
 ·match V,h2 hs,h,hl with
  | x :: z :: V,_,h,hl=>
   have e:jn1 (x :: z :: V) s=mk2 ⟨s.1.toArray⟩ z x :: V:=by unfold jn1;rw [if_neg hs]
   rw [e]
   exact joinOne_bin h s hs (by rw [List.length_cons,List.length_cons] at hl;omega)
/-- How many of the signs take two operands; how many are brackets. -/
def bins:List Sg2→Nat
 | []=>0
 | s :: W=>bins W+(if s.2=0∨s.2=6 then 0 else 1)
def brk:List Sg2→Nat
 | []=>0
 | s :: W=>brk W+(if s.2=0 then 1 else 0)
theorem jn1_len {V:List Sx}{s:Sg2}{W:List Sg2}(h0:s.2≠0) (h:V.length=bins (s :: W)+1):(jn1 V s).length=bins W+1∧(s.2=6→1≤V.length)∧(s.2≠6→2≤V.length):=by
 unfold bins at h
 unfold jn1
 by_cases h6:s.2=6
 ·rw [if_pos (.inr h6)] at h
  rw [if_pos h6]
  refine ⟨?_,fun _=>by omega,fun h=>absurd h6 h⟩
  match V,h with
  | x :: V,h=>exact h
 ·rw [if_neg (fun q=>q.elim h0 h6)] at h
  rw [if_neg h6]
  refine ⟨?_,fun h=>absurd h h6,fun _=>by omega⟩
  match V,h with
  | x :: z :: V,h=>
   rw [List.length_cons,List.length_cons] at h
   show (V.length+1)=_
   omega
  | [x],h=>simp at h
theorem jn_ok {k:Nat}(hk:1≤k):∀ (W:List Sg2) (V:List Sx),V.length=bins W+1→(jn k V W).1.length=bins (jn k V W).2+1∧brk (jn k V W).2=brk W∧(jn k V W).2.length≤W.length∧topL (jn k V W).2 < k
 | [],V,h=>⟨h,rfl,Nat.le_refl _,hk⟩
 | s :: W,V,h=>by
  unfold jn
  by_cases hs:k≤s.2
  ·rw [if_pos hs]
   obtain ⟨a,b,c,d⟩:=jn_ok hk W (jn1 V s) (jn1_len (by omega) h).1
   refine ⟨a,?_,by rw [List.length_cons];omega,d⟩
   rw [b]
   show brk W=brk W+_
   rw [if_neg (by omega)];rfl
  ·rw [if_neg hs]
   exact ⟨h,rfl,Nat.le_refl _,by show s.2 < k;omega⟩
theorem bins_le:∀ W,bins W≤W.length
 | []=>Nat.le_refl _
 | s :: W=>by
  have:=bins_le W
  show bins W+_≤W.length+1
  split <;> omega
/-- How many signs wait, as memory tells. -/
def wlen (X:Nat) (w:World):Nat:=match w.cell? ⟨X,1,none⟩ with | some (.slice _ n _)=>n | _=>0
theorem Rdr.wlen {w:World}{X:Nat}{y:Yd}{vv ww:Value}(h:Rdr w X y vv ww):wlen X w=y.W.length:=by
 obtain ⟨a,cap,rfl,_⟩:=own_form h.w
 unfold Go.Proofs.YtlgnahpfggagoaaGreatDoor.wlen
 rw [h.b.c1]
/-- The last sign taken off. -/
theorem Rdr.popW {w:World}{X g cap:Nat}{V:List Sx}{s:Sg2}{W:List Sg2}{o:Nat}{b:Bool}{vv:Value}(h:Rdr w X ⟨V,s :: W,o,b⟩ vv (.slice (some ⟨g,0,none⟩) (W.length+1) cap)) :
  Rdr (w.setCell ⟨X,1,none⟩ (.slice (some ⟨g,0,none⟩) W.length cap)) X ⟨V,W,o,b⟩ vv (.slice (some ⟨g,0,none⟩) W.length cap):=by
 obtain ⟨g',cap',e,_,_,_,_,_,_,ho⟩:=own_last2 h.w
 simp only [Value.slice.injEq,Option.some.injEq,Addr.mk.injEq,and_true,true_and] at e
 obtain ⟨rfl,rfl⟩:=e
 exact ⟨h.b.set1 _,ownsRow_setCell_below h.v (Nat.lt_succ_self X) _,ownsRow_setCell_below ho (Nat.lt_succ_self X) _,h.a⟩
theorem below_draws (B:Nat) (w:World) (m:Nat):Below B w (w.drewN m):=⟨rfl,rfl,rfl,Nat.le_refl _,fun _ _=>rfl⟩
set_option maxRecDepth 100000 in
set_option maxHeartbeats 4000000 in
theorem join_any {w:World}{X:Nat}{V:List Sx}{W:List Sg2}{o:Nat}{b:Bool}{vv ww:Value}(h:Rdr w X ⟨V,W,o,b⟩ vv ww) (k:Nat) (hk:1≤k) (hk6:k≤7) (hV:V.length=bins W+1) (hl:W.length≤3001) :
  Calls Tryz.prog 167 #[.pointer (some ⟨X,0,none⟩),.int .i64 (k:Int)] w fun e w'=>(∃ u,e=.returned u)∧(∃ vv' ww',Rdr w' X ⟨(jn k V W).1,(jn k V W).2,o,b⟩ vv' ww'∧Fr2 X vv ww w w' vv' ww')∧Below X w w':=by
 obtain ⟨R,hR⟩:∃ R,jn k V W=R:=⟨_,rfl⟩
 rw [hR]
 have hR0:Hid (jn k V W=R):=hR
 clear hR
 go_enter Tryz.func167,Tryz.ntmps167
 go_wp2
 go_loopw [] (fun wr=>∃ (V':List Sx) (W':List Sg2) (vv' ww':Value),Rdr wr X ⟨V',W',o,b⟩ vv' ww'∧Fr2 X vv ww w wr vv' ww'∧Hid (jn k V' W'=R)∧Hid (V'.length=bins W'+1)∧W'.length≤3001∧Below X w wr) (fun wr=>wlen X wr)
 case atStart=>exact ⟨V,W,vv,ww,h,Fr2.refl X vv ww w,hR0,hV,hl,Below.refl _ _⟩
 case round=>
  obtain ⟨V',W',vv',ww',hr,hf,hj,hv,hl',hb⟩:=hrel
  have hL:=last_any hr (by show W'.length≤4000;omega)
  simp only at hL
  clear h hR0 hV hl
  by_cases hc:k≤topL W'
  ·cases W' with
   | nil=>exact absurd hc (by show ¬ k≤0;omega)
   | cons s W'=>
   have hc':k≤s.2:=hc
   have i1:(k:Int)≤(topL (s :: W'):Int):=by omega
   have hm:=hr.wlen
   obtain ⟨hn1,hn2,hn3⟩:=jn1_len (W:=W') (by omega) hv.out
   have hjj:Hid (jn k (jn1 V' s) W'=R):=by
    have:=hj.out
    rw [jn,if_pos hc'] at this
    exact this
   have hnn:Hid ((jn1 V' s).length=bins W'+1):=hn1
   have hvl:V'.length≤4000:=by
    have:=bins_le (s :: W')
    have:=hv.out
    omega
   obtain ⟨g,cap,rfl,a1,a2,a3,a4,c0,c1,ho⟩:=own_last2 hr.w
   have hJ:=fun m=>joinOne_any (hr.drewN m) s hn2 hn3 hvl
   have c0':∀ m,(wr.drewN m).cell? ⟨g,W'.length*2,none⟩=some (.string ⟨s.1.toArray⟩):=fun _=>c0
   have c1':∀ m,(wr.drewN m).cell? ⟨g,W'.length*2+1,none⟩=some (.int .i64 (s.2:Int)):=fun _=>c1
   have y1:∀ m,(wr.drewN m).cell? ⟨X,1,none⟩=some (.slice (some ⟨g,0,none⟩) (W'.length+1) cap):=fun _=>hr.b.c1
   rw [List.length_cons] at hl'
   have i2:IntKind.i64.wrap ((W'.length:Int)+1 - 1)=(W'.length:Int):=by rw [IntKind.wrap_i64];omega
   have i3:(W'.length:Int) < (W'.length:Int)+1:=by omega
   have i4:(0:Int)≤(W'.length:Int):=by omega
   have i5:(W'.length:Int)≤(cap:Int):=by omega
   clear hj hv hn1 hn2 hn3
   go_wp2_with (first
    | (go_at_call 174;refine hL.mono ?_;rintro e w1 ⟨rfl,m,rfl⟩;have hJm:=hJ m;have y1m:=y1 m;have c0m:=c0' m;have c1m:=c1' m;clear hJ y1 c0' c1' c0 c1 hL;have hbm:Below X w (wr.drewN m):=hb.trans (below_draws _ _ m);have hfm:=hf.on (below_draws _ _ m);generalize wr.drewN m=wm at *)
    | (go_at_call 177;refine hJm.mono ?_;rintro e w2 ⟨⟨u,rfl⟩,⟨vv2,hr2,hf2⟩,b2⟩;have hb2:=hbm.trans b2;have hf3:=hfm.trans hf2;obtain ⟨q0,q1,q2,q3,g0,g1,g2,g3⟩:=id hr2.b))
   have hr3:=hr2.popW
   exact ⟨⟨_,_,_,_,hr3,(hf3.setX 1 _).rows rfl rfl,hjj,hnn,by omega,hb2.setCell (Nat.le_refl X) _⟩,by rw [hr3.wlen,hm];exact Nat.lt_succ_self _⟩
  ·have i1:¬ (k:Int)≤(topL W':Int):=by omega
   have hjj:=hj.out
   rw [jn_skip (by omega)] at hjj
   subst hjj
   go_wp2_with (first
    | (go_at_call 174;refine hL.mono ?_;rintro e w1 ⟨rfl,m,rfl⟩))
   go_end0
   exact ⟨⟨_,rfl⟩,⟨_,_,hr.drewN m,hf.on (below_draws _ _ m)⟩,hb.trans (below_draws _ _ m)⟩
theorem Tryz.infoSg:(Tryz.prog.info? 240).map (fun i=>(i.zero,i.size,i.bytes))=some (some (.agg #[.string ⟨#[]⟩,.int .i64 0]),2,24):=by kernel_rfl
theorem src_sign {P:Program}{t e:TypeId}(ht:P.underlying t=some (.slice e)) (w:World) (s:Sg2) :
  Src P 2 t (.slice (some ⟨w.heap.size,0,none⟩) 1 1) 1 (cel2 s) (w.alloc (.cells #[.string ⟨s.1.toArray⟩,.int .i64 (s.2:Int)] e)):=by
 have h:=World.ownsRow_lit (base:=w.heap.size) (e:=e) (size:=2) w #[.string ⟨s.1.toArray⟩,.int .i64 (s.2:Int)] 1 (Nat.le_refl _) (by simp [maxLen]) (by simp)
 exact Src.ofSlice _ ht _ 1 1 _ (by simp [cel2]) (by simpa [cel2] using h.cells (g:=w.heap.size) rfl) (by simp [cel2,Value.oneCell'])
set_option maxRecDepth 100000 in
set_option maxHeartbeats 4000000 in
theorem wait_any {w:World}{X:Nat}{V:List Sx}{W:List Sg2}{o:Nat}{b:Bool}{vv ww:Value}(h:Rdr w X ⟨V,W,o,b⟩ vv ww) (t:List UInt8) (k:Nat) (hk:k≤6) (hl:W.length≤3001) (ht:t.length≤12000) :
  Calls Tryz.prog 175 #[.pointer (some ⟨X,0,none⟩),.string ⟨t.toArray⟩,.int .i64 (k:Int)] w fun e w'=>(∃ u,e=.returned u)∧(∃ ww',Rdr w' X ⟨V,(t,k) :: W,o,b⟩ vv ww')∧Below X w w':=by
 obtain ⟨i0,hi,hz0,hz1,hz2⟩:=info_parts Tryz.infoSg
 obtain ⟨a,cap,rfl,hcap⟩:=own_form h.w
 simp only at h
 have hC:=fun w1=>pClone_any ⟨t.toArray⟩ w1 (by show t.toArray.size≤_;simp;omega)
 obtain ⟨y0,y1,y2,y3,f0,f1,f2,f3⟩:=id h.b
 go_enter Tryz.func175,Tryz.ntmps175
 go_wp2
 go_region_law (first
   | (refine step_append_at _ (by rfl) (.tmp 10) (.tmp 15) 213 213 (by rfl) (X+1) 240 i0 (.agg #[.string ⟨#[]⟩,.int .i64 0]) 2 24 Tryz.underlying213 hi hz0 hz1 hz2 rfl _ W.length _ (by rfl) (World.ownsRow.alloc hr3.w _) _ 1 (cel2 (t,k)) (by rfl) (src_sign Tryz.underlying213 w3 (t,k)) 1 (.inr (by omega)) (Nat.le_refl _) (by unfold maxLen;omega) (by simp;have:=hr3.lt;omega) ?_;intro v4 w4 ho6 hg4 hat;obtain ⟨a4,cap4,rfl,hc4⟩:=own_form ho6;have hb4:Below (X+1) (w3.alloc (.cells #[.string ⟨t.toArray⟩,.int .i64 (k:Int)] 240)) w4:=(Below.refl _ _).grown hg4 (by simp;have:=hr3.lt;omega) (fun k hk=>(World.ownsRow.lt hr3.w k hk).1);have hB4:=hr4.b.keepB hb4 (Nat.lt_succ_self X);have p1:=hB4.c1;have r1:=hB4.f1)
   | (go_simp;refine (hC _).mono ?_;rintro e w3 ⟨rfl,b3⟩;have b3':Below w.heap.size w w3:=((Below.refl _ w).drew).trans b3;have hr3:=h.on b3';have c1:=hr3.b.c1;have d1:=hr3.b.f1;have hr4:=hr3.on (((Below.refl _ w3).alloc (Nat.le_refl _) (.cells #[.string ⟨t.toArray⟩,.int .i64 (k:Int)] 240)));have c2:=hr4.b.c1;have d2:=hr4.b.f1))
 all_goals (
  have hne:vv.ownBlock=none∨vv.ownBlock≠(Value.slice a W.length cap).ownBlock:=by
   cases hq:vv.ownBlock with
   | none=>exact .inl rfl
   | some g=>exact .inr (fun e=>h.a g hq e.symm)
  have hv4:=World.ownsRow.kept hr4.v hg4 hne
  have hbb:Below X w w4:=((b3'.mono (Nat.le_of_lt h.lt)).alloc (Nat.le_of_lt hr3.lt) _).trans (hb4.mono (Nat.le_succ X))
  go_end0
  refine ⟨⟨_,rfl⟩,⟨_,hB4.set1 _,ownsRow_setCell_below hv4 (Nat.lt_succ_self X) _,?_,fun g hg e=>?_⟩,hbb.setCell (Nat.le_refl X) _⟩
  ·refine ownsRow_setCell_below ?_ (Nat.lt_succ_self X) _
   rw [List.reverse_cons,cels2_app]
   have e:cels2 [(t,k)]=cel2 (t,k):=by simp [cels2]
   rw [e]
   exact ho6
  ·rcases hat with q | q
   ·exact h.a g hg (q.symm.trans e)
   ·have hlt:=(World.ownsRow.lt hr3.v g hg).2
    have:some g=some (w3.alloc (.cells #[.string ⟨t.toArray⟩,.int .i64 (k:Int)] 240)).heap.size:=e.symm.trans q
    simp at this
    omega)
/-- From byte k on, j runes more belong to a piece that ends at byte p. -/
structure Inn (l:List UInt8) (k j p:Nat):Prop where
 cnt:j≤(runes (l.drop k)).length
 size:k+(byt ((runes (l.drop k)).take j)).length=p
 no10:∀ v∈(runes (l.drop k)).take j,v.1≠10
theorem Inn.zero (l:List UInt8) (k:Nat):Inn l k 0 k:=⟨Nat.zero_le _,rfl,fun v hv=>by simp at hv⟩
theorem Inn.start {l:List UInt8}{k m:Nat}(hk:k < l.length) (hm:1≤m) (hm2:m≤(runes (l.drop k)).length) (hn:∀ v∈(runes (l.drop k)).take m,v.1≠10∨m=1) :
  Inn l (k+(nx (l.drop k)).2) (m - 1) (k+(byt ((runes (l.drop k)).take m)).length):=by
 have hne:=drop_ne hk
 have hc:=runes_cons hne
 have hle:=nx_le hne
 obtain ⟨j,rfl⟩:∃ j,m=j+1:=⟨m - 1,by omega⟩
 rw [List.drop_drop] at hc
 rw [hc] at hm2 hn ⊢
 rw [List.take_succ_cons] at hn ⊢
 simp only [Nat.add_sub_cancel]
 refine ⟨by simpa using hm2,?_,fun v hv=>?_⟩
 ·rw [byt_cons,List.length_append,List.length_take,Nat.min_eq_left hle]
  omega
 ·rcases hn v (by simp [hv]) with h | h
  ·exact h
  ·have:j=0:=by omega
   subst this
   simp at hv
theorem Inn.step {l:List UInt8}{k j p:Nat}(hk:k < l.length) (h:Inn l k (j+1) p):Inn l (k+(nx (l.drop k)).2) j p∧(nx (l.drop k)).1≠10∧k < p:=by
 have hne:=drop_ne hk
 have hc:=runes_cons hne
 have hle:=nx_le hne
 have hps:=nx_pos hne
 rw [List.drop_drop] at hc
 obtain ⟨h1,h2,h3⟩:=h
 rw [hc] at h1 h2 h3
 rw [List.take_succ_cons] at h2 h3
 rw [byt_cons,List.length_append,List.length_take,Nat.min_eq_left hle] at h2
 exact ⟨⟨by simpa using h1,by omega,fun v hv=>h3 v (List.mem_cons_of_mem _ hv)⟩,h3 _ List.mem_cons_self,by omega⟩
theorem runes_tail {l:List UInt8}{k:Nat}(hk:k < l.length) (j:Nat):(runes (l.drop k)).drop (j+1)=(runes (l.drop (k+(nx (l.drop k)).2))).drop j:=by
 rw [runes_cons (drop_ne hk),List.drop_succ_cons,List.drop_drop]
theorem pc_le {l:List UInt8}(hl:l≠[]) (h:rightS (pc l).1 (l.take (pcB l))=true):1≤(pc l).2∧(pc l).2≤(runes l).length∧∀ v∈(runes l).take (pc l).2,v.1≠10∨(pc l).2=1:=by
 have hc:=runes_cons hl
 by_cases c1:(nx l).1=32∨(nx l).1=9∨(nx l).1=10
 ·have hp:pc l=(0,1):=by unfold pc;rw [if_pos c1]
  rw [hp]
  exact ⟨Nat.le_refl _,by rw [hc];simp,fun _ _=>.inr rfl⟩
 by_cases c2:(nx l).1=35
 ·have hp:pc l=(0,rest (runes l)):=by unfold pc;rw [if_neg c1,if_pos c2]
  rw [hp]
  refine ⟨?_,rest_le _,fun v hv=>.inl (rest_no10 _ v hv)⟩
  rw [hc]
  exact rest_pos (by simp only;omega)
 obtain ⟨k1,k2,_⟩:=right_word hl (by omega) (by omega) c2
 have e:=k2 h
 have h0:(fst1 (runes l)).1≠0:=by rw [e];omega
 have hle:1≤(fst1 (runes l)).2∧(fst1 (runes l)).2≤(runes l).length:=by rw [hc] at h0 ⊢;exact fst1_le _ _ h0
 rw [e] at hle
 refine ⟨hle.1,hle.2,?_⟩
 have hp:pc l=if letter (nx l).1=true then (1,spn (runes l)) else if dgt (nx l).1=true then (2,spn (runes l)) else (3,sgn (runes l)):=by
  unfold pc
  rw [if_neg c1,if_neg c2]
 rw [hp]
 split
 ·exact fun v hv=>.inl (spn_no10 v hv)
 ·split
  ·exact fun v hv=>.inl (spn_no10 v hv)
  ·exact fun v hv=>.inl (sgn_no10 _ v hv)
theorem txt_at (s:ByteArray) (k m:Nat):s.extract k (k+(byt ((runes ((bl s).drop k)).take m)).length)=txt ((runes ((bl s).drop k)).take m):=by
 have h1:bl (s.extract k (k+(byt ((runes ((bl s).drop k)).take m)).length))=((bl s).drop k).take (byt ((runes ((bl s).drop k)).take m)).length:=by
  show (s.extract k _).data.toList=_
  rw [Lib.extract_data]
  congr 1
  omega
 have e2:byt ((runes ((bl s).drop k)).take m)++byt ((runes ((bl s).drop k)).drop m)=(bl s).drop k:=by rw [← byt_append,List.take_append_drop,byt_runes _ _ (Nat.le_refl _)]
 have e3:∀ (a b l:List UInt8),a++b=l→l.take a.length=a:=fun a b l h=>by rw [← h];exact List.take_left
 rw [e3 _ _ _ e2] at h1
 have h2:∀ (t:ByteArray) (x:List UInt8),bl t=x→t=⟨x.toArray⟩:=fun t x h=>by
  apply ByteArray.ext
  show t.data=x.toArray
  rw [← h]
 exact h2 _ _ h1
theorem txt_bl (l:List UInt8) (m:Nat):bl (txt ((runes l).take m))=l.take (byt ((runes l).take m)).length:=by
 have e2:byt ((runes l).take m)++byt ((runes l).drop m)=l:=by rw [← byt_append,List.take_append_drop,byt_runes _ l (Nat.le_refl _)]
 have e3:∀ (a b l:List UInt8),a++b=l→l.take a.length=a:=fun a b l h=>by rw [← h];exact List.take_left
 rw [e3 _ _ _ e2]
 simp [bl,txt]
theorem src_word {P:Program}{t e:TypeId}(ht:P.underlying t=some (.slice e)) (w:World) (x:Wd) :
  Src P 4 t (.slice (some ⟨w.heap.size,0,none⟩) 1 1) 1 (celW x) (w.alloc (.cells #[.int .i64 (x.1:Int),.string (txt x.2.1),.int .i64 x.2.2.1,.int .i64 x.2.2.2] e)):=by
 have h:=World.ownsRow_lit (base:=w.heap.size) (e:=e) (size:=4) w #[.int .i64 (x.1:Int),.string (txt x.2.1),.int .i64 x.2.2.1,.int .i64 x.2.2.2] 1 (Nat.le_refl _) (by simp [maxLen]) (by simp)
 exact Src.ofSlice _ ht _ 1 1 _ (by simp [celW]) (by simpa [celW] using h.cells (g:=w.heap.size) rfl) (by simp [celW,Value.oneCell'])
theorem Tryz.infoG:(Tryz.prog.info? 100).map (fun i=>(i.zero,i.size,i.bytes))=some (some (.agg #[.int .i64 0,.string ⟨#[]⟩,.int .i64 0,.int .i64 0]),4,40):=by kernel_rfl
set_option maxRecDepth 100000 in
set_option maxHeartbeats 4000000 in
theorem pWords_any (s:ByteArray) (w:World) (hs:s.size≤140737488351232) :
  Calls Tryz.prog 34 #[.string s] w fun e w'=>∃ u,e=.returned (.tuple #[u,.agg #[.int .i64 (wordsS (bl s)).2.1.1,.int .i64 (wordsS (bl s)).2.1.2],.int .i64 (wordsS (bl s)).2.2])∧OwnW w' w.heap.size 100 u (wordsS (bl s)).1∧Below w.heap.size w w':=by
 obtain ⟨i0,hi,hz0,hz1,hz2⟩:=info_parts Tryz.infoG
 by_cases hlong:12000 < s.size
 ·rw [words_long (show 12000 < (bl s).length from hlong)]
  have e1:(s.size:Int) > 12000:=by omega
  go_enter Tryz.func34,Tryz.ntmps34
  go_wp2
  go_region
  all_goals go_wp2
  all_goals exact bodyPost_ret (v:=.tuple #[.slice none 0 0,.agg #[.int .i64 1,.int .i64 1],.int .i64 4]) (by simp [results,Tryz.results34,go_sem]) rfl ⟨_,rfl,ownW_nil _ _ _,(((Below.refl _ _).alloc (Nat.le_refl _) _).alloc (by simp) _).drew⟩
 have e1:¬ (s.size:Int) > 12000:=by omega
 have hsm:s.size≤12000:=by omega
 obtain ⟨⟨X,⟨pL,pC⟩,er⟩,hE⟩:∃ x,wordsS (bl s)=x:=⟨_,rfl⟩
 rw [hE]
 have HE:Hid (comb [] (wrds ((runes ((bl s).drop 0)).drop 0) 1 (1+((0:Nat):Int)) 0)=(X,(pL,pC),er)):=by
  show comb [] (wrds (runes (bl s)) 1 1 0)=(X,(pL,pC),er)
  rw [comb_nil,← hE]
  unfold wordsS
  rw [if_neg (show ¬ 12000 < (bl s).length from hlong)]
 clear hE
 go_enter Tryz.func34,Tryz.ntmps34
 go_wp2
 go_loopw [6,7] (fun o x wr=>∃ (k j p:Nat) (ln co:Int) (acc:List Wd),x=.int .i64 (p:Int)∧It0 wr (w.heap.size+2) s k∧k≤s.size∧Hid (Inn (bl s) k j p)∧Hid (comb acc (wrds ((runes ((bl s).drop k)).drop j) ln (co+(j:Int)) acc.length)=(X,(pL,pC),er))∧1≤ln∧1≤co∧ln≤1+k∧co≤1+k∧acc.length≤3000∧
  OwnW wr (w.heap.size+3) 100 o acc∧At wr (w.heap.size+1) (.int .i64 ln) (.int .i64 co)∧(∃ a b,At wr w.heap.size a b)∧Below w.heap.size w wr) (fun _ _ wr=>s.size - wr.iterPos (w.heap.size+2))
 case atStart=>
  refine ⟨0,0,0,1,1,[],rfl,?_,by omega,Inn.zero _ _,HE,by omega,by omega,by omega,by omega,by simp,ownW_nil _ _ _,(At.new _ _ _ _ _ (by simp)).keep ((Below.refl _ _).alloc (Nat.le_refl _) _),⟨_,_,((At.new w (.int .i64 0) (.int .i64 0) 23 _ rfl).keep ((Below.refl _ _).alloc (Nat.le_refl _) _)).keep ((Below.refl _ _).alloc (Nat.le_refl _) _)⟩,(((Below.refl _ _).alloc (Nat.le_refl _) _).alloc (by simp) _).alloc (by simp;omega) _⟩
  have:=World.iter_heap ((w.alloc (.cells #[.int .i64 0,.int .i64 0] 23)).alloc (.cells #[.int .i64 1,.int .i64 1] 23)) s 0
  simpa [It0] using this
 case round=>
  obtain ⟨k,j,p,ln,co,acc,rfl,hit,hk,hin,hv,hl1,hc1,hl2,hc2,hacc,ho,hA,⟨a,b,hR⟩,hb⟩:=hrel
  by_cases hlt:k < s.size
  ·have hkl:k < (bl s).length:=by rw [bl_length];exact hlt
   have hnx:∀ ty,(Instr.next (.pointer (some ⟨w.heap.size+2,0,none⟩)) true ty).run Tryz.prog wr=_:=fun ty=>Lib.run_next_any_at wr (w.heap.size+2) s k ty hit hlt
   obtain ⟨d1,d2⟩:=dec_nx hlt
   have hne:=drop_ne hkl
   have hps:=nx_pos hne
   have hnl:=nx_le hne
   rw [List.length_drop,bl_length] at hnl
   have hrt:=runes_tail hkl
   rw [d1,d2] at hnx
   have bi:=Lib.below_iterAt (Below.refl (w.heap.size+2) wr) (k:=w.heap.size+2) (Nat.le_refl _) s (k+(nx ((bl s).drop k)).2)
   have hit2:It0 (wr.iterAt (w.heap.size+2) s (k+(nx ((bl s).drop k)).2)) (w.heap.size+2) s (k+(nx ((bl s).drop k)).2):=Lib.iterAt_heap wr (w.heap.size+2) s k (k+(nx ((bl s).drop k)).2) hit
   have hA2:=hA.keepB bi (by omega)
   have hR2:=hR.keepB bi (by omega)
   have hb2:=hb.trans (bi.mono (by omega))
   have ho2:OwnW (wr.iterAt (w.heap.size+2) s (k+(nx ((bl s).drop k)).2)) (w.heap.size+3) 100 u6 acc:=ownsRow_iterAt ho (by omega) _ _
   obtain ⟨wq,hwq⟩:∃ wq,wr.iterAt (w.heap.size+2) s (k+(nx ((bl s).drop k)).2)=wq:=⟨_,rfl⟩
   rw [hwq] at hnx hit2 hA2 hR2 hb2 ho2
   have hq3:w.heap.size+3≤wq.heap.size:=by have:=hit2.lt;omega
   obtain ⟨y0,y1,y2,y3⟩:=id hA2
   clear d1 d2 hwq bi hA hR hb ho
   by_cases hj:0 < j
   ·-- within a piece
    obtain ⟨j',rfl⟩:∃ j',j=j'+1:=⟨j - 1,by omega⟩
    obtain ⟨hi1,hi2,hi3⟩:=Inn.step hkl hin.out
    have hx:rn (nx ((bl s).drop k)).1≠10:=fun e=>hi2 ((rn_small (by omega)).1 e)
    have h26:=pBehind_on ln co (rn (nx ((bl s).drop k)).1) wq (by omega) hx
    have hn:Hid (comb acc (wrds ((runes ((bl s).drop (k+(nx ((bl s).drop k)).2))).drop j') ln (co+1+(j':Int)) acc.length)=(X,(pL,pC),er)):=by
     have:=hv.out
     rw [hrt,show co+((j'+1:Nat):Int)=co+1+(j':Int) by omega] at this
     exact this
    have hI:Hid (Inn (bl s) (k+(nx ((bl s).drop k)).2) j' p):=hi1
    have hkp:((k:Int) == (p:Int))=false:=beq_eq_false_iff_ne.2 (by omega)
    obtain ⟨x,hxx⟩:∃ x,rn (nx ((bl s).drop k)).1=x:=⟨_,rfl⟩
    obtain ⟨q,hq⟩:∃ q,(nx ((bl s).drop k)).2=q:=⟨_,rfl⟩
    rw [hxx] at h26 hnx
    rw [hq] at hit2 hn hI hps hnl
    clear hrt hi1 hi2 hi3 hx hxx hq hne hkl hj
    go_wp2_with (first
     | (go_at_call 70;refine h26.mono ?_;rintro e w1 ⟨rfl,b1⟩;have hA1:=hA2.keep b1;have hR1:=hR2.keep b1;have hI1:=hit2.keep b1;have ho1:=ho2.below b1 (Nat.le_refl _);obtain ⟨z0,z1,z2,z3⟩:=id hA1;have b2:=hb2.trans (b1.mono hb2.size);clear h26 hA2 hR2 hb2 ho2 y0 y1 y2 y3))
    have hI2:=(hI1.set (X:=w.heap.size+1) (i:=0) (by omega) (.int .i64 ln)).set (X:=w.heap.size+1) (i:=1) (by omega) (.int .i64 (co+1))
    go_roundw
    case rel=>
     exact ⟨k+q,j',p,ln,co+1,acc,rfl,hI2,by omega,hI,hn,by omega,by omega,by omega,by omega,hacc,(ho1.set (by simp) _).set (by simp) _,(hA1.set0 _).set1 _,⟨a,b,(hR1.far (by omega) _).far (by omega) _⟩,(b2.setCell (by simp) _).setCell (by simp) _⟩
    case measure=>rw [iterPos_of hI2,iterPos_of hit];omega
   ·-- a piece begins
    obtain rfl:j=0:=by omega
    have hpk:k=p:=hin.out.size
    subst hpk
    have hkp:((k:Int) == (k:Int))=true:=by simp
    have hvv:=hv.out
    rw [List.drop_zero,show co+((0:Nat):Int)=co by omega] at hvv
    have hP:=fun w1=>pPiece_any (s.extract k s.size) w1 (by rw [ByteArray.size_extract];omega) (by rw [ByteArray.size_extract];omega)
    rw [bl_from] at hP
    have hRt:=fun w1=>pRight_any (pc ((bl s).drop k)).1 (txt ((runes ((bl s).drop k)).take (pc ((bl s).drop k)).2)) w1 (by
     have h1:=txt_bl ((bl s).drop k) (pc ((bl s).drop k)).2
     have h2:=congrArg List.length h1
     rw [bl_length,List.length_take,List.length_drop,bl_length] at h2
     omega)
    rw [txt_bl] at hRt
    have htx:=txt_at s k (pc ((bl s).drop k)).2
    have hpn:=byt_split (runes ((bl s).drop k)) (pc ((bl s).drop k)).2
    rw [byt_runes _ _ (Nat.le_refl _),List.length_drop,bl_length] at hpn
    have hpl:=pc_le hne
    have hst:=fun h1 h2 h3=>Inn.start (m:=(pc ((bl s).drop k)).2) hkl h1 h2 h3
    have hrw:=right_word hne
    unfold pcB at hP hpl hrw
    obtain ⟨R,hRR⟩:∃ R,runes ((bl s).drop k)=R:=⟨_,rfl⟩
    have hcs:=runes_cons hne
    rw [hRR] at hcs
    have hw:=wrds_cons ((nx ((bl s).drop k)).1,((bl s).drop k).take (nx ((bl s).drop k)).2) (runes (((bl s).drop k).drop (nx ((bl s).drop k)).2)) ln co acc.length
    rw [← hcs] at hw
    simp only at hw
    simp only [hRR] at hP hRt htx hpn hpl hst hrw hvv hrt
    have hpc10:(nx ((bl s).drop k)).1=10∨(nx ((bl s).drop k)).1=32∨(nx ((bl s).drop k)).1=9→pc ((bl s).drop k)=(0,1):=fun h=>by unfold pc;rw [if_pos (by omega)]
    have hpc35:(nx ((bl s).drop k)).1=35→pc ((bl s).drop k)=(0,rest R):=fun h=>by unfold pc;rw [if_neg (by omega),if_pos h,hRR]
    obtain ⟨K,hK⟩:∃ K,(pc ((bl s).drop k)).1=K:=⟨_,rfl⟩
    obtain ⟨m,hm⟩:∃ m,(pc ((bl s).drop k)).2=m:=⟨_,rfl⟩
    obtain ⟨g,hg⟩:∃ g,rightS K (((bl s).drop k).take (byt (R.take m)).length)=g:=⟨_,rfl⟩
    simp only [hK,hm] at hP hRt htx hpn hpl hst hrw
    rw [hg] at hpl hrw
    simp only [hg] at hRt
    obtain ⟨n,hnn⟩:∃ n,(byt (R.take m)).length=n:=⟨_,rfl⟩
    simp only [hnn] at hP htx hpn hst
    have hKg:K=0→g=true:=fun h=>by rw [← hg,h];rfl
    clear hg
    have hkn:(k:Int)≤(k:Int)+(n:Int):=by omega
    have hkn2:(k:Int)+(n:Int)≤(s.size:Int):=by omega
    have hk0:(0:Int)≤(k:Int):=by omega
    have hks:(k:Int)≤(s.size:Int):=by omega
    have hknn:(0:Int)≤(k:Int)+(n:Int):=by omega
    have hK0:(nx ((bl s).drop k)).1=10∨(nx ((bl s).drop k)).1=32∨(nx ((bl s).drop k)).1=9→K=0∧m=1:=fun h=>by rw [← hK,← hm,hpc10 h];exact ⟨rfl,rfl⟩
    have hK5:(nx ((bl s).drop k)).1=35→K=0∧m=rest R:=fun h=>by rw [← hK,← hm,hpc35 h];exact ⟨rfl,rfl⟩
    clear hpc10 hpc35 hv
    cases g with
    | false=>
     -- it is wrong
     have c10:¬ (nx ((bl s).drop k)).1=10:=fun h=>by have:=hKg (hK0 (.inl h)).1;cases this
     have c32:¬ ((nx ((bl s).drop k)).1=32∨(nx ((bl s).drop k)).1=9):=fun h=>by have:=hKg (hK0 (.inr h)).1;cases this
     have c35:¬ (nx ((bl s).drop k)).1=35:=fun h=>by have:=hKg (hK5 h).1;cases this
     have hf0:=(hrw c10 c32 c35).2.2 rfl
     rw [hw,if_neg c10,if_neg c32,if_neg c35,if_pos hf0,comb_err _ _ _ (by decide)] at hvv
     simp only [Prod.mk.injEq] at hvv
     obtain ⟨rfl,⟨rfl,rfl⟩,rfl⟩:=hvv
     obtain ⟨x,hxx⟩:∃ x,rn (nx ((bl s).drop k)).1=x:=⟨_,rfl⟩
     rw [hxx] at hnx hP
     clear c10 c32 c35 hf0 hw hrt hrw hpl hst hne hkl hcs hRR hK hm hK0 hK5 hKg hxx hit2 ho2 hnn hpn hin HE
     go_wp2_with (first
      | (go_at_call 67;refine (hP _).mono ?_;rintro e w1 ⟨rfl,b1⟩;have hA1:=hA2.keep b1;have hR1:=hR2.keep b1;have bb1:=hb2.trans (b1.mono hb2.size);clear hA2 hR2 hb2 hP b1 y0 y1 y2 y3)
      | (go_at_call 68;refine (hRt _).mono ?_;rintro e w2 ⟨rfl,b2⟩;have hA3:=hA1.keep b2;have hR3:=hR1.keep b2;have bb:=bb1.trans (b2.mono bb1.size);obtain ⟨y0,y1,y2,y3⟩:=id hA3;obtain ⟨z0,z1,z2,z3⟩:=id hR3;clear hA1 hR1 bb1 hRt b2))
     have hQ:=(hR3.set0 (.int .i64 ln)).set1 (.int .i64 co)
     obtain ⟨q0,q1,q2,q3⟩:=id hQ
     have bq:Below w.heap.size w ((w2.setCell ⟨w.heap.size,0,none⟩ (.int .i64 ln)).setCell ⟨w.heap.size,1,none⟩ (.int .i64 co)).drew:=((bb.setCell (by simp) _).setCell (by simp) _).drew
     clear hQ hA3 hR3
     go_region
     all_goals go_wp2
     all_goals exact bodyPost_ret (v:=.tuple #[.slice none 0 0,.agg #[.int .i64 ln,.int .i64 co],.int .i64 11]) (by simp [results,Tryz.results34,go_sem,q0,q1]) rfl ⟨_,rfl,ownW_nil _ _ _,bq⟩
    | true=>
     obtain ⟨hm1,hm2,hno⟩:=hpl rfl
     have hI:=hst hm1 hm2 hno
     by_cases c10:(nx ((bl s).drop k)).1=10
     ·-- a line feed
      have hx:rn (nx ((bl s).drop k)).1=10:=(rn_small (by omega)).2 c10
      obtain ⟨rfl,rfl⟩:=hK0 (.inl c10)
      have h26:=fun w1=>pBehind_feed ln co w1 (by omega)
      rw [hw,if_pos c10,List.drop_drop] at hvv
      have hn:Hid (comb acc (wrds ((runes ((bl s).drop (k+(nx ((bl s).drop k)).2))).drop 0) (ln+1) (1+((0:Nat):Int)) acc.length)=(X,(pL,pC),er)):=hvv
      have hIH:Hid (Inn (bl s) (k+(nx ((bl s).drop k)).2) 0 (k+n)):=hI
      rw [hx] at hnx hP
      obtain ⟨q,hq⟩:∃ q,(nx ((bl s).drop k)).2=q:=⟨_,rfl⟩
      rw [hq] at hit2 hn hIH hps hnl
      clear c10 hx hw hrt hrw hpl hst hne hkl hcs hRR hK hm hK0 hK5 hKg hvv hI hq hnn hpn hin HE hm1 hm2 hno
      go_wp2_with (first
       | (go_at_call 67;refine (hP _).mono ?_;rintro e w1 ⟨rfl,b1⟩;have hA1:=hA2.keep b1;have hR1:=hR2.keep b1;have hI1:=hit2.keep b1;have ho1:=ho2.below b1 (Nat.le_refl _);have bb1:=hb2.trans (b1.mono hb2.size);clear hA2 hR2 hb2 ho2 hit2 hP b1 y0 y1 y2 y3)
       | (go_at_call 68;refine (hRt _).mono ?_;rintro e w2 ⟨rfl,b2⟩;have hA3:=hA1.keep b2;have hR3:=hR1.keep b2;have hI3:=hI1.keep b2;have ho3:=ho1.below b2 (Nat.le_refl _);have bb3:=bb1.trans (b2.mono bb1.size);obtain ⟨y0,y1,y2,y3⟩:=id hA3;clear hA1 hR1 hI1 ho1 bb1 hRt b2)
       | (go_at_call 70;refine (h26 _).mono ?_;rintro e w4 ⟨rfl,b4⟩;have hA4:=hA3.keep b4;have hR4:=hR3.keep b4;have hI4:=hI3.keep b4;have ho4:=ho3.below b4 (Nat.le_refl _);have bb4:=bb3.trans (b4.mono bb3.size);obtain ⟨z0,z1,z2,z3⟩:=id hA4;clear h26 hA3 hR3 hI3 ho3 bb3 b4 y0 y1 y2 y3))
      have hI5:=(hI4.set (X:=w.heap.size+1) (i:=0) (by omega) (.int .i64 (ln+1))).set (X:=w.heap.size+1) (i:=1) (by omega) (.int .i64 1)
      go_roundw
      case rel=>
       exact ⟨k+q,0,k+n,ln+1,1,acc,by go_num,hI5,by omega,hIH,hn,by omega,by omega,by omega,by omega,hacc,(ho4.set (by simp) _).set (by simp) _,(hA4.set0 _).set1 _,⟨a,b,(hR4.far (by omega) _).far (by omega) _⟩,(bb4.setCell (by simp) _).setCell (by simp) _⟩
      case measure=>rw [iterPos_of hI5,iterPos_of hit];omega
     ·have hx:rn (nx ((bl s).drop k)).1≠10:=fun e=>c10 ((rn_small (by omega)).1 e)
      have h26:=fun w1=>pBehind_on ln co (rn (nx ((bl s).drop k)).1) w1 (by omega) hx
      by_cases hbt:((nx ((bl s).drop k)).1=32∨(nx ((bl s).drop k)).1=9)∨(nx ((bl s).drop k)).1=35
      ·-- a blank or a remark
       have hKm:K=0:=hbt.elim (fun h=>(hK0 (.inr h)).1) (fun h=>(hK5 h).1)
       subst hKm
       have hwm:wrds R ln co acc.length=wrds (R.drop m) ln (co+(m:Int)) acc.length:=by
        rcases hbt with h | h
        ·rw [hw,if_neg c10,if_pos h,(hK0 (.inr h)).2,hrt 0,List.drop_zero,List.drop_drop];rfl
        ·rw [hw,if_neg c10,if_neg (by omega),if_pos h,← (hK5 h).2]
       obtain ⟨j',rfl⟩:∃ j',m=j'+1:=⟨m - 1,by omega⟩
       rw [hwm,hrt,show co+((j'+1:Nat):Int)=co+1+(j':Int) by omega] at hvv
       have hn:Hid (comb acc (wrds ((runes ((bl s).drop (k+(nx ((bl s).drop k)).2))).drop j') ln (co+1+(j':Int)) acc.length)=(X,(pL,pC),er)):=hvv
       have hIH:Hid (Inn (bl s) (k+(nx ((bl s).drop k)).2) j' (k+n)):=hI
       obtain ⟨x,hxx⟩:∃ x,rn (nx ((bl s).drop k)).1=x:=⟨_,rfl⟩
       obtain ⟨q,hq⟩:∃ q,(nx ((bl s).drop k)).2=q:=⟨_,rfl⟩
       rw [hxx] at hnx hP
       simp only [hxx] at h26
       rw [hq] at hit2 hn hIH hps hnl
       clear c10 hx hw hrt hrw hpl hst hne hkl hcs hRR hK hm hK0 hK5 hKg hvv hI hq hnn hpn hin HE hm1 hm2 hno hbt hwm hxx
       go_wp2_with (first
        | (go_at_call 67;refine (hP _).mono ?_;rintro e w1 ⟨rfl,b1⟩;have hA1:=hA2.keep b1;have hR1:=hR2.keep b1;have hI1:=hit2.keep b1;have ho1:=ho2.below b1 (Nat.le_refl _);have bb1:=hb2.trans (b1.mono hb2.size);clear hA2 hR2 hb2 ho2 hit2 hP b1 y0 y1 y2 y3)
        | (go_at_call 68;refine (hRt _).mono ?_;rintro e w2 ⟨rfl,b2⟩;have hA3:=hA1.keep b2;have hR3:=hR1.keep b2;have hI3:=hI1.keep b2;have ho3:=ho1.below b2 (Nat.le_refl _);have bb3:=bb1.trans (b2.mono bb1.size);obtain ⟨y0,y1,y2,y3⟩:=id hA3;clear hA1 hR1 hI1 ho1 bb1 hRt b2)
        | (go_at_call 70;refine (h26 _).mono ?_;rintro e w4 ⟨rfl,b4⟩;have hA4:=hA3.keep b4;have hR4:=hR3.keep b4;have hI4:=hI3.keep b4;have ho4:=ho3.below b4 (Nat.le_refl _);have bb4:=bb3.trans (b4.mono bb3.size);obtain ⟨z0,z1,z2,z3⟩:=id hA4;clear h26 hA3 hR3 hI3 ho3 bb3 b4 y0 y1 y2 y3))
       have hI5:=(hI4.set (X:=w.heap.size+1) (i:=0) (by omega) (.int .i64 ln)).set (X:=w.heap.size+1) (i:=1) (by omega) (.int .i64 (co+1))
       go_roundw
       case rel=>
        exact ⟨k+q,j',k+n,ln,co+1,acc,by go_num,hI5,by omega,hIH,hn,by omega,by omega,by omega,by omega,hacc,(ho4.set (by simp) _).set (by simp) _,(hA4.set0 _).set1 _,⟨a,b,(hR4.far (by omega) _).far (by omega) _⟩,(bb4.setCell (by simp) _).setCell (by simp) _⟩
       case measure=>rw [iterPos_of hI5,iterPos_of hit];omega
      ·-- a word
       have c32:¬ ((nx ((bl s).drop k)).1=32∨(nx ((bl s).drop k)).1=9):=fun h=>hbt (.inl h)
       have c35:¬ (nx ((bl s).drop k)).1=35:=fun h=>hbt (.inr h)
       obtain ⟨hK1,hfp,_⟩:=hrw c10 c32 c35
       have hf:=hfp rfl
       have hf1:(fst1 R).1=K:=by rw [hf];exact hK
       have hf2:(fst1 R).2=m:=by rw [hf];exact hm
       have hKz:((K:Int) != 0)=true:=by simp;omega
       rw [hw,if_neg c10,if_neg c32,if_neg c35,hf1,hf2,if_neg (show ¬ K=0 by omega)] at hvv
       have hlen:∃ ao ac,u6=.slice ao acc.length ac:=by
        rcases ho2.2 with ⟨h,h2⟩ | ⟨g,cp,_,h,_⟩
        ·exact ⟨none,0,by rw [h,h2]⟩
        ·exact ⟨_,_,h⟩
       obtain ⟨ao,ac,rfl⟩:=hlen
       obtain ⟨x,hxx⟩:∃ x,rn (nx ((bl s).drop k)).1=x:=⟨_,rfl⟩
       rw [hxx] at hnx hP
       simp only [hxx] at h26
       by_cases a3:acc.length=3000
       ·rw [if_pos a3,comb_err _ _ _ (by decide)] at hvv
        simp only [Prod.mk.injEq] at hvv
        obtain ⟨rfl,⟨rfl,rfl⟩,rfl⟩:=hvv
        have h3:((acc.length:Int) == 3000)=true:=by simp;omega
        clear c10 c32 c35 hw hrt hrw hpl hst hne hkl hcs hRR hK hm hK0 hK5 hKg hxx hit2 ho2 hnn hpn hin HE hfp hf hf1 hf2 hI hx h26 hbt hm1 hm2 hno a3
        go_wp2_with (first
         | (go_at_call 67;refine (hP _).mono ?_;rintro e w1 ⟨rfl,b1⟩;have hA1:=hA2.keep b1;have hR1:=hR2.keep b1;have bb1:=hb2.trans (b1.mono hb2.size);clear hA2 hR2 hb2 hP b1 y0 y1 y2 y3)
         | (go_at_call 68;refine (hRt _).mono ?_;rintro e w2 ⟨rfl,b2⟩;have hA3:=hA1.keep b2;have hR3:=hR1.keep b2;have bb:=bb1.trans (b2.mono bb1.size);obtain ⟨y0,y1,y2,y3⟩:=id hA3;obtain ⟨z0,z1,z2,z3⟩:=id hR3;clear hA1 hR1 bb1 hRt b2))
        have hQ:=(hR3.set0 (.int .i64 ln)).set1 (.int .i64 co)
        obtain ⟨q0,q1,q2,q3⟩:=id hQ
        have bq:Below w.heap.size w ((w2.setCell ⟨w.heap.size,0,none⟩ (.int .i64 ln)).setCell ⟨w.heap.size,1,none⟩ (.int .i64 co)).drew:=((bb.setCell (by simp) _).setCell (by simp) _).drew
        clear hQ hA3 hR3
        go_region
        all_goals go_wp2
        all_goals exact bodyPost_ret (v:=.tuple #[.slice none 0 0,.agg #[.int .i64 ln,.int .i64 co],.int .i64 4]) (by simp [results,Tryz.results34,go_sem,q0,q1]) rfl ⟨_,rfl,ownW_nil _ _ _,bq⟩
       ·rw [if_neg a3,comb_pre] at hvv
        have h3:((acc.length:Int) == 3000)=false:=beq_eq_false_iff_ne.2 (by omega)
        have hac:acc.length < 3000:=by omega
        obtain ⟨seg,hseg⟩:∃ seg,R.take m=seg:=⟨_,rfl⟩
        rw [hseg] at hvv htx hRt
        obtain ⟨j',rfl⟩:∃ j',m=j'+1:=⟨m - 1,by omega⟩
        rw [hrt,show co+((j'+1:Nat):Int)=co+1+(j':Int) by omega] at hvv
        have hn:Hid (comb (acc++[(K,seg,ln,co)]) (wrds ((runes ((bl s).drop (k+(nx ((bl s).drop k)).2))).drop j') ln (co+1+(j':Int)) (acc++[((K,seg,ln,co):Wd)]).length)=(X,(pL,pC),er)):=by
         rw [List.length_append];exact hvv
        have hIH:Hid (Inn (bl s) (k+(nx ((bl s).drop k)).2) j' (k+n)):=hI
        have hts:(txt seg).size≤140737488351232:=by rw [← htx,ByteArray.size_extract];omega
        have hC:=fun w1=>pClone_any (txt seg) w1 hts
        obtain ⟨q,hq⟩:∃ q,(nx ((bl s).drop k)).2=q:=⟨_,rfl⟩
        rw [hq] at hit2 hn hIH hps hnl
        clear c10 c32 c35 hw hrt hrw hpl hst hne hkl hcs hRR hK hm hK0 hK5 hKg hxx hnn hpn hin HE hfp hf hf1 hf2 hI hx hbt hm1 hm2 hno a3 hvv hq hseg hts
        go_wp2_with (first
         | (go_at_call 67;refine (hP _).mono ?_;rintro e w1 ⟨rfl,b1⟩;have hA1:=hA2.keep b1;have hR1:=hR2.keep b1;have hI1:=hit2.keep b1;have ho1:=ho2.below b1 (Nat.le_refl _);have bb1:=hb2.trans (b1.mono hb2.size);have hq1:w.heap.size+3≤w1.heap.size:=Nat.le_trans hq3 b1.size;clear hA2 hR2 hb2 ho2 hit2 hP b1 y0 y1 y2 y3)
         | (go_at_call 68;refine (hRt _).mono ?_;rintro e w2 ⟨rfl,b2⟩;have hA3:=hA1.keep b2;have hR3:=hR1.keep b2;have hI3:=hI1.keep b2;have ho3:=ho1.below b2 (Nat.le_refl _);have bb3:=bb1.trans (b2.mono bb1.size);have hq2:w.heap.size+3≤w2.heap.size:=Nat.le_trans hq1 b2.size;obtain ⟨y0,y1,y2,y3⟩:=id hA3;clear hA1 hR1 hI1 ho1 bb1 hRt b2))
        go_region_held_law (fun w'=>w'.cell? ⟨w.heap.size+1,0,none⟩=some (.int .i64 ln)∧w'.cell? ⟨w.heap.size+1,1,none⟩=some (.int .i64 co))
         (first | exact ⟨y0,y1⟩ | exact ⟨c0,c1⟩ | exact ⟨p0,p1⟩ | go_keep)
         ((first
          | (go_at_call 69;refine (hC _).mono ?_;rintro e w3 ⟨rfl,b3⟩;have b3':Below w2.heap.size w2 w3:=((Below.refl _ w2).drew).trans b3;have hA5:=hA3.keep b3';have hR5:=hR3.keep b3';have hI5:=hI3.keep b3';have ho5:=ho3.below b3' (Nat.le_refl _);have bb5:=bb3.trans (b3'.mono bb3.size);have hq5:w.heap.size+3≤w3.heap.size:=Nat.le_trans hq2 b3'.size;obtain ⟨c0,c1,c2,c3⟩:=id hA5)
          | (refine step_append_both _ (by rfl) (.tmp 53) (.tmp 59) 92 92 (by rfl) (w.heap.size+3) 100 i0 (.agg #[.int .i64 0,.string ⟨#[]⟩,.int .i64 0,.int .i64 0]) 4 40 Tryz.underlying92 hi hz0 hz1 hz2 rfl _ acc.length _ (by rfl) (World.ownsRow.alloc ho5 _) _ 1 (celW (K,seg,ln,co)) (by rfl) (src_word Tryz.underlying92 w3 (K,seg,ln,co)) 1 (.inr (by omega)) (Nat.le_refl _) (by unfold maxLen;omega) (by simp;omega) ?_;intro v4 w4 ho6 hg4 _;have bel4:Below (w.heap.size+3) w3 w4:=(((Below.refl _ _).alloc hq5 _)).grown hg4 (by simp;omega) (fun k hk=>(World.ownsRow.lt ho5 k hk).1);obtain ⟨p0,p1,p2,p3⟩:=hA5.keepB bel4 (by omega))))
        have hA6:At w4 (w.heap.size+1) (.int .i64 ln) (.int .i64 co):=⟨p0,p1,p2,p3⟩
        have hR6:=hR5.keepB bel4 (by omega)
        have hI6:=hI5.keepB bel4 (by omega)
        have bb6:=bb5.trans (bel4.mono (by omega))
        have ho7:=ownW_snoc ho6
        clear ho6 hg4 ho5 ho3 hA3 hA5 hR3 hR5 hI3 hI5 bel4 bb3 bb5 b3 b3' c0 c1 c2 c3 y0 y1 y2 y3 htx hC hq2 hq5 hq1 hq3
        go_wp2_with (first
         | (go_at_call 70;refine (h26 _).mono ?_;rintro e w8 ⟨rfl,b8⟩;have hA8:=hA6.keep b8;have hR8:=hR6.keep b8;have hI8:=hI6.keep b8;have ho8:=ho7.below b8 (Nat.le_refl _);have bb8:=bb6.trans (b8.mono bb6.size);obtain ⟨z0,z1,z2,z3⟩:=id hA8;clear h26 hA6 hR6 hI6 ho7 bb6 b8 p0 p1 p2 p3))
        have hI9:=(hI8.set (X:=w.heap.size+1) (i:=0) (by omega) (.int .i64 ln)).set (X:=w.heap.size+1) (i:=1) (by omega) (.int .i64 (co+1))
        go_roundw
        case rel=>
         exact ⟨k+q,j',k+n,ln,co+1,acc++[(K,seg,ln,co)],by go_num,hI9,by omega,hIH,hn,by omega,by omega,by omega,by omega,by simp;omega,(ho8.set (by simp) _).set (by simp) _,(hA8.set0 _).set1 _,⟨a,b,(hR8.far (by omega) _).far (by omega) _⟩,(bb8.setCell (by simp) _).setCell (by simp) _⟩
        case measure=>rw [iterPos_of hI9,iterPos_of hit];omega
  ·have hnx:∀ ty,(Instr.next (.pointer (some ⟨w.heap.size+2,0,none⟩)) true ty).run Tryz.prog wr=_:=fun ty=>Lib.run_next_end_at wr (w.heap.size+2) s k ty hit hlt
   have hnil:(bl s).drop k=[]:=List.drop_eq_nil_of_le (by rw [bl_length];omega)
   have hvv:=hv.out
   rw [hnil,runes_nil,List.drop_nil,comb_end] at hvv
   simp only [Prod.mk.injEq] at hvv
   obtain ⟨rfl,⟨rfl,rfl⟩,rfl⟩:=hvv
   obtain ⟨z0,z1,z2,z3⟩:=id hR
   have hA2:=(hR.set0 (.int .i64 0)).set1 (.int .i64 0)
   obtain ⟨q0,q1,q2,q3⟩:=id hA2
   have b2:Below w.heap.size w ((wr.setCell ⟨w.heap.size,0,none⟩ (.int .i64 0)).setCell ⟨w.heap.size,1,none⟩ (.int .i64 0)):=(hb.setCell (by simp) _).setCell (by simp) _
   have o2:=(ho.set (a:=⟨w.heap.size,0,none⟩) (by simp) (.int .i64 0)).set (a:=⟨w.heap.size,1,none⟩) (by simp) (.int .i64 0)
   clear hnil hA hR hA2 hv HE ho hin
   go_wp2
   exact bodyPost_ret (v:=.tuple #[u6,.agg #[.int .i64 0,.int .i64 0],.int .i64 0]) (by simp [results,Tryz.results34,go_sem,q0,q1]) rfl ⟨_,rfl,o2.base (by omega),b2⟩
end Go.Proofs.YtlgnahpfggagoaaGreatDoor
/- Contracts of the library at this program. -/
namespace Go.Proofs.YtlgnahpfggagoaaGreatDoor
open Go.Shelf
set_option linter.unusedVariables false
def renP:Ren:={ f:=fun x=>match x with | 174=>182 | 247=>126 | 245=>117 | 287=>147 | 279=>127 | 280=>128 | 281=>129 | 282=>130 | 321=>162 | 322=>163 | 316=>103 | 171=>149 | 205=>148 | 243=>164 | 246=>153 | 283=>168 | 284=>169 | 285=>170 | 286=>171 | 129=>146 | 317=>178 | 318=>179 | 319=>180 | 320=>181 | 337=>183 | 338=>184 | n=>n,t:=fun x=>match x with | 9=>9 | 3=>3 | 2=>2 | 75=>150 | 85=>178 | 4=>4 | 167=>177 | 5=>5 | 53=>206 | 175=>207 | 46=>176 | 168=>180 | 37=>162 | 0=>0 | 210=>210 | 21=>21 | 127=>163 | 145=>226 | 143=>224 | 171=>229 | 173=>231 | 212=>243 | 51=>204 | 20=>20 | 213=>244 | 232=>245 | 233=>246 | 80=>247 | n=>n,g:=fun x=>match x with | 15=>0 | 16=>1 | 17=>2 | 18=>3 | 19=>4 | n=>n }
theorem laysP:LaysC.n174 Tryz.prog renP:=
 {mixed:=by kernel_rfl,f129:=Tryz.func146.trans (congrArg some (by kernel_rfl)),f171:=Tryz.func149.trans (congrArg some (by kernel_rfl)),f174:=Tryz.func182.trans (congrArg some (by kernel_rfl)),f205:=Tryz.func148.trans (congrArg some (by kernel_rfl)),f243:=Tryz.func164.trans (congrArg some (by kernel_rfl)),f245:=Tryz.func117.trans (congrArg some (by kernel_rfl)),f246:=Tryz.func153.trans (congrArg some (by kernel_rfl)),f247:=Tryz.func126.trans (congrArg some (by kernel_rfl)),f279:=Tryz.func127.trans (congrArg some (by kernel_rfl)),f280:=Tryz.func128.trans (congrArg some (by kernel_rfl)),f281:=Tryz.func129.trans (congrArg some (by kernel_rfl)),f282:=Tryz.func130.trans (congrArg some (by kernel_rfl)),f283:=Tryz.func168.trans (congrArg some (by kernel_rfl)),f284:=Tryz.func169.trans (congrArg some (by kernel_rfl)),f285:=Tryz.func170.trans (congrArg some (by kernel_rfl)),f286:=Tryz.func171.trans (congrArg some (by kernel_rfl)),f287:=Tryz.func147.trans (congrArg some (by kernel_rfl)),f316:=Tryz.func103.trans (congrArg some (by kernel_rfl)),f317:=Tryz.func178.trans (congrArg some (by kernel_rfl)),f318:=Tryz.func179.trans (congrArg some (by kernel_rfl)),f319:=Tryz.func180.trans (congrArg some (by kernel_rfl)),f320:=Tryz.func181.trans (congrArg some (by kernel_rfl)),f321:=Tryz.func162.trans (congrArg some (by kernel_rfl)),f322:=Tryz.func163.trans (congrArg some (by kernel_rfl)),f337:=Tryz.func183.trans (congrArg some (by kernel_rfl)),f338:=Tryz.func184.trans (congrArg some (by kernel_rfl)),t0:=Tryz.underlying0,a0:=Tryz.isAgg0,z0:=Tryz.sizeOf0,v0:=Tryz.zeroValue0,t2:=Tryz.underlying2,a2:=Tryz.isAgg2,z2:=Tryz.sizeOf2,v2:=Tryz.zeroValue2,t3:=Tryz.underlying3,a3:=Tryz.isAgg3,z3:=Tryz.sizeOf3,v3:=Tryz.zeroValue3,t4:=Tryz.underlying4,a4:=Tryz.isAgg4,z4:=Tryz.sizeOf4,v4:=Tryz.zeroValue4,t5:=Tryz.underlying5,a5:=Tryz.isAgg5,z5:=Tryz.sizeOf5,v5:=Tryz.zeroValue5,t9:=Tryz.underlying9,a9:=Tryz.isAgg9,z9:=Tryz.sizeOf9,v9:=Tryz.zeroValue9,t20:=Tryz.underlying20,a20:=Tryz.isAgg20,z20:=Tryz.sizeOf20,v20:=Tryz.zeroValue20,t21:=Tryz.underlying21,a21:=Tryz.isAgg21,z21:=Tryz.sizeOf21,v21:=Tryz.zeroValue21,t37:=Tryz.underlying162,a37:=Tryz.isAgg162,z37:=Tryz.sizeOf162,v37:=Tryz.zeroValue162,t46:=Tryz.underlying176,a46:=Tryz.isAgg176,z46:=Tryz.sizeOf176,v46:=Tryz.zeroValue176,t51:=Tryz.underlying204,a51:=Tryz.isAgg204,z51:=Tryz.sizeOf204,v51:=Tryz.zeroValue204,t53:=Tryz.underlying206,a53:=Tryz.isAgg206,z53:=Tryz.sizeOf206,v53:=Tryz.zeroValue206,t75:=Tryz.underlying150,a75:=Tryz.isAgg150,z75:=Tryz.sizeOf150,v75:=Tryz.zeroValue150,t85:=Tryz.underlying178,a85:=Tryz.isAgg178,z85:=Tryz.sizeOf178,v85:=Tryz.zeroValue178,t127:=Tryz.underlying163,a127:=Tryz.isAgg163,z127:=Tryz.sizeOf163,v127:=Tryz.zeroValue163,t143:=Tryz.underlying224,a143:=Tryz.isAgg224,z143:=Tryz.sizeOf224,v143:=Tryz.zeroValue224,t145:=Tryz.underlying226,a145:=Tryz.isAgg226,z145:=Tryz.sizeOf226,v145:=Tryz.zeroValue226,t167:=Tryz.underlying177,a167:=Tryz.isAgg177,z167:=Tryz.sizeOf177,v167:=Tryz.zeroValue177,t168:=Tryz.underlying180,a168:=Tryz.isAgg180,z168:=Tryz.sizeOf180,v168:=Tryz.zeroValue180,t171:=Tryz.underlying229,a171:=Tryz.isAgg229,z171:=Tryz.sizeOf229,v171:=Tryz.zeroValue229,t173:=Tryz.underlying231,a173:=Tryz.isAgg231,z173:=Tryz.sizeOf231,v173:=Tryz.zeroValue231,t175:=Tryz.underlying207,a175:=Tryz.isAgg207,z175:=Tryz.sizeOf207,v175:=Tryz.zeroValue207,t210:=Tryz.underlying210,a210:=Tryz.isAgg210,z210:=Tryz.sizeOf210,v210:=Tryz.zeroValue210,t212:=Tryz.underlying243,a212:=Tryz.isAgg243,z212:=Tryz.sizeOf243,v212:=Tryz.zeroValue243,t213:=Tryz.underlying244,a213:=Tryz.isAgg244,z213:=Tryz.sizeOf244,t232:=Tryz.underlying245,a232:=Tryz.isAgg245,z232:=Tryz.sizeOf245,v232:=Tryz.zeroValue245,t233:=Tryz.underlying246,a233:=Tryz.isAgg246,z233:=Tryz.sizeOf246,v233:=Tryz.zeroValue246,g15:=by kernel_rfl,g16:=by kernel_rfl,g17:=by kernel_rfl,g18:=by kernel_rfl,g19:=by kernel_rfl,t80:=Tryz.underlying247,a80:=Tryz.isAgg247,z80:=Tryz.sizeOf247,v80:=Tryz.zeroValue247,i0:=by kernel_rfl,i2:=by kernel_rfl,i3:=by kernel_rfl,i4:=by kernel_rfl,i5:=by kernel_rfl,i9:=by kernel_rfl,i20:=by kernel_rfl,i21:=by kernel_rfl,i37:=by kernel_rfl,i46:=by kernel_rfl,i51:=by kernel_rfl,i53:=by kernel_rfl,i75:=by kernel_rfl,i80:=by kernel_rfl,i85:=by kernel_rfl,i127:=by kernel_rfl,i143:=by kernel_rfl,i145:=by kernel_rfl,i167:=by kernel_rfl,i168:=by kernel_rfl,i171:=by kernel_rfl,i173:=by kernel_rfl,i175:=by kernel_rfl,i210:=by kernel_rfl,i212:=by kernel_rfl,i232:=by kernel_rfl,i233:=by kernel_rfl,m15:=by kernel_rfl,m16:=by kernel_rfl,m17:=by kernel_rfl,m18:=by kernel_rfl,m19:=by kernel_rfl,c0:=by kernel_rfl,c2:=by kernel_rfl,c3:=by kernel_rfl,c4:=by kernel_rfl,c5:=by kernel_rfl,c9:=by kernel_rfl,c20:=by kernel_rfl,c21:=by kernel_rfl,c37:=by kernel_rfl,c46:=by kernel_rfl,c51:=by kernel_rfl,c53:=by kernel_rfl,c75:=by kernel_rfl,c80:=by kernel_rfl,c85:=by kernel_rfl,c127:=by kernel_rfl,c143:=by kernel_rfl,c145:=by kernel_rfl,c167:=by kernel_rfl,c168:=by kernel_rfl,c171:=by kernel_rfl,c173:=by kernel_rfl,c175:=by kernel_rfl,c210:=by kernel_rfl,c212:=by kernel_rfl,c213:=by kernel_rfl,c232:=by kernel_rfl,c233:=by kernel_rfl }
end Go.Proofs.YtlgnahpfggagoaaGreatDoor
/- What the program's closes, mayEnd and leafOf do. -/
namespace Go.Proofs.YtlgnahpfggagoaaGreatDoor
open Go.RowKit Go.Lib
set_option linter.unusedSimpArgs false
set_option linter.unusedVariables false
attribute [local go_sem ↓] Go.wp_at_zero Go.wp_at_succ
theorem pParseInt_any (s:ByteArray) (hs:numB (bl s)=true) (w:World):Calls Tryz.prog 182 #[.string s,.int .i64 10,.int .i64 64] w fun e w'=>e=.returned (.tuple #[.int .i64 (valB 0 (bl s)),.nilIface])∧Below w.heap.size w w':=by
 have hl:=(num_len hs).1
 have h:=Any.strconv_ParseInt_10_at64_ok laysP s (by rw [← bl_length];omega) (valB 0 (bl s)) (parse_num hs) w
 refine Calls.mono h ?_
 rintro e w' ⟨rfl,hw⟩
 refine ⟨rfl,?_⟩
 rcases hw with rfl | ⟨t,rfl⟩
 ·exact Below.refl _ _
 ·exact bytesWorld_below _ _ _
set_option maxRecDepth 100000 in
set_option maxHeartbeats 4000000 in
theorem closes_no {w:World}{X:Nat}{V:List Sx}{W:List Sg2}{b:Bool}{vv ww:Value}(h:Rdr w X ⟨V,W,0,b⟩ vv ww) :
  Calls Tryz.prog 173 #[.pointer (some ⟨X,0,none⟩)] w fun e w'=>e=.returned (.bool false)∧w=w':=by
 obtain ⟨y0,y1,y2,y3,f0,f1,f2,f3⟩:=id h.b
 simp only at y2
 go_enter Tryz.func173,Tryz.ntmps173
 go_wp2
 go_ret
 exact ⟨rfl,rfl⟩
theorem brk_top {W:List Sg2}(h:brk W≠0) (ht:topL W < 1):∃ s W',W=s :: W'∧brk W=brk W'+1∧bins W=bins W':=by
 cases W with
 | nil=>exact absurd rfl h
 | cons s W=>
  have h0:s.2=0:=by have:s.2 < 1:=ht;omega
  refine ⟨s,W,rfl,?_,?_⟩
  ·show brk W+_=_;rw [if_pos h0]
  ·show bins W+_=_;rw [if_pos (.inl h0)];rfl
set_option maxRecDepth 100000 in
set_option maxHeartbeats 4000000 in
theorem closes_yes {w:World}{X:Nat}{V:List Sx}{W:List Sg2}{o:Nat}{b:Bool}{vv ww:Value}(h:Rdr w X ⟨V,W,o,b⟩ vv ww) (ho:o≠0) (hob:o=brk W) (hV:V.length=bins W+1) (hl:W.length≤3001) :
  Calls Tryz.prog 173 #[.pointer (some ⟨X,0,none⟩)] w fun e w'=>e=.returned (.bool true)∧(∃ vv' ww',Rdr w' X ⟨(jn 1 V W).1,(jn 1 V W).2.tail,o - 1,b⟩ vv' ww')∧Below X w w':=by
 obtain ⟨y0,y1,y2,y3,f0,f1,f2,f3⟩:=id h.b
 have hJ:=join_any h 1 (by omega) (by omega) hV hl
 obtain ⟨a1,a2,a3,a4⟩:=jn_ok (k:=1) (by omega) W V hV
 obtain ⟨s,W',e,_,_⟩:=brk_top (W:=(jn 1 V W).2) (by omega) a4
 obtain ⟨V',hV'⟩:∃ V',(jn 1 V W).1=V':=⟨_,rfl⟩
 rw [e,hV'] at hJ
 rw [e,hV',List.tail_cons]
 rw [e,List.length_cons] at a3
 have hob':o≤4000:=by
  have:∀ W,brk W≤W.length:=fun W=>by
   induction W with
   | nil=>exact Nat.le_refl _
   | cons x r ih=>show brk r+_≤r.length+1;split <;> omega
  have:=this W
  omega
 obtain ⟨q,rfl⟩:∃ q,o=q+1:=⟨o - 1,by omega⟩
 have i1:(((q+1:Nat):Int) == 0)=false:=beq_eq_false_iff_ne.2 (by omega)
 simp only at y2
 clear hob ho hV a1 a2 a4 e hV' h
 go_enter Tryz.func173,Tryz.ntmps173
 go_wp2_with (first
  | (go_at_call 167;refine hJ.mono ?_;rintro e w1 ⟨⟨u,rfl⟩,⟨vv1,ww1,hr1,_⟩,b1⟩;obtain ⟨g,cap,rfl,q1,q2,q3,q4,c0,c1,hoo⟩:=own_last2 hr1.w;obtain ⟨z0,z1,z2,z3,g0,g1,g2,g3⟩:=id hr1.b))
 have i2:IntKind.i64.wrap ((W'.length:Int)+1 - 1)=(W'.length:Int):=by rw [IntKind.wrap_i64];omega
 have i4:(0:Int)≤(W'.length:Int):=by omega
 have i5:(W'.length:Int)≤(cap:Int):=by omega
 go_region
 have hr2:=hr1.popW.drew
 have hb2:Below X w (w1.setCell ⟨X,1,none⟩ (.slice (some ⟨g,0,none⟩) W'.length cap)).drew:=(b1.setCell (Nat.le_refl X) _).drew
 clear hr1 z0 z1 z2 z3 g0 g1 g2 g3 b1 y0 y1 y2 y3 f0 f1 f2 f3 hJ c0 c1 hoo
 obtain ⟨z0,z1,z2,z3,g0,g1,g2,g3⟩:=id hr2.b
 simp only at z2
 generalize (w1.setCell ⟨X,1,none⟩ (.slice (some ⟨g,0,none⟩) W'.length cap)).drew=w2 at *
 have i6:IntKind.i64.wrap (((q+1:Nat):Int) - 1)=(q:Int):=by rw [IntKind.wrap_i64];omega
 go_wp2
 go_ret
 exact ⟨rfl,⟨_,_,hr2.b.set2 _,ownsRow_setCell_below hr2.v (Nat.lt_succ_self X) _,ownsRow_setCell_below hr2.w (Nat.lt_succ_self X) _,hr2.a⟩,hb2.setCell (Nat.le_refl X) _⟩
end Go.Proofs.YtlgnahpfggagoaaGreatDoor
