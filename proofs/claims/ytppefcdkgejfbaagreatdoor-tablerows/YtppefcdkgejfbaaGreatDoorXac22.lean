import Derived.Test.YtppefcdkgejfbaaGreatDoorXac19
import Derived.WalkSmall
import Derived.Test.YtppefcdkgejfbaaGreatDoorXac07
set_option maxRecDepth 100000
set_option maxHeartbeats 32000000
namespace Go.Proofs.YtppefcdkgejfbaaGreatDoor
open Go.RowKit Go.Lib
set_option linter.unusedSimpArgs false
set_option linter.unusedVariables false
attribute [local go_sem ↓] Go.wp_at_zero Go.wp_at_succ
def Ri (u u':Value):Prop:=u'=u∨∃ x y,u=.int .i64 x/\u'=.int .i64 y
theorem Ri.trans {a b c:Value}(h:Ri a b) (k:Ri b c):Ri a c:=by
 rcases h with rfl|⟨x,y,rfl,rfl⟩
 ·exact k
 ·rcases k with rfl|⟨x',y',h1,rfl⟩
  ·exact .inr ⟨x,y,rfl,rfl⟩
  ·exact .inr ⟨x,y',rfl,rfl⟩
theorem Ri.int {x:Int}{u:Value}(h:Ri (.int .i64 x) u):∃ y,u=.int .i64 y:=by
 rcases h with rfl|⟨_,y,_,rfl⟩
 ·exact ⟨_,rfl⟩
 ·exact ⟨_,rfl⟩
theorem Ri.str {x:ByteArray}{u:Value}(h:Ri (.string x) u):u=.string x:=by
 rcases h with rfl|⟨_,y,h,rfl⟩
 ·rfl
 ·cases h
theorem Ri.bool {x:Bool}{u:Value}(h:Ri (.bool x) u):u=.bool x:=by
 rcases h with rfl|⟨_,y,h,rfl⟩
 ·rfl
 ·cases h
theorem Ri.slice {a:Option Addr}{n c:Nat}{u:Value}(h:Ri (.slice a n c) u):u=.slice a n c:=by
 rcases h with rfl|⟨_,y,h,rfl⟩
 ·rfl
 ·cases h
structure Iw (A K:Nat) (w w':World):Prop where
 os:w'.os=w.os
 tape:w'.tape=w.tape
 output:w'.output=w.output
 size:w.heap.size<=w'.heap.size
 block:∀ b,b < w.heap.size->b < A∨K<=b->w'.heap[b]?=w.heap[b]?
 cell:∀ b o u,b < w.heap.size->w.cell? ⟨b,o,none⟩=some u->∃ u',w'.cell? ⟨b,o,none⟩=some u'/\Ri u u'
 fz:∀ b o,b < w.heap.size->w'.frozen? ⟨b,o,none⟩=w.frozen? ⟨b,o,none⟩
theorem Iw.of {A K:Nat}{w w':World}(h:Below w.heap.size w w'):Iw A K w w':=
 ⟨h.os,h.tape,h.output,h.size,fun b hl _=>h.block b hl,fun b o u hl hu=>⟨u,(h.cell (p:=⟨b,o,none⟩) hl).trans hu,.inl rfl⟩,fun b o hl=>h.frozen (p:=⟨b,o,none⟩) hl⟩
theorem Iw.refl (A K:Nat) (w:World):Iw A K w w:=.of (Below.refl _ _)
theorem Iw.trans {A K:Nat}{w w1 w2:World}(h:Iw A K w w1) (k:Iw A K w1 w2):Iw A K w w2:=
 ⟨k.os.trans h.os,k.tape.trans h.tape,k.output.trans h.output,Nat.le_trans h.size k.size,fun b hl hq=>(k.block b (Nat.lt_of_lt_of_le hl h.size) hq).trans (h.block b hl hq),fun b o u hl hu=>by
  obtain ⟨u1,h1,r1⟩:=h.cell b o u hl hu
  obtain ⟨u2,h2,r2⟩:=k.cell b o u1 (Nat.lt_of_lt_of_le hl h.size) h1
  exact ⟨u2,h2,r1.trans r2⟩,fun b o hl=>(k.fz b o (Nat.lt_of_lt_of_le hl h.size)).trans (h.fz b o hl)⟩
theorem Iw.below {A K:Nat}{w w':World}(h:Iw A K w w') (hA:A<=w.heap.size):Below A w w':=⟨h.os,h.tape,h.output,h.size,fun b hb=>h.block b (by omega) (.inl hb)⟩
theorem Iw.put {A K b o:Nat}{w:World}{x y:Int}(hA:A<=b) (hK:b < K) (hc:w.cell? ⟨b,o,none⟩=some (.int .i64 x)):Iw A K w (w.setCell ⟨b,o,none⟩ (.int .i64 y)):=
 ⟨rfl,rfl,rfl,by simp,fun b' _ hq=>Below.heap_setCell _ _ _ _ (fun e=>by have e2:b'=b:=e;omega),fun b' o' u _ hu=>by
  by_cases e:(⟨b,o,none⟩:Addr)=⟨b',o',none⟩
  ·rw [<- e] at hu ⊢
   rw [hc] at hu
   obtain rfl:=Option.some.inj hu
   exact ⟨_,cell_same4 hc,.inr ⟨x,y,rfl,rfl⟩⟩
  ·exact ⟨u,(World.cell?_setCell_other w _ _ _ e).trans hu,.inl rfl⟩,fun b' o' _=>World.frozen?_setCell _ _ _ _⟩
def Nk (A K:Nat) (w:World) (b:Nat):Prop:=A<=b/\b < K/\∀ j,w.frozen? ⟨b,j,none⟩=false
theorem Nk.on {A K b:Nat}{w w':World}(h:Nk A K w b) (hw:Iw A K w w') (hl:b < w.heap.size):Nk A K w' b:=⟨h.1,h.2.1,fun j=>(hw.fz b j hl).trans (h.2.2 j)⟩
theorem rdK_iw {α:Type}{A K:Nat}{w w':World}{k:Nat}{R R':α->List Value->Prop}{l:List α}{v:Value}(h:RdK (Nk A K w) w k R l v) (hw:Iw A K w w') (hR:∀ x∈l,∀ cs cs':List Value,cs.length=k->cs'.length=k->(∀ (j:Nat) u,cs[j]?=some u->∃ u',cs'[j]?=some u'/\Ri u u')->R x cs->R' x cs'):RdK (Nk A K w') w' k R' l v:=by
 obtain ⟨a,cap,rfl,hc,hm,hcell⟩:=h
 refine ⟨a,cap,rfl,hc,hm,fun i hi=>?_⟩
 obtain ⟨b,off,cs,ha,ho,hb,hl,hr,hcs⟩:=hcell i hi
 have key:∀ j,j < k->∃ u u',cs[j]?=some u/\w'.cell? ⟨b,off+i*k+j,none⟩=some u'/\Ri u u':=fun j hj=>by
  have hj':j < cs.length:=by omega
  obtain ⟨u',h1,h2⟩:=hw.cell b (off+i*k+j) cs[j] hb (hcs j _ (List.getElem?_eq_getElem hj'))
  exact ⟨cs[j],u',List.getElem?_eq_getElem hj',h1,h2⟩
 refine ⟨b,off,(List.range k).map (fun j=>(w'.cell? ⟨b,off+i*k+j,none⟩).getD .nilIface),ha,ho.on hw hb,Nat.lt_of_lt_of_le hb hw.size,by simp,hR _ (List.getElem_mem hi) cs _ hl (by simp) (fun j u hu=>?_) hr,fun j u hu=>?_⟩
 ·have hj:j < k:=by have:=(List.getElem?_eq_some_iff.1 hu).1;omega
  obtain ⟨u1,u',h1,h2,h3⟩:=key j hj
  rw [h1] at hu
  obtain rfl:=Option.some.inj hu
  refine ⟨u',?_,h3⟩
  rw [List.getElem?_map,List.getElem?_range hj]
  simp [h2]
 ·have hj:j < k:=by have:=(List.getElem?_eq_some_iff.1 hu).1;simpa using this
  obtain ⟨u1,u',h1,h2,h3⟩:=key j hj
  rw [List.getElem?_map,List.getElem?_range hj] at hu
  simp [h2] at hu
  rw [<- hu]
  exact h2
theorem rdK_map {α β:Type}{ok:Nat->Prop}{w:World}{k:Nat}{R:β->List Value->Prop}{R':α->List Value->Prop}{f:α->β}{l:List α}{v:Value}(h:RdK ok w k R (l.map f) v) (hR:∀ x∈l,∀ cs,R (f x) cs->R' x cs):RdK ok w k R' l v:=by
 obtain ⟨a,cap,rfl,hc,hm,hcell⟩:=h
 rw [List.length_map] at hc ⊢
 refine ⟨a,cap,rfl,hc,hm,fun i hi=>?_⟩
 obtain ⟨b,off,cs,ha,ho,hb,hl,hr,hcs⟩:=hcell i (by simpa using hi)
 exact ⟨b,off,cs,ha,ho,hb,hl,hR _ (List.getElem_mem hi) _ (by simpa using hr),hcs⟩
theorem Ri.same {u u':Value}(h:Ri u u') (hn:u=.nilIface∨∃ t y,u=.iface t y):u'=u:=by
 rcases h with rfl|⟨x,y,rfl,rfl⟩
 ·rfl
 ·rcases hn with h|⟨_,_,h⟩<;>cases h
theorem rSet_iw {ok ok':Nat->Prop}{w w':World}{x:List UInt8 × Sx}{cs cs':List Value}(hl:cs'.length=2) (h:∀ (j:Nat) u,cs[j]?=some u->∃ u',cs'[j]?=some u'/\Ri u u') (hr:rSet ok w x cs):rSet ok' w' x cs':=by
 have hr':cs=[sV x.1,exX x.2]:=hr
 subst hr'
 obtain ⟨u0,g0,r0⟩:=h 0 _ rfl
 obtain ⟨u1,g1,r1⟩:=h 1 _ rfl
 obtain rfl:=Ri.str r0
 obtain rfl:=r1.same (exX_form x.2)
 show cs'=[sV x.1,exX x.2]
 apply List.ext_getElem?
 intro j
 match j with
 | 0=>exact g0
 | 1=>exact g1
 | j+2=>rw [List.getElem?_eq_none (by omega),List.getElem?_eq_none (by simp)]
def rOnS (ok:Nat->Prop) (w:World) (o:OnC) (cs:List Value):Prop:=∃ sl x y,cs=[sV o.1,gdV o.2.1,sV o.2.2.1,sl,.int .i64 x,.int .i64 y]/\RdK ok w 2 (rSet ok w) o.2.2.2.1 sl
theorem rOnS_iw {A K:Nat}{w w':World}(hw:Iw A K w w') {o:OnC}{cs cs':List Value}(hl:cs'.length=6) (h:∀ (j:Nat) u,cs[j]?=some u->∃ u',cs'[j]?=some u'/\Ri u u') (hr:rOnS (Nk A K w) w o cs):rOnS (Nk A K w') w' o cs':=by
 obtain ⟨sl,x,y,rfl,hs⟩:=hr
 obtain ⟨sa,sc,rfl,_⟩:=hs.form
 obtain ⟨u0,g0,r0⟩:=h 0 _ rfl
 obtain ⟨u1,g1,r1⟩:=h 1 _ rfl
 obtain ⟨u2,g2,r2⟩:=h 2 _ rfl
 obtain ⟨u3,g3,r3⟩:=h 3 _ rfl
 obtain ⟨u4,g4,r4⟩:=h 4 _ rfl
 obtain ⟨u5,g5,r5⟩:=h 5 _ rfl
 obtain ⟨y4,rfl⟩:=r4.int
 obtain ⟨y5,rfl⟩:=r5.int
 obtain rfl:=Ri.str r0
 obtain rfl:=r1.same (gdV_form o.2.1)
 obtain rfl:=Ri.str r2
 obtain rfl:=r3.slice
 refine ⟨_,y4,y5,?_,rdK_iw hs hw (fun x _ cs cs' _ h2 h3 h4=>rSet_iw h2 h3 h4)⟩
 apply List.ext_getElem?
 intro j
 match j with
 | 0=>exact g0
 | 1=>exact g1
 | 2=>exact g2
 | 3=>exact g3
 | 4=>exact g4
 | 5=>exact g5
 | j+6=>rw [List.getElem?_eq_none (by omega),List.getElem?_eq_none (by simp)]
def rSh:(d:Nat)->(Nat->Prop)->World->St d->List Value->Prop
 | 0,_,_,t,_=>Empty.elim t
 | d+1,ok,w,t,cs=>∃ (i1 i2:Int) (c3 c4:Bool) (c5 c6:ByteArray) (c7 c8:Int) (so si:Value),cs=[sV t.1.1.1,.int .i64 i1,.int .i64 i2,.bool c3,.bool c4,.string c5,.string c6,.int .i64 c7,.int .i64 c8,so,si]/\RdK ok w 6 (rOnS ok w) t.1.2.2.2.2 so/\RdK ok w 11 (rSh d ok w) t.2 si
theorem rSh_iw {A K:Nat}{w w':World}(hw:Iw A K w w'):∀ (d:Nat) (t:St d) (cs cs':List Value),cs'.length=11->(∀ (j:Nat) u,cs[j]?=some u->∃ u',cs'[j]?=some u'/\Ri u u')->rSh d (Nk A K w) w t cs->rSh d (Nk A K w') w' t cs'
 | 0,t,_,_,_,_,_=>Empty.elim t
 | d+1,t,cs,cs',hl,h,hr=>by
  obtain ⟨i1,i2,c3,c4,c5,c6,c7,c8,so,si,rfl,ho,hi⟩:=hr
  obtain ⟨sa,sc,rfl,_⟩:=ho.form
  obtain ⟨ia,ic,rfl,_⟩:=hi.form
  obtain ⟨u0,g0,r0⟩:=h 0 _ rfl
  obtain ⟨u1,g1,r1⟩:=h 1 _ rfl
  obtain ⟨u2,g2,r2⟩:=h 2 _ rfl
  obtain ⟨u3,g3,r3⟩:=h 3 _ rfl
  obtain ⟨u4,g4,r4⟩:=h 4 _ rfl
  obtain ⟨u5,g5,r5⟩:=h 5 _ rfl
  obtain ⟨u6,g6,r6⟩:=h 6 _ rfl
  obtain ⟨u7,g7,r7⟩:=h 7 _ rfl
  obtain ⟨u8,g8,r8⟩:=h 8 _ rfl
  obtain rfl:=r3.bool
  obtain rfl:=r4.bool
  obtain rfl:=r5.str
  obtain rfl:=r6.str
  obtain ⟨y7,rfl⟩:=r7.int
  obtain ⟨y8,rfl⟩:=r8.int
  obtain ⟨u9,g9,r9⟩:=h 9 _ rfl
  obtain ⟨u10,g10,r10⟩:=h 10 _ rfl
  obtain ⟨y1,rfl⟩:=r1.int
  obtain ⟨y2,rfl⟩:=r2.int
  obtain rfl:=Ri.str r0
  obtain rfl:=r9.slice
  obtain rfl:=r10.slice
  refine ⟨y1,y2,c3,c4,c5,c6,y7,y8,_,_,?_,rdK_iw ho hw (fun x _ cs cs' _ h2 h3 h4=>rOnS_iw hw h2 h3 h4),rdK_iw hi hw (fun x _ cs cs' _ h2 h3 h4=>rSh_iw hw d x cs cs' h2 h3 h4)⟩
  apply List.ext_getElem?
  intro j
  match j with
  | 0=>exact g0
  | 1=>exact g1
  | 2=>exact g2
  | 3=>exact g3
  | 4=>exact g4
  | 5=>exact g5
  | 6=>exact g6
  | 7=>exact g7
  | 8=>exact g8
  | 9=>exact g9
  | 10=>exact g10
  | j+11=>rw [List.getElem?_eq_none (by omega),List.getElem?_eq_none (by simp)]
abbrev RdSh (A K:Nat) (w:World) (d:Nat) (l:List (St d)) (v:Value):Prop:=RdK (Nk A K w) w 11 (rSh d (Nk A K w) w) l v
theorem RdSh.on {A K d:Nat}{w w':World}{l:List (St d)}{v:Value}(h:RdSh A K w d l v) (hw:Iw A K w w'):RdSh A K w' d l v:=rdK_iw h hw (fun x _ cs cs' _ h2 h3 h4=>rSh_iw hw d x cs cs' h2 h3 h4)
theorem rdS_iw {A K:Nat}{w w':World}{l:List OnC}{v:Value}(h:RdK (Nk A K w) w 6 (rOnS (Nk A K w) w) l v) (hw:Iw A K w w'):RdK (Nk A K w') w' 6 (rOnS (Nk A K w') w') l v:=rdK_iw h hw (fun x _ cs cs' _ h2 h3 h4=>rOnS_iw hw h2 h3 h4)
theorem rSh_of {ok:Nat->Prop}{w:World}:∀ (d:Nat) (t:St d) (cs:List Value),rSt d ok w (stS d t) cs->rSh d ok w t cs
 | 0,t,_,_=>Empty.elim t
 | d+1,t,cs,h=>by
  obtain ⟨so,si,rfl,h1,h2⟩:=h
  refine ⟨_,_,_,_,_,_,_,_,so,si,rfl,?_,?_⟩
  ·refine rdK_map (f:=stO) (R:=rOn ok w) h1 (fun o _ cs hr=>?_)
   obtain ⟨sl,rfl,hs⟩:=hr
   exact ⟨sl,_,_,rfl,hs⟩
  ·exact rdK_map (f:=stS d) (R:=rSt d ok w) h2 (fun t _ cs hr=>rSh_of d t cs hr)
theorem rdSh_of {N d:Nat}{w:World}{l:List (St d)}{v:Value}(h:RdK (Nw N w) w 11 (rSt d (Nw N w) w) (l.map (stS d)) v):RdSh N w.heap.size w d l v:=by
 have h2:=h.stay (kp_st d) (ok':=Nk N w.heap.size w) (w':=w) (fun b hb hl=>⟨⟨hb.1,hl,hb.2⟩,rfl⟩)
 exact rdK_map h2 (fun t _ cs hr=>rSh_of d t cs hr)
theorem sh_at {A K:Nat}{w:World}{d:Nat}{l:List (St (d+1))}{a:Option Addr}{n cap:Nat}(h:RdSh A K w (d+1) l (.slice a n cap)) (j:Nat) (hj:j < l.length):∃ (b off:Nat) (i1 i2:Int) (c3 c4:Bool) (c5 c6:ByteArray) (c7 c8:Int) (p1:Option Addr) (p3:Nat) (p4:Option Addr) (p6:Nat),a=some ⟨b,off,none⟩/\A<=b/\b < K/\b < w.heap.size/\(∀ o,w.frozen? ⟨b,o,none⟩=false)/\RdK (Nk A K w) w 6 (rOnS (Nk A K w) w) l[j].1.2.2.2.2 (.slice p1 l[j].1.2.2.2.2.length p3)/\RdSh A K w d l[j].2 (.slice p4 l[j].2.length p6)/\∀ i u,[sV l[j].1.1.1,.int .i64 i1,.int .i64 i2,.bool c3,.bool c4,.string c5,.string c6,.int .i64 c7,.int .i64 c8,.slice p1 l[j].1.2.2.2.2.length p3,.slice p4 l[j].2.length p6][i]?=some u->w.cell? ⟨b,off+j*11+i,none⟩=some u:=by
 obtain ⟨a1,cap1,he,h1,h2,h3⟩:=h
 simp only [Value.slice.injEq] at he
 obtain ⟨rfl,rfl,rfl⟩:=he
 obtain ⟨b,off,cs,ha,hok,hb,hl,⟨i1,i2,c3,c4,c5,c6,c7,c8,so,si,rfl,hs,hi⟩,hc⟩:=h3 j hj
 obtain ⟨p1,p3,rfl,_⟩:=hs.form
 obtain ⟨p4,p6,rfl,_⟩:=hi.form
 exact ⟨b,off,i1,i2,c3,c4,c5,c6,c7,c8,p1,p3,p4,p6,ha,hok.1,hok.2.1,hb,hok.2.2,hs,hi,hc⟩
theorem onS_at {A K:Nat}{w:World}{l:List OnC}{a:Option Addr}{n cap:Nat}(h:RdK (Nk A K w) w 6 (rOnS (Nk A K w) w) l (.slice a n cap)) (j:Nat) (hj:j < l.length):∃ b off x y,a=some ⟨b,off,none⟩/\A<=b/\b < K/\b < w.heap.size/\(∀ o,w.frozen? ⟨b,o,none⟩=false)/\w.cell? ⟨b,off+j*6+4,none⟩=some (.int .i64 x)/\w.cell? ⟨b,off+j*6+5,none⟩=some (.int .i64 y):=by
 obtain ⟨a1,cap1,he,h1,h2,h3⟩:=h
 simp only [Value.slice.injEq] at he
 obtain ⟨rfl,rfl,rfl⟩:=he
 obtain ⟨b,off,cs,ha,hok,hb,hl,⟨_,x,y,rfl,_⟩,hc⟩:=h3 j hj
 exact ⟨b,off,x,y,ha,hok.1,hok.2.1,hb,hok.2.2,hc 4 _ rfl,hc 5 _ rfl⟩
theorem onP_at {ok:Nat->Prop}{w:World}{l:List OnC}{a:Option Addr}{n cap:Nat}(h:RdK ok w 6 (rOn ok w) l (.slice a n cap)) (j:Nat) (hj:j < l.length):∃ b off x y,a=some ⟨b,off,none⟩/\ok b/\b < w.heap.size/\w.cell? ⟨b,off+j*6+4,none⟩=some (.int .i64 x)/\w.cell? ⟨b,off+j*6+5,none⟩=some (.int .i64 y):=by
 obtain ⟨a1,cap1,he,h1,h2,h3⟩:=h
 simp only [Value.slice.injEq] at he
 obtain ⟨rfl,rfl,rfl⟩:=he
 obtain ⟨b,off,cs,ha,hok,hb,hl,⟨sl,rfl,_⟩,hc⟩:=h3 j hj
 exact ⟨b,off,_,_,ha,hok,hb,hc 4 _ rfl,hc 5 _ rfl⟩
theorem ne_cell {w:World}{p q:Addr}{x:Int}{a:Option Addr}{n c:Nat}(h:w.cell? p=some (.int .i64 x)) (k:w.cell? q=some (.slice a n c)):p≠q:=fun e=>by rw [e,k] at h;cases h
theorem cell_ne {w:World}{p q:Addr}{u v:Value}(h:p≠q) (hc:w.cell? q=some u):(w.setCell p v).cell? q=some u:=(World.cell?_setCell_other w _ _ _ h).trans hc
theorem putOwn_any {w:World}{A K b off:Nat}{ons:List OnC}{i1 i2:Int}{a1:Option Addr}{n c1:Nat}(hA:A<=b) (hK:b < K) (hKw:K<=w.heap.size) (hn:ons.length=n)
  (hf:∀ o,w.frozen? ⟨b,o,none⟩=false) (h1:w.cell? ⟨b,off+1,none⟩=some (.int .i64 i1)) (h2:w.cell? ⟨b,off+2,none⟩=some (.int .i64 i2)) (h9:w.cell? ⟨b,off+9,none⟩=some (.slice a1 n c1))
  (hS:RdK (Nk A K w) w 6 (rOnS (Nk A K w) w) ons (.slice a1 n c1)) (f0:ByteArray) (f1 f2:Int) (f3 f4:Bool) (f5 f6:ByteArray) (f7 f8:Int) (p1:Option Addr) (p3:Nat) (p4:Option Addr) (p5 p6:Nat) (hO:RdK (fun b=>b < A) w 6 (rOn (fun b=>b < A) w) ons (.slice p1 n p3)) :
  Calls Tryz.prog 83 #[.pointer (some ⟨b,off,none⟩),.agg #[.string f0,.int .i64 f1,.int .i64 f2,.bool f3,.bool f4,.string f5,.string f6,.int .i64 f7,.int .i64 f8,.slice p1 n p3,.slice p4 p5 p6]] w fun e w'=>(∃ v,e=.returned v)/\Iw A K w w':=by
 have hal:Below w.heap.size w (w.alloc (.cells #[.string f0,.int .i64 f1,.int .i64 f2,.bool f3,.bool f4,.string f5,.string f6,.int .i64 f7,.int .i64 f8,.slice p1 n p3,.slice p4 p5 p6] 79)):=(Below.refl w.heap.size w).alloc Nat.le.refl _
 have hX:Bn (w.alloc (.cells #[.string f0,.int .i64 f1,.int .i64 f2,.bool f3,.bool f4,.string f5,.string f6,.int .i64 f7,.int .i64 f8,.slice p1 n p3,.slice p4 p5 p6] 79)) w.heap.size [.string f0,.int .i64 f1,.int .i64 f2,.bool f3,.bool f4,.string f5,.string f6,.int .i64 f7,.int .i64 f8,.slice p1 n p3,.slice p4 p5 p6]:=Bn.new w [.string f0,.int .i64 f1,.int .i64 f2,.bool f3,.bool f4,.string f5,.string f6,.int .i64 f7,.int .i64 f8,.slice p1 n p3,.slice p4 p5 p6] 79 _ rfl
 obtain ⟨hcn,hcm⟩:n<=c1/\c1<=maxLen:=by
  obtain ⟨_,_,he,k1,k2⟩:=hS.form
  simp only [Value.slice.injEq] at he
  rw [hn] at k1
  omega
 have hbw:b < w.heap.size:=by omega
 go_enter Tryz.func83,Tryz.ntmps83
 go_upto_region 1 with fail
 have hI:=Iw.of (A:=A) (K:=K) hal
 have y1:=(hal.cell (p:=⟨b,off+1,none⟩) hbw).trans h1
 have y2:=(hal.cell (p:=⟨b,off+2,none⟩) hbw).trans h2
 have y9:=(hal.cell (p:=⟨b,off+9,none⟩) hbw).trans h9
 have z1:=(hal.frozen (p:=⟨b,off+1,none⟩) hbw).trans (hf _)
 have z2:=(hal.frozen (p:=⟨b,off+2,none⟩) hbw).trans (hf _)
 have hsx:w.heap.size < (w.alloc (.cells #[.string f0,.int .i64 f1,.int .i64 f2,.bool f3,.bool f4,.string f5,.string f6,.int .i64 f7,.int .i64 f8,.slice p1 n p3,.slice p4 p5 p6] 79)).heap.size:=by simp
 generalize (w.alloc (.cells #[.string f0,.int .i64 f1,.int .i64 f2,.bool f3,.bool f4,.string f5,.string f6,.int .i64 f7,.int .i64 f8,.slice p1 n p3,.slice p4 p5 p6] 79))=wx at *
 have x1:=(hX 1 _ rfl).1
 have x2:=(hX 2 _ rfl).1
 obtain ⟨X,hXX⟩:∃ X,w.heap.size=X:=⟨_,rfl⟩
 rw [hXX] at x1 x2 hX hsx ⊢
 have HXX:=mkHid hXX
 clear hXX
 go_upto_region 2 with fail
 have hb1:b≠X:=by have:=HXX.out;omega
 have hI2:Iw A K wx ((wx.setCell ⟨b,off+1,none⟩ (.int .i64 f1)).setCell ⟨b,off+2,none⟩ (.int .i64 f2)):=(Iw.put hA hK y1).trans (Iw.put hA hK (x:=i2) (cell_ne (by intro e;simp only [Addr.mk.injEq] at e;omega) y2))
 have y9':((wx.setCell ⟨b,off+1,none⟩ (.int .i64 f1)).setCell ⟨b,off+2,none⟩ (.int .i64 f2)).cell? ⟨b,off+9,none⟩=some (.slice a1 n c1):=cell_ne (by intro e;simp only [Addr.mk.injEq] at e;omega) (cell_ne (by intro e;simp only [Addr.mk.injEq] at e;omega) y9)
 have hX2:Bn ((wx.setCell ⟨b,off+1,none⟩ (.int .i64 f1)).setCell ⟨b,off+2,none⟩ (.int .i64 f2)) X _:=(hX.far (i:=off+1) hb1 (.int .i64 f1)).far (i:=off+2) hb1 (.int .i64 f2)
 clear x1 x2 y1 y2 z1 z2 y9 hX
 have hIw:Iw A K w ((wx.setCell ⟨b,off+1,none⟩ (.int .i64 f1)).setCell ⟨b,off+2,none⟩ (.int .i64 f2)):=hI.trans hI2
 have hs2:X < ((wx.setCell ⟨b,off+1,none⟩ (.int .i64 f1)).setCell ⟨b,off+2,none⟩ (.int .i64 f2)).heap.size:=by simpa using hsx
 generalize ((wx.setCell ⟨b,off+1,none⟩ (.int .i64 f1)).setCell ⟨b,off+2,none⟩ (.int .i64 f2))=w2 at *
 have x9:=(hX2 9 _ rfl).1
 have HS:=mkHid (rdS_iw hS hIw)
 have HO:=mkHid (hO.stay kp_on (ok':=fun b=>b < A) (w':=w2) (fun b hb hl=>⟨hb,hIw.block b hl (.inl hb)⟩))
 have HN:=mkHid hn
 have hXK:K<=X:=by have:=HXX.out;omega
 clear hS hO hn hI hI2 h1 h2 h9 hal hX2
 unfold maxLen at hcm
 go_wp2
 go_loopw [15] (fun ix wr=>∃ (j:Nat),j<=n/\ix=.int .i64 (j:Int)/\Iw A K w2 wr) (fun ix _=>n - (RowKit.intOf ix).toNat)
 case atStart=>exact ⟨0,Nat.zero_le _,rfl,Iw.refl _ _ _⟩
 case round=>
  obtain ⟨j,hj,rfl,hw⟩:=hrel
  have q9:wr.cell? ⟨X,9,none⟩=some (.slice p1 n p3):=(World.cell?_of_block (w:=w2) (a:=⟨X,9,none⟩) (hw.block X hs2 (.inr hXK))).trans x9
  have t9:wr.cell? ⟨b,off+9,none⟩=some (.slice a1 n c1):=by
   obtain ⟨u,h1,h2⟩:=hw.cell b (off+9) _ (World.block_lt_of_cell? w2 _ y9') y9'
   rw [h1,h2.slice]
  by_cases hlt:j < n
  ·have i6:(j:Int) < (n:Int):=by omega
   have i7:(0:Int)<=(j:Int):=by omega
   have hjl:j < ons.length:=by rw [HN.out];exact hlt
   obtain ⟨g,og,x,y,rfl,hgA,hgK,hgl,hgf,g4,g5⟩:=onS_at (rdS_iw HS.out hw) j hjl
   obtain ⟨g',og',x',y',rfl,hgA',hgl',k4,k5⟩:=onP_at (HO.out.stay kp_on (ok':=fun b=>b < A) (w':=wr) (fun b hb hl=>⟨hb,hw.block b hl (.inl hb)⟩)) j hjl
   have gf4:=hgf (og+j*6+4)
   have gf5:=hgf (og+j*6+5)
   have n1:(⟨g,og+j*6+4,none⟩:Addr)≠⟨b,off+9,none⟩:=ne_cell g4 t9
   have n2:(⟨g,og+j*6+5,none⟩:Addr)≠⟨b,off+9,none⟩:=ne_cell g5 t9
   have n3:X≠g:=by omega
   have n4:g'≠g:=by omega
   clear hgf
   go_upto_region 5 with fail
   go_region_held_law (fun w'=>w'.cell? ⟨X,9,none⟩=some (.slice (some ⟨g',og',none⟩) n p3)/\w'.cell? ⟨b,off+9,none⟩=some (.slice (some ⟨g,og,none⟩) n c1)/\w'.cell? ⟨g',og'+j*6+4,none⟩=some (.int .i64 x')/\w'.cell? ⟨g',og'+j*6+5,none⟩=some (.int .i64 y'))
    ((refine ⟨?_,?_,?_,?_⟩<;>(repeat (with_reducible first|exact q9|exact t9|exact k4|exact k5|refine cell_dr ?_|refine cell_ne n1 ?_|refine cell_ne n2 ?_|refine cell_far4 (ne_pt n3) ?_|refine cell_far4 (ne_pt n4) ?_))<;>done))
    (fail)
   have hf1:Iw A K wr ((wr.setCell ⟨g,og+j*6+4,none⟩ (.int .i64 x')).setCell ⟨g,og+j*6+4+1,none⟩ (.int .i64 y')):=(Iw.put hgA hgK g4).trans (Iw.put hgA hgK (x:=y) (cell_ne (by intro e;simp only [Addr.mk.injEq] at e;omega) g5))
   have hf2:Iw A K w2 ((wr.setCell ⟨g,og+j*6+4,none⟩ (.int .i64 x')).setCell ⟨g,og+j*6+4+1,none⟩ (.int .i64 y')).drew:=(hw.trans hf1).trans (.of ((Below.refl _ _).drew))
   clear hf1
   generalize ((wr.setCell ⟨g,og+j*6+4,none⟩ (.int .i64 x')).setCell ⟨g,og+j*6+4+1,none⟩ (.int .i64 y')).drew=wz at *
   go_wp2
   go_roundw
   case rel=>exact ⟨j+1,hlt,by go_num,hf2⟩
   case measure=>simp [RowKit.intOf];omega
  ·have i6:¬ (j:Int) < (n:Int):=by omega
   go_wp2
   go_end0
   exact ⟨⟨_,rfl⟩,hIw.trans hw⟩
theorem kp_onS:Kp rOnS:=fun _ _ _ _ _ _ ⟨sl,x,y,h,hs⟩ hk=>⟨sl,x,y,h,hs.stay kp_set hk⟩
theorem kp_sh:∀ d,Kp (rSh d)
 | 0=>fun _ _ _ _ x _ _ _=>Empty.elim x
 | d+1=>fun _ _ _ _ _ _ ⟨i1,i2,c3,c4,c5,c6,c7,c8,so,si,h,h1,h2⟩ hk=>⟨i1,i2,c3,c4,c5,c6,c7,c8,so,si,h,h1.stay kp_onS hk,h2.stay (kp_sh d) hk⟩
theorem Iw.low {A K:Nat}{w w1 w2:World}(h:Iw A K w w1) (k:Below w.heap.size w1 w2):Iw A K w w2:=
 ⟨k.os.trans h.os,k.tape.trans h.tape,k.output.trans h.output,Nat.le_trans h.size k.size,fun b hl hq=>(k.block b hl).trans (h.block b hl hq),fun b o u hl hu=>by
  obtain ⟨u1,h1,r1⟩:=h.cell b o u hl hu
  exact ⟨u1,(k.cell (p:=⟨b,o,none⟩) hl).trans h1,r1⟩,fun b o hl=>(k.frozen (p:=⟨b,o,none⟩) hl).trans (h.fz b o hl)⟩
theorem hdV_let (h:HdC):∃ sn sl sc sb se sd su sw sr,∀ so si,hdV h so si=[.string sn,.int .i64 sl,.int .i64 sc,.bool sb,.bool se,.string sd,.string su,.int .i64 sw,.int .i64 sr,so,si]:=⟨_,_,_,_,_,_,_,_,_,fun _ _=>rfl⟩
abbrev PE:=Fo × Value × Value
def peV (P:List PE):List Value:=(P.map (fun p=>[p.2.1,p.2.2])).flatten
theorem peV_len (P:List PE):(peV P).length=P.length*2:=by
 induction P with
 | nil=>rfl
 | cons p P ih=>
  have:peV (p :: P)=p.2.1 :: p.2.2 :: peV P:=rfl
  rw [this]
  simp [ih]
  omega
theorem peV_app (P Q:List PE):peV (P++Q)=peV P++peV Q:=by simp [peV]
def OwnP (w:World) (base:Nat) (v:Value) (P:List PE):Prop:=w.ownsRow base 188 2 v P.length (peV P)
def PrOk (A K:Nat) (w:World) (p:PE):Prop:=RdSh A K w p.1.1 p.1.2 p.2.1/\RdK (fun b=>b < A) w 11 (rSt p.1.1 (fun b=>b < A) w) p.1.2 p.2.2
def peZ (p:PE):Nat:=szL p.1.1 p.1.2
theorem PrOk.on {A K:Nat}{w w':World}{p:PE}(h:PrOk A K w p) (hw:Iw A K w w'):PrOk A K w' p:=⟨h.1.on hw,h.2.stay (kp_st _) (fun b hb hl=>⟨hb,hw.block b hl (.inl hb)⟩)⟩
theorem PrOk.low {A K:Nat}{w w':World}{p:PE}(h:PrOk A K w p) (hA:A<=K) (hw:Below K w w'):PrOk A K w' p:=
 ⟨h.1.stay (kp_sh _) (fun b hb hl=>⟨⟨hb.1,hb.2.1,fun j=>(hw.frozen (p:=⟨b,j,none⟩) hb.2.1).trans (hb.2.2 j)⟩,hw.block b hb.2.1⟩),h.2.stay (kp_st _) (fun b hb hl=>⟨hb,hw.block b (by have:b < A:=hb;omega)⟩)⟩
theorem PrOk.deep {A K:Nat}{w:World}{p:PE}(h:PrOk A K w p):∃ (d:Nat) (l:List (St (d+1))),PrOk A K w (⟨d+1,l⟩,p.2)/\peZ p=szL (d+1) l:=by
 obtain ⟨⟨d,l⟩,a,b⟩:=p
 cases d with
 | succ d=>exact ⟨d,l,h,rfl⟩
 | zero=>
  cases l with
  | cons x _=>exact Empty.elim x
  | nil=>
   obtain ⟨⟨a1,c1,h1,h2,h3,_⟩,⟨a2,c2,k1,k2,k3,_⟩⟩:=h
   exact ⟨0,[],⟨⟨a1,c1,h1,h2,h3,fun i hi=>absurd hi (by simp)⟩,⟨a2,c2,k1,k2,k3,fun i hi=>absurd hi (by simp)⟩⟩,rfl⟩
theorem ownP_pop {w:World}{base:Nat}{v:Value}{P:List PE}{p:PE}(h:OwnP w base v (P++[p])):∃ g cap,v=.slice (some ⟨g,0,none⟩) (P.length+1) cap/\P.length+1<=cap/\cap<=maxLen/\base<=g/\g < w.heap.size/\w.cell? ⟨g,P.length*2,none⟩=some p.2.1/\w.cell? ⟨g,P.length*2+1,none⟩=some p.2.2/\OwnP w base (.slice (some ⟨g,0,none⟩) P.length cap) P:=by
 unfold OwnP at h
 rw [List.length_append,List.length_singleton,peV_app] at h
 rcases h.2 with ⟨_,h2⟩|⟨g,cap,cur,rfl,hb,hg,hnc,hcm,_⟩
 ·omega
 ·have hc:=World.ownsRow.cells h (g:=g) rfl
  have h0:=hc (P.length*2) p.2.1 (by rw [List.getElem?_append_right (by rw [peV_len];omega),peV_len,Nat.sub_self];rfl)
  have h1:=hc (P.length*2+1) p.2.2 (by rw [List.getElem?_append_right (by rw [peV_len];omega),peV_len,Nat.add_sub_cancel_left];rfl)
  rw [add_plain,Nat.zero_add] at h0 h1
  exact ⟨g,cap,rfl,hnc,hcm,hb,(Array.getElem?_eq_some_iff.1 hg).1,h0,h1,ownsRow_pop (peV_len P) h⟩
theorem ownP_nil {w:World}{base:Nat}{v:Value}(h:OwnP w base v []):∃ a cap,v=.slice a 0 cap:=by
 rcases h.2 with ⟨h1,_⟩|⟨g,cap,cur,rfl,_⟩
 ·exact ⟨_,_,h1⟩
 ·exact ⟨_,_,rfl⟩
theorem ownP_form {w:World}{base:Nat}{v:Value}{P:List PE}(h:OwnP w base v P):∃ a cap,v=.slice a P.length cap/\P.length<=cap/\cap<=maxLen:=own_formP h
theorem OwnP.on {w w':World}{base:Nat}{v:Value}{P:List PE}(h:OwnP w base v P) (hb:Below w.heap.size w w'):OwnP w' base v P:=ownsRow_keep h (fun g hg=>hb.block g (ownsRow_lt h g hg).2)
theorem last_ofE {P:List PE}(h:P≠[]):∃ P' p,P=P'++[p]:=⟨P.dropLast,P.getLast h,(List.dropLast_concat_getLast h).symm⟩
theorem peZ_len:∀ P:List PE,P.length<=(P.map peZ).sum
 | []=>by simp
 | p :: P=>by
  have:=peZ_len P
  have:=szL_pos p.1.1 p.1.2
  show P.length+1<=szL p.1.1 p.1.2+(P.map peZ).sum
  omega
theorem Tryz.infoTP:(Tryz.prog.info? 188).map (fun i=>(i.zero,i.size,i.bytes))=some (some (.agg #[.slice none 0 0,.slice none 0 0]),2,48):=by kernel_rfl
theorem putPlaces_any {w:World}{A K d:Nat}{l:List (St d)}{a1:Option Addr}{n c1:Nat}{a2:Option Addr}{n2 c2:Nat}(hA:A<=K) (hK:K<=w.heap.size) (hp:PrOk A K w (⟨d,l⟩,.slice a1 n c1,.slice a2 n2 c2)) (hz:szL d l<=1000000) :
  Calls Tryz.prog 58 #[.slice a1 n c1,.slice a2 n2 c2] w fun e w'=>(∃ v,e=.returned v)/\Iw A K w w':=by
 obtain ⟨ip,hip,hip0,hip1,hip2⟩:=info_parts Tryz.infoTP
 have hal:Below w.heap.size w (w.alloc (.cells #[.slice a1 n c1,.slice a2 n2 c2] 188)):=(Below.refl w.heap.size w).alloc Nat.le.refl _
 have hrow:OwnP (w.alloc (.cells #[.slice a1 n c1,.slice a2 n2 c2] 188)) w.heap.size (.slice (some ⟨w.heap.size,0,none⟩) 1 1) [(⟨d,l⟩,.slice a1 n c1,.slice a2 n2 c2)]:=World.ownsRow_lit (e:=188) (base:=w.heap.size) (size:=2) w #[.slice a1 n c1,.slice a2 n2 c2] 1 Nat.le.refl (by simp [maxLen]) (by simp)
 go_enter Tryz.func58,Tryz.ntmps58
 go_upto_region 1 with fail
 have hP0:=hp.on (Iw.of (A:=A) (K:=K) hal)
 have hI0:=Iw.of (A:=A) (K:=K) hal
 have hs0:=hal.size
 generalize (w.alloc (.cells #[.slice a1 n c1,.slice a2 n2 c2] 188))=wx at *
 go_wp2
 go_loopg [4] 1000000 (fun gn v wr=>∃ (P:List PE),Hid (OwnP wr w.heap.size v P)/\Hid (∀ p∈P,PrOk A K wr p)/\Hid ((P.map peZ).sum<=gn/\gn<=1000000)/\Hid (Iw A K w wr))
 case atStart=>exact ⟨_,hrow,fun p hp=>by
  have:p=(⟨d,l⟩,.slice a1 n c1,.slice a2 n2 c2):=by simpa using hp
  subst this
  exact hP0,⟨by show szL d l+0<=_;omega,Nat.le_refl _⟩,hI0⟩
 case round=>
  obtain ⟨P,HR,HP,HM,HI⟩:=hrel
  clear hP0 hI0 hrow hal hs0
  by_cases he:P=[]
  ·subst he
   obtain ⟨ra,rc,rfl⟩:=ownP_nil HR.out
   go_wp2
   go_end0
   exact ⟨⟨_,rfl⟩,HI.out⟩
  ·obtain ⟨P',p,rfl⟩:=last_ofE he
   clear he
   obtain ⟨dd,ll,hpk,hzz⟩:=(HP.out p (List.mem_append_right _ List.mem_cons_self)).deep
   have hm:=HM.out
   rw [List.map_append,List.sum_append,List.map_singleton,List.sum_singleton,hzz] at hm
   have hpl:P'.length<=1000000:=by
    have:=peZ_len P'
    omega
   obtain ⟨g,cap,rfl,hcap,hcm,hgb,hgl,c0,c1',hpop⟩:=ownP_pop HR.out
   obtain ⟨t1,t3,ht,htc,htm⟩:=hpk.1.form
   obtain ⟨s1,s3,hs,hsc,hsm⟩:=hpk.2.form
   simp only at ht hs
   rw [ht] at c0
   rw [hs] at c1'
   have hpk1:RdSh A K wr (dd+1) ll (.slice t1 ll.length t3):=by have:=hpk.1;simp only [ht] at this;exact this
   have hpk2:RdK (fun b=>b < A) wr 11 (rSt (dd+1) (fun b=>b < A) wr) ll (.slice s1 ll.length s3):=by have:=hpk.2;simp only [hs] at this;exact this
   have HPK1:=mkHid hpk1
   have HPK2:=mkHid hpk2
   have HPOP:=mkHid hpop
   have HP':Hid (∀ p∈P',PrOk A K wr p):=fun p hp=>HP.out p (List.mem_append_left _ hp)
   have HM2:Hid ((P'.map peZ).sum+szL (dd+1) ll<=gk/\gk<=1000000):=hm
   obtain ⟨m,hml⟩:∃ m,P'.length=m:=⟨_,rfl⟩
   obtain ⟨nl,hnl⟩:∃ m,ll.length=m:=⟨_,rfl⟩
   rw [hml] at c0 c1' hcap hpl ⊢
   rw [hnl] at c0 c1' htc hsc
   have HML:Hid (P'.length=m):=hml
   have HNL:Hid (ll.length=nl):=hnl
   have hnlz:nl<=1000000:=by
    have h1:szL (dd+1) ll=(ll.map (fun t=>szL dd t.2)).sum+1:=rfl
    have h2:∀ l:List (St (dd+1)),l.length<=(l.map (fun t=>szL dd t.2)).sum:=fun l=>by
     induction l with
     | nil=>simp
     | cons t l ih=>
      have:=szL_pos dd t.2
      simp only [List.length_cons,List.map_cons,List.sum_cons]
      omega
    have:=h2 ll
    omega
   clear hm HP HR HM hpk hpk1 hpk2 hpop hml hnl ht hs hzz
   unfold maxLen at hcm htm hsm
   have i1:((m:Int)+1 > 0):=by omega
   have i3:(0:Int)<=(m:Int):=by omega
   have i4:(m:Int)<=(cap:Int):=by omega
   have i5:(m:Int) < (m:Int)+1:=by omega
   go_upto_region 4 with fail
   have hal2:Below wr.heap.size wr (wr.alloc (.cells #[.slice t1 nl t3,.slice s1 nl s3] 188)):=(Below.refl wr.heap.size wr).alloc Nat.le.refl _
   have hX:Bn (wr.alloc (.cells #[.slice t1 nl t3,.slice s1 nl s3] 188)) wr.heap.size [.slice t1 nl t3,.slice s1 nl s3]:=Bn.new wr [.slice t1 nl t3,.slice s1 nl s3] 188 _ rfl
   have hIp:=Iw.of (A:=A) (K:=K) hal2
   have HR2:Hid (OwnP (wr.alloc (.cells #[.slice t1 nl t3,.slice s1 nl s3] 188)) w.heap.size (.slice (some ⟨g,0,none⟩) m cap) P'):=by
    have:=HPOP.out.on hal2
    rw [HML.out] at this
    exact this
   have HP2:Hid (∀ p∈P',PrOk A K (wr.alloc (.cells #[.slice t1 nl t3,.slice s1 nl s3] 188)) p):=fun p hp=>(HP'.out p hp).on hIp
   have HT:Hid (RdSh A K (wr.alloc (.cells #[.slice t1 nl t3,.slice s1 nl s3] 188)) (dd+1) ll (.slice t1 nl t3)):=by
    have:=HPK1.out.on hIp
    rw [HNL.out] at this
    exact this
   have HS:Hid (RdK (fun b=>b < A) (wr.alloc (.cells #[.slice t1 nl t3,.slice s1 nl s3] 188)) 11 (rSt (dd+1) (fun b=>b < A) (wr.alloc (.cells #[.slice t1 nl t3,.slice s1 nl s3] 188))) ll (.slice s1 nl s3)):=by
    have:=HPK2.out.stay (kp_st _) (ok':=fun b=>b < A) (w':=wr.alloc (.cells #[.slice t1 nl t3,.slice s1 nl s3] 188)) (fun b hb hl=>⟨hb,hIp.block b hl (.inl hb)⟩)
    rw [HNL.out] at this
    exact this
   have HIp:=mkHid (HI.out.trans hIp)
   have hwr:w.heap.size<=wr.heap.size:=HI.out.size
   have hgX:g≠wr.heap.size:=by omega
   obtain ⟨X,hXX⟩:∃ X,wr.heap.size=X:=⟨_,rfl⟩
   rw [hXX] at hX hwr hgX hgl ⊢
   clear hal2 hIp HPOP HP' HPK1 HPK2 HI c0 c1' hXX
   generalize (wr.alloc (.cells #[.slice t1 nl t3,.slice s1 nl s3] 188))=wp at *
   have x0:=(hX 0 _ rfl).1
   have hXl:=hX.lt
   go_wp2
   go_loopw [4,28] (fun v ix wq=>∃ (j:Nat) (Q:List PE),j<=nl/\ix=.int .i64 (j:Int)/\Hid (Q.length=j)/\Hid (OwnP wq w.heap.size v (P'++Q))/\Hid (∀ p∈P'++Q,PrOk A K wq p)/\Hid ((Q.map peZ).sum=((ll.take j).map (fun t=>szL dd t.2)).sum)/\Hid (Iw A K w wq)/\Hid (RdSh A K wq (dd+1) ll (.slice t1 nl t3))/\Hid (RdK (fun b=>b < A) wq 11 (rSt (dd+1) (fun b=>b < A) wq) ll (.slice s1 nl s3))/\Bn wq X [.slice t1 nl t3,.slice s1 nl s3]/\v.ownBlock≠some X) (fun _ ix _=>nl - (RowKit.intOf ix).toNat)
   case atStart=>exact ⟨0,[],Nat.zero_le _,rfl,rfl,by show OwnP _ _ _ _;rw [List.append_nil];exact HR2.out,by show ∀ p∈_,_;rw [List.append_nil];exact HP2.out,rfl,HIp,HT,HS,hX,fun e=>hgX (Option.some.inj e)⟩
   case round=>
    obtain ⟨j,Q,hj,rfl,HQ,HO,HPQ,HZ,HIw,HT',HS',hX',hno⟩:=hrel
    clear HR2 HP2 HT HS hX x0 HIp
    obtain ⟨va,vc,rfl,hvc,hvm⟩:=ownP_form HO.out
    have hlen:(P'++Q).length=m+j:=by rw [List.length_append,HML.out,HQ.out]
    rw [hlen] at hvc hno ⊢
    unfold maxLen at hvm
    have HO2:Hid (wr.ownsRow w.heap.size 188 2 (.slice va (m+j) vc) (m+j) (peV (P'++Q))):=by
     have:=HO.out
     unfold OwnP at this
     rw [hlen] at this
     exact this
    have HL:=mkHid hlen
    clear hlen HO
    have hXr:=hX'.lt
    have hwq:w.heap.size<=wr.heap.size:=HIw.out.size
    obtain ⟨x0,_⟩:=hX' 0 _ rfl
    obtain ⟨x1,_⟩:=hX' 1 _ rfl
    by_cases hlt:j < nl
    ·have i6:(j:Int) < (nl:Int):=by omega
     have i7:(0:Int)<=(j:Int):=by omega
     have hjl:j < ll.length:=by rw [HNL.out];exact hlt
     obtain ⟨b,off,e1,e2,e3,e4,e5,e6,e7,e8,p1,p3,p4,p6,rfl,hbA,hbK,hbl,hbf,hon,hin,hc⟩:=sh_at HT'.out j hjl
     obtain ⟨b',off',q1,q3,q4,q6,rfl,hbl',hon',hin',hc'⟩:=stQ_at HS'.out j hjl
     have hbA':b' < A:=by
      obtain ⟨_,_,he,_,_,h3⟩:=HS'.out
      obtain ⟨b2,off2,cs,ha,ho,_⟩:=h3 j hjl
      simp only [Value.slice.injEq] at he
      rw [<- he.1] at ha
      simp only [Option.some.injEq,Addr.mk.injEq,and_true] at ha
      have:b2 < A:=ho
      omega
     obtain ⟨sn,sl,sc,sb,se,sd,su,sw,sr,hsv⟩:=hdV_let ll[j].1
     rw [hsv] at hc'
     obtain ⟨no,hno2⟩:∃ no,ll[j].1.2.2.2.2.length=no:=⟨_,rfl⟩
     obtain ⟨ni,hni⟩:∃ ni,ll[j].2.length=ni:=⟨_,rfl⟩
     rw [hno2] at hon hc hon' hc'
     rw [hni] at hin hc hin' hc'
     have D0:=hc' 0 _ rfl
     have D1:=hc' 1 _ rfl
     have D2:=hc' 2 _ rfl
     have D3:=hc' 3 _ rfl
     have D4:=hc' 4 _ rfl
     have D5:=hc' 5 _ rfl
     have D6:=hc' 6 _ rfl
     have D7:=hc' 7 _ rfl
     have D8:=hc' 8 _ rfl
     have D9:=hc' 9 _ rfl
     have D10:=hc' 10 _ rfl
     rw [Nat.add_zero] at D0
     have E1:=hc 1 _ rfl
     have E2:=hc 2 _ rfl
     have E9:=hc 9 _ rfl
     have E10:=hc 10 _ rfl
     have hKr:K<=wr.heap.size:=Nat.le_trans hK hwq
     have hcall:∀ w1,Below wr.heap.size wr w1->Calls Tryz.prog 83 #[.pointer (some ⟨b,off+j*11,none⟩),.agg #[.string sn,.int .i64 sl,.int .i64 sc,.bool sb,.bool se,.string sd,.string su,.int .i64 sw,.int .i64 sr,.slice q1 no q3,.slice q4 ni q6]] w1 fun e w'=>(∃ v,e=.returned v)/\Iw A K w1 w':=fun w1 b1=>
      putOwn_any hbA hbK (Nat.le_trans hKr b1.size) hno2 (fun o=>(b1.frozen (p:=⟨b,o,none⟩) hbl).trans (hbf o)) ((b1.cell (p:=⟨b,off+j*11+1,none⟩) hbl).trans E1) ((b1.cell (p:=⟨b,off+j*11+2,none⟩) hbl).trans E2) ((b1.cell (p:=⟨b,off+j*11+9,none⟩) hbl).trans E9) (rdS_iw hon (.of b1)) sn sl sc sb se sd su sw sr q1 q3 q4 ni q6 (hon'.stay kp_on (fun b hb hl=>⟨hb,b1.block b hl⟩))
     have HIN:=mkHid hin
     have HIN':=mkHid hin'
     clear hc hc' E1 E2 E9 hsv hno2 hon hon' hin hin'
     have HNI:=mkHid hni
     clear hni
     go_upto_region 8 with fail
     have hXK:K<=X:=by omega
     go_region_held_law (fun w'=>w'.cell? ⟨X,0,none⟩=some (.slice (some ⟨b,off,none⟩) nl t3)/\w'.cell? ⟨X,1,none⟩=some (.slice (some ⟨b',off',none⟩) nl s3)/\w'.cell? ⟨b',off'+j*11,none⟩=some (.string sn)/\w'.cell? ⟨b',off'+j*11+1,none⟩=some (.int .i64 sl)/\w'.cell? ⟨b',off'+j*11+2,none⟩=some (.int .i64 sc)/\w'.cell? ⟨b',off'+j*11+3,none⟩=some (.bool sb)/\w'.cell? ⟨b',off'+j*11+4,none⟩=some (.bool se)/\w'.cell? ⟨b',off'+j*11+5,none⟩=some (.string sd)/\w'.cell? ⟨b',off'+j*11+6,none⟩=some (.string su)/\w'.cell? ⟨b',off'+j*11+7,none⟩=some (.int .i64 sw)/\w'.cell? ⟨b',off'+j*11+8,none⟩=some (.int .i64 sr)/\w'.cell? ⟨b',off'+j*11+9,none⟩=some (.slice q1 no q3)/\w'.cell? ⟨b',off'+j*11+10,none⟩=some (.slice q4 ni q6))
      ((refine ⟨?_,?_,?_,?_,?_,?_,?_,?_,?_,?_,?_,?_,?_⟩<;>(repeat (with_reducible first|exact x0|exact x1|exact D0|exact D1|exact D2|exact D3|exact D4|exact D5|exact D6|exact D7|exact D8|exact D9|exact D10|refine cell_dr ?_))<;>done))
      (first
       | (go_at_call 83;(with_reducible refine (hcall _ ((Below.refl _ wr).drew)).mono ?_);rintro e w3 ⟨⟨v3,rfl⟩,hw3d⟩;have hw3:Iw A K wr w3:=(Iw.of ((Below.refl _ wr).drew)).trans hw3d;have qX:=hw3.block X hXr (.inr hXK);have qb:=hw3.block b' hbl' (.inl hbA');have x0:=keep_cell (p:=⟨X,0,none⟩) qX x0;have x1:=keep_cell (p:=⟨X,1,none⟩) qX x1;have D0:=keep_cell (p:=⟨b',off'+j*11,none⟩) qb D0;have D1:=keep_cell (p:=⟨b',off'+j*11+1,none⟩) qb D1;have D2:=keep_cell (p:=⟨b',off'+j*11+2,none⟩) qb D2;have D3:=keep_cell (p:=⟨b',off'+j*11+3,none⟩) qb D3;have D4:=keep_cell (p:=⟨b',off'+j*11+4,none⟩) qb D4;have D5:=keep_cell (p:=⟨b',off'+j*11+5,none⟩) qb D5;have D6:=keep_cell (p:=⟨b',off'+j*11+6,none⟩) qb D6;have D7:=keep_cell (p:=⟨b',off'+j*11+7,none⟩) qb D7;have D8:=keep_cell (p:=⟨b',off'+j*11+8,none⟩) qb D8;have D9:=keep_cell (p:=⟨b',off'+j*11+9,none⟩) qb D9;have D10:=keep_cell (p:=⟨b',off'+j*11+10,none⟩) qb D10)
       | fail)
     have E10':w3.cell? ⟨b,off+j*11+10,none⟩=some (.slice p4 ni p6):=by
      obtain ⟨u,h1,h2⟩:=hw3.cell b (off+j*11+10) _ hbl E10
      rw [h1,h2.slice]
     clear D0 D1 D2 D3 D4 D5 D6 D7 D8 D9 E10 qX qb hw3d hcall
     go_upto_region 9 with fail
     have hs3:=hw3.size
     have hrow3:w3.ownsRow w.heap.size 188 2 (.slice va (m+j) vc) (m+j) (peV (P'++Q)):=ownsRow_keep HO2.out (fun g' hg'=>hw3.block g' (ownsRow_lt HO2.out g' hg').2 (.inr (Nat.le_trans hK (ownsRow_lt HO2.out g' hg').1)))
     have hX3l:X < w3.heap.size:=by omega
     have hb3:b < w3.heap.size:=by omega
     have hb3':b' < w3.heap.size:=by omega
     have hgo:∀ g',(Value.slice va (m+j) vc).ownBlock=some g'->w.heap.size<=g'/\g' < w3.heap.size:=fun g' hg'=>ownsRow_lt hrow3 g' hg'
     have ngX:some X≠(Value.slice va (m+j) vc).ownBlock:=fun e=>hno e.symm
     have ngb:some b≠(Value.slice va (m+j) vc).ownBlock:=fun e=>by have:=(hgo b e.symm).1;omega
     have ngb':some b'≠(Value.slice va (m+j) vc).ownBlock:=fun e=>by have:=(hgo b' e.symm).1;omega
     have hrowD:((w3.alloc (.cells #[.slice p4 ni p6,.slice q4 ni q6] 188)).drew).ownsRow w.heap.size 188 2 (.slice va (m+j) vc) (m+j) (peV (P'++Q)):=World.ownsRow.alloc hrow3 _
     have hsrcD:Src Tryz.prog 2 189 (.slice (some ⟨w3.heap.size,0,none⟩) 1 1) 1 [.slice p4 ni p6,.slice q4 ni q6] ((w3.alloc (.cells #[.slice p4 ni p6,.slice q4 ni q6] 188)).drew):=Src.ofSlice _ Tryz.underlying189 _ 1 1 _ (by simp) (fun j u hu=>cells_new (w:=w3) j u hu) (by simp [Value.oneCell'])
     have hbaD:w.heap.size<=((w3.alloc (.cells #[.slice p4 ni p6,.slice q4 ni q6] 188)).drew).heap.size:=by show _<=(w3.alloc (.cells #[.slice p4 ni p6,.slice q4 ni q6] 188)).heap.size;simp;omega
     have y0:((w3.alloc (.cells #[.slice p4 ni p6,.slice q4 ni q6] 188)).drew).cell? ⟨X,0,none⟩=some (.slice (some ⟨b,off,none⟩) nl t3):=cell_al x0
     have y1:((w3.alloc (.cells #[.slice p4 ni p6,.slice q4 ni q6] 188)).drew).cell? ⟨X,1,none⟩=some (.slice (some ⟨b',off',none⟩) nl s3):=cell_al x1
     have y2:((w3.alloc (.cells #[.slice p4 ni p6,.slice q4 ni q6] 188)).drew).cell? ⟨b,off+j*11+10,none⟩=some (.slice p4 ni p6):=cell_al E10'
     have y3:((w3.alloc (.cells #[.slice p4 ni p6,.slice q4 ni q6] 188)).drew).cell? ⟨b',off'+j*11+10,none⟩=some (.slice q4 ni q6):=cell_al D10
     go_region_held_law (fun w'=>w'.cell? ⟨X,0,none⟩=some (.slice (some ⟨b,off,none⟩) nl t3)/\w'.cell? ⟨X,1,none⟩=some (.slice (some ⟨b',off',none⟩) nl s3)/\w'.cell? ⟨b,off+j*11+10,none⟩=some (.slice p4 ni p6)/\w'.cell? ⟨b',off'+j*11+10,none⟩=some (.slice q4 ni q6))
      ((refine ⟨?_,?_,?_,?_⟩<;>(repeat (with_reducible first|exact x0|exact x1|exact D10|exact E10' | refine cell_al ?_|refine cell_dr ?_))<;>done))
      (first
       | (refine step_append_at _ (by rfl) (.tmp 41) (.tmp 55) 189 189 (by rfl) w.heap.size 188 ip (.agg #[.slice none 0 0,.slice none 0 0]) 2 48 Tryz.underlying189 hip hip0 hip1 hip2 rfl (.slice va (m+j) vc) (m+j) (peV (P'++Q)) (by rfl) hrowD (.slice (some ⟨w3.heap.size,0,none⟩) 1 1) 1 [.slice p4 ni p6,.slice q4 ni q6] (by rfl) hsrcD 1 (.inr (by omega)) Nat.le.refl (by unfold maxLen;omega) hbaD ?_;intro vb wb hOb hgb hat;have x0:=hgb.cell y0 ngX;have x1:=hgb.cell y1 ngX;have E10':=hgb.cell y2 ngb;have D10:=hgb.cell y3 ngb')
       | fail)
     have hsz3:w.heap.size<=w3.heap.size:=Nat.le_trans hwq hs3
     have hB3:Below w.heap.size w3 wb:=(((Below.refl w.heap.size w3).alloc hsz3 _).drew).grown hgb hbaD (fun k hk=>(hgo k hk).1)
     have hBK:Below K w3 wb:=hB3.mono hK
     have HO4:Hid (OwnP wb w.heap.size vb (P'++(Q++[(⟨dd,ll[j].2⟩,.slice p4 ni p6,.slice q4 ni q6)]))):=by
      show OwnP _ _ _ _
      unfold OwnP
      rw [<- List.append_assoc,List.length_append,peV_app,HL.out]
      exact hOb
     have HP4:Hid (∀ p∈P'++(Q++[(⟨dd,ll[j].2⟩,.slice p4 ni p6,.slice q4 ni q6)]),PrOk A K wb p):=fun p hp=>by
      rw [<- List.append_assoc] at hp
      rcases List.mem_append.1 hp with hp|hp
      ·exact ((HPQ.out p hp).on hw3).low hA hBK
      ·have e:p=(⟨dd,ll[j].2⟩,.slice p4 ni p6,.slice q4 ni q6):=by simpa using hp
       rw [e]
       exact PrOk.low ⟨HIN.out.on hw3,HIN'.out.stay (kp_st _) (fun b hb hl=>⟨hb,hw3.block b hl (.inl hb)⟩)⟩ hA hBK
     have HZ4:Hid (((Q++[((⟨dd,ll[j].2⟩,.slice p4 ni p6,.slice q4 ni q6):PE)]).map peZ).sum=((ll.take (j+1)).map (fun t=>szL dd t.2)).sum):=by
      show _=_
      rw [List.map_append,List.sum_append,HZ.out,List.take_succ_eq_append_getElem hjl,List.map_append,List.sum_append]
      rfl
     have HI4:=mkHid ((HIw.out.trans hw3).low hB3)
     have HT4:Hid (RdSh A K wb (dd+1) ll (.slice (some ⟨b,off,none⟩) nl t3)):=(PrOk.low (p:=(⟨dd+1,ll⟩,.slice (some ⟨b,off,none⟩) nl t3,.slice (some ⟨b',off',none⟩) nl s3)) (PrOk.on ⟨HT'.out,HS'.out⟩ hw3) hA hBK).1
     have HS4:Hid (RdK (fun b=>b < A) wb 11 (rSt (dd+1) (fun b=>b < A) wb) ll (.slice (some ⟨b',off',none⟩) nl s3)):=(PrOk.low (p:=(⟨dd+1,ll⟩,.slice (some ⟨b,off,none⟩) nl t3,.slice (some ⟨b',off',none⟩) nl s3)) (PrOk.on ⟨HT'.out,HS'.out⟩ hw3) hA hBK).2
     have hX4:Bn wb X [.slice (some ⟨b,off,none⟩) nl t3,.slice (some ⟨b',off',none⟩) nl s3]:=(hX'.blk (hw3.block X hXr (.inr hXK))).blk ((hgb.block X (by show X < (w3.alloc _).heap.size;simp;omega) ngX).trans (Below.heap_alloc _ _ _ hX3l))
     have hno4:vb.ownBlock≠some X:=by
      rcases hat with h|h
      ·rw [h];exact hno
      ·rw [h]
       intro e
       have:(w3.alloc (.cells #[.slice p4 ni p6,.slice q4 ni q6] 188)).heap.size=X:=Option.some.inj e
       simp at this
       omega
     have HQ4:Hid ((Q++[((⟨dd,ll[j].2⟩,.slice p4 ni p6,.slice q4 ni q6):PE)]).length=j+1):=by
      show _=_
      rw [List.length_append,HQ.out]
      rfl
     (try simp only [List.getElem_toArray,List.getElem_cons_succ,List.getElem_cons_zero,List.set_cons_succ,List.set_cons_zero,List.setIfInBounds_toArray])
     clear hgb hOb x0 x1 E10' D10 hrow3 hrowD hsrcD hbaD y0 y1 y2 y3 HO2 HPQ HZ HIw HT' HS' hX' HIN HIN' hw3 hB3 hBK hat
     go_wp2
     go_roundw
     case rel=>exact ⟨j+1,_,hlt,by go_num,HQ4,HO4,HP4,HZ4,HI4,HT4,HS4,hX4,hno4⟩
     case measure=>simp [RowKit.intOf];omega
    ·have i6:¬ (j:Int) < (nl:Int):=by omega
     have hjn:ll.take j=ll:=List.take_of_length_le (by rw [HNL.out];omega)
     have hsum:((P'++Q).map peZ).sum+1=(P'.map peZ).sum+szL (dd+1) ll:=by
      rw [List.map_append,List.sum_append,HZ.out,hjn]
      show _=_+((ll.map (fun t=>szL dd t.2)).sum+1)
      omega
     have hm2:=HM2.out
     clear hX' x0 x1
     go_wp2
     go_roundg (((P'++Q).map peZ).sum)
     case measure=>omega
     case rel=>exact ⟨P'++Q,by show OwnP _ _ _ _;unfold OwnP;rw [HL.out];exact HO2.out,HPQ,⟨Nat.le_refl _,by omega⟩,HIw⟩
theorem cpt_res {w4:World}{R:Nat}{a b c d e f g h i j k:Value}{tmps:Array Value}(hR:Bn w4 R [a,b,c,d,e,f,g,h,i,j,k]) (ht:tmps.getD 2 undef=.pointer (some ⟨R,0,none⟩)):(results Tryz.f36 tmps).run Tryz.prog w4=.ok (.agg #[a,b,c,d,e,f,g,h,i,j,k]) w4:=by
 have ht':tmps[2]?.getD undef=.pointer (some ⟨R,0,none⟩):=by simpa using ht
 have c0:=(hR 0 _ rfl).1
 have c1:=(hR 1 _ rfl).1
 have c2:=(hR 2 _ rfl).1
 have c3:=(hR 3 _ rfl).1
 have c4:=(hR 4 _ rfl).1
 have c5:=(hR 5 _ rfl).1
 have c6:=(hR 6 _ rfl).1
 have c7:=(hR 7 _ rfl).1
 have c8:=(hR 8 _ rfl).1
 have c9:=(hR 9 _ rfl).1
 have c10:=(hR 10 _ rfl).1
 simp [results,Tryz.results36,go_sem,ht',c0,c1,c2,c3,c4,c5,c6,c7,c8,c9,c10]
theorem fld_ch (a b c d e f:Value) (w:World):(Instr.field 42 (.agg #[a,b,c,d,e,f]) 4).run Tryz.prog w=.ok f w:=by kernel_rfl
def oneC {d:Nat}(t:St (d+1)):ChG (d+1):=(([],(0,0)),0,[],[t])
theorem oneC_ok {d:Nat}{t:St (d+1)}(h:StOk (d+1) t) (hz:szL (d+1) [t]<=1000000):ChOk (d+1) (oneC t):=by
 refine ⟨by simp [oneC],by simp [oneC],fun x hx=>?_,⟨by simp [oneC],fun t' ht=>?_⟩,hz⟩
 ·simp [oneC] at hx
 ·have:t'=t:=by simpa [oneC] using ht
  rw [this]
  exact h
theorem copiedT_any {ok:Nat->Prop}{w:World}{d:Nat}{t:St (d+1)}{sn:ByteArray}{sl sc:Int}{sb se:Bool}{sd su:ByteArray}{sw sr:Int}{q1:Option Addr}{no q3:Nat}{q4:Option Addr}{ni q6:Nat}
  (hsv:∀ so si,hdV t.1 so si=[.string sn,.int .i64 sl,.int .i64 sc,.bool sb,.bool se,.string sd,.string su,.int .i64 sw,.int .i64 sr,so,si])
  (hno:t.1.2.2.2.2.length=no) (hni:t.2.length=ni) (hon:RdK ok w 6 (rOn ok w) t.1.2.2.2.2 (.slice q1 no q3)) (hin:RdK ok w 11 (rSt d ok w) t.2 (.slice q4 ni q6)) (hst:StOk (d+1) t) (hsz:szL (d+1) [t]<=1000000) :
  Calls Tryz.prog 36 #[.agg #[.string sn,.int .i64 sl,.int .i64 sc,.bool sb,.bool se,.string sd,.string su,.int .i64 sw,.int .i64 sr,.slice q1 no q3,.slice q4 ni q6]] w fun e w'=>∃ (i1 i2:Int) (c3 c4:Bool) (c5 c6:ByteArray) (c7 c8:Int) (u1:Option Addr) (u3:Nat) (u4:Option Addr) (u6:Nat),e=.returned (.agg #[.string sn,.int .i64 i1,.int .i64 i2,.bool c3,.bool c4,.string c5,.string c6,.int .i64 c7,.int .i64 c8,.slice u1 no u3,.slice u4 ni u6])/\Hid (RdK (fun b=>w.heap.size<=b) w' 6 (rOnS (fun b=>w.heap.size<=b) w') t.1.2.2.2.2 (.slice u1 no u3))/\Below w.heap.size w w':=by
 have HSV:=mkHid hsv
 have HOK:=mkHid (oneC_ok hst hsz)
 have HON:=mkHid hon
 have HIN:=mkHid hin
 have HNO:=mkHid hno
 have HNI:=mkHid hni
 clear hsv hst hon hin hno hni
 obtain ⟨O,hO⟩:∃ O:Obj,Obj.cells #[.string sn,.int .i64 sl,.int .i64 sc,.bool sb,.bool se,.string sd,.string su,.int .i64 sw,.int .i64 sr,.slice q1 no q3,.slice q4 ni q6] 79=O:=⟨_,rfl⟩
 have hb1:Below w.heap.size w (w.alloc O):=(Below.refl w.heap.size w).alloc Nat.le.refl _
 have hX:Bn (w.alloc O) w.heap.size [.string sn,.int .i64 sl,.int .i64 sc,.bool sb,.bool se,.string sd,.string su,.int .i64 sw,.int .i64 sr,.slice q1 no q3,.slice q4 ni q6]:=by rw [<- hO];exact Bn.new w [.string sn,.int .i64 sl,.int .i64 sc,.bool sb,.bool se,.string sd,.string su,.int .i64 sw,.int .i64 sr,.slice q1 no q3,.slice q4 ni q6] 79 _ rfl
 have hb2:Below w.heap.size w ((w.alloc O).alloc (.cells #[.string ⟨#[]⟩,.int .i64 0,.int .i64 0,.bool false,.bool false,.string ⟨#[]⟩,.string ⟨#[]⟩,.int .i64 0,.int .i64 0,.slice none 0 0,.slice none 0 0] 79)):=hb1.alloc (by simp) _
 have hX2:=hX.on ((Below.refl _ (w.alloc O)).alloc Nat.le.refl (.cells #[.string ⟨#[]⟩,.int .i64 0,.int .i64 0,.bool false,.bool false,.string ⟨#[]⟩,.string ⟨#[]⟩,.int .i64 0,.int .i64 0,.slice none 0 0,.slice none 0 0] 79))
 have hR:Bn ((w.alloc O).alloc (.cells #[.string ⟨#[]⟩,.int .i64 0,.int .i64 0,.bool false,.bool false,.string ⟨#[]⟩,.string ⟨#[]⟩,.int .i64 0,.int .i64 0,.slice none 0 0,.slice none 0 0] 79)) (w.heap.size+1) [.string ⟨#[]⟩,.int .i64 0,.int .i64 0,.bool false,.bool false,.string ⟨#[]⟩,.string ⟨#[]⟩,.int .i64 0,.int .i64 0,.slice none 0 0,.slice none 0 0]:=Bn.new (w.alloc O) [.string ⟨#[]⟩,.int .i64 0,.int .i64 0,.bool false,.bool false,.string ⟨#[]⟩,.string ⟨#[]⟩,.int .i64 0,.int .i64 0,.slice none 0 0,.slice none 0 0] 79 _ (by simp)
 have hs2:((w.alloc O).alloc (.cells #[.string ⟨#[]⟩,.int .i64 0,.int .i64 0,.bool false,.bool false,.string ⟨#[]⟩,.string ⟨#[]⟩,.int .i64 0,.int .i64 0,.slice none 0 0,.slice none 0 0] 79)).heap.size=w.heap.size+2:=by simp
 go_enter Tryz.func36,Tryz.ntmps36
 go_upto_region 1 with fail
 clear hO hb1 hX
 generalize ((w.alloc O).alloc (.cells #[.string ⟨#[]⟩,.int .i64 0,.int .i64 0,.bool false,.bool false,.string ⟨#[]⟩,.string ⟨#[]⟩,.int .i64 0,.int .i64 0,.slice none 0 0,.slice none 0 0] 79))=w2 at *
 have x0:=(hX2 0 _ rfl).1
 have x1:=(hX2 1 _ rfl).1
 have x2:=(hX2 2 _ rfl).1
 have x3:=(hX2 3 _ rfl).1
 have x4:=(hX2 4 _ rfl).1
 have x5:=(hX2 5 _ rfl).1
 have x6:=(hX2 6 _ rfl).1
 have x7:=(hX2 7 _ rfl).1
 have x8:=(hX2 8 _ rfl).1
 have x9:=(hX2 9 _ rfl).1
 have x10:=(hX2 10 _ rfl).1
 go_upto_region 2 with fail
 have hb3:Below w2.heap.size w2 (w2.alloc (.cells #[.string sn,.int .i64 sl,.int .i64 sc,.bool sb,.bool se,.string sd,.string su,.int .i64 sw,.int .i64 sr,.slice q1 no q3,.slice q4 ni q6] 79)):=(Below.refl _ _).alloc Nat.le.refl _
 have hG:Bn (w2.alloc (.cells #[.string sn,.int .i64 sl,.int .i64 sc,.bool sb,.bool se,.string sd,.string su,.int .i64 sw,.int .i64 sr,.slice q1 no q3,.slice q4 ni q6] 79)) w2.heap.size [.string sn,.int .i64 sl,.int .i64 sc,.bool sb,.bool se,.string sd,.string su,.int .i64 sw,.int .i64 sr,.slice q1 no q3,.slice q4 ni q6]:=Bn.new w2 [.string sn,.int .i64 sl,.int .i64 sc,.bool sb,.bool se,.string sd,.string su,.int .i64 sw,.int .i64 sr,.slice q1 no q3,.slice q4 ni q6] 79 _ rfl
 have hR3:=hR.on hb3
 have hs3:(w2.alloc (.cells #[.string sn,.int .i64 sl,.int .i64 sc,.bool sb,.bool se,.string sd,.string su,.int .i64 sw,.int .i64 sr,.slice q1 no q3,.slice q4 ni q6] 79)).heap.size=w.heap.size+3:=by simp [hs2]
 have hbw:Below w.heap.size w (w2.alloc (.cells #[.string sn,.int .i64 sl,.int .i64 sc,.bool sb,.bool se,.string sd,.string su,.int .i64 sw,.int .i64 sr,.slice q1 no q3,.slice q4 ni q6] 79)):=hb2.trans (hb3.mono (by omega))
 rw [hs2] at hG
 clear x0 x1 x2 x3 x4 x5 x6 x7 x8 x9 x10 hX2 hR hb2 hb3
 generalize (w2.alloc (.cells #[.string sn,.int .i64 sl,.int .i64 sc,.bool sb,.bool se,.string sd,.string su,.int .i64 sw,.int .i64 sr,.slice q1 no q3,.slice q4 ni q6] 79))=w3 at *
 have HRow:Hid (RdK (fun b=>b < w3.heap.size) w3 11 (rSt (d+1) (fun b=>b < w3.heap.size) w3) [t] (.slice (some ⟨w.heap.size+2,0,none⟩) 1 1)):=by
  refine ⟨some ⟨w.heap.size+2,0,none⟩,1,rfl,by simp,by simp [maxLen],fun i hi=>?_⟩
  have hi0:i=0:=by simp at hi;omega
  subst hi0
  refine ⟨w.heap.size+2,0,hdV t.1 (.slice q1 no q3) (.slice q4 ni q6),rfl,by show _ < _;omega,by omega,rfl,⟨_,_,rfl,?_,?_⟩,fun j u hu=>?_⟩
  ·exact HON.out.stay kp_on (fun b hb hl=>⟨by show b < _;omega,hbw.block b hl⟩)
  ·exact HIN.out.stay (kp_st d) (fun b hb hl=>⟨by show b < _;omega,hbw.block b hl⟩)
  ·rw [HSV.out] at hu
   have:=(hG j u hu).1
   simpa using this
 have hcall:Calls Tryz.prog 57 #[.agg #[.string ⟨#[]⟩,.int .i64 0,.int .i64 0,.int .i64 0,.slice none 0 0,.slice (some ⟨w.heap.size+2,0,none⟩) 1 1]] w3 fun e w'=>∃ n0 n1 n2 n3 n4 n5 n6 fa fc,e=.returned (.agg #[.string n0,.int .i64 n1,.int .i64 n2,.int .i64 n3,.slice n4 n5 n6,.slice fa 1 fc])/\Hid (RdSh w3.heap.size w'.heap.size w' (d+1) [t] (.slice fa 1 fc))/\Below w3.heap.size w3 w':=by
  refine (strip_nw (c:=oneC t) (ok:=fun b=>b < w3.heap.size) (w:=w3) ⟨_,_,rfl,rdK_none _ _ _ _,HRow.out⟩ HOK.out).mono ?_
  rintro e w' ⟨u,rfl,⟨sv,ss,rfl,h1,h2⟩,hb⟩
  obtain ⟨v1,v3,rfl,_⟩:=h1.form
  obtain ⟨f1,f3,rfl,_⟩:=h2.form
  exact ⟨_,_,_,_,_,_,_,f1,f3,rfl,rdSh_of h2,hb⟩
 have hfl:=fld_ch
 go_upto_region 3 with (first
  | (go_at_call 57;refine hcall.mono ?_;rintro e w4 ⟨n0,n1,n2,n3,n4,n5,n6,fa,fc,rfl,HF,b4⟩)
  | fail)
 clear hfl
 have hput:Calls Tryz.prog 58 #[.slice fa 1 fc,.slice (some ⟨w.heap.size+2,0,none⟩) 1 1] w4 fun e w'=>(∃ v,e=.returned v)/\Iw w3.heap.size w4.heap.size w4 w':=putPlaces_any (l:=[t]) b4.size Nat.le.refl ⟨HF.out,HRow.out.stay (kp_st _) (fun b hb hl=>⟨hb,b4.block b hb⟩)⟩ hsz
 go_upto_region 4 with (first
  | (go_at_call 58;refine hput.mono ?_;rintro e w5 ⟨⟨v5,rfl⟩,h5⟩)
  | fail)
 obtain ⟨b,off,i1,i2,c3,c4,c5,c6,c7,c8,p1,p3,p4,p6,rfl,hbA,hbK,hbl,hbf,hs5,_,hc⟩:=sh_at (HF.out.on h5) 0 (by simp)
 have e0:sV ([t]:List (St (d+1)))[0].1.1.1=.string sn:=by
  have:=HSV.out (.nilIface) (.nilIface)
  exact (List.cons.inj this).1
 have e1:([t]:List (St (d+1)))[0].1.2.2.2.2.length=no:=HNO.out
 have e2:([t]:List (St (d+1)))[0].2.length=ni:=HNI.out
 rw [e0,e1,e2] at hc
 rw [e1] at hs5
 have HS6:Hid (RdK (fun b=>w.heap.size+2 < b) w5 6 (rOnS (fun b=>w.heap.size+2 < b) w5) t.1.2.2.2.2 (.slice p1 no p3)):=hs5.stay kp_onS (fun b hb hl=>⟨by have:=hb.1;omega,rfl⟩)
 clear hs5
 simp only [Nat.zero_mul,Nat.add_zero] at hc
 have hR5:=(hR3.on b4).blk (h5.block (w.heap.size+1) (by have:=b4.size;omega) (.inl (by omega)))
 have hbw5:Below w.heap.size w w5:=(hbw.trans (b4.mono (by omega))).trans ((h5.below b4.size).mono (by omega))
 have D0:=hc 0 _ rfl
 have D1:=hc 1 _ rfl
 have D2:=hc 2 _ rfl
 have D3:=hc 3 _ rfl
 have D4:=hc 4 _ rfl
 have D5:=hc 5 _ rfl
 have D6:=hc 6 _ rfl
 have D7:=hc 7 _ rfl
 have D8:=hc 8 _ rfl
 have D9:=hc 9 _ rfl
 have D10:=hc 10 _ rfl
 rw [Nat.add_zero] at D0
 obtain ⟨r0,f0⟩:=hR5 0 _ rfl
 obtain ⟨r1,f1⟩:=hR5 1 _ rfl
 obtain ⟨r2,f2⟩:=hR5 2 _ rfl
 obtain ⟨r3,f3⟩:=hR5 3 _ rfl
 obtain ⟨r4,f4⟩:=hR5 4 _ rfl
 obtain ⟨r5,f5⟩:=hR5 5 _ rfl
 obtain ⟨r6,f6⟩:=hR5 6 _ rfl
 obtain ⟨r7,f7⟩:=hR5 7 _ rfl
 obtain ⟨r8,f8⟩:=hR5 8 _ rfl
 obtain ⟨r9,f9⟩:=hR5 9 _ rfl
 obtain ⟨r10,f10⟩:=hR5 10 _ rfl
 have hRz:=((((((((((hR5.set (i:=0) (by simp) (.string sn)).set (i:=1) (by simp) (.int .i64 i1)).set (i:=2) (by simp) (.int .i64 i2)).set (i:=3) (by simp) (.bool c3)).set (i:=4) (by simp) (.bool c4)).set (i:=5) (by simp) (.string c5)).set (i:=6) (by simp) (.string c6)).set (i:=7) (by simp) (.int .i64 c7)).set (i:=8) (by simp) (.int .i64 c8)).set (i:=9) (by simp) (.slice p1 no p3)).set (i:=10) (by simp) (.slice p4 ni p6)
 have hbz:=putL_below [.string sn,.int .i64 i1,.int .i64 i2,.bool c3,.bool c4,.string c5,.string c6,.int .i64 c7,.int .i64 c8,.slice p1 no p3,.slice p4 ni p6] w5 (w.heap.size+1) 0 hbw5 (by omega)
 have hs7:Hid (RdK (fun b=>w.heap.size<=b) (putL w5 (w.heap.size+1) 0 [.string sn,.int .i64 i1,.int .i64 i2,.bool c3,.bool c4,.string c5,.string c6,.int .i64 c7,.int .i64 c8,.slice p1 no p3,.slice p4 ni p6]) 6 (rOnS (fun b=>w.heap.size<=b) (putL w5 (w.heap.size+1) 0 [.string sn,.int .i64 i1,.int .i64 i2,.bool c3,.bool c4,.string c5,.string c6,.int .i64 c7,.int .i64 c8,.slice p1 no p3,.slice p4 ni p6])) t.1.2.2.2.2 (.slice p1 no p3)):=HS6.out.stay kp_onS (fun b hb hl=>⟨by omega,putL_heap _ _ _ _ _ (by omega)⟩)
 clear hput hcall HF HRow h5 hc b4 hbw HS6
 go_wp2
 exact bodyPost_ret (cpt_res hRz rfl) rfl ⟨i1,i2,c3,c4,c5,c6,c7,c8,p1,p3,p4,p6,rfl,hs7,hbz⟩
