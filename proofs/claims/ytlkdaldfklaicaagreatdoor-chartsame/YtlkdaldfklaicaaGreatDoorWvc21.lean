import Derived.Test.YtlkdaldfklaicaaGreatDoorWvc01
import Derived.Test.YtlkdaldfklaicaaGreatDoorWvc20
import Derived.Test.YtlkdaldfklaicaaGreatDoorWvc03
import Derived.Test.YtlkdaldfklaicaaGreatDoorWvc04
import Derived.Deep.RegionHeldLaw
set_option maxRecDepth 100000
set_option maxHeartbeats 32000000
namespace Go.Proofs.YtlkdaldfklaicaaGreatDoor
open Go.RowKit Go.Lib
set_option linter.unusedSimpArgs false
set_option linter.unusedVariables false
attribute [local go_sem ↓] Go.wp_at_zero Go.wp_at_succ
def dtO (o:OnC):OnC:=(o.1,o.2.1,o.2.2.1,o.2.2.2.1,(0,0))
def dtH (h:HdC):HdC:=((h.1.1,(0,0)),h.2.1,h.2.2.1,h.2.2.2.1,h.2.2.2.2.map dtO)
def dtS:(d:Nat)->St d->St d
 | 0,t=>Empty.elim t
 | d+1,t=>show HdC × List (St d) from (dtH t.1,t.2.map (dtS d))
def LnT:(d:Nat)->St d->Prop
 | 0,_=>True
 | d+1,t=>t.1.2.2.2.2.length<=400/\t.2.length<=400/\∀ x∈t.2,LnT d x
def R2 {α:Type}(lim:Nat) (w0:World) (R:(Nat->Prop)->World->α->List Value->Prop) (ok:Nat->Prop) (wx:World) (x:α) (cs:List Value):Prop:=
 ∀ w',(∀ b,b < lim->w'.heap[b]?=w0.heap[b]?)->(∀ b,ok b->b < wx.heap.size->w'.heap[b]?=wx.heap[b]?)->R (fun b=>b < lim∨(ok b/\b < wx.heap.size)) w' x cs
theorem zdP {α:Type}{lim:Nat}{w0:World}{R:(Nat->Prop)->World->α->List Value->Prop}(hR:Kp R):Kp (R2 lim w0 R):=by
 intro ok ok' w w' x cs h hk w2 h1 h2
 have hs:∀ b,ok b->b < w.heap.size->b < w'.heap.size:=fun b hb hl=>by
  have e:=(hk b hb hl).2
  rw [Array.getElem?_eq_getElem hl] at e
  exact (Array.getElem?_eq_some_iff.mp e).1
 refine hR (h w2 h1 (fun b hb hl=>(h2 b (hk b hb hl).1 (hs b hb hl)).trans (hk b hb hl).2)) (fun b hb hl=>⟨?_,rfl⟩)
 rcases hb with hb|hb
 ·exact Or.inl hb
 ·exact Or.inr ⟨(hk b hb.1 hb.2).1,hs b hb.1 hb.2⟩
theorem R2.out {α:Type}{lim:Nat}{w0 wx:World}{R:(Nat->Prop)->World->α->List Value->Prop}{ok:Nat->Prop}{x:α}{cs:List Value}(hR:Kp R) (h:R2 lim w0 R ok wx x cs) (hw:∀ b,b < lim->wx.heap[b]?=w0.heap[b]?):R (fun b=>b < lim∨ok b) wx x cs:=
 hR (h wx hw (fun _ _ _=>rfl)) (fun b hb _=>⟨hb.elim Or.inl (fun h=>Or.inr h.1),rfl⟩)
theorem R2.into {α:Type}{lim:Nat}{w0 wx:World}{R:(Nat->Prop)->World->α->List Value->Prop}{ok:Nat->Prop}{x:α}{cs:List Value}(hR:Kp R) (h:R (fun b=>b < lim∨ok b) wx x cs) (hw:∀ b,b < lim->wx.heap[b]?=w0.heap[b]?):R2 lim w0 R ok wx x cs:=by
 intro w' h1 h2
 refine hR h (fun b hb hl=>?_)
 rcases hb with hb|hb
 ·exact ⟨Or.inl hb,(h1 b hb).trans (hw b hb).symm⟩
 ·exact ⟨Or.inr ⟨hb,hl⟩,h2 b hb hl⟩
theorem R2.row {α:Type}{lim base k:Nat}{w0 wx:World}{R:(Nat->Prop)->World->α->List Value->Prop}{l:List α}{v:Value}(hR:Kp R) (h:RdK (fun b=>base<=b) wx k (R2 lim w0 R (fun b=>base<=b) wx) l v) (hw:∀ b,b < lim->wx.heap[b]?=w0.heap[b]?):RdK (fun b=>b < lim∨base<=b) wx k (R (fun b=>b < lim∨base<=b) wx) l v:=by
 obtain ⟨a,cap,he,h1,h2,h3⟩:=h
 refine ⟨a,cap,he,h1,h2,fun j hj=>?_⟩
 obtain ⟨b,off,cs,ha,hb0,hb,hl,hr,hc⟩:=h3 j hj
 exact ⟨b,off,cs,ha,Or.inr hb0,hb,hl,R2.out hR hr hw,hc⟩
def DtC (d:Nat):Prop:=∀ (lim:Nat) (w:World) (l:List (St d)) (v:Value),lim<=w.heap.size->RdK (fun b=>b < lim) w 11 (zad d (fun b=>b < lim) w) l v->l.length<=400->(∀ t∈l,LnT d t)->
 Calls Tryz.prog 27 #[v] w fun e w'=>∃ u,e=.returned u/\RdK (fun b=>b < lim∨w.heap.size<=b) w' 11 (zad d (fun b=>b < lim∨w.heap.size<=b) w') (l.map (dtS d)) u/\Below w.heap.size w w'
theorem zlH:DtC 0:=by
 intro lim w l v _ h _ _
 cases l with
 | cons x _=>exact Empty.elim x
 | nil=>
  obtain ⟨a,cap,rfl,_⟩:=h.form
  simp only [List.length_nil]
  clear h
  go_enter Tryz.func27,Tryz.ntmps27
  go_wp2
  go_loopw [3,10] (fun a3 i wr=>a3=.slice none 0 0/\i=.int .i64 0/\Below w.heap.size w wr) (fun _ _ _=>0)
  case atStart=>exact ⟨rfl,rfl,Below.refl _ _⟩
  case round=>
   obtain ⟨rfl,rfl,hb⟩:=hrel
   go_wp2
   go_ret
   exact ⟨_,rfl,zaO _ _ _ _,hb⟩
theorem zlw (d:Nat) (IH:DtC d):DtC (d+1):=by
 intro lim w l v hlim h hl3 hok
 obtain ⟨is,his,his0,his1,his2⟩:=info_parts Tryz.infoStD
 obtain ⟨io,hio,hio0,hio1,hio2⟩:=info_parts Tryz.infoOnD
 obtain ⟨a,cap,rfl,hlc,hcm⟩:=h.form
 unfold maxLen at hcm
 have HC:Hid (RdK (fun b=>b < lim) w 11 (zad (d+1) (fun b=>b < lim) w) l (.slice a l.length cap)):=h
 have HK:Hid (∀ t∈l,LnT (d+1) t):=hok
 obtain ⟨n,hn⟩:∃ n,l.length=n:=⟨_,rfl⟩
 rw [hn] at hlc hl3 ⊢
 have HN:Hid (l.length=n):=hn
 clear h hok hn
 go_enter Tryz.func27,Tryz.ntmps27
 go_wp2
 go_loopw [3,10] (fun a3 ix wr=>∃ (j:Nat),j<=n/\ix=.int .i64 (j:Int)/\OwnB wr w.heap.size (fun _=>False) 76 11 (R2 lim w (zad (d+1))) a3 ((l.map (dtS (d+1))).take j)/\Below w.heap.size w wr) (fun _ ix _=>n - (RowKit.intOf ix).toNat)
 case atStart=>exact ⟨0,Nat.zero_le _,rfl,zZ _ _ _ _ _ _,Below.refl _ _⟩
 case round=>
  obtain ⟨j,hj,rfl,hO,hb⟩:=hrel
  obtain ⟨va,vc,rfl,hvl,hvm⟩:=hO.form
  have hlj:((l.map (dtS (d+1))).take j).length=j:=by rw [List.length_take,List.length_map,HN.out];omega
  rw [hlj] at hO hvl ⊢
  by_cases hlt:j < n
  ·have hjl:j < l.length:=by rw [HN.out];exact hlt
   obtain ⟨b,off,p1,p3,p4,p6,rfl,_,hbl,hOn,hIn,hc⟩:=zfz HC.out j hjl
   have hkt:=HK.out _ (List.getElem_mem hjl)
   obtain ⟨sn,sl,sc,sb,se,sd,su,sw,sr,hsv,hsd⟩:∃ sn sl sc sb se sd su sw sr,(hdD l[j].1=fun so si=>[.string sn,.int .i64 sl,.int .i64 sc,.bool sb,.bool se,.string sd,.string su,.int .i64 sw,.int .i64 sr,so,si])/\(hdD (dtH l[j].1)=fun so si=>[.string sn,.int .i64 0,.int .i64 0,.bool sb,.bool se,.string sd,.string su,.int .i64 sw,.int .i64 sr,so,si]):=⟨_,_,_,_,_,_,_,_,_,rfl,rfl⟩
   rw [hsv] at hc
   obtain ⟨t,ht⟩:∃ t,l[j]=t:=⟨_,rfl⟩
   rw [ht] at hOn hIn hc hkt hsd
   obtain ⟨m,hm⟩:∃ m,t.1.2.2.2.2.length=m:=⟨_,rfl⟩
   obtain ⟨i,hi⟩:∃ m,t.2.length=m:=⟨_,rfl⟩
   rw [hm] at hOn hc
   rw [hi] at hIn hc
   have C0:=(hb.cell (p:=⟨b,off+j*11+0,none⟩) hbl).trans (hc 0 _ rfl)
   have C1:=(hb.cell (p:=⟨b,off+j*11+1,none⟩) hbl).trans (hc 1 _ rfl)
   have C2:=(hb.cell (p:=⟨b,off+j*11+2,none⟩) hbl).trans (hc 2 _ rfl)
   have C3:=(hb.cell (p:=⟨b,off+j*11+3,none⟩) hbl).trans (hc 3 _ rfl)
   have C4:=(hb.cell (p:=⟨b,off+j*11+4,none⟩) hbl).trans (hc 4 _ rfl)
   have C5:=(hb.cell (p:=⟨b,off+j*11+5,none⟩) hbl).trans (hc 5 _ rfl)
   have C6:=(hb.cell (p:=⟨b,off+j*11+6,none⟩) hbl).trans (hc 6 _ rfl)
   have C7:=(hb.cell (p:=⟨b,off+j*11+7,none⟩) hbl).trans (hc 7 _ rfl)
   have C8:=(hb.cell (p:=⟨b,off+j*11+8,none⟩) hbl).trans (hc 8 _ rfl)
   have C9:=(hb.cell (p:=⟨b,off+j*11+9,none⟩) hbl).trans (hc 9 _ rfl)
   have C10:=(hb.cell (p:=⟨b,off+j*11+10,none⟩) hbl).trans (hc 10 _ rfl)
   rw [Nat.add_zero] at C0
   have HC9:Hid (w.cell? ⟨b,off+j*11+9,none⟩=some (.slice p1 m p3)):=hc 9 _ rfl
   have HOn:Hid (RdK (fun b=>b < lim) w 10 (zba (fun b=>b < lim) w) t.1.2.2.2.2 (.slice p1 m p3)):=hOn
   have HSD:Hid (hdD (dtH t.1)=fun so si=>[.string sn,.int .i64 0,.int .i64 0,.bool sb,.bool se,.string sd,.string su,.int .i64 sw,.int .i64 sr,so,si]):=hsd
   have HKT:Hid (LnT (d+1) t):=hkt
   have HT:Hid (l[j]=t):=ht
   have HM:Hid (t.1.2.2.2.2.length=m):=hm
   have i1:(j:Int) < (n:Int):=by omega
   have i2:(0:Int)<=(j:Int):=by omega
   have hal:=(Below.refl wr.heap.size wr).alloc zn2 (.cells #[.string sn,.int .i64 sl,.int .i64 sc,.bool sb,.bool se,.string sd,.string su,.int .i64 sw,.int .i64 sr,.slice p1 m p3,.slice p4 i p6] 76)
   have hbx:=hb.trans (hal.mono hb.size)
   have hX:Bn (wr.alloc (.cells #[.string sn,.int .i64 sl,.int .i64 sc,.bool sb,.bool se,.string sd,.string su,.int .i64 sw,.int .i64 sr,.slice p1 m p3,.slice p4 i p6] 76)) wr.heap.size [.string sn,.int .i64 sl,.int .i64 sc,.bool sb,.bool se,.string sd,.string su,.int .i64 sw,.int .i64 sr,.slice p1 m p3,.slice p4 i p6]:=Bn.new wr [.string sn,.int .i64 sl,.int .i64 sc,.bool sb,.bool se,.string sd,.string su,.int .i64 sw,.int .i64 sr,.slice p1 m p3,.slice p4 i p6] 76 _ rfl
   have hcall:=fun w1 (b1:Below w.heap.size w w1)=>IH lim w1 t.2 (.slice p4 i p6) (zn5 hlim b1.size) (hIn.stay (zy d) (fun k hk hl=>⟨hk,b1.block k hl⟩)) hkt.2.1 hkt.2.2
   have hcall2:∀ w1,Below w.heap.size w w1->Calls Tryz.prog 27 #[.slice p4 i p6] w1 fun e w'=>∃ iq ic,e=.returned (.slice iq i ic)/\RdK (fun b=>b < lim∨w1.heap.size<=b) w' 11 (zad d (fun b=>b < lim∨w1.heap.size<=b) w') (t.2.map (dtS d)) (.slice iq i ic)/\Below w1.heap.size w1 w':=fun w1 b1=>(hcall w1 b1).mono (fun e w' hh=>by
    obtain ⟨u,h1,h2,h3⟩:=hh
    obtain ⟨iq,ic,rfl,_⟩:=h2.form
    rw [List.length_map,hi] at h1 h2
    exact ⟨iq,ic,h1,h2,h3⟩)
   have hsx:(wr.alloc (.cells #[.string sn,.int .i64 sl,.int .i64 sc,.bool sb,.bool se,.string sd,.string su,.int .i64 sw,.int .i64 sr,.slice p1 m p3,.slice p4 i p6] 76)).heap.size=wr.heap.size+1:=by simp
   clear hsv hsd ht hkt hm hOn hIn hcall
   go_upto_region 6 with fail
   clear C0 C1 C2 C3 C4 C5 C6 C7 C8 C9 C10
   have C10:=(hbx.cell (p:=⟨b,off+j*11+10,none⟩) hbl).trans (hc 10 _ rfl)
   clear hc
   obtain ⟨S,hS⟩:∃ S,wr.heap.size=S:=⟨_,rfl⟩
   have hO':=hO.keep (zdP (zy _)) (bad':=fun k=>k=wr.heap.size) (fun k hk hbad hl=>⟨hal.block k hl,fun e=>by omega⟩)
   rw [hS] at hX hsx hal hO' ⊢
   generalize wr.alloc (.cells #[.string sn,.int .i64 sl,.int .i64 sc,.bool sb,.bool se,.string sd,.string su,.int .i64 sw,.int .i64 sr,.slice p1 m p3,.slice p4 i p6] 76)=wx at *
   have hSw:w.heap.size<=S:=by have:=hb.size;omega
   have hc1:=hcall2 _ hbx
   go_upto_region 7 with (first
    | (go_at_call 27;refine hc1.mono ?_;rintro e w1 ⟨iq,ic,rfl,hr1,b1⟩;have hX1:=hX.on b1;obtain ⟨x1,f1⟩:=hX1 1 _ rfl;obtain ⟨x2,f2⟩:=hX1 2 _ rfl;obtain ⟨x9,f9⟩:=hX1 9 _ rfl;obtain ⟨x10,f10⟩:=hX1 10 _ rfl)
    | fail)
   have hQb:=(((hX1.set (i:=1) (by simp) (.int .i64 0)).set (i:=2) (by simp) (.int .i64 0)).set (i:=9) (by simp) (.slice none 0 0)).set (i:=10) (by simp) (.slice iq i ic)
   have hbq:Below wx.heap.size wx w1:=b1
   have hF0:Fx S wx ((((w1.setCell ⟨S,1,none⟩ (.int .i64 0)).setCell ⟨S,2,none⟩ (.int .i64 0)).setCell ⟨S,9,none⟩ (.slice none 0 0)).setCell ⟨S,10,none⟩ (.slice iq i ic)):=((((Fx.of hbq zn2).setX (i:=1) (.int .i64 0)).setX (i:=2) (.int .i64 0)).setX (i:=9) (.slice none 0 0)).setX (i:=10) (.slice iq i ic)
   have hQr:RdK (fun k=>k < lim∨S+1<=k) ((((w1.setCell ⟨S,1,none⟩ (.int .i64 0)).setCell ⟨S,2,none⟩ (.int .i64 0)).setCell ⟨S,9,none⟩ (.slice none 0 0)).setCell ⟨S,10,none⟩ (.slice iq i ic)) 11 (zad d (fun k=>k < lim∨S+1<=k) ((((w1.setCell ⟨S,1,none⟩ (.int .i64 0)).setCell ⟨S,2,none⟩ (.int .i64 0)).setCell ⟨S,9,none⟩ (.slice none 0 0)).setCell ⟨S,10,none⟩ (.slice iq i ic))) (t.2.map (dtS d)) (.slice iq i ic):=hr1.stay (zy d) (fun k hk hl=>⟨by omega,by
    rw [Below.heap_setCell _ _ _ _ (fun e=>by have e2:k=S:=e;omega),Below.heap_setCell _ _ _ _ (fun e=>by have e2:k=S:=e;omega),Below.heap_setCell _ _ _ _ (fun e=>by have e2:k=S:=e;omega),Below.heap_setCell _ _ _ _ (fun e=>by have e2:k=S:=e;omega)]⟩)
   have hbw:Below w.heap.size w ((((w1.setCell ⟨S,1,none⟩ (.int .i64 0)).setCell ⟨S,2,none⟩ (.int .i64 0)).setCell ⟨S,9,none⟩ (.slice none 0 0)).setCell ⟨S,10,none⟩ (.slice iq i ic)):=hF0.bel hbx hSw zn2
   clear hr1 hc1 hcall2 hX1 x1 f1 x2 f2 x9 f9 x10 f10 C10 b1 hX hbq
   generalize ((((w1.setCell ⟨S,1,none⟩ (.int .i64 0)).setCell ⟨S,2,none⟩ (.int .i64 0)).setCell ⟨S,9,none⟩ (.slice none 0 0)).setCell ⟨S,10,none⟩ (.slice iq i ic))=wk at *
   have hm3:m<=400:=by have:=HKT.out.1;rw [HM.out] at this;exact this
   have C9:=(hbw.cell (p:=⟨b,off+j*11+9,none⟩) hbl).trans HC9.out
   have hql:S < wk.heap.size:=hQb.lt
   go_wp2
   go_loopw [33] (fun ix wr=>∃ (g:Nat) (sl2:Value),g<=m/\ix=.int .i64 (g:Int)/\Bn wr S [.string sn,.int .i64 0,.int .i64 0,.bool sb,.bool se,.string sd,.string su,.int .i64 sw,.int .i64 sr,sl2,.slice iq i ic]/\OwnB wr wk.heap.size (fun _=>False) 82 10 (R2 lim w zba) sl2 ((t.1.2.2.2.2.map dtO).take g)/\Fx S wk wr) (fun ix _=>m - (RowKit.intOf ix).toNat)
   case atStart=>exact ⟨0,_,Nat.zero_le _,rfl,hQb,zZ _ _ _ _ _ _,Fx.refl _ _⟩
   case round=>
    clear C9
    obtain ⟨g,sl2,hg,rfl,hQB,hRow,hF⟩:=hrel
    obtain ⟨acg,hacg⟩:∃ acg,(t.1.2.2.2.2.map dtO).take g=acg:=⟨_,rfl⟩
    have hlg:acg.length=g:=by rw [<- hacg,List.length_take,List.length_map,HM.out];omega
    rw [hacg] at hRow
    have HACG:Hid ((t.1.2.2.2.2.map dtO).take g=acg):=hacg
    clear hacg
    obtain ⟨ra,rc,rfl,hrl,hrm⟩:=hRow.form
    rw [hlg] at hRow hQB hrl
    have hFs:=hF.size
    have hbr:Below w.heap.size w wr:=hF.bel hbw hSw zn2
    have C9:=(hbr.cell (p:=⟨b,off+j*11+9,none⟩) hbl).trans HC9.out
    by_cases hgl:g < m
    ·have hgt:g < t.1.2.2.2.2.length:=by rw [HM.out];exact hgl
     obtain ⟨bo,oo,c0,c1,c2,c3,s1,s3,rfl,_,hbl2,hGx,hSe,hco⟩:=zfW HOn.out g hgt
     obtain ⟨o,ho⟩:∃ o,t.1.2.2.2.2[g]=o:=⟨_,rfl⟩
     rw [ho] at hGx hSe hco
     obtain ⟨ns,hns⟩:∃ m,o.2.2.2.1.length=m:=⟨_,rfl⟩
     rw [hns] at hSe hco
     obtain ⟨x1,x2,x3,x4,x5,x6,rfl,rfl,rfl,rfl⟩:=zcn hGx
     obtain ⟨ev,hev⟩:∃ e,sD o.1=.string e:=⟨_,rfl⟩
     obtain ⟨tg,htg⟩:∃ e,sD o.2.2.1=.string e:=⟨_,rfl⟩
     obtain ⟨gb,hgb⟩:∃ x,o.2.1.1=x:=⟨_,rfl⟩
     obtain ⟨ol,hol⟩:∃ x,o.2.2.2.2.1=x:=⟨_,rfl⟩
     obtain ⟨oc,hoc⟩:∃ x,o.2.2.2.2.2=x:=⟨_,rfl⟩
     rw [hev,htg,hgb,hol,hoc] at hco
     have O0:=(hbr.cell (p:=⟨bo,oo+g*10+0,none⟩) hbl2).trans (hco 0 _ rfl)
     have O1:=(hbr.cell (p:=⟨bo,oo+g*10+1,none⟩) hbl2).trans (hco 1 _ rfl)
     have O2:=(hbr.cell (p:=⟨bo,oo+g*10+2,none⟩) hbl2).trans (hco 2 _ rfl)
     have O3:=(hbr.cell (p:=⟨bo,oo+g*10+3,none⟩) hbl2).trans (hco 3 _ rfl)
     have O4:=(hbr.cell (p:=⟨bo,oo+g*10+4,none⟩) hbl2).trans (hco 4 _ rfl)
     have O5:=(hbr.cell (p:=⟨bo,oo+g*10+5,none⟩) hbl2).trans (hco 5 _ rfl)
     have O6:=(hbr.cell (p:=⟨bo,oo+g*10+6,none⟩) hbl2).trans (hco 6 _ rfl)
     have O7:=(hbr.cell (p:=⟨bo,oo+g*10+7,none⟩) hbl2).trans (hco 7 _ rfl)
     have O8:=(hbr.cell (p:=⟨bo,oo+g*10+8,none⟩) hbl2).trans (hco 8 _ rfl)
     have O9:=(hbr.cell (p:=⟨bo,oo+g*10+9,none⟩) hbl2).trans (hco 9 _ rfl)
     rw [Nat.add_zero] at O0
     have i3:(g:Int) < (m:Int):=by omega
     have i4:(0:Int)<=(g:Int):=by omega
     have HEL:Hid (∀ wz,(∀ k,k < lim->wz.heap[k]?=w.heap[k]?)->∀ lo,(R2 lim w zba) (fun k=>lo<=k) wz (dtO o) [.string ev,.bool gb,.int .i64 x1,.int .i64 x2,.string x3,.slice x4 x5 x6,.string tg,.slice s1 ns s3,.int .i64 0,.int .i64 0]):=fun wz hz lo=>by
      refine R2.into zap ?_ hz
      refine ⟨_,_,_,_,.slice s1 ns s3,?_,RdX.keep hGx (fun k hk hl=>⟨Or.inl hk,hz k hk⟩),hSe.stay zU (fun k hk hl=>⟨Or.inl hk,hz k hk⟩)⟩
      show _=[sD o.1,.bool o.2.1.1,_,_,_,_,sD o.2.2.1,_,.int .i64 0,.int .i64 0]
      rw [hev,htg,hgb]
     have HO2:Hid (t.1.2.2.2.2[g]=o):=ho
     have halo:=(Below.refl wr.heap.size wr).alloc zn2 (.cells #[.string ev,.bool gb,.int .i64 x1,.int .i64 x2,.string x3,.slice x4 x5 x6,.string tg,.slice s1 ns s3,.int .i64 ol,.int .i64 oc] 82)
     have hOb0:Bn (wr.alloc (.cells #[.string ev,.bool gb,.int .i64 x1,.int .i64 x2,.string x3,.slice x4 x5 x6,.string tg,.slice s1 ns s3,.int .i64 ol,.int .i64 oc] 82)) wr.heap.size [.string ev,.bool gb,.int .i64 x1,.int .i64 x2,.string x3,.slice x4 x5 x6,.string tg,.slice s1 ns s3,.int .i64 ol,.int .i64 oc]:=Bn.new wr [.string ev,.bool gb,.int .i64 x1,.int .i64 x2,.string x3,.slice x4 x5 x6,.string tg,.slice s1 ns s3,.int .i64 ol,.int .i64 oc] 82 _ rfl
     clear hco hev htg hol hoc hgb ho hSe hns hGx
     go_upto_region 11 with fail
     clear O0 O1 O2 O3 O4 O5 O6 O7 O8 O9 C9
     obtain ⟨w2,hw2⟩:∃ x,x=wr:=⟨_,rfl⟩
     subst hw2
     obtain ⟨O,hOO⟩:∃ O,w2.heap.size=O:=⟨_,rfl⟩
     have hle:w2.heap.size<=O:=Nat.le_of_eq hOO
     rw [hOO] at hOb0 ⊢
     generalize (w2.alloc (.cells #[.string ev,.bool gb,.int .i64 x1,.int .i64 x2,.string x3,.slice x4 x5 x6,.string tg,.slice s1 ns s3,.int .i64 ol,.int .i64 oc] 82))=we at *
     obtain ⟨e8,f8⟩:=hOb0 8 _ rfl
     obtain ⟨e9,f9⟩:=hOb0 9 _ rfl
     go_upto_region 12 with fail
     have hOB:=(hOb0.set (i:=8) (by simp) (.int .i64 0)).set (i:=9) (by simp) (.int .i64 0)
     have hb4:=zf (zf halo O 8 (.int .i64 0) hle) O 9 (.int .i64 0) hle
     clear hOb0 e8 f8 e9 f9 halo
     generalize (we.setCell ⟨O,8,none⟩ (.int .i64 0)).setCell ⟨O,9,none⟩ (.int .i64 0)=w3 at *
     have hQ4:=hQB.on hb4
     have hRow4:=hRow.on (zdP zap) hb4
     have hb34:=hbr.trans (hb4.mono hbr.size)
     have hel:=HEL.out w3 (fun k hk=>hb34.block k (zn4 hk hlim)) w2.heap.size
     obtain ⟨k9,j9⟩:=hQ4 9 _ rfl
     have hws4:wk.heap.size<=w3.heap.size:=zn5 hFs hb4.size
     have t0:=(hOB 0 _ rfl).1
     have t1:=(hOB 1 _ rfl).1
     have t2:=(hOB 2 _ rfl).1
     have t3:=(hOB 3 _ rfl).1
     have t4:=(hOB 4 _ rfl).1
     have t5:=(hOB 5 _ rfl).1
     have t6:=(hOB 6 _ rfl).1
     have t7:=(hOB 7 _ rfl).1
     have t8:=(hOB 8 _ rfl).1
     have t9:=(hOB 9 _ rfl).1
     go_wp2_with (first
      | (at_builtin;refine zag w3 rfl _ _ 74 rfl wk.heap.size (fun _=>False) 82 io (.agg #[.string ⟨#[]⟩,.bool false,.int .i64 0,.int .i64 0,.string ⟨#[]⟩,.slice none 0 0,.string ⟨#[]⟩,.slice none 0 0,.int .i64 0,.int .i64 0]) 10 136 Tryz.underlying74 hio hio0 hio1 hio2 rfl (zdP zap) (.slice ra g rc) acg (dtO o) [.string ev,.bool gb,.int .i64 x1,.int .i64 x2,.string x3,.slice x4 x5 x6,.string tg,.slice s1 ns s3,.int .i64 0,.int .i64 0] w2.heap.size rfl rfl rfl (by simp [Value.oneCell']) hRow4 hel hFs (fun x hx=>(hRow.lt x hx).2) (fun b hb=>hb.elim) (by omega) (by unfold maxLen;omega) hws4 ?_;intro vb wb2 hOb2 hgb2 hbb hat;have hBb:=hQ4.blk (hbb.block _ hql);obtain ⟨m9,n9⟩:=hBb 9 _ rfl;obtain ⟨vba,vbc,hvb,hvbl,hvbm⟩:=hOb2.form;rw [List.length_append,List.length_singleton,hlg] at hvb;subst hvb)
      | fail)
     have hBc:=hBb.set (i:=9) (by simp) (.slice vba (g+1) vbc)
     have hRc:=hOb2.set (zdP zap) (X:=S) (i:=9) hql (.slice vba (g+1) vbc)
     have hFc:=((hF.andD hb4 hFs).andD hbb zn2).setX (i:=9) (.slice vba (g+1) vbc)
     have hac2:(t.1.2.2.2.2.map dtO).take (g+1)=acg++[dtO o]:=by rw [List.take_succ_eq_append_getElem (by rw [List.length_map];exact hgt),HACG.out,List.getElem_map,HO2.out]
     clear k9 j9 hBb m9 n9 hOb2 hgb2 hbb hat hQ4 hRow4 t0 t1 t2 t3 t4 t5 t6 t7 t8 t9
     go_wp2
     go_roundw
     case rel=>exact ⟨g+1,_,hgl,by go_num,hBc,by rw [hac2];exact hRc,hFc⟩
     case measure=>simp [RowKit.intOf];omega
    ·have i3:¬ (g:Int) < (m:Int):=by omega
     have hgm:g=m:=by omega
     subst hgm
     have hfull:acg=t.1.2.2.2.2.map dtO:=by rw [<- HACG.out];exact List.take_of_length_le (by rw [List.length_map,HM.out];omega)
     have hlw:∀ k,k < lim->wr.heap[k]?=w.heap[k]?:=fun k hk=>hbr.block k (zn4 hk hlim)
     have hons:RdK (fun k=>k < lim∨S+1<=k) wr 10 (zba (fun k=>k < lim∨S+1<=k) wr) (t.1.2.2.2.2.map dtO) (.slice ra g rc):=by
      rw [<- hfull]
      exact (R2.row zap (hRow.rd (zdP zap)) hlw).stay zap (fun b hb hl=>⟨by omega,rfl⟩)
     have hinn:RdK (fun k=>k < lim∨S+1<=k) wr 11 (zad d (fun k=>k < lim∨S+1<=k) wr) (t.2.map (dtS d)) (.slice iq i ic):=hQr.stay (zy d) (fun b hb hl=>⟨hb,hF.block b hl (fun e=>by have e2:b=S:=Option.some.inj e;omega)⟩)
     have hel0:zad (d+1) (fun k=>k < lim∨S+1<=k) wr (dtS (d+1) t) [.string sn,.int .i64 0,.int .i64 0,.bool sb,.bool se,.string sd,.string su,.int .i64 sw,.int .i64 sr,.slice ra g rc,.slice iq i ic]:=⟨_,_,(congrFun (congrFun HSD.out (.slice ra g rc)) (.slice iq i ic)).symm,hons,hinn⟩
     have hel:(R2 lim w (zad (d+1))) (fun k=>S+1<=k) wr (dtS (d+1) t) [.string sn,.int .i64 0,.int .i64 0,.bool sb,.bool se,.string sd,.string su,.int .i64 sw,.int .i64 sr,.slice ra g rc,.slice iq i ic]:=R2.into (zy _) hel0 hlw
     have hF2:=hF0.trans hF
     have hOr2:=hO'.keep (zdP (zy _)) (bad':=fun _=>False) (w':=wr) (fun b hb hbad hl=>⟨hF2.block b hl (fun e=>hbad (Option.some.inj e)),fun q=>q⟩)
     have hbs:=hbr.size
     have t0:=(hQB 0 _ rfl).1
     have t1:=(hQB 1 _ rfl).1
     have t2:=(hQB 2 _ rfl).1
     have t3:=(hQB 3 _ rfl).1
     have t4:=(hQB 4 _ rfl).1
     have t5:=(hQB 5 _ rfl).1
     have t6:=(hQB 6 _ rfl).1
     have t7:=(hQB 7 _ rfl).1
     have t8:=(hQB 8 _ rfl).1
     have t9:=(hQB 9 _ rfl).1
     have t10:=(hQB 10 _ rfl).1
     go_wp2_with (first
      | (at_builtin;refine zag wr rfl _ _ 25 rfl w.heap.size (fun _=>False) 76 is (.agg #[.string ⟨#[]⟩,.int .i64 0,.int .i64 0,.bool false,.bool false,.string ⟨#[]⟩,.string ⟨#[]⟩,.int .i64 0,.int .i64 0,.slice none 0 0,.slice none 0 0]) 11 136 Tryz.underlying25 his his0 his1 his2 rfl (zdP (zy _)) (.slice va j vc) ((l.map (dtS (d+1))).take j) (dtS (d+1) t) [.string sn,.int .i64 0,.int .i64 0,.bool sb,.bool se,.string sd,.string su,.int .i64 sw,.int .i64 sr,.slice ra g rc,.slice iq i ic] (S+1) rfl rfl rfl (by simp [Value.oneCell']) hOr2 hel (by omega) (fun x hx=>by have:=(hO'.lt x hx).2;omega) (fun b hb=>hb.elim) (by rw [hlj];omega) (by rw [hlj];unfold maxLen;omega) hbs ?_;intro vb wb2 hOb2 hgb2 hbb hat;obtain ⟨vba,vbc,hvb,hvbl,hvbm⟩:=hOb2.form;rw [List.length_append,List.length_singleton,hlj] at hvb;subst hvb)
      | fail)
     have hac2:(l.map (dtS (d+1))).take (j+1)=(l.map (dtS (d+1))).take j++[dtS (d+1) t]:=by rw [List.take_succ_eq_append_getElem (by rw [List.length_map];exact hjl),List.getElem_map,HT.out]
     have hbz:=hbr.trans hbb
     clear hgb2 hbb hat t0 t1 t2 t3 t4 t5 t6 t7 t8 t9 t10
     go_wp2
     go_roundw
     case rel=>exact ⟨j+1,hlt,by go_num,by rw [hac2];exact hOb2,hbz⟩
     case measure=>simp [RowKit.intOf];omega
  ·have i1:¬ (j:Int) < (n:Int):=by omega
   have hjn:(l.map (dtS (d+1))).take j=l.map (dtS (d+1)):=List.take_of_length_le (by rw [List.length_map,HN.out];omega)
   rw [hjn] at hO
   go_wp2
   go_ret
   refine ⟨_,rfl,?_,hb⟩
   exact R2.row (zy _) (hO.rd (zdP (zy _))) (fun k hk=>hb.block k (zn4 hk hlim))
theorem zjO:∀ (d:Nat),DtC d
 | 0=>zlH
 | d+1=>zlw d (zjO d)
def OkO (o:OnC):Prop:=ClX o.2.1.2/\(o.2.1.1=false->o.2.1.2=noX)/\(o.2.1.1=true->∃ u y,exX o.2.1.2=.iface u y)/\(∀ x∈o.2.2.2.1,ClX x.2)/\o.2.2.2.1.length<=3001
def OkS:(d:Nat)->St d->Prop
 | 0,t=>Empty.elim t
 | d+1,t=>(∀ o∈t.1.2.2.2.2,OkO o)/\t.1.2.2.2.2.length<=3001/\t.2.length<=3001/\∀ x∈t.2,OkS d x
end Go.Proofs.YtlkdaldfklaicaaGreatDoor
namespace Go.Proofs.YtlkdaldfklaicaaGreatDoor
open Go.RowKit Go.Lib
set_option linter.unusedSimpArgs false
set_option linter.unusedVariables false
attribute [local go_sem ↓] Go.wp_at_zero Go.wp_at_succ
attribute [local go_sem] zcl zcb zbI zcc zbN zbF zcj zbx zbK zbz zcm zbM zbL zbE zbA
theorem zg4 (w:World):(Instr.typeAssert .nilIface 87 117 true).run Tryz.prog w=.ok (.tuple #[.agg #[.int .i64 0],.bool false]) w:=by kernel_rfl
theorem zha (w:World):(Instr.typeAssert .nilIface 87 119 true).run Tryz.prog w=.ok (.tuple #[.agg #[.string ⟨#[]⟩],.bool false]) w:=by kernel_rfl
theorem zhB (w:World):(Instr.typeAssert .nilIface 87 121 true).run Tryz.prog w=.ok (.tuple #[.agg #[.nilIface],.bool false]) w:=by kernel_rfl
theorem zhI (w:World):(Instr.typeAssert .nilIface 87 122 true).run Tryz.prog w=.ok (.tuple #[.agg #[.nilIface],.bool false]) w:=by kernel_rfl
theorem zhC (w:World):(Instr.typeAssert .nilIface 87 124 true).run Tryz.prog w=.ok (.tuple #[.agg #[.string ⟨#[]⟩,.nilIface,.nilIface],.bool false]) w:=by kernel_rfl
attribute [local go_sem] zg4 zha zhB zhI zhC
theorem zml {ok:Nat->Prop}{N:Nat}{w:World}{d:Nat}{x y:T d}{s:ByteArray}{c0 c1 c2 c3 e0 e1 e2 e3:Value}(h:RdT ok w d x (.agg #[c0,c1,c2,c3])) (h':RdT ok w d y (.agg #[e0,e1,e2,e3])) (hN:ok N)
  (k0:w.cell? ⟨N,0,none⟩=some c0) (k1:w.cell? ⟨N,1,none⟩=some c1) (k2:w.cell? ⟨N,2,none⟩=some c2) (k3:w.cell? ⟨N,3,none⟩=some c3)
  (k4:w.cell? ⟨N,4,none⟩=some e0) (k5:w.cell? ⟨N,5,none⟩=some e1) (k6:w.cell? ⟨N,6,none⟩=some e2) (k7:w.cell? ⟨N,7,none⟩=some e3) :
  RdT ok w (d+1) (mkT 5 0 s [x,y]) (.agg #[.int .i64 5,.int .i64 0,.string s,.slice (some ⟨N,0,none⟩) 2 2]):=by
 refine zaT.2 ⟨_,rfl,some ⟨N,0,none⟩,2,rfl,by simp,by simp [maxLen],by simp,fun z hz i hi=>?_⟩
 obtain rfl:=Option.some.inj hz
 have hi2:i=0∨i=1:=by simp at hi;omega
 rcases hi2 with rfl|rfl
 ·exact ⟨hN,c0,c1,c2,c3,h,k0,k1,k2,k3⟩
 ·exact ⟨hN,e0,e1,e2,e3,h',k4,k5,k6,k7⟩
theorem zaB {w4:World}{R:Nat}{a b c e:Value}{tmps:Array Value}(hB:B4 w4 R a b c e) (ht:tmps.getD 2 undef=.pointer (some ⟨R,0,none⟩)):(results Tryz.f38 tmps).run Tryz.prog w4=.ok (.agg #[a,b,c,e]) w4:=by
 obtain ⟨c0,c1,c2,c3,_,_,_,_⟩:=hB
 have ht':tmps[2]?.getD undef=.pointer (some ⟨R,0,none⟩):=by simpa using ht
 simp [results,Tryz.results38,go_sem,ht',c0,c1,c2,c3]
def zic (d:Nat):Prop:=∀ (t:T d) (w:World),Cl d t->Calls Tryz.prog 38 #[exV d t] w fun e w'=>∃ u,e=.returned u/\RdT (fun b=>w.heap.size<=b) w' d t u/\Below w.heap.size w w'
theorem zav {ok:Nat->Prop}{w:World}{d:Nat}{t:T d}{v:Value}(h:RdT ok w d t v):∃ k n s a m c,v=.agg #[.int .i64 k,.int .i64 n,.string s,.slice a m c]:=RdX.form (x:=⟨d,t⟩) h
theorem zju (w:World) (a b c:Value) (t:TypeId) (n:Nat) (hn:n=w.heap.size):(w.alloc (.cells #[a,b,c] t)).cell? ⟨n,0,none⟩=some a/\(w.alloc (.cells #[a,b,c] t)).cell? ⟨n,1,none⟩=some b/\(w.alloc (.cells #[a,b,c] t)).cell? ⟨n,2,none⟩=some c:=by subst hn;simp
theorem zdn {N:Nat}{w8:World}{d:Nat}{x y:T d}{s:ByteArray}{c0 c1 c2 c3 e0 e1 e2 e3:Value}(hx:RdT (fun b=>N < b) w8 d x (.agg #[c0,c1,c2,c3])) (hy:RdT (fun b=>N < b) w8 d y (.agg #[e0,e1,e2,e3])) (hl:N < w8.heap.size) :
  RdT (fun b=>N<=b) (put4 (w8.alloc (.cells #[c0,c1,c2,c3,e0,e1,e2,e3] 79)) N (.int .i64 5) (.int .i64 0) (.string s) (.slice (some ⟨w8.heap.size,0,none⟩) 2 2)) (d+1) (mkT 5 0 s [x,y]) (.agg #[.int .i64 5,.int .i64 0,.string s,.slice (some ⟨w8.heap.size,0,none⟩) 2 2]):=by
 have h9:=(Below.refl w8.heap.size w8).alloc zn2 (.cells #[c0,c1,c2,c3,e0,e1,e2,e3] 79)
 have hblk:∀ b,N < b->b < w8.heap.size->(put4 (w8.alloc (.cells #[c0,c1,c2,c3,e0,e1,e2,e3] 79)) N (.int .i64 5) (.int .i64 0) (.string s) (.slice (some ⟨w8.heap.size,0,none⟩) 2 2)).heap[b]?=w8.heap[b]?:=fun b hb hl=>by
  rw [zaf (by omega),h9.block b hl]
 have hc:∀ i (u:Value),(#[c0,c1,c2,c3,e0,e1,e2,e3]:Array Value)[i]?=some u->(put4 (w8.alloc (.cells #[c0,c1,c2,c3,e0,e1,e2,e3] 79)) N (.int .i64 5) (.int .i64 0) (.string s) (.slice (some ⟨w8.heap.size,0,none⟩) 2 2)).cell? ⟨w8.heap.size,i,none⟩=some u:=fun i u hu=>
  (World.cell?_of_block (a:=⟨w8.heap.size,i,none⟩) (zaf (by show N≠w8.heap.size;omega) _ _ _ _)).trans ((cell_of_row _ _ i _ _ (0,0) (heap_alloc_new w8 _)).trans hu)
 exact zml (RdT.keep (fun b hb hlt=>⟨Nat.le_of_lt hb,hblk b hb hlt⟩) hx) (RdT.keep (fun b hb hlt=>⟨Nat.le_of_lt hb,hblk b hb hlt⟩) hy) (Nat.le_of_lt hl) (hc 0 _ rfl) (hc 1 _ rfl) (hc 2 _ rfl) (hc 3 _ rfl) (hc 4 _ rfl) (hc 5 _ rfl) (hc 6 _ rfl) (hc 7 _ rfl)
theorem zkj {d:Nat}(IH:zic d) (s:ByteArray) (p q:T d) (hp:Cl d p) (hq:Cl d q) (w:World) :
  Calls Tryz.prog 38 #[.iface 124 (.agg #[.string s,exV d p,exV d q])] w fun e w'=>∃ u,e=.returned u/\RdT (fun b=>w.heap.size<=b) w' (d+1) (mkT 5 0 s [p,q]) u/\Below w.heap.size w w':=by
 have hb0:=alN w
 have hR0:B4 (w.alloc zN) w.heap.size (.int .i64 0) (.int .i64 0) (.string ⟨#[]⟩) (.slice none 0 0):=B4.new w _ _ _ _ _ _ rfl
 have hs0:(w.alloc zN).heap.size=w.heap.size+1:=by simp
 have hI:=fun w1=>IH p w1 hp
 have hJ:=fun w1=>IH q w1 hq
 have hpf:=zaz d p
 have hqf:=zaz d q
 obtain ⟨pv,hpv⟩:∃ pv,exV d p=pv:=⟨_,rfl⟩
 obtain ⟨qv,hqv⟩:∃ qv,exV d q=qv:=⟨_,rfl⟩
 rw [hpv,hqv]
 simp only [hpv] at hI hpf
 simp only [hqv] at hJ hqf
 clear hpv hqv
 have hR1:=fun v=>hR0.keep ((Below.refl _ (w.alloc zN)).alloc zn2 (.cells #[.string s,pv,v] 124))
 have hb1:=hb0.alloc hb0.size (.cells #[.string s,pv,qv] 124)
 have hs1:((w.alloc zN).alloc (.cells #[.string s,pv,qv] 124)).heap.size=w.heap.size+2:=by simp
 have hc1:=zju (w.alloc zN) (.string s) pv qv 124 (w.heap.size+1) hs0.symm
 have hR1:=hR1 qv
 rcases hpf with rfl|⟨pu,py,rfl⟩<;>rcases hqf with rfl|⟨qu,qy,rfl⟩
 ·go_enter Tryz.func38,Tryz.ntmps38
  go_upto_region 16 with fail
  obtain ⟨c1,c2,c3⟩:=hc1
  clear hs0 hb0 hR0
  generalize (w.alloc zN).alloc (.cells #[.string s,.nilIface,.nilIface] 124)=w1 at *
  go_region_held_law (fun w'=>w'.cell? ⟨w.heap.size+1,0,none⟩=some (.string s)/\w'.cell? ⟨w.heap.size+1,1,none⟩=some (.nilIface)/\w'.cell? ⟨w.heap.size+1,2,none⟩=some (.nilIface))
   (first|(with_reducible exact ⟨c1,c2,c3⟩)|(with_reducible exact ⟨d1,d2,d3⟩)|(with_reducible exact ⟨e1,e2,e3⟩)|(with_reducible exact ⟨f1,f2,f3⟩)|go_keep)
   ((first
    | (go_at_call 38;(with_reducible refine (hJ _).mono ?_);rintro e w4 ⟨v4,rfl,hy4,b4⟩;obtain ⟨yk,ym,ys,ya,yl,yc,rfl⟩:=zav hy4;have e1:=(b4.cell (p:=⟨w.heap.size+1,0,none⟩) (World.block_lt_of_cell? _ _ d1)).trans d1;have e2:=(b4.cell (p:=⟨w.heap.size+1,1,none⟩) (World.block_lt_of_cell? _ _ d2)).trans d2;have e3:=(b4.cell (p:=⟨w.heap.size+1,2,none⟩) (World.block_lt_of_cell? _ _ d3)).trans d3;have ha5:=(Below.refl w4.heap.size w4).alloc zn2 (.cells #[.int .i64 xk,.int .i64 xm,.string xs,.slice xa xl xc,.int .i64 yk,.int .i64 ym,.string ys,.slice ya yl yc] 79);have hR5:=((hR1.keep b3').keep b4).keep ha5;obtain ⟨r0,r1,r2,r3,r4,r5,r6,r7⟩:=id hR5;have f1:=(ha5.cell (p:=⟨w.heap.size+1,0,none⟩) (World.block_lt_of_cell? _ _ e1)).trans e1;have f2:=(ha5.cell (p:=⟨w.heap.size+1,1,none⟩) (World.block_lt_of_cell? _ _ e2)).trans e2;have f3:=(ha5.cell (p:=⟨w.heap.size+1,2,none⟩) (World.block_lt_of_cell? _ _ e3)).trans e3)
    | (go_at_call 38;(with_reducible refine (hI _).mono ?_);rintro e w3 ⟨v3,rfl,hx3,b3⟩;obtain ⟨xk,xm,xs,xa,xl,xc,rfl⟩:=zav hx3;have b3':Below w1.heap.size w1 w3:=((Below.refl _ w1).drew).trans b3;have d1:=(b3'.cell (p:=⟨w.heap.size+1,0,none⟩) (World.block_lt_of_cell? _ _ c1)).trans c1;have d2:=(b3'.cell (p:=⟨w.heap.size+1,1,none⟩) (World.block_lt_of_cell? _ _ c2)).trans c2;have d3:=(b3'.cell (p:=⟨w.heap.size+1,2,none⟩) (World.block_lt_of_cell? _ _ c3)).trans c3)))
  go_wp2
  have hs3:=b3'.size
  have hs4:=b4.size
  have hb4:=(hb1.trans (b3'.mono hb1.size)).trans (b4.mono (by omega))
  have hb5:=hb4.alloc (by omega) (.cells #[.int .i64 xk,.int .i64 xm,.string xs,.slice xa xl xc,.int .i64 yk,.int .i64 ym,.string ys,.slice ya yl yc] 79)
  exact bodyPost_ret (zaB (hR5.put _ _ _ _) rfl) rfl ⟨_,rfl,zdn (RdT.keep (ok':=fun b=>w.heap.size < b) (fun b hb hl=>⟨by have:w1.heap.size<=b:=hb;omega,b4.block b hl⟩) hx3) (RdT.keep (ok':=fun b=>w.heap.size < b) (fun b hb hl=>⟨by omega,rfl⟩) hy4) (by omega),zD hb5 zn2 _ _ _ _⟩
 ·go_enter Tryz.func38,Tryz.ntmps38
  go_upto_region 16 with fail
  obtain ⟨c1,c2,c3⟩:=hc1
  clear hs0 hb0 hR0
  generalize (w.alloc zN).alloc (.cells #[.string s,.nilIface,.iface qu qy] 124)=w1 at *
  go_region_held_law (fun w'=>w'.cell? ⟨w.heap.size+1,0,none⟩=some (.string s)/\w'.cell? ⟨w.heap.size+1,1,none⟩=some (.nilIface)/\w'.cell? ⟨w.heap.size+1,2,none⟩=some (.iface qu qy))
   (first|(with_reducible exact ⟨c1,c2,c3⟩)|(with_reducible exact ⟨d1,d2,d3⟩)|(with_reducible exact ⟨e1,e2,e3⟩)|(with_reducible exact ⟨f1,f2,f3⟩)|go_keep)
   ((first
    | (go_at_call 38;(with_reducible refine (hJ _).mono ?_);rintro e w4 ⟨v4,rfl,hy4,b4⟩;obtain ⟨yk,ym,ys,ya,yl,yc,rfl⟩:=zav hy4;have e1:=(b4.cell (p:=⟨w.heap.size+1,0,none⟩) (World.block_lt_of_cell? _ _ d1)).trans d1;have e2:=(b4.cell (p:=⟨w.heap.size+1,1,none⟩) (World.block_lt_of_cell? _ _ d2)).trans d2;have e3:=(b4.cell (p:=⟨w.heap.size+1,2,none⟩) (World.block_lt_of_cell? _ _ d3)).trans d3;have ha5:=(Below.refl w4.heap.size w4).alloc zn2 (.cells #[.int .i64 xk,.int .i64 xm,.string xs,.slice xa xl xc,.int .i64 yk,.int .i64 ym,.string ys,.slice ya yl yc] 79);have hR5:=((hR1.keep b3').keep b4).keep ha5;obtain ⟨r0,r1,r2,r3,r4,r5,r6,r7⟩:=id hR5;have f1:=(ha5.cell (p:=⟨w.heap.size+1,0,none⟩) (World.block_lt_of_cell? _ _ e1)).trans e1;have f2:=(ha5.cell (p:=⟨w.heap.size+1,1,none⟩) (World.block_lt_of_cell? _ _ e2)).trans e2;have f3:=(ha5.cell (p:=⟨w.heap.size+1,2,none⟩) (World.block_lt_of_cell? _ _ e3)).trans e3)
    | (go_at_call 38;(with_reducible refine (hI _).mono ?_);rintro e w3 ⟨v3,rfl,hx3,b3⟩;obtain ⟨xk,xm,xs,xa,xl,xc,rfl⟩:=zav hx3;have b3':Below w1.heap.size w1 w3:=((Below.refl _ w1).drew).trans b3;have d1:=(b3'.cell (p:=⟨w.heap.size+1,0,none⟩) (World.block_lt_of_cell? _ _ c1)).trans c1;have d2:=(b3'.cell (p:=⟨w.heap.size+1,1,none⟩) (World.block_lt_of_cell? _ _ c2)).trans c2;have d3:=(b3'.cell (p:=⟨w.heap.size+1,2,none⟩) (World.block_lt_of_cell? _ _ c3)).trans c3)))
  go_wp2
  have hs3:=b3'.size
  have hs4:=b4.size
  have hb4:=(hb1.trans (b3'.mono hb1.size)).trans (b4.mono (by omega))
  have hb5:=hb4.alloc (by omega) (.cells #[.int .i64 xk,.int .i64 xm,.string xs,.slice xa xl xc,.int .i64 yk,.int .i64 ym,.string ys,.slice ya yl yc] 79)
  exact bodyPost_ret (zaB (hR5.put _ _ _ _) rfl) rfl ⟨_,rfl,zdn (RdT.keep (ok':=fun b=>w.heap.size < b) (fun b hb hl=>⟨by have:w1.heap.size<=b:=hb;omega,b4.block b hl⟩) hx3) (RdT.keep (ok':=fun b=>w.heap.size < b) (fun b hb hl=>⟨by omega,rfl⟩) hy4) (by omega),zD hb5 zn2 _ _ _ _⟩
 ·go_enter Tryz.func38,Tryz.ntmps38
  go_upto_region 16 with fail
  obtain ⟨c1,c2,c3⟩:=hc1
  clear hs0 hb0 hR0
  generalize (w.alloc zN).alloc (.cells #[.string s,.iface pu py,.nilIface] 124)=w1 at *
  go_region_held_law (fun w'=>w'.cell? ⟨w.heap.size+1,0,none⟩=some (.string s)/\w'.cell? ⟨w.heap.size+1,1,none⟩=some (.iface pu py)/\w'.cell? ⟨w.heap.size+1,2,none⟩=some (.nilIface))
   (first|(with_reducible exact ⟨c1,c2,c3⟩)|(with_reducible exact ⟨d1,d2,d3⟩)|(with_reducible exact ⟨e1,e2,e3⟩)|(with_reducible exact ⟨f1,f2,f3⟩)|go_keep)
   ((first
    | (go_at_call 38;(with_reducible refine (hJ _).mono ?_);rintro e w4 ⟨v4,rfl,hy4,b4⟩;obtain ⟨yk,ym,ys,ya,yl,yc,rfl⟩:=zav hy4;have e1:=(b4.cell (p:=⟨w.heap.size+1,0,none⟩) (World.block_lt_of_cell? _ _ d1)).trans d1;have e2:=(b4.cell (p:=⟨w.heap.size+1,1,none⟩) (World.block_lt_of_cell? _ _ d2)).trans d2;have e3:=(b4.cell (p:=⟨w.heap.size+1,2,none⟩) (World.block_lt_of_cell? _ _ d3)).trans d3;have ha5:=(Below.refl w4.heap.size w4).alloc zn2 (.cells #[.int .i64 xk,.int .i64 xm,.string xs,.slice xa xl xc,.int .i64 yk,.int .i64 ym,.string ys,.slice ya yl yc] 79);have hR5:=((hR1.keep b3').keep b4).keep ha5;obtain ⟨r0,r1,r2,r3,r4,r5,r6,r7⟩:=id hR5;have f1:=(ha5.cell (p:=⟨w.heap.size+1,0,none⟩) (World.block_lt_of_cell? _ _ e1)).trans e1;have f2:=(ha5.cell (p:=⟨w.heap.size+1,1,none⟩) (World.block_lt_of_cell? _ _ e2)).trans e2;have f3:=(ha5.cell (p:=⟨w.heap.size+1,2,none⟩) (World.block_lt_of_cell? _ _ e3)).trans e3)
    | (go_at_call 38;(with_reducible refine (hI _).mono ?_);rintro e w3 ⟨v3,rfl,hx3,b3⟩;obtain ⟨xk,xm,xs,xa,xl,xc,rfl⟩:=zav hx3;have b3':Below w1.heap.size w1 w3:=((Below.refl _ w1).drew).trans b3;have d1:=(b3'.cell (p:=⟨w.heap.size+1,0,none⟩) (World.block_lt_of_cell? _ _ c1)).trans c1;have d2:=(b3'.cell (p:=⟨w.heap.size+1,1,none⟩) (World.block_lt_of_cell? _ _ c2)).trans c2;have d3:=(b3'.cell (p:=⟨w.heap.size+1,2,none⟩) (World.block_lt_of_cell? _ _ c3)).trans c3)))
  go_wp2
  have hs3:=b3'.size
  have hs4:=b4.size
  have hb4:=(hb1.trans (b3'.mono hb1.size)).trans (b4.mono (by omega))
  have hb5:=hb4.alloc (by omega) (.cells #[.int .i64 xk,.int .i64 xm,.string xs,.slice xa xl xc,.int .i64 yk,.int .i64 ym,.string ys,.slice ya yl yc] 79)
  exact bodyPost_ret (zaB (hR5.put _ _ _ _) rfl) rfl ⟨_,rfl,zdn (RdT.keep (ok':=fun b=>w.heap.size < b) (fun b hb hl=>⟨by have:w1.heap.size<=b:=hb;omega,b4.block b hl⟩) hx3) (RdT.keep (ok':=fun b=>w.heap.size < b) (fun b hb hl=>⟨by omega,rfl⟩) hy4) (by omega),zD hb5 zn2 _ _ _ _⟩
 ·go_enter Tryz.func38,Tryz.ntmps38
  go_upto_region 16 with fail
  obtain ⟨c1,c2,c3⟩:=hc1
  clear hs0 hb0 hR0
  generalize (w.alloc zN).alloc (.cells #[.string s,.iface pu py,.iface qu qy] 124)=w1 at *
  go_region_held_law (fun w'=>w'.cell? ⟨w.heap.size+1,0,none⟩=some (.string s)/\w'.cell? ⟨w.heap.size+1,1,none⟩=some (.iface pu py)/\w'.cell? ⟨w.heap.size+1,2,none⟩=some (.iface qu qy))
   (first|(with_reducible exact ⟨c1,c2,c3⟩)|(with_reducible exact ⟨d1,d2,d3⟩)|(with_reducible exact ⟨e1,e2,e3⟩)|(with_reducible exact ⟨f1,f2,f3⟩)|go_keep)
   ((first
    | (go_at_call 38;(with_reducible refine (hJ _).mono ?_);rintro e w4 ⟨v4,rfl,hy4,b4⟩;obtain ⟨yk,ym,ys,ya,yl,yc,rfl⟩:=zav hy4;have e1:=(b4.cell (p:=⟨w.heap.size+1,0,none⟩) (World.block_lt_of_cell? _ _ d1)).trans d1;have e2:=(b4.cell (p:=⟨w.heap.size+1,1,none⟩) (World.block_lt_of_cell? _ _ d2)).trans d2;have e3:=(b4.cell (p:=⟨w.heap.size+1,2,none⟩) (World.block_lt_of_cell? _ _ d3)).trans d3;have ha5:=(Below.refl w4.heap.size w4).alloc zn2 (.cells #[.int .i64 xk,.int .i64 xm,.string xs,.slice xa xl xc,.int .i64 yk,.int .i64 ym,.string ys,.slice ya yl yc] 79);have hR5:=((hR1.keep b3').keep b4).keep ha5;obtain ⟨r0,r1,r2,r3,r4,r5,r6,r7⟩:=id hR5;have f1:=(ha5.cell (p:=⟨w.heap.size+1,0,none⟩) (World.block_lt_of_cell? _ _ e1)).trans e1;have f2:=(ha5.cell (p:=⟨w.heap.size+1,1,none⟩) (World.block_lt_of_cell? _ _ e2)).trans e2;have f3:=(ha5.cell (p:=⟨w.heap.size+1,2,none⟩) (World.block_lt_of_cell? _ _ e3)).trans e3)
    | (go_at_call 38;(with_reducible refine (hI _).mono ?_);rintro e w3 ⟨v3,rfl,hx3,b3⟩;obtain ⟨xk,xm,xs,xa,xl,xc,rfl⟩:=zav hx3;have b3':Below w1.heap.size w1 w3:=((Below.refl _ w1).drew).trans b3;have d1:=(b3'.cell (p:=⟨w.heap.size+1,0,none⟩) (World.block_lt_of_cell? _ _ c1)).trans c1;have d2:=(b3'.cell (p:=⟨w.heap.size+1,1,none⟩) (World.block_lt_of_cell? _ _ c2)).trans c2;have d3:=(b3'.cell (p:=⟨w.heap.size+1,2,none⟩) (World.block_lt_of_cell? _ _ c3)).trans c3)))
  go_wp2
  have hs3:=b3'.size
  have hs4:=b4.size
  have hb4:=(hb1.trans (b3'.mono hb1.size)).trans (b4.mono (by omega))
  have hb5:=hb4.alloc (by omega) (.cells #[.int .i64 xk,.int .i64 xm,.string xs,.slice xa xl xc,.int .i64 yk,.int .i64 ym,.string ys,.slice ya yl yc] 79)
  exact bodyPost_ret (zaB (hR5.put _ _ _ _) rfl) rfl ⟨_,rfl,zdn (RdT.keep (ok':=fun b=>w.heap.size < b) (fun b hb hl=>⟨by have:w1.heap.size<=b:=hb;omega,b4.block b hl⟩) hx3) (RdT.keep (ok':=fun b=>w.heap.size < b) (fun b hb hl=>⟨by omega,rfl⟩) hy4) (by omega),zD hb5 zn2 _ _ _ _⟩
theorem ziN (d:Nat) (IH:zic d):zic (d+1):=by
 intro t w hc
 have hb0:=alN w
 have hR0:B4 (w.alloc zN) w.heap.size (.int .i64 0) (.int .i64 0) (.string ⟨#[]⟩) (.slice none 0 0):=B4.new w _ _ _ _ _ _ rfl
 have hs0:(w.alloc zN).heap.size=w.heap.size+1:=by simp
 rcases hc.cases with ⟨n,rfl⟩|⟨s,rfl⟩|⟨k,p,hk,rfl,hp⟩|⟨s,p,q,rfl,hp,hq⟩|rfl
 ·have e:exV (d+1) (mkT 1 n ⟨#[]⟩ []:T (d+1))=.iface 117 (.agg #[.int .i64 n]):=rfl
  rw [e]
  go_enter Tryz.func38,Tryz.ntmps38
  go_upto_region 4 with fail
  have hR1:=hR0.keep ((Below.refl _ (w.alloc zN)).alloc zn2 (.cells #[.int .i64 n] 117))
  have hb1:=hb0.alloc hb0.size (.cells #[.int .i64 n] 117)
  have c1:((w.alloc zN).alloc (.cells #[.int .i64 n] 117)).cell? ⟨w.heap.size+1,0,none⟩=some (.int .i64 n):=zG _ _ _ _ hs0.symm
  generalize (w.alloc zN).alloc (.cells #[.int .i64 n] 117)=w1 at *
  obtain ⟨r0,r1,r2,r3,r4,r5,r6,r7⟩:=id hR1
  go_wp2
  exact bodyPost_ret (zaB (hR1.put _ _ _ _) rfl) rfl ⟨_,rfl,⟨_,rfl,zcA _ _⟩,zD hb1 zn2 _ _ _ _⟩
 ·have e:exV (d+1) (mkT 2 0 s []:T (d+1))=.iface 119 (.agg #[.string s]):=rfl
  rw [e]
  go_enter Tryz.func38,Tryz.ntmps38
  go_upto_region 7 with fail
  have hR1:=hR0.keep ((Below.refl _ (w.alloc zN)).alloc zn2 (.cells #[.string s] 119))
  have hb1:=hb0.alloc hb0.size (.cells #[.string s] 119)
  have c1:((w.alloc zN).alloc (.cells #[.string s] 119)).cell? ⟨w.heap.size+1,0,none⟩=some (.string s):=zG _ _ _ _ hs0.symm
  generalize (w.alloc zN).alloc (.cells #[.string s] 119)=w1 at *
  obtain ⟨r0,r1,r2,r3,r4,r5,r6,r7⟩:=id hR1
  go_wp2
  exact bodyPost_ret (zaB (hR1.put _ _ _ _) rfl) rfl ⟨_,rfl,⟨_,rfl,zcA _ _⟩,zD hb1 zn2 _ _ _ _⟩
 ·have hI:=fun w1=>IH p w1 hp
  have hpf:=zaz d p
  obtain ⟨pv,hpv⟩:∃ pv,exV d p=pv:=⟨_,rfl⟩
  have e:exV (d+1) (mkT k 0 ⟨#[]⟩ [p]:T (d+1))=if k=3 then .iface 121 (.agg #[pv]) else .iface 122 (.agg #[pv]):=by
   rw [zc2,if_neg (by omega),if_neg (by omega),<- hpv]
   rcases hk with rfl|rfl
   ·rfl
   ·rfl
  rw [e]
  simp only [hpv] at hI hpf
  clear e hpv
  rcases hk with rfl|rfl
  ·rw [if_pos rfl]
   rcases hpf with rfl|⟨pu,py,rfl⟩
   ·go_enter Tryz.func38,Tryz.ntmps38
    go_upto_region 10 with fail
    have ha1:=fun v=>(Below.refl _ (w.alloc zN)).alloc zn2 (.cells #[v] 121)
    have hR1:=hR0.keep (ha1 (.nilIface))
    have hb1:=hb0.alloc hb0.size (.cells #[.nilIface] 121)
    have hs1:((w.alloc zN).alloc (.cells #[.nilIface] 121)).heap.size=w.heap.size+2:=by simp
    have c1:((w.alloc zN).alloc (.cells #[.nilIface] 121)).cell? ⟨w.heap.size+1,0,none⟩=some (.nilIface):=zG _ _ _ _ hs0.symm
    clear ha1 hs0 hb0 hR0
    generalize (w.alloc zN).alloc (.cells #[.nilIface] 121)=w1 at *
    go_wp2_with (first
     | (go_at_call 38;refine (hI _).mono ?_;rintro e w3 ⟨v,rfl,hx3,b3⟩;obtain ⟨xk,xm,xs,xa,xl,xc,rfl⟩:=zav hx3;have ha4:=(Below.refl w3.heap.size w3).alloc zn2 (.cells #[.int .i64 xk,.int .i64 xm,.string xs,.slice xa xl xc] 79);have hR4:=(hR1.keep b3).keep ha4;obtain ⟨r0,r1,r2,r3,r4,r5,r6,r7⟩:=id hR4))
    have hs3:=b3.size
    have hb4:=(hb1.trans (b3.mono hb1.size)).alloc (hb1.trans (b3.mono hb1.size)).size (.cells #[.int .i64 xk,.int .i64 xm,.string xs,.slice xa xl xc] 79)
    obtain ⟨k0,k1,k2,k3⟩:=(At4.new w3 (.int .i64 xk) (.int .i64 xm) (.string xs) (.slice xa xl xc) 79).blkR (w':=put4 (w3.alloc (.cells #[.int .i64 xk,.int .i64 xm,.string xs,.slice xa xl xc] 79)) w.heap.size (.int .i64 3) (.int .i64 0) (.string ⟨#[]⟩) (.slice (some ⟨w3.heap.size,0,none⟩) 1 1)) (zaf (by omega) _ _ _ _)
    exact bodyPost_ret (zaB (hR4.put _ _ _ _) rfl) rfl ⟨_,rfl,zd2 (x:=⟨d,p⟩) (RdX.keep (x:=⟨d,p⟩) hx3 (fun b hb hl=>⟨by omega,(zaf (by omega) _ _ _ _).trans (ha4.block b hl)⟩)) (by omega) k0 k1 k2 k3,zD hb4 zn2 _ _ _ _⟩
   ·go_enter Tryz.func38,Tryz.ntmps38
    go_upto_region 10 with fail
    have ha1:=fun v=>(Below.refl _ (w.alloc zN)).alloc zn2 (.cells #[v] 121)
    have hR1:=hR0.keep (ha1 (.iface pu py))
    have hb1:=hb0.alloc hb0.size (.cells #[.iface pu py] 121)
    have hs1:((w.alloc zN).alloc (.cells #[.iface pu py] 121)).heap.size=w.heap.size+2:=by simp
    have c1:((w.alloc zN).alloc (.cells #[.iface pu py] 121)).cell? ⟨w.heap.size+1,0,none⟩=some (.iface pu py):=zG _ _ _ _ hs0.symm
    clear ha1 hs0 hb0 hR0
    generalize (w.alloc zN).alloc (.cells #[.iface pu py] 121)=w1 at *
    go_wp2_with (first
     | (go_at_call 38;refine (hI _).mono ?_;rintro e w3 ⟨v,rfl,hx3,b3⟩;obtain ⟨xk,xm,xs,xa,xl,xc,rfl⟩:=zav hx3;have ha4:=(Below.refl w3.heap.size w3).alloc zn2 (.cells #[.int .i64 xk,.int .i64 xm,.string xs,.slice xa xl xc] 79);have hR4:=(hR1.keep b3).keep ha4;obtain ⟨r0,r1,r2,r3,r4,r5,r6,r7⟩:=id hR4))
    have hs3:=b3.size
    have hb4:=(hb1.trans (b3.mono hb1.size)).alloc (hb1.trans (b3.mono hb1.size)).size (.cells #[.int .i64 xk,.int .i64 xm,.string xs,.slice xa xl xc] 79)
    obtain ⟨k0,k1,k2,k3⟩:=(At4.new w3 (.int .i64 xk) (.int .i64 xm) (.string xs) (.slice xa xl xc) 79).blkR (w':=put4 (w3.alloc (.cells #[.int .i64 xk,.int .i64 xm,.string xs,.slice xa xl xc] 79)) w.heap.size (.int .i64 3) (.int .i64 0) (.string ⟨#[]⟩) (.slice (some ⟨w3.heap.size,0,none⟩) 1 1)) (zaf (by omega) _ _ _ _)
    exact bodyPost_ret (zaB (hR4.put _ _ _ _) rfl) rfl ⟨_,rfl,zd2 (x:=⟨d,p⟩) (RdX.keep (x:=⟨d,p⟩) hx3 (fun b hb hl=>⟨by omega,(zaf (by omega) _ _ _ _).trans (ha4.block b hl)⟩)) (by omega) k0 k1 k2 k3,zD hb4 zn2 _ _ _ _⟩
  ·rw [if_neg (by decide)]
   rcases hpf with rfl|⟨pu,py,rfl⟩
   ·go_enter Tryz.func38,Tryz.ntmps38
    go_upto_region 13 with fail
    have ha1:=fun v=>(Below.refl _ (w.alloc zN)).alloc zn2 (.cells #[v] 122)
    have hR1:=hR0.keep (ha1 (.nilIface))
    have hb1:=hb0.alloc hb0.size (.cells #[.nilIface] 122)
    have hs1:((w.alloc zN).alloc (.cells #[.nilIface] 122)).heap.size=w.heap.size+2:=by simp
    have c1:((w.alloc zN).alloc (.cells #[.nilIface] 122)).cell? ⟨w.heap.size+1,0,none⟩=some (.nilIface):=zG _ _ _ _ hs0.symm
    clear ha1 hs0 hb0 hR0
    generalize (w.alloc zN).alloc (.cells #[.nilIface] 122)=w1 at *
    go_wp2_with (first
     | (go_at_call 38;refine (hI _).mono ?_;rintro e w3 ⟨v,rfl,hx3,b3⟩;obtain ⟨xk,xm,xs,xa,xl,xc,rfl⟩:=zav hx3;have ha4:=(Below.refl w3.heap.size w3).alloc zn2 (.cells #[.int .i64 xk,.int .i64 xm,.string xs,.slice xa xl xc] 79);have hR4:=(hR1.keep b3).keep ha4;obtain ⟨r0,r1,r2,r3,r4,r5,r6,r7⟩:=id hR4))
    have hs3:=b3.size
    have hb4:=(hb1.trans (b3.mono hb1.size)).alloc (hb1.trans (b3.mono hb1.size)).size (.cells #[.int .i64 xk,.int .i64 xm,.string xs,.slice xa xl xc] 79)
    obtain ⟨k0,k1,k2,k3⟩:=(At4.new w3 (.int .i64 xk) (.int .i64 xm) (.string xs) (.slice xa xl xc) 79).blkR (w':=put4 (w3.alloc (.cells #[.int .i64 xk,.int .i64 xm,.string xs,.slice xa xl xc] 79)) w.heap.size (.int .i64 4) (.int .i64 0) (.string ⟨#[]⟩) (.slice (some ⟨w3.heap.size,0,none⟩) 1 1)) (zaf (by omega) _ _ _ _)
    exact bodyPost_ret (zaB (hR4.put _ _ _ _) rfl) rfl ⟨_,rfl,zd2 (x:=⟨d,p⟩) (RdX.keep (x:=⟨d,p⟩) hx3 (fun b hb hl=>⟨by omega,(zaf (by omega) _ _ _ _).trans (ha4.block b hl)⟩)) (by omega) k0 k1 k2 k3,zD hb4 zn2 _ _ _ _⟩
   ·go_enter Tryz.func38,Tryz.ntmps38
    go_upto_region 13 with fail
    have ha1:=fun v=>(Below.refl _ (w.alloc zN)).alloc zn2 (.cells #[v] 122)
    have hR1:=hR0.keep (ha1 (.iface pu py))
    have hb1:=hb0.alloc hb0.size (.cells #[.iface pu py] 122)
    have hs1:((w.alloc zN).alloc (.cells #[.iface pu py] 122)).heap.size=w.heap.size+2:=by simp
    have c1:((w.alloc zN).alloc (.cells #[.iface pu py] 122)).cell? ⟨w.heap.size+1,0,none⟩=some (.iface pu py):=zG _ _ _ _ hs0.symm
    clear ha1 hs0 hb0 hR0
    generalize (w.alloc zN).alloc (.cells #[.iface pu py] 122)=w1 at *
    go_wp2_with (first
     | (go_at_call 38;refine (hI _).mono ?_;rintro e w3 ⟨v,rfl,hx3,b3⟩;obtain ⟨xk,xm,xs,xa,xl,xc,rfl⟩:=zav hx3;have ha4:=(Below.refl w3.heap.size w3).alloc zn2 (.cells #[.int .i64 xk,.int .i64 xm,.string xs,.slice xa xl xc] 79);have hR4:=(hR1.keep b3).keep ha4;obtain ⟨r0,r1,r2,r3,r4,r5,r6,r7⟩:=id hR4))
    have hs3:=b3.size
    have hb4:=(hb1.trans (b3.mono hb1.size)).alloc (hb1.trans (b3.mono hb1.size)).size (.cells #[.int .i64 xk,.int .i64 xm,.string xs,.slice xa xl xc] 79)
    obtain ⟨k0,k1,k2,k3⟩:=(At4.new w3 (.int .i64 xk) (.int .i64 xm) (.string xs) (.slice xa xl xc) 79).blkR (w':=put4 (w3.alloc (.cells #[.int .i64 xk,.int .i64 xm,.string xs,.slice xa xl xc] 79)) w.heap.size (.int .i64 4) (.int .i64 0) (.string ⟨#[]⟩) (.slice (some ⟨w3.heap.size,0,none⟩) 1 1)) (zaf (by omega) _ _ _ _)
    exact bodyPost_ret (zaB (hR4.put _ _ _ _) rfl) rfl ⟨_,rfl,zd2 (x:=⟨d,p⟩) (RdX.keep (x:=⟨d,p⟩) hx3 (fun b hb hl=>⟨by omega,(zaf (by omega) _ _ _ _).trans (ha4.block b hl)⟩)) (by omega) k0 k1 k2 k3,zD hb4 zn2 _ _ _ _⟩
 ·have e:exV (d+1) (mkT 5 0 s [p,q]:T (d+1))=.iface 124 (.agg #[.string s,exV d p,exV d q]):=rfl
  rw [e]
  exact zkj IH s p q hp hq w
 ·have e:exV (d+1) (zaM:T (d+1))=.nilIface:=rfl
  rw [e]
  go_enter Tryz.func38,Tryz.ntmps38
  go_upto_region 17 with fail
  generalize w.alloc zN=w1 at *
  obtain ⟨r0,r1,r2,r3,r4,r5,r6,r7⟩:=id hR0
  go_wp2
  exact bodyPost_ret (zaB (hR0.put _ _ _ _) rfl) rfl ⟨_,rfl,zbZ _ _,zD hb0 zn2 _ _ _ _⟩
theorem zez:∀ d,zic d
 | 0=>fun t=>Empty.elim t
 | d+1=>ziN d (zez d)
