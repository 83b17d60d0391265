import Derived.Test.YtlkdaldfklaicaaGreatDoorWvc01
import Derived.Test.YtlkdaldfklaicaaGreatDoorWvc18
import Derived.Test.YtlkdaldfklaicaaGreatDoorWvc19
import Derived.Test.YtlkdaldfklaicaaGreatDoorWvc12
set_option maxRecDepth 100000
set_option maxHeartbeats 32000000
namespace Go.Proofs.YtlkdaldfklaicaaGreatDoor
open Go.RowKit Go.Lib
set_option linter.unusedSimpArgs false
set_option linter.unusedVariables false
attribute [local go_sem ↓] Go.wp_at_zero Go.wp_at_succ
def kdB (x:Sx):Bool:=!decide ((zel (fun k _ _ _=>k) x:Int)=0)
def dcG (g:Bool × Sx):Bool × Sx:=(g.1 && kdB (clX g.2),if g.1=true then clX g.2 else noX)
def dcO (o:OnC):OnC:=(o.1,dcG o.2.1,o.2.2.1,o.2.2.2.1.map thT,o.2.2.2.2)
def dcH (h:HdC):HdC:=(h.1,h.2.1,h.2.2.1,h.2.2.2.1,h.2.2.2.2.map dcO)
def dcS:(d:Nat)->St d->St d
 | 0,t=>Empty.elim t
 | d+1,t=>show HdC × List (St d) from (dcH t.1,t.2.map (dcS d))
def dcC (d:Nat) (c:ChD d):ChD d:=(c.1,c.2.1,c.2.2.1,c.2.2.2.map (dcS d))
theorem zkJ {ok:Nat->Prop}{w:World}{x:Sx}{v:Value}(h:RdX ok w x v):Calls Tryz.prog 37 #[v] w fun e w'=>∃ z1 z2 z3 z4 z5 z6,e=.returned (.agg #[.int .i64 z1,.int .i64 z2,.string z3,.slice z4 z5 z6])/\RdX (fun b=>w.heap.size<=b) w' (clX x) (.agg #[.int .i64 z1,.int .i64 z2,.string z3,.slice z4 z5 z6])/\(zel (fun k _ _ _=>k) (clX x):Int)=z1/\Below w.heap.size w w':=by
 refine (ze2 x.1 ok x.2 v w h).mono ?_
 rintro e w' ⟨u,rfl,hr,hb⟩
 obtain ⟨k,n,s,ps,hk⟩:=T.open (cln x.1 x.2)
 have hr2:RdT (fun b=>w.heap.size<=b) w' (x.1+1) (cln x.1 x.2) u:=hr
 have hr3:=hr2
 rw [hk] at hr3
 obtain ⟨sl,rfl,hp⟩:=zaT.1 hr3
 obtain ⟨a,cap,rfl,_⟩:=hp
 refine ⟨k,n,s,a,_,cap,rfl,hr2,?_,hb⟩
 show zbT (fun k _ _ _=>k) (x.1+1) (cln x.1 x.2)=k
 rw [hk];rfl
def DsC (d:Nat):Prop:=∀ (ok:Nat->Prop) (w:World) (l:List (St d)) (v:Value),RdK ok w 11 (zad d ok w) l v->(∀ t∈l,SmS d t)->zah d l<=400->
 Calls Tryz.prog 20 #[v] w fun e w'=>∃ u,e=.returned u/\RdK (fun b=>w.heap.size<=b) w' 11 (zad d (fun b=>w.heap.size<=b) w') (l.map (dcS d)) u/\Below w.heap.size w w'
theorem zmm:DsC 0:=by
 intro ok w l v h _ _
 cases l with
 | cons x _=>exact Empty.elim x
 | nil=>
  obtain ⟨a,cap,rfl,_⟩:=h.form
  simp only [List.length_nil]
  clear h
  go_enter Tryz.func20,Tryz.ntmps20
  go_wp2
  go_loopw [3,12] (fun a3 i wr=>a3=.slice none 0 0/\i=.int .i64 0/\Below w.heap.size w wr) (fun _ _ _=>0)
  case atStart=>exact ⟨rfl,rfl,Below.refl _ _⟩
  case round=>
   obtain ⟨rfl,rfl,hb⟩:=hrel
   go_wp2
   go_ret
   exact ⟨_,rfl,zaO _ _ _ _,hb⟩
theorem zmk (d:Nat) (IH:DsC d):DsC (d+1):=by
 intro ok w l v h hok htot
 obtain ⟨is,his,his0,his1,his2⟩:=info_parts Tryz.infoStD
 obtain ⟨io,hio,hio0,hio1,hio2⟩:=info_parts Tryz.infoOnD
 obtain ⟨ie,hie,hie0,hie1,hie2⟩:=info_parts Tryz.infoSetD
 obtain ⟨a,cap,rfl,hlc,hcm⟩:=h.form
 unfold maxLen at hcm
 have hl3:l.length<=400:=zn5 (zcK l) htot
 have HTOT:=zm htot
 have HC:Hid (RdK ok w 11 (zad (d+1) ok w) l (.slice a l.length cap)):=h
 have HK:Hid (∀ t∈l,SmS (d+1) t):=hok
 obtain ⟨n,hn⟩:∃ n,l.length=n:=⟨_,rfl⟩
 rw [hn] at hlc hl3 ⊢
 have HN:Hid (l.length=n):=hn
 clear h hok hn htot
 go_enter Tryz.func20,Tryz.ntmps20
 go_wp2
 go_loopw [3,12] (fun a3 ix wr=>∃ (j:Nat),j<=n/\ix=.int .i64 (j:Int)/\OwnB wr w.heap.size (fun _=>False) 76 11 (zad (d+1)) a3 ((l.map (dcS (d+1))).take j)/\Below w.heap.size w wr) (fun _ ix _=>n - (RowKit.intOf ix).toNat)
 case atStart=>exact ⟨0,Nat.zero_le _,rfl,zZ _ _ _ _ _ _,Below.refl _ _⟩
 case round=>
  obtain ⟨j,hj,rfl,hO,hb⟩:=hrel
  obtain ⟨va,vc,rfl,hvl,hvm⟩:=hO.form
  have hlj:((l.map (dcS (d+1))).take j).length=j:=by rw [List.length_take,List.length_map,HN.out];omega
  rw [hlj] at hO hvl ⊢
  by_cases hlt:j < n
  ·have hjl:j < l.length:=by rw [HN.out];exact hlt
   obtain ⟨b,off,p1,p3,p4,p6,rfl,_,hbl,hOn,hIn,hc⟩:=zfz HC.out j hjl
   have hkt:=HK.out _ (List.getElem_mem hjl)
   have htt:=zd5 (List.getElem_mem hjl)
   obtain ⟨sn,sl,sc,sb,se,sd,su,sw,sr,hsv⟩:∃ sn sl sc sb se sd su sw sr,hdD l[j].1=fun so si=>[.string sn,.int .i64 sl,.int .i64 sc,.bool sb,.bool se,.string sd,.string su,.int .i64 sw,.int .i64 sr,so,si]:=⟨_,_,_,_,_,_,_,_,_,rfl⟩
   have hsd:hdD (dcH l[j].1)=fun so si=>[.string sn,.int .i64 sl,.int .i64 sc,.bool sb,.bool se,.string sd,.string su,.int .i64 sw,.int .i64 sr,so,si]:=hsv
   rw [hsv] at hc
   obtain ⟨t,ht⟩:∃ t,l[j]=t:=⟨_,rfl⟩
   rw [ht] at hOn hIn hc hkt hsd htt
   obtain ⟨m,hm⟩:∃ m,t.1.2.2.2.2.length=m:=⟨_,rfl⟩
   obtain ⟨i,hi⟩:∃ m,t.2.length=m:=⟨_,rfl⟩
   rw [hm] at hOn hc
   rw [hi] at hIn hc
   have C0:=(hb.cell (p:=⟨b,off+j*11+0,none⟩) hbl).trans (hc 0 _ rfl)
   have C1:=(hb.cell (p:=⟨b,off+j*11+1,none⟩) hbl).trans (hc 1 _ rfl)
   have C2:=(hb.cell (p:=⟨b,off+j*11+2,none⟩) hbl).trans (hc 2 _ rfl)
   have C3:=(hb.cell (p:=⟨b,off+j*11+3,none⟩) hbl).trans (hc 3 _ rfl)
   have C4:=(hb.cell (p:=⟨b,off+j*11+4,none⟩) hbl).trans (hc 4 _ rfl)
   have C5:=(hb.cell (p:=⟨b,off+j*11+5,none⟩) hbl).trans (hc 5 _ rfl)
   have C6:=(hb.cell (p:=⟨b,off+j*11+6,none⟩) hbl).trans (hc 6 _ rfl)
   have C7:=(hb.cell (p:=⟨b,off+j*11+7,none⟩) hbl).trans (hc 7 _ rfl)
   have C8:=(hb.cell (p:=⟨b,off+j*11+8,none⟩) hbl).trans (hc 8 _ rfl)
   have C9:=(hb.cell (p:=⟨b,off+j*11+9,none⟩) hbl).trans (hc 9 _ rfl)
   have C10:=(hb.cell (p:=⟨b,off+j*11+10,none⟩) hbl).trans (hc 10 _ rfl)
   rw [Nat.add_zero] at C0
   have HC9:Hid (w.cell? ⟨b,off+j*11+9,none⟩=some (.slice p1 m p3)):=hc 9 _ rfl
   have HOn:Hid (RdK ok w 10 (zba ok w) t.1.2.2.2.2 (.slice p1 m p3)):=hOn
   have HSD:Hid (hdD (dcH t.1)=fun so si=>[.string sn,.int .i64 sl,.int .i64 sc,.bool sb,.bool se,.string sd,.string su,.int .i64 sw,.int .i64 sr,so,si]):=hsd
   have HKT:Hid (SmS (d+1) t):=hkt
   have HT:Hid (l[j]=t):=ht
   have HM:Hid (t.1.2.2.2.2.length=m):=hm
   have i1:(j:Int) < (n:Int):=by omega
   have i2:(0:Int)<=(j:Int):=by omega
   have hal:=(Below.refl wr.heap.size wr).alloc zn2 (.cells #[.string sn,.int .i64 sl,.int .i64 sc,.bool sb,.bool se,.string sd,.string su,.int .i64 sw,.int .i64 sr,.slice p1 m p3,.slice p4 i p6] 76)
   have hbx:=hb.trans (hal.mono hb.size)
   have hX:Bn (wr.alloc (.cells #[.string sn,.int .i64 sl,.int .i64 sc,.bool sb,.bool se,.string sd,.string su,.int .i64 sw,.int .i64 sr,.slice p1 m p3,.slice p4 i p6] 76)) wr.heap.size [.string sn,.int .i64 sl,.int .i64 sc,.bool sb,.bool se,.string sd,.string su,.int .i64 sw,.int .i64 sr,.slice p1 m p3,.slice p4 i p6]:=Bn.new wr [.string sn,.int .i64 sl,.int .i64 sc,.bool sb,.bool se,.string sd,.string su,.int .i64 sw,.int .i64 sr,.slice p1 m p3,.slice p4 i p6] 76 _ rfl
   have hcall:=fun w1 (b1:Below w.heap.size w w1)=>IH (fun k=>ok k) w1 t.2 (.slice p4 i p6) (hIn.stay (zy d) (fun k hk hl=>⟨hk,b1.block k hl⟩)) hkt.2 (zn5 htt HTOT.out)
   have hcall2:∀ w1,Below w.heap.size w w1->Calls Tryz.prog 20 #[.slice p4 i p6] w1 fun e w'=>∃ iq ic,e=.returned (.slice iq i ic)/\RdK (fun b=>w1.heap.size<=b) w' 11 (zad d (fun b=>w1.heap.size<=b) w') (t.2.map (dcS d)) (.slice iq i ic)/\Below w1.heap.size w1 w':=fun w1 b1=>(hcall w1 b1).mono (fun e w' hh=>by
    obtain ⟨u,h1,h2,h3⟩:=hh
    obtain ⟨iq,ic,rfl,_⟩:=h2.form
    rw [List.length_map,hi] at h1 h2
    exact ⟨iq,ic,h1,h2,h3⟩)
   have hsx:(wr.alloc (.cells #[.string sn,.int .i64 sl,.int .i64 sc,.bool sb,.bool se,.string sd,.string su,.int .i64 sw,.int .i64 sr,.slice p1 m p3,.slice p4 i p6] 76)).heap.size=wr.heap.size+1:=by simp
   clear hsv hsd ht hkt hm hOn hIn htt hcall
   go_upto_region 6 with fail
   clear C0 C1 C2 C3 C4 C5 C6 C7 C8 C9 C10
   have C10:=(hbx.cell (p:=⟨b,off+j*11+10,none⟩) hbl).trans (hc 10 _ rfl)
   clear hc
   obtain ⟨S,hS⟩:∃ S,wr.heap.size=S:=⟨_,rfl⟩
   have hO':=hO.keep (zy _) (bad':=fun k=>k=wr.heap.size) (fun k hk hbad hl=>⟨hal.block k hl,fun e=>by omega⟩)
   rw [hS] at hX hsx hal hO' ⊢
   generalize wr.alloc (.cells #[.string sn,.int .i64 sl,.int .i64 sc,.bool sb,.bool se,.string sd,.string su,.int .i64 sw,.int .i64 sr,.slice p1 m p3,.slice p4 i p6] 76)=wx at *
   have hSw:w.heap.size<=S:=by have:=hb.size;omega
   have hc1:=hcall2 _ hbx
   go_upto_region 7 with (first
    | (go_at_call 20;refine hc1.mono ?_;rintro e w1 ⟨iq,ic,rfl,hr1,b1⟩;have hX1:=hX.on b1;obtain ⟨x9,f9⟩:=hX1 9 _ rfl;obtain ⟨x10,f10⟩:=hX1 10 _ rfl)
    | fail)
   have hQb:=(hX1.set (i:=9) (by simp) (.slice none 0 0)).set (i:=10) (by simp) (.slice iq i ic)
   have hbq:Below wx.heap.size wx w1:=b1
   have hF0:Fx S wx ((w1.setCell ⟨S,9,none⟩ (.slice none 0 0)).setCell ⟨S,10,none⟩ (.slice iq i ic)):=((Fx.of hbq zn2).setX (i:=9) (.slice none 0 0)).setX (i:=10) (.slice iq i ic)
   have hQr:RdK (fun k=>S+1<=k) ((w1.setCell ⟨S,9,none⟩ (.slice none 0 0)).setCell ⟨S,10,none⟩ (.slice iq i ic)) 11 (zad d (fun k=>S+1<=k) ((w1.setCell ⟨S,9,none⟩ (.slice none 0 0)).setCell ⟨S,10,none⟩ (.slice iq i ic))) (t.2.map (dcS d)) (.slice iq i ic):=hr1.stay (zy d) (fun k hk hl=>⟨by omega,by
    rw [Below.heap_setCell _ _ _ _ (fun e=>by have e2:k=S:=e;omega),Below.heap_setCell _ _ _ _ (fun e=>by have e2:k=S:=e;omega)]⟩)
   have hbw:Below w.heap.size w ((w1.setCell ⟨S,9,none⟩ (.slice none 0 0)).setCell ⟨S,10,none⟩ (.slice iq i ic)):=hF0.bel hbx hSw zn2
   clear hr1 hc1 hcall2 hX1 x9 f9 x10 f10 C10 b1 hX hbq
   generalize (w1.setCell ⟨S,9,none⟩ (.slice none 0 0)).setCell ⟨S,10,none⟩ (.slice iq i ic)=wk at *
   have hm3:m<=400:=by have:=HKT.out.1.2.2.2.1;rw [HM.out] at this;exact this
   have C9:=(hbw.cell (p:=⟨b,off+j*11+9,none⟩) hbl).trans HC9.out
   have hql:S < wk.heap.size:=hQb.lt
   go_wp2
   go_loopw [33] (fun ix wr=>∃ (g:Nat) (sl2:Value),g<=m/\ix=.int .i64 (g:Int)/\Bn wr S [.string sn,.int .i64 sl,.int .i64 sc,.bool sb,.bool se,.string sd,.string su,.int .i64 sw,.int .i64 sr,sl2,.slice iq i ic]/\OwnB wr wk.heap.size (fun _=>False) 82 10 zba sl2 ((t.1.2.2.2.2.map dcO).take g)/\Fx S wk wr) (fun ix _=>m - (RowKit.intOf ix).toNat)
   case atStart=>exact ⟨0,_,Nat.zero_le _,rfl,hQb,zZ _ _ _ _ _ _,Fx.refl _ _⟩
   case round=>
    clear C9
    obtain ⟨g,sl2,hg,rfl,hQB,hRow,hF⟩:=hrel
    obtain ⟨acg,hacg⟩:∃ acg,(t.1.2.2.2.2.map dcO).take g=acg:=⟨_,rfl⟩
    have hlg:acg.length=g:=by rw [<- hacg,List.length_take,List.length_map,HM.out];omega
    rw [hacg] at hRow
    have HACG:Hid ((t.1.2.2.2.2.map dcO).take g=acg):=hacg
    clear hacg
    obtain ⟨ra,rc,rfl,hrl,hrm⟩:=hRow.form
    rw [hlg] at hRow hQB hrl
    have hFs:=hF.size
    have hbr:Below w.heap.size w wr:=hF.bel hbw hSw zn2
    have C9:=(hbr.cell (p:=⟨b,off+j*11+9,none⟩) hbl).trans HC9.out
    by_cases hgl:g < m
    ·have hgt:g < t.1.2.2.2.2.length:=by rw [HM.out];exact hgl
     obtain ⟨bo,oo,c0,c1,c2,c3,s1,s3,rfl,_,hbl2,hGx,hSe,hco⟩:=zfW HOn.out g hgt
     have hko:=HKT.out.1.2.2.2.2 _ (List.getElem_mem hgt)
     obtain ⟨o,ho⟩:∃ o,t.1.2.2.2.2[g]=o:=⟨_,rfl⟩
     rw [ho] at hGx hSe hco hko
     obtain ⟨ns,hns⟩:∃ m,o.2.2.2.1.length=m:=⟨_,rfl⟩
     rw [hns] at hSe hco
     obtain ⟨x1,x2,x3,x4,x5,x6,rfl,rfl,rfl,rfl⟩:=zcn hGx
     obtain ⟨ev,hev⟩:∃ e,sD o.1=.string e:=⟨_,rfl⟩
     obtain ⟨tg,htg⟩:∃ e,sD o.2.2.1=.string e:=⟨_,rfl⟩
     obtain ⟨gb,hgb⟩:∃ x,o.2.1.1=x:=⟨_,rfl⟩
     obtain ⟨ol,hol⟩:∃ x,o.2.2.2.2.1=x:=⟨_,rfl⟩
     obtain ⟨oc,hoc⟩:∃ x,o.2.2.2.2.2=x:=⟨_,rfl⟩
     rw [hev,htg,hgb,hol,hoc] at hco
     have O0:=(hbr.cell (p:=⟨bo,oo+g*10+0,none⟩) hbl2).trans (hco 0 _ rfl)
     have O1:=(hbr.cell (p:=⟨bo,oo+g*10+1,none⟩) hbl2).trans (hco 1 _ rfl)
     have O2:=(hbr.cell (p:=⟨bo,oo+g*10+2,none⟩) hbl2).trans (hco 2 _ rfl)
     have O3:=(hbr.cell (p:=⟨bo,oo+g*10+3,none⟩) hbl2).trans (hco 3 _ rfl)
     have O4:=(hbr.cell (p:=⟨bo,oo+g*10+4,none⟩) hbl2).trans (hco 4 _ rfl)
     have O5:=(hbr.cell (p:=⟨bo,oo+g*10+5,none⟩) hbl2).trans (hco 5 _ rfl)
     have O6:=(hbr.cell (p:=⟨bo,oo+g*10+6,none⟩) hbl2).trans (hco 6 _ rfl)
     have O7:=(hbr.cell (p:=⟨bo,oo+g*10+7,none⟩) hbl2).trans (hco 7 _ rfl)
     have O8:=(hbr.cell (p:=⟨bo,oo+g*10+8,none⟩) hbl2).trans (hco 8 _ rfl)
     have O9:=(hbr.cell (p:=⟨bo,oo+g*10+9,none⟩) hbl2).trans (hco 9 _ rfl)
     rw [Nat.add_zero] at O0
     have hcl:∀ w1,Below w.heap.size w w1->Calls Tryz.prog 37 #[.agg #[.int .i64 x1,.int .i64 x2,.string x3,.slice x4 x5 x6]] w1 fun e w'=>∃ z1 z2 z3 z4 z5 z6,e=.returned (.agg #[.int .i64 z1,.int .i64 z2,.string z3,.slice z4 z5 z6])/\RdX (fun b=>w1.heap.size<=b) w' (clX o.2.1.2) (.agg #[.int .i64 z1,.int .i64 z2,.string z3,.slice z4 z5 z6])/\(zel (fun k _ _ _=>k) (clX o.2.1.2):Int)=z1/\Below w1.heap.size w1 w':=fun w1 b1=>zkJ (hGx.keep (fun k hk hl=>⟨hk,b1.block k hl⟩):RdX ok w1 o.2.1.2 _)
     have i3:(g:Int) < (m:Int):=by omega
     have i4:(0:Int)<=(g:Int):=by omega
     have hns3:ns<=400:=by have:=hko.2.2.2.1;rw [hns] at this;exact this
     have HEVT:Hid (sD o.1=.string ev/\sD o.2.2.1=.string tg/\o.2.2.2.2.1=ol/\o.2.2.2.2.2=oc/\o.2.1.1=gb):=⟨hev,htg,hol,hoc,hgb⟩
     have HCO:=zm hco
     have HO2:Hid (t.1.2.2.2.2[g]=o):=ho
     have HSE:Hid (RdK ok w 5 (zbf ok w) o.2.2.2.1 (.slice s1 ns s3)):=hSe
     have HNS:Hid (o.2.2.2.1.length=ns):=hns
     have halo:=(Below.refl wr.heap.size wr).alloc zn2 (.cells #[.string ev,.bool gb,.int .i64 x1,.int .i64 x2,.string x3,.slice x4 x5 x6,.string tg,.slice s1 ns s3,.int .i64 ol,.int .i64 oc] 82)
     have hOb0:Bn (wr.alloc (.cells #[.string ev,.bool gb,.int .i64 x1,.int .i64 x2,.string x3,.slice x4 x5 x6,.string tg,.slice s1 ns s3,.int .i64 ol,.int .i64 oc] 82)) wr.heap.size [.string ev,.bool gb,.int .i64 x1,.int .i64 x2,.string x3,.slice x4 x5 x6,.string tg,.slice s1 ns s3,.int .i64 ol,.int .i64 oc]:=Bn.new wr [.string ev,.bool gb,.int .i64 x1,.int .i64 x2,.string x3,.slice x4 x5 x6,.string tg,.slice s1 ns s3,.int .i64 ol,.int .i64 oc] 82 _ rfl
     have hbe:=hbr.trans (halo.mono hbr.size)
     clear hco hev htg hol hoc hgb ho hko hSe hns hGx
     go_upto_region 11 with fail
     clear O0 O1 O2 O3 O4 O5 O6 O7 O8 O9 C9
     have hOl:wr.heap.size<=wr.heap.size:=Nat.le_refl _
     obtain ⟨O,hOO⟩:∃ O,wr.heap.size=O:=⟨_,rfl⟩
     have HOO:Hid (wr.heap.size=O):=hOO
     rw [hOO] at hOb0 ⊢
     generalize (wr.alloc (.cells #[.string ev,.bool gb,.int .i64 x1,.int .i64 x2,.string x3,.slice x4 x5 x6,.string tg,.slice s1 ns s3,.int .i64 ol,.int .i64 oc] 82))=we at *
     have e1:=(hOb0 1 _ rfl).1
     go_upto_if 45 with fail
     go_cut [] from 46 to 51 (fun wd=>∃ z1 z2 z3 z4 z5 z6,Bn wd O [.string ev,.bool gb,.int .i64 z1,.int .i64 z2,.string z3,.slice z4 z5 z6,.string tg,.slice s1 ns s3,.int .i64 ol,.int .i64 oc]/\RdX (fun k=>wr.heap.size<=k/\k≠O) wd (dcG (gb,o.2.1.2)).2 (.agg #[.int .i64 z1,.int .i64 z2,.string z3,.slice z4 z5 z6])/\Hid ((gb && kdB (clX o.2.1.2))=(gb && !decide (z1=0)))/\Below wr.heap.size wr wd)
     case first=>
      clear HOn HKT HC HK hO hO' hal hb IH HSD HT HM hRow hQB hQr HCO HSE hQb
      obtain ⟨e2,f2⟩:=hOb0 2 _ rfl
      obtain ⟨e3,f3⟩:=hOb0 3 _ rfl
      obtain ⟨e4,f4⟩:=hOb0 4 _ rfl
      obtain ⟨e5,f5⟩:=hOb0 5 _ rfl
      cases gb with
      | true=>
       have hc1:=hcl _ hbe
       go_wp2_with (first
        | (go_at_call 37;refine hc1.mono ?_;rintro e w3 ⟨z1,z2,z3,z4,z5,z6,rfl,hz,hzk,b3⟩;have hO3:=hOb0.on b3;obtain ⟨e2,f2⟩:=hO3 2 _ rfl;obtain ⟨e3,f3⟩:=hO3 3 _ rfl;obtain ⟨e4,f4⟩:=hO3 4 _ rfl;obtain ⟨e5,f5⟩:=hO3 5 _ rfl)
        | fail)
       go_meet
       case rel=>
        refine ⟨z1,z2,z3,z4,z5,z6,(((hO3.set (i:=2) (by simp) _).set (i:=3) (by simp) _).set (i:=4) (by simp) _).set (i:=5) (by simp) _,?_,?_,?_⟩
        ·have hne:∀ k,we.heap.size<=k->k≠O:=fun k hk=>by have:=hOb0.lt;omega
         exact RdX.keep hz (fun k hk hl=>⟨⟨by have:=halo.size;omega,hne k hk⟩,by
          rw [Below.heap_setCell _ _ _ _ (fun e=>hne k hk e),Below.heap_setCell _ _ _ _ (fun e=>hne k hk e),Below.heap_setCell _ _ _ _ (fun e=>hne k hk e),Below.heap_setCell _ _ _ _ (fun e=>hne k hk e)]⟩)
        ·show (true && kdB (clX o.2.1.2))=(true && !decide (z1=0))
         unfold kdB
         rw [hzk]
        ·have hle:wr.heap.size<=O:=by have:=HOO.out;omega
         exact zf (zf (zf (zf (halo.trans (b3.mono halo.size)) O 2 _ hle) O 3 _ hle) O 4 _ hle) O 5 _ hle
      | false=>
       go_wp2
       go_meet
       case rel=>
        refine ⟨0,0,⟨#[]⟩,none,0,0,(((hOb0.set (i:=2) (by simp) _).set (i:=3) (by simp) _).set (i:=4) (by simp) _).set (i:=5) (by simp) _,zm7 _ _,rfl,?_⟩
        have hle:wr.heap.size<=O:=by have:=HOO.out;omega
        exact zf (zf (zf (zf halo O 2 _ hle) O 3 _ hle) O 4 _ hle) O 5 _ hle
     case rest=>
      obtain ⟨z1,z2,z3,z4,z5,z6,hOb1,hOr1,HKD,hbd1⟩:=hcut
      obtain ⟨wf,hwf⟩:∃ x,x=wc:=⟨_,rfl⟩
      subst hwf
      obtain ⟨w2,hw2⟩:∃ x,x=wr:=⟨_,rfl⟩
      subst hw2
      clear hOb0 e1 halo hbe hcl
      have hle:w2.heap.size<=O:=by have:=HOO.out;omega
      obtain ⟨e1,f1⟩:=hOb1 1 _ rfl
      obtain ⟨e2,f2⟩:=hOb1 2 _ rfl
      obtain ⟨e7,f7⟩:=hOb1 7 _ rfl
      obtain ⟨hb',hhb⟩:∃ x,(gb && !decide (z1=0))=x:=⟨_,rfl⟩
      have HHB:Hid ((dcG o.2.1).1=hb'):=by
       show (o.2.1.1 && kdB (clX o.2.1.2))=hb'
       rw [HEVT.out.2.2.2.2,HKD.out,hhb]
      have HGX:Hid ((dcG o.2.1).2=(dcG (gb,o.2.1.2)).2):=by
       show (if o.2.1.1=true then clX o.2.1.2 else noX)=(if gb=true then clX o.2.1.2 else noX)
       rw [HEVT.out.2.2.2.2]
      go_upto_region 14 with fail
      go_cut [] from 52 to 60 (fun wd=>Bn wd O [.string ev,.bool hb',.int .i64 z1,.int .i64 z2,.string z3,.slice z4 z5 z6,.string tg,.slice s1 ns s3,.int .i64 ol,.int .i64 oc]/\RdX (fun k=>w2.heap.size<=k/\k≠O) wd (dcG (gb,o.2.1.2)).2 (.agg #[.int .i64 z1,.int .i64 z2,.string z3,.slice z4 z5 z6])/\Below w2.heap.size w2 wd)
      case first=>
       clear HOn HKT HC HK hO hO' hal hb IH HSD HT HM hRow hQB hQr HCO HSE hQb HHB HGX HKD
       cases gb with
       | false=>
        have e0:hb'=false:=by rw [<- hhb];rfl
        subst e0
        go_wp2
        go_meet
        case rel=>exact ⟨hOb1.set (i:=1) (by simp) _,RdX.keep hOr1 (fun k hk hl=>⟨hk,Below.heap_setCell _ _ _ _ (fun e=>hk.2 e)⟩),zf hbd1 O 1 _ hle⟩
       | true=>
        by_cases hz0:z1=0
        ·have e0:hb'=false:=by rw [<- hhb,hz0];rfl
         subst e0 hz0
         go_wp2
         go_meet
         case rel=>exact ⟨hOb1.set (i:=1) (by simp) _,RdX.keep hOr1 (fun k hk hl=>⟨hk,Below.heap_setCell _ _ _ _ (fun e=>hk.2 e)⟩),zf hbd1 O 1 _ hle⟩
        ·have e0:hb'=true:=by rw [<- hhb];simp [hz0]
         subst e0
         have hz2:(z1 != 0)=true:=by simpa using hz0
         go_wp2
         go_meet
         case rel=>exact ⟨hOb1.set (i:=1) (by simp) _,RdX.keep hOr1 (fun k hk hl=>⟨hk,Below.heap_setCell _ _ _ _ (fun e=>hk.2 e)⟩),zf hbd1 O 1 _ hle⟩
      case rest=>
       obtain ⟨hOb2,hOr2,hbd2⟩:=hcut
       obtain ⟨wg,hwg⟩:∃ x,x=wc:=⟨_,rfl⟩
       subst hwg
       clear hOb1 hOr1 hbd1 e1 f1 e2 f2 e7 f7 hhb HKD
       obtain ⟨e7,f7⟩:=hOb2 7 _ rfl
       go_upto_region 16 with fail
       have hOb:=hOb2.set (i:=7) (by simp) (.slice none 0 0)
       have hOr:RdX (fun k=>w2.heap.size<=k/\k≠O) (wg.setCell ⟨O,7,none⟩ (.slice none 0 0)) (dcG (gb,o.2.1.2)).2 (.agg #[.int .i64 z1,.int .i64 z2,.string z3,.slice z4 z5 z6]):=RdX.keep hOr2 (fun k hk hl=>⟨hk,Below.heap_setCell _ _ _ _ (fun e=>hk.2 e)⟩)
       have hbd:=zf hbd2 O 7 (.slice none 0 0) hle
       clear hOb2 hOr2 hbd2 e7 f7
       generalize wg.setCell ⟨O,7,none⟩ (.slice none 0 0)=wd at *
       have hbrd:=hbr.trans (hbd.mono hbr.size)
       have C9:=(hbrd.cell (p:=⟨b,off+j*11+9,none⟩) hbl).trans HC9.out
       have D7:=(hbrd.cell (p:=⟨bo,oo+g*10+7,none⟩) hbl2).trans (HCO.out 7 _ rfl)
       have hod:O < wd.heap.size:=hOb.lt
       go_wp2
       go_loopw [72] (fun ix w3=>∃ (h:Nat) (sl3:Value),h<=ns/\ix=.int .i64 (h:Int)/\Bn w3 O [.string ev,.bool hb',.int .i64 z1,.int .i64 z2,.string z3,.slice z4 z5 z6,.string tg,sl3,.int .i64 ol,.int .i64 oc]/\OwnB w3 wd.heap.size (fun _=>False) 85 5 zbf sl3 ((o.2.2.2.1.map thT).take h)/\Fx O wd w3) (fun ix _=>ns - (RowKit.intOf ix).toNat)
       case atStart=>exact ⟨0,_,Nat.zero_le _,rfl,hOb,zZ _ _ _ _ _ _,Fx.refl _ _⟩
       case round=>
        clear C9 D7
        try (obtain ⟨w3,hw3⟩:∃ x,x=wr:=⟨_,rfl⟩;subst hw3)
        obtain ⟨h,sl3,hh,rfl,hOB,hRo3,hF3⟩:=hrel
        obtain ⟨ta,tc,rfl,htl,htm⟩:=hRo3.form
        obtain ⟨acc,hac⟩:∃ acc,(o.2.2.2.1.map thT).take h=acc:=⟨_,rfl⟩
        have hlh:acc.length=h:=by rw [<- hac,List.length_take,List.length_map,HNS.out];omega
        rw [hac] at hRo3 hOB htl
        rw [hlh] at hRo3 hOB htl
        have HAC:Hid ((o.2.2.2.1.map thT).take h=acc):=hac
        have hs3:=hF3.size
        have hbr3:Below w.heap.size w w3:=hF3.bel hbrd (by have:=hbr.size;omega) zn2
        clear hac
        by_cases hhl:h < ns
        ·have hht:h < o.2.2.2.1.length:=by rw [HNS.out];exact hhl
         obtain ⟨bs,os,c0,c1,c2,c3,rfl,_,hbl3,hQx,hcs⟩:=zfC HSE.out h hht
         obtain ⟨q,hq⟩:∃ q,o.2.2.2.1[h]=q:=⟨_,rfl⟩
         rw [hq] at hcs hQx
         obtain ⟨y1,y2,y3,y4,y5,y6,rfl,rfl,rfl,rfl⟩:=zcn hQx
         obtain ⟨s0,hs0⟩:∃ s0,sD q.1=.string s0:=⟨_,rfl⟩
         rw [hs0] at hcs
         have C9:=(hbr3.cell (p:=⟨b,off+j*11+9,none⟩) hbl).trans HC9.out
         have D7:=(hbr3.cell (p:=⟨bo,oo+g*10+7,none⟩) hbl2).trans (HCO.out 7 _ rfl)
         have B0:=(hbr3.cell (p:=⟨bs,os+h*5+0,none⟩) hbl3).trans (hcs 0 _ rfl)
         have B1:=(hbr3.cell (p:=⟨bs,os+h*5+1,none⟩) hbl3).trans (hcs 1 _ rfl)
         have B2:=(hbr3.cell (p:=⟨bs,os+h*5+2,none⟩) hbl3).trans (hcs 2 _ rfl)
         have B3:=(hbr3.cell (p:=⟨bs,os+h*5+3,none⟩) hbl3).trans (hcs 3 _ rfl)
         have B4:=(hbr3.cell (p:=⟨bs,os+h*5+4,none⟩) hbl3).trans (hcs 4 _ rfl)
         rw [Nat.add_zero] at B0
         have i5:(h:Int) < (ns:Int):=by omega
         have i6:(0:Int)<=(h:Int):=by omega
         have halp:=(Below.refl w3.heap.size w3).alloc zn2 (.cells #[.string s0,.int .i64 y1,.int .i64 y2,.string y3,.slice y4 y5 y6] 85)
         have hP0:Bn (w3.alloc (.cells #[.string s0,.int .i64 y1,.int .i64 y2,.string y3,.slice y4 y5 y6] 85)) w3.heap.size [.string s0,.int .i64 y1,.int .i64 y2,.string y3,.slice y4 y5 y6]:=Bn.new w3 [.string s0,.int .i64 y1,.int .i64 y2,.string y3,.slice y4 y5 y6] 85 _ rfl
         have hcl2:∀ w1,Below w.heap.size w w1->Calls Tryz.prog 37 #[.agg #[.int .i64 y1,.int .i64 y2,.string y3,.slice y4 y5 y6]] w1 fun e w'=>∃ z1 z2 z3 z4 z5 z6,e=.returned (.agg #[.int .i64 z1,.int .i64 z2,.string z3,.slice z4 z5 z6])/\RdX (fun b=>w1.heap.size<=b) w' (clX q.2) (.agg #[.int .i64 z1,.int .i64 z2,.string z3,.slice z4 z5 z6])/\(zel (fun k _ _ _=>k) (clX q.2):Int)=z1/\Below w1.heap.size w1 w':=fun w1 b1=>zkJ (hQx.keep (fun k hk hl=>⟨hk,b1.block k hl⟩):RdX ok w1 q.2 _)
         have HQ:Hid (o.2.2.2.1[h]=q):=hq
         have HS0:Hid (sD q.1=.string s0):=hs0
         clear hcs hq hs0 hQx
         go_upto_region 20 with fail
         clear C9 D7 B0 B1 B2 B3 B4
         have hF4:Fx O wd (w3.alloc (.cells #[.string s0,.int .i64 y1,.int .i64 y2,.string y3,.slice y4 y5 y6] 85)):=hF3.andD halp hs3
         have hOB4:=hOB.on halp
         have hRo4:=hRo3.on zU halp
         have hs4:=zn5 hs3 halp.size
         have hbr4:=hbr3.trans (halp.mono hbr3.size)
         have lP:w3.heap.size < (w3.alloc (.cells #[.string s0,.int .i64 y1,.int .i64 y2,.string y3,.slice y4 y5 y6] 85)).heap.size:=hP0.lt
         obtain ⟨P,hPP⟩:∃ P,w3.heap.size=P:=⟨_,rfl⟩
         have hPd:wd.heap.size<=P:=by omega
         rw [hPP] at hP0 lP ⊢
         have HRL:Hid (∀ x,(Value.slice ta h tc).ownBlock=some x->x < P):=fun x hx=>by have:=(hRo3.lt x hx).2;omega
         clear hF3 hOB hRo3 hs3 hbr3 halp
         generalize w3.alloc (.cells #[.string s0,.int .i64 y1,.int .i64 y2,.string y3,.slice y4 y5 y6] 85)=w4 at *
         have B0:=(hP0 0 _ rfl).1
         have B1:=(hP0 1 _ rfl).1
         have B2:=(hP0 2 _ rfl).1
         have B3:=(hP0 3 _ rfl).1
         have B4:=(hP0 4 _ rfl).1
         obtain ⟨k7,z7⟩:=hOB4 7 _ rfl
         have nP:P≠O:=by omega
         have hc2:=hcl2 w4.drew hbr4.drew
         have kw4:∀ wa,Below w4.heap.size w4 wa->∀ p u,w4.cell? p=some u->wa.cell? p=some u:=fun wa bw p u hp=>by rw [bw.cell (World.block_lt_of_cell? w4 _ hp)];exact hp
         refine wp_region_held_drew (S:=(fun w'=>w'.cell? ⟨P,0,none⟩=some (.string s0)/\w'.cell? ⟨P,1,none⟩=some (.int .i64 y1)/\w'.cell? ⟨P,2,none⟩=some (.int .i64 y2)/\w'.cell? ⟨P,3,none⟩=some (.string y3)/\w'.cell? ⟨P,4,none⟩=some (.slice y4 y5 y6))) (by kernel_rfl) ?_ (fun hHeld=>?_)
         ·(try dsimp only);(refine ⟨?_,?_,?_,?_,?_⟩<;>(repeat (with_reducible first|exact B0|exact B1|exact B2|exact B3|exact B4|refine zj ?_|refine zh ?_|refine za (zg nP) ?_))<;>done)
         refine wpAnyH_take (i:=0) (oi:=_) (v:=_) rfl (by kernel_rfl) (by kernel_rfl) (by kernel_rfl) (fun _ _ _ h=>h) (Or.inl ⟨by rfl,by intro w hSw;(try dsimp only at hSw);go_simp;try (with_reducible rfl)⟩) (by assumption) ?_
         (try simp only [Act.put,List.setIfInBounds_toArray,List.set_cons_zero,List.set_cons_succ])
         refine wpAnyH_take (i:=2) (oi:=_) (v:=_) rfl (by kernel_rfl) (by kernel_rfl) (by kernel_rfl) (fun _ _ _ h=>h) (Or.inl ⟨by rfl,by intro w hSw;(try dsimp only at hSw);go_simp;try (with_reducible rfl)⟩) (by assumption) ?_
         (try simp only [Act.put,List.setIfInBounds_toArray,List.set_cons_zero,List.set_cons_succ])
         refine wpAnyH_take (i:=3) (oi:=_) (v:=_) rfl (by kernel_rfl) (by kernel_rfl) (by kernel_rfl) (fun _ _ _ h=>h) (Or.inl ⟨by rfl,by intro w hSw;(try dsimp only at hSw);go_simp;try (with_reducible rfl)⟩) (by assumption) ?_
         (try simp only [Act.put,List.setIfInBounds_toArray,List.set_cons_zero,List.set_cons_succ])
         refine wpAnyH_take (i:=4) (oi:=_) (v:=_) rfl (by kernel_rfl) (by kernel_rfl) (by kernel_rfl) (fun _ _ _ h=>h) (Or.inl ⟨by rfl,by intro w hSw;(try dsimp only at hSw);go_simp;try (with_reducible rfl)⟩) (by assumption) ?_
         (try simp only [Act.put,List.setIfInBounds_toArray,List.set_cons_zero,List.set_cons_succ])
         refine wpAnyH_take (i:=5) (oi:=_) (v:=_) rfl (by kernel_rfl) (by kernel_rfl) (by kernel_rfl) (fun _ _ _ h=>h) (Or.inl ⟨by rfl,by intro w hSw;(try dsimp only at hSw);go_simp;try (with_reducible rfl)⟩) (by assumption) ?_
         (try simp only [Act.put,List.setIfInBounds_toArray,List.set_cons_zero,List.set_cons_succ])
         refine wpAnyH_ready (rs:=[1,6]) (by kernel_rfl) (by simp) ?_
         refine AllReadyH.cons rfl (fun K hK=>?_) (AllReadyH.cons rfl (fun K hK=>?_) AllReadyH.nil)
         ·go_simp
          refine hK.out _ _ ?_ (fun hHeld=>?_)
          ·(try dsimp only);(refine ⟨?_,?_,?_,?_,?_⟩<;>(repeat (with_reducible first|exact B0|exact B1|exact B2|exact B3|exact B4|refine zj ?_|refine zh ?_|refine za (zg nP) ?_))<;>done)
          clear hK K
          refine wpAnyH_ready (rs:=[6]) (by kernel_rfl) (by simp) ?_
          refine AllReadyH.cons rfl (fun K hK=>?_) AllReadyH.nil
          go_simp
          go_wp2_with (first|(go_at_call 37;(with_reducible refine hc2.mono ?_);rintro e wa ⟨v1,v2,v3,v4,v5,v6,rfl,hr1,_,b1⟩;have bw:Below w4.heap.size w4 wa:=((Below.refl _ w4).drew).trans b1;have B0:=kw4 wa bw _ _ B0;have B1:=kw4 wa bw _ _ B1;have B2:=kw4 wa bw _ _ B2;have B3:=kw4 wa bw _ _ B3;have B4:=kw4 wa bw _ _ B4;have hOBa:=hOB4.on bw;obtain ⟨m7,n7⟩:=hOBa 7 _ rfl;have hRa:=hRo4.on zU bw;have hsa:=zn5 hs4 bw.size;have hra:zbf (fun b=>w4.heap.size<=b) wa (thT q) [.string s0,.int .i64 v1,.int .i64 v2,.string v3,.slice v4 v5 v6]:=⟨_,_,_,_,by rw [<- HS0.out];rfl,hr1⟩;have hali:=(Below.refl wa.heap.size wa).alloc zn2 (.cells #[.string s0,.int .i64 v1,.int .i64 v2,.string v3,.slice v4 v5 v6] 85);have m4:=((hOBa.on hali) 7 _ rfl).1)|fail)
          refine hK.out _ _ ?_ (fun hHeld=>?_)
          ·(try dsimp only);(refine ⟨?_,?_,?_,?_,?_⟩<;>(repeat (with_reducible first|exact B0|exact B1|exact B2|exact B3|exact B4|refine zj ?_|refine zh ?_|refine za (zg nP) ?_))<;>done)
          clear hK K
          refine wpAnyH_take (i:=7) (oi:=_) (v:=_) rfl (by kernel_rfl) (by kernel_rfl) (by kernel_rfl) (fun _ _ _ h=>h) (Or.inl ⟨by rfl,by intro w hSw;(try dsimp only at hSw);go_simp;try (with_reducible rfl)⟩) (by assumption) ?_
          (try simp only [Act.put,List.setIfInBounds_toArray,List.set_cons_zero,List.set_cons_succ])
          refine wpAnyH_ready (rs:=[8]) (by kernel_rfl) (by simp) ?_
          refine AllReadyH.cons rfl (fun K hK=>?_) AllReadyH.nil
          go_simp
          refine hK.out _ _ ?_ (fun hHeld=>?_)
          ·(try dsimp only);(refine ⟨?_,?_,?_,?_,?_⟩<;>(repeat (with_reducible first|exact B0|exact B1|exact B2|exact B3|exact B4|refine zj ?_|refine zh ?_|refine za (zg nP) ?_))<;>done)
          clear hK K
          refine wpAnyH_ready (rs:=[9]) (by kernel_rfl) (by simp) ?_
          refine AllReadyH.cons rfl (fun K hK=>?_) AllReadyH.nil
          refine zH wa rfl _ _ 80 rfl wd.heap.size (fun _=>False) 85 ie (.agg #[.string ⟨#[]⟩,.int .i64 0,.int .i64 0,.string ⟨#[]⟩,.slice none 0 0]) 5 72 Tryz.underlying80 hie hie0 hie1 hie2 rfl zU (.slice ta h tc) acc (thT q) [.string s0,.int .i64 v1,.int .i64 v2,.string v3,.slice v4 v5 v6] w4.heap.size rfl rfl rfl (by simp [Value.oneCell']) hRa hra hs4 (fun x hx=>(hRo4.lt x hx).2) (fun b hb=>hb.elim) (by omega) (by unfold maxLen;omega) hsa ?_;intro vb wb hOb2 hgb2 hbb hat;have hBb:=hOBa.blk (hbb.block _ hod);obtain ⟨m5,n5⟩:=hBb 7 _ rfl;have hPa:P < wa.heap.size:=zn4 lP bw.size;have hPb:wb.heap[P]?=wa.heap[P]?:=(hgb2.block P (zn4 hPa hali.size) (fun e=>by have:=HRL.out P e.symm;omega)).trans (hali.block P hPa);have B0:=zF (p:=⟨P,0,none⟩) hPb B0;have B1:=zF (p:=⟨P,1,none⟩) hPb B1;have B2:=zF (p:=⟨P,2,none⟩) hPb B2;have B3:=zF (p:=⟨P,3,none⟩) hPb B3;have B4:=zF (p:=⟨P,4,none⟩) hPb B4;obtain ⟨vba,vbc,hvb,hvbl,hvbm⟩:=hOb2.form;rw [List.length_append,List.length_singleton,hlh] at hvb;subst hvb
          refine hK.out _ _ ?_ (fun hHeld=>?_)
          ·(try dsimp only);(refine ⟨?_,?_,?_,?_,?_⟩<;>(repeat (with_reducible first|exact B0|exact B1|exact B2|exact B3|exact B4|refine zj ?_|refine zh ?_|refine za (zg nP) ?_))<;>done)
          clear hK K
          (try (refine wpAnyH_take (i:=10) (oi:=_) (v:=_) rfl (by kernel_rfl) (by kernel_rfl) (by kernel_rfl) (fun _ _ _ h=>h) (Or.inl ⟨by rfl,by intro w hSw;(try dsimp only at hSw);go_simp;try (with_reducible rfl)⟩) (by assumption) ?_;(try simp only [Act.put,List.setIfInBounds_toArray,List.set_cons_zero,List.set_cons_succ])))
          refine wpAnyH_ready (rs:=[11]) (by kernel_rfl) (by simp) ?_
          refine AllReadyH.cons rfl (fun K hK=>?_) AllReadyH.nil
          go_simp
          refine hK.out _ _ ?_ (fun hHeld=>?_)
          ·(try dsimp only);(refine ⟨?_,?_,?_,?_,?_⟩<;>(repeat (with_reducible first|exact B0|exact B1|exact B2|exact B3|exact B4|refine zj ?_|refine zh ?_|refine za (zg nP) ?_))<;>done)
          clear hK K
          refine wpAnyH_done (by kernel_rfl) ?_ _
          have hBc:=hBb.set (i:=7) (by simp) (.slice vba (h+1) vbc)
          have hRc:=hOb2.set zU (X:=O) (i:=7) hod (.slice vba (h+1) vbc)
          have hFc:=((hF4.andD bw hs4).andD hbb zn2).setX (i:=7) (.slice vba (h+1) vbc)
          have hac2:(o.2.2.2.1.map thT).take (h+1)=acc++[thT q]:=by rw [List.take_succ_eq_append_getElem (by rw [List.length_map];exact hht),HAC.out,List.getElem_map,HQ.out]
          clear hOBa m7 n7 hRa hsa hra hali m4 hgb2 hbb hat hBb m5 n5 hOb2 k7 z7 B0 B1 B2 B3 B4 kw4
          go_wp2
          go_roundw
          case rel=>exact ⟨h+1,_,hhl,by go_num,hBc,by rw [hac2];exact hRc,hFc⟩
          case measure=>simp [RowKit.intOf];omega
         ·go_simp
          go_wp2_with (first|(go_at_call 37;(with_reducible refine hc2.mono ?_);rintro e wa ⟨v1,v2,v3,v4,v5,v6,rfl,hr1,_,b1⟩;have bw:Below w4.heap.size w4 wa:=((Below.refl _ w4).drew).trans b1;have B0:=kw4 wa bw _ _ B0;have B1:=kw4 wa bw _ _ B1;have B2:=kw4 wa bw _ _ B2;have B3:=kw4 wa bw _ _ B3;have B4:=kw4 wa bw _ _ B4;have hOBa:=hOB4.on bw;obtain ⟨m7,n7⟩:=hOBa 7 _ rfl;have hRa:=hRo4.on zU bw;have hsa:=zn5 hs4 bw.size;have hra:zbf (fun b=>w4.heap.size<=b) wa (thT q) [.string s0,.int .i64 v1,.int .i64 v2,.string v3,.slice v4 v5 v6]:=⟨_,_,_,_,by rw [<- HS0.out];rfl,hr1⟩;have hali:=(Below.refl wa.heap.size wa).alloc zn2 (.cells #[.string s0,.int .i64 v1,.int .i64 v2,.string v3,.slice v4 v5 v6] 85);have m4:=((hOBa.on hali) 7 _ rfl).1)|fail)
          refine hK.out _ _ ?_ (fun hHeld=>?_)
          ·(try dsimp only);(refine ⟨?_,?_,?_,?_,?_⟩<;>(repeat (with_reducible first|exact B0|exact B1|exact B2|exact B3|exact B4|refine zj ?_|refine zh ?_|refine za (zg nP) ?_))<;>done)
          clear hK K
          refine wpAnyH_take (i:=7) (oi:=_) (v:=_) rfl (by kernel_rfl) (by kernel_rfl) (by kernel_rfl) (fun _ _ _ h=>h) (Or.inl ⟨by rfl,by intro w hSw;(try dsimp only at hSw);go_simp;try (with_reducible rfl)⟩) (by assumption) ?_
          (try simp only [Act.put,List.setIfInBounds_toArray,List.set_cons_zero,List.set_cons_succ])
          refine wpAnyH_ready (rs:=[1,8]) (by kernel_rfl) (by simp) ?_
          refine AllReadyH.cons rfl (fun K hK=>?_) (AllReadyH.cons rfl (fun K hK=>?_) AllReadyH.nil)
          ·go_simp
           refine hK.out _ _ ?_ (fun hHeld=>?_)
           ·(try dsimp only);(refine ⟨?_,?_,?_,?_,?_⟩<;>(repeat (with_reducible first|exact B0|exact B1|exact B2|exact B3|exact B4|refine zj ?_|refine zh ?_|refine za (zg nP) ?_))<;>done)
           clear hK K
           refine wpAnyH_ready (rs:=[8]) (by kernel_rfl) (by simp) ?_
           refine AllReadyH.cons rfl (fun K hK=>?_) AllReadyH.nil
           go_simp
           refine hK.out _ _ ?_ (fun hHeld=>?_)
           ·(try dsimp only);(refine ⟨?_,?_,?_,?_,?_⟩<;>(repeat (with_reducible first|exact B0|exact B1|exact B2|exact B3|exact B4|refine zj ?_|refine zh ?_|refine za (zg nP) ?_))<;>done)
           clear hK K
           refine wpAnyH_ready (rs:=[9]) (by kernel_rfl) (by simp) ?_
           refine AllReadyH.cons rfl (fun K hK=>?_) AllReadyH.nil
           refine zH wa rfl _ _ 80 rfl wd.heap.size (fun _=>False) 85 ie (.agg #[.string ⟨#[]⟩,.int .i64 0,.int .i64 0,.string ⟨#[]⟩,.slice none 0 0]) 5 72 Tryz.underlying80 hie hie0 hie1 hie2 rfl zU (.slice ta h tc) acc (thT q) [.string s0,.int .i64 v1,.int .i64 v2,.string v3,.slice v4 v5 v6] w4.heap.size rfl rfl rfl (by simp [Value.oneCell']) hRa hra hs4 (fun x hx=>(hRo4.lt x hx).2) (fun b hb=>hb.elim) (by omega) (by unfold maxLen;omega) hsa ?_;intro vb wb hOb2 hgb2 hbb hat;have hBb:=hOBa.blk (hbb.block _ hod);obtain ⟨m5,n5⟩:=hBb 7 _ rfl;have hPa:P < wa.heap.size:=zn4 lP bw.size;have hPb:wb.heap[P]?=wa.heap[P]?:=(hgb2.block P (zn4 hPa hali.size) (fun e=>by have:=HRL.out P e.symm;omega)).trans (hali.block P hPa);have B0:=zF (p:=⟨P,0,none⟩) hPb B0;have B1:=zF (p:=⟨P,1,none⟩) hPb B1;have B2:=zF (p:=⟨P,2,none⟩) hPb B2;have B3:=zF (p:=⟨P,3,none⟩) hPb B3;have B4:=zF (p:=⟨P,4,none⟩) hPb B4;obtain ⟨vba,vbc,hvb,hvbl,hvbm⟩:=hOb2.form;rw [List.length_append,List.length_singleton,hlh] at hvb;subst hvb
           refine hK.out _ _ ?_ (fun hHeld=>?_)
           ·(try dsimp only);(refine ⟨?_,?_,?_,?_,?_⟩<;>(repeat (with_reducible first|exact B0|exact B1|exact B2|exact B3|exact B4|refine zj ?_|refine zh ?_|refine za (zg nP) ?_))<;>done)
           clear hK K
           (try (refine wpAnyH_take (i:=10) (oi:=_) (v:=_) rfl (by kernel_rfl) (by kernel_rfl) (by kernel_rfl) (fun _ _ _ h=>h) (Or.inl ⟨by rfl,by intro w hSw;(try dsimp only at hSw);go_simp;try (with_reducible rfl)⟩) (by assumption) ?_;(try simp only [Act.put,List.setIfInBounds_toArray,List.set_cons_zero,List.set_cons_succ])))
           refine wpAnyH_ready (rs:=[11]) (by kernel_rfl) (by simp) ?_
           refine AllReadyH.cons rfl (fun K hK=>?_) AllReadyH.nil
           go_simp
           refine hK.out _ _ ?_ (fun hHeld=>?_)
           ·(try dsimp only);(refine ⟨?_,?_,?_,?_,?_⟩<;>(repeat (with_reducible first|exact B0|exact B1|exact B2|exact B3|exact B4|refine zj ?_|refine zh ?_|refine za (zg nP) ?_))<;>done)
           clear hK K
           refine wpAnyH_done (by kernel_rfl) ?_ _
           have hBc:=hBb.set (i:=7) (by simp) (.slice vba (h+1) vbc)
           have hRc:=hOb2.set zU (X:=O) (i:=7) hod (.slice vba (h+1) vbc)
           have hFc:=((hF4.andD bw hs4).andD hbb zn2).setX (i:=7) (.slice vba (h+1) vbc)
           have hac2:(o.2.2.2.1.map thT).take (h+1)=acc++[thT q]:=by rw [List.take_succ_eq_append_getElem (by rw [List.length_map];exact hht),HAC.out,List.getElem_map,HQ.out]
           clear hOBa m7 n7 hRa hsa hra hali m4 hgb2 hbb hat hBb m5 n5 hOb2 k7 z7 B0 B1 B2 B3 B4 kw4
           go_wp2
           go_roundw
           case rel=>exact ⟨h+1,_,hhl,by go_num,hBc,by rw [hac2];exact hRc,hFc⟩
           case measure=>simp [RowKit.intOf];omega
          ·go_simp
           refine hK.out _ _ ?_ (fun hHeld=>?_)
           ·(try dsimp only);(refine ⟨?_,?_,?_,?_,?_⟩<;>(repeat (with_reducible first|exact B0|exact B1|exact B2|exact B3|exact B4|refine zj ?_|refine zh ?_|refine za (zg nP) ?_))<;>done)
           clear hK K
           refine wpAnyH_ready (rs:=[1]) (by kernel_rfl) (by simp) ?_
           refine AllReadyH.cons rfl (fun K hK=>?_) AllReadyH.nil
           go_simp
           refine hK.out _ _ ?_ (fun hHeld=>?_)
           ·(try dsimp only);(refine ⟨?_,?_,?_,?_,?_⟩<;>(repeat (with_reducible first|exact B0|exact B1|exact B2|exact B3|exact B4|refine zj ?_|refine zh ?_|refine za (zg nP) ?_))<;>done)
           clear hK K
           refine wpAnyH_ready (rs:=[9]) (by kernel_rfl) (by simp) ?_
           refine AllReadyH.cons rfl (fun K hK=>?_) AllReadyH.nil
           refine zH wa rfl _ _ 80 rfl wd.heap.size (fun _=>False) 85 ie (.agg #[.string ⟨#[]⟩,.int .i64 0,.int .i64 0,.string ⟨#[]⟩,.slice none 0 0]) 5 72 Tryz.underlying80 hie hie0 hie1 hie2 rfl zU (.slice ta h tc) acc (thT q) [.string s0,.int .i64 v1,.int .i64 v2,.string v3,.slice v4 v5 v6] w4.heap.size rfl rfl rfl (by simp [Value.oneCell']) hRa hra hs4 (fun x hx=>(hRo4.lt x hx).2) (fun b hb=>hb.elim) (by omega) (by unfold maxLen;omega) hsa ?_;intro vb wb hOb2 hgb2 hbb hat;have hBb:=hOBa.blk (hbb.block _ hod);obtain ⟨m5,n5⟩:=hBb 7 _ rfl;have hPa:P < wa.heap.size:=zn4 lP bw.size;have hPb:wb.heap[P]?=wa.heap[P]?:=(hgb2.block P (zn4 hPa hali.size) (fun e=>by have:=HRL.out P e.symm;omega)).trans (hali.block P hPa);have B0:=zF (p:=⟨P,0,none⟩) hPb B0;have B1:=zF (p:=⟨P,1,none⟩) hPb B1;have B2:=zF (p:=⟨P,2,none⟩) hPb B2;have B3:=zF (p:=⟨P,3,none⟩) hPb B3;have B4:=zF (p:=⟨P,4,none⟩) hPb B4;obtain ⟨vba,vbc,hvb,hvbl,hvbm⟩:=hOb2.form;rw [List.length_append,List.length_singleton,hlh] at hvb;subst hvb
           refine hK.out _ _ ?_ (fun hHeld=>?_)
           ·(try dsimp only);(refine ⟨?_,?_,?_,?_,?_⟩<;>(repeat (with_reducible first|exact B0|exact B1|exact B2|exact B3|exact B4|refine zj ?_|refine zh ?_|refine za (zg nP) ?_))<;>done)
           clear hK K
           (try (refine wpAnyH_take (i:=10) (oi:=_) (v:=_) rfl (by kernel_rfl) (by kernel_rfl) (by kernel_rfl) (fun _ _ _ h=>h) (Or.inl ⟨by rfl,by intro w hSw;(try dsimp only at hSw);go_simp;try (with_reducible rfl)⟩) (by assumption) ?_;(try simp only [Act.put,List.setIfInBounds_toArray,List.set_cons_zero,List.set_cons_succ])))
           refine wpAnyH_ready (rs:=[11]) (by kernel_rfl) (by simp) ?_
           refine AllReadyH.cons rfl (fun K hK=>?_) AllReadyH.nil
           go_simp
           refine hK.out _ _ ?_ (fun hHeld=>?_)
           ·(try dsimp only);(refine ⟨?_,?_,?_,?_,?_⟩<;>(repeat (with_reducible first|exact B0|exact B1|exact B2|exact B3|exact B4|refine zj ?_|refine zh ?_|refine za (zg nP) ?_))<;>done)
           clear hK K
           refine wpAnyH_done (by kernel_rfl) ?_ _
           have hBc:=hBb.set (i:=7) (by simp) (.slice vba (h+1) vbc)
           have hRc:=hOb2.set zU (X:=O) (i:=7) hod (.slice vba (h+1) vbc)
           have hFc:=((hF4.andD bw hs4).andD hbb zn2).setX (i:=7) (.slice vba (h+1) vbc)
           have hac2:(o.2.2.2.1.map thT).take (h+1)=acc++[thT q]:=by rw [List.take_succ_eq_append_getElem (by rw [List.length_map];exact hht),HAC.out,List.getElem_map,HQ.out]
           clear hOBa m7 n7 hRa hsa hra hali m4 hgb2 hbb hat hBb m5 n5 hOb2 k7 z7 B0 B1 B2 B3 B4 kw4
           go_wp2
           go_roundw
           case rel=>exact ⟨h+1,_,hhl,by go_num,hBc,by rw [hac2];exact hRc,hFc⟩
           case measure=>simp [RowKit.intOf];omega
        ·have i5:¬ (h:Int) < (ns:Int):=by omega
         have hhn:h=ns:=by omega
         subst hhn
         have hfull:acc=o.2.2.2.1.map thT:=by rw [<- HAC.out];exact List.take_of_length_le (by rw [List.length_map,HNS.out];omega)
         have hb4:Below w2.heap.size w2 w3:=hF3.bel hbd hle zn2
         have hQ4:=hQB.on hb4
         have hRow4:=hRow.on zap hb4
         have hsets:RdK (fun b=>w2.heap.size<=b) w3 5 (zbf (fun b=>w2.heap.size<=b) w3) (o.2.2.2.1.map thT) (.slice ta h tc):=by
          rw [<- hfull]
          exact (hRo3.rd zU).stay zU (fun b hb hl=>⟨by have:=hbd.size;omega,rfl⟩)
         have hgx:RdX (fun b=>w2.heap.size<=b) w3 (dcG o.2.1).2 (.agg #[.int .i64 z1,.int .i64 z2,.string z3,.slice z4 z5 z6]):=by
          rw [HGX.out]
          exact RdX.keep hOr (fun k hk hl=>⟨hk.1,hF3.block k hl (fun e=>hk.2 (Option.some.inj e))⟩)
         have hel:zba (fun b=>w2.heap.size<=b) w3 (dcO o) [.string ev,.bool hb',.int .i64 z1,.int .i64 z2,.string z3,.slice z4 z5 z6,.string tg,.slice ta h tc,.int .i64 ol,.int .i64 oc]:=by
          refine ⟨_,_,_,_,.slice ta h tc,?_,hgx,hsets⟩
          show _=[sD o.1,.bool (dcG o.2.1).1,_,_,_,_,sD o.2.2.1,_,.int .i64 o.2.2.2.2.1,.int .i64 o.2.2.2.2.2]
          rw [HEVT.out.1,HHB.out,HEVT.out.2.1,HEVT.out.2.2.1,HEVT.out.2.2.2.1]
         obtain ⟨k9,j9⟩:=hQ4 9 _ rfl
         have hws4:wk.heap.size<=w3.heap.size:=zn5 hFs hb4.size
         have t0:=(hOB 0 _ rfl).1
         have t1:=(hOB 1 _ rfl).1
         have t2:=(hOB 2 _ rfl).1
         have t3:=(hOB 3 _ rfl).1
         have t4:=(hOB 4 _ rfl).1
         have t5:=(hOB 5 _ rfl).1
         have t6:=(hOB 6 _ rfl).1
         have t7:=(hOB 7 _ rfl).1
         have t8:=(hOB 8 _ rfl).1
         have t9:=(hOB 9 _ rfl).1
         go_wp2_with (first
          | (at_builtin;refine zag w3 rfl _ _ 74 rfl wk.heap.size (fun _=>False) 82 io (.agg #[.string ⟨#[]⟩,.bool false,.int .i64 0,.int .i64 0,.string ⟨#[]⟩,.slice none 0 0,.string ⟨#[]⟩,.slice none 0 0,.int .i64 0,.int .i64 0]) 10 136 Tryz.underlying74 hio hio0 hio1 hio2 rfl zap (.slice ra g rc) acg (dcO o) [.string ev,.bool hb',.int .i64 z1,.int .i64 z2,.string z3,.slice z4 z5 z6,.string tg,.slice ta h tc,.int .i64 ol,.int .i64 oc] w2.heap.size rfl rfl rfl (by simp [Value.oneCell']) hRow4 hel hFs (fun x hx=>(hRow.lt x hx).2) (fun b hb=>hb.elim) (by omega) (by unfold maxLen;omega) hws4 ?_;intro vb wb2 hOb2 hgb2 hbb hat;have hBb:=hQ4.blk (hbb.block _ hql);obtain ⟨m9,n9⟩:=hBb 9 _ rfl;obtain ⟨vba,vbc,hvb,hvbl,hvbm⟩:=hOb2.form;rw [List.length_append,List.length_singleton,hlg] at hvb;subst hvb)
          | fail)
         have hBc:=hBb.set (i:=9) (by simp) (.slice vba (g+1) vbc)
         have hRc:=hOb2.set zap (X:=S) (i:=9) hql (.slice vba (g+1) vbc)
         have hFc:=((hF.andD hb4 hFs).andD hbb zn2).setX (i:=9) (.slice vba (g+1) vbc)
         have hac2:(t.1.2.2.2.2.map dcO).take (g+1)=acg++[dcO o]:=by rw [List.take_succ_eq_append_getElem (by rw [List.length_map];exact hgt),HACG.out,List.getElem_map,HO2.out]
         clear k9 j9 hBb m9 n9 hOb2 hgb2 hbb hat hQ4 hRow4 t0 t1 t2 t3 t4 t5 t6 t7 t8 t9
         go_wp2
         go_roundw
         case rel=>exact ⟨g+1,_,hgl,by go_num,hBc,by rw [hac2];exact hRc,hFc⟩
         case measure=>simp [RowKit.intOf];omega
    ·have i3:¬ (g:Int) < (m:Int):=by omega
     have hgm:g=m:=by omega
     subst hgm
     have hfull:acg=t.1.2.2.2.2.map dcO:=by rw [<- HACG.out];exact List.take_of_length_le (by rw [List.length_map,HM.out];omega)
     have hons:RdK (fun b=>S+1<=b) wr 10 (zba (fun b=>S+1<=b) wr) (t.1.2.2.2.2.map dcO) (.slice ra g rc):=by
      rw [<- hfull]
      exact (hRow.rd zap).stay zap (fun b hb hl=>⟨by omega,rfl⟩)
     have hinn:RdK (fun b=>S+1<=b) wr 11 (zad d (fun b=>S+1<=b) wr) (t.2.map (dcS d)) (.slice iq i ic):=hQr.stay (zy d) (fun b hb hl=>⟨hb,hF.block b hl (fun e=>by have e2:b=S:=Option.some.inj e;omega)⟩)
     have hel:zad (d+1) (fun b=>S+1<=b) wr (dcS (d+1) t) [.string sn,.int .i64 sl,.int .i64 sc,.bool sb,.bool se,.string sd,.string su,.int .i64 sw,.int .i64 sr,.slice ra g rc,.slice iq i ic]:=⟨_,_,(congrFun (congrFun HSD.out (.slice ra g rc)) (.slice iq i ic)).symm,hons,hinn⟩
     have hF2:=hF0.trans hF
     have hOr2:=hO'.keep (zy _) (bad':=fun _=>False) (w':=wr) (fun b hb hbad hl=>⟨hF2.block b hl (fun e=>hbad (Option.some.inj e)),fun q=>q⟩)
     have hbs:=hbr.size
     have t0:=(hQB 0 _ rfl).1
     have t1:=(hQB 1 _ rfl).1
     have t2:=(hQB 2 _ rfl).1
     have t3:=(hQB 3 _ rfl).1
     have t4:=(hQB 4 _ rfl).1
     have t5:=(hQB 5 _ rfl).1
     have t6:=(hQB 6 _ rfl).1
     have t7:=(hQB 7 _ rfl).1
     have t8:=(hQB 8 _ rfl).1
     have t9:=(hQB 9 _ rfl).1
     have t10:=(hQB 10 _ rfl).1
     go_wp2_with (first
      | (at_builtin;refine zag wr rfl _ _ 25 rfl w.heap.size (fun _=>False) 76 is (.agg #[.string ⟨#[]⟩,.int .i64 0,.int .i64 0,.bool false,.bool false,.string ⟨#[]⟩,.string ⟨#[]⟩,.int .i64 0,.int .i64 0,.slice none 0 0,.slice none 0 0]) 11 136 Tryz.underlying25 his his0 his1 his2 rfl (zy _) (.slice va j vc) ((l.map (dcS (d+1))).take j) (dcS (d+1) t) [.string sn,.int .i64 sl,.int .i64 sc,.bool sb,.bool se,.string sd,.string su,.int .i64 sw,.int .i64 sr,.slice ra g rc,.slice iq i ic] (S+1) rfl rfl rfl (by simp [Value.oneCell']) hOr2 hel (by omega) (fun x hx=>by have:=(hO'.lt x hx).2;omega) (fun b hb=>hb.elim) (by rw [hlj];omega) (by rw [hlj];unfold maxLen;omega) hbs ?_;intro vb wb2 hOb2 hgb2 hbb hat;obtain ⟨vba,vbc,hvb,hvbl,hvbm⟩:=hOb2.form;rw [List.length_append,List.length_singleton,hlj] at hvb;subst hvb)
      | fail)
     have hac2:(l.map (dcS (d+1))).take (j+1)=(l.map (dcS (d+1))).take j++[dcS (d+1) t]:=by rw [List.take_succ_eq_append_getElem (by rw [List.length_map];exact hjl),List.getElem_map,HT.out]
     have hbz:=hbr.trans hbb
     clear hgb2 hbb hat t0 t1 t2 t3 t4 t5 t6 t7 t8 t9 t10
     go_wp2
     go_roundw
     case rel=>exact ⟨j+1,hlt,by go_num,by rw [hac2];exact hOb2,hbz⟩
     case measure=>simp [RowKit.intOf];omega
  ·have i1:¬ (j:Int) < (n:Int):=by omega
   have hjn:(l.map (dcS (d+1))).take j=l.map (dcS (d+1)):=List.take_of_length_le (by rw [List.length_map,HN.out];omega)
   rw [hjn] at hO
   go_wp2
   go_ret
   refine ⟨_,rfl,?_,hb⟩
   exact hO.rd (zy _)
theorem zkI:∀ (d:Nat),DsC d
 | 0=>zmm
 | d+1=>zmk d (zkI d)
