import Derived.Test.YtppefcdkgejfbaaGreatDoorXac10
import Derived.Test.YtppefcdkgejfbaaGreatDoorXac05
import Derived.Test.YtppefcdkgejfbaaGreatDoorXac09
import Derived.Test.YtppefcdkgejfbaaGreatDoorXac07
set_option maxRecDepth 100000
set_option maxHeartbeats 32000000
namespace Go.Proofs.YtppefcdkgejfbaaGreatDoor
open Go.RowKit Go.Lib
set_option linter.unusedSimpArgs false
set_option linter.unusedVariables false
attribute [local go_sem ↓] Go.wp_at_zero Go.wp_at_succ
def clX (x:Sx):Sx:=⟨x.1+1,cln x.1 x.2⟩
def isIf:Value->Bool
 | .iface _ _=>true
 | _=>false
def thT (s:List UInt8 × Sx):List UInt8 × Sx:=(s.1,clX s.2)
def thO (o:OnC):OnC:=(o.1,(o.2.1.1 && isIf (exX o.2.1.2),clX o.2.1.2),o.2.2.1,o.2.2.2.1.map thT,o.2.2.2.2)
def thH (h:HdC):HdC:=(h.1,h.2.1,h.2.2.1,h.2.2.2.1,h.2.2.2.2.map thO)
def thS:(d:Nat)->St d->St d
 | 0,t=>Empty.elim t
 | d+1,t=>show HdC × List (St d) from (thH t.1,t.2.map (thS d))
def thC (d:Nat) (c:ChD d):ChG d:=(c.1,c.2.1,c.2.2.1,c.2.2.2.map (thS d))
theorem exX_cl (x:Sx):exX (clX x)=exX x:=exV_cln x.1 x.2
theorem gd_th (o:OnC):gdV (thO o).2.1=if o.2.1.1=true then exX o.2.1.2 else .nilIface:=by
 show (if (o.2.1.1 && isIf (exX o.2.1.2))=true then exX (clX o.2.1.2) else .nilIface)=_
 rw [exX_cl]
 by_cases hg:o.2.1.1=true
 ·rw [if_pos hg,hg]
  rcases exX_form o.2.1.2 with h|⟨u,y,h⟩
  ·rw [h];rfl
  ·rw [h];rfl
 ·rw [if_neg hg,if_neg (by simp [hg])]
theorem tot_mem:∀ {d:Nat}{l:List (St (d+1))}{t:St (d+1)},t∈l->totS d t.2<=totS (d+1) l
 | d,x :: r,t,h=>by
  show totS d t.2<=((x :: r).map (fun t:St (d+1)=>1+totS d t.2)).sum
  rw [List.map_cons,List.sum_cons]
  rcases List.mem_cons.1 h with rfl|h
  ·omega
  ·have:=tot_mem h
   have e:totS (d+1) r=(r.map (fun t:St (d+1)=>1+totS d t.2)).sum:=rfl
   omega
theorem tot_len:∀ {d:Nat}(l:List (St (d+1))),l.length<=totS (d+1) l
 | d,[]=>Nat.zero_le _
 | d,x :: r=>by
  show (x :: r).length<=((x :: r).map (fun t:St (d+1)=>1+totS d t.2)).sum
  rw [List.map_cons,List.sum_cons,List.length_cons]
  have:=tot_len r
  have e:totS (d+1) r=(r.map (fun t:St (d+1)=>1+totS d t.2)).sum:=rfl
  omega
abbrev zS11:Obj:=.cells #[.string ⟨#[]⟩,.int .i64 0,.int .i64 0,.bool false,.bool false,.string ⟨#[]⟩,.string ⟨#[]⟩,.int .i64 0,.int .i64 0,.slice none 0 0,.slice none 0 0] 79
abbrev zSl:List Value:=[.string ⟨#[]⟩,.int .i64 0,.int .i64 0,.bool false,.bool false,.string ⟨#[]⟩,.string ⟨#[]⟩,.int .i64 0,.int .i64 0,.slice none 0 0,.slice none 0 0]
def TsC (d:Nat):Prop:=∀ (ok:Nat->Prop) (w:World) (l:List (St d)) (v:Value),RdK ok w 11 (rStD d ok w) l v->(∀ t∈l,SmS d t)->totS d l<=400->
 Calls Tryz.prog 18 #[v] w fun e w'=>∃ u,e=.returned u/\RdK (fun b=>w.heap.size<=b) w' 11 (rSt d (fun b=>w.heap.size<=b) w') (l.map (thS d)) u/\Below w.heap.size w w'
theorem ts_zero:TsC 0:=by
 intro ok w l v h _ _
 cases l with
 | cons x _=>exact Empty.elim x
 | nil=>
  obtain ⟨a,cap,rfl,_⟩:=h.form
  simp only [List.length_nil]
  clear h
  go_enter Tryz.func18,Tryz.ntmps18
  go_wp2
  go_loopw [3,12] (fun a3 i wr=>a3=.slice none 0 0/\i=.int .i64 0/\Below w.heap.size w wr) (fun _ _ _=>0)
  case atStart=>exact ⟨rfl,rfl,Below.refl _ _⟩
  case round=>
   obtain ⟨rfl,rfl,hb⟩:=hrel
   go_wp2
   go_ret
   exact ⟨_,rfl,rdK_none _ _ _ _,hb⟩
theorem ts_step (d:Nat) (IH:TsC d):TsC (d+1):=by
 intro ok w l v h hok htot
 obtain ⟨is,his,his0,his1,his2⟩:=info_parts Tryz.infoSt
 obtain ⟨io,hio,hio0,hio1,hio2⟩:=info_parts Tryz.infoOn
 obtain ⟨ie,hie,hie0,hie1,hie2⟩:=info_parts Tryz.infoSet
 obtain ⟨a,cap,rfl,hlc,hcm⟩:=h.form
 unfold maxLen at hcm
 have hl3:l.length<=400:=Nat.le_trans (tot_len l) htot
 have HTOT:=mkHid htot
 have HC:Hid (RdK ok w 11 (rStD (d+1) ok w) l (.slice a l.length cap)):=h
 have HK:Hid (∀ t∈l,SmS (d+1) t):=hok
 obtain ⟨n,hn⟩:∃ n,l.length=n:=⟨_,rfl⟩
 rw [hn] at hlc hl3 ⊢
 have HN:Hid (l.length=n):=hn
 clear h hok hn htot
 go_enter Tryz.func18,Tryz.ntmps18
 go_wp2
 go_loopw [3,12] (fun a3 ix wr=>∃ (j:Nat),j<=n/\ix=.int .i64 (j:Int)/\OwnB wr w.heap.size (fun _=>False) 79 11 (rSt (d+1)) a3 ((l.map (thS (d+1))).take j)/\Below w.heap.size w wr) (fun _ ix _=>n - (RowKit.intOf ix).toNat)
 case atStart=>exact ⟨0,Nat.zero_le _,rfl,ownB_nil _ _ _ _ _ _,Below.refl _ _⟩
 case round=>
  obtain ⟨j,hj,rfl,hO,hb⟩:=hrel
  obtain ⟨va,vc,rfl,hvl,hvm⟩:=hO.form
  have hlj:((l.map (thS (d+1))).take j).length=j:=by rw [List.length_take,List.length_map,HN.out];omega
  rw [hlj] at hO hvl ⊢
  by_cases hlt:j < n
  ·have hjl:j < l.length:=by rw [HN.out];exact hlt
   obtain ⟨b,off,p1,p3,p4,p6,rfl,_,hbl,hOn,hIn,hc⟩:=stD_at HC.out j hjl
   have hkt:=HK.out _ (List.getElem_mem hjl)
   have htt:=tot_mem (List.getElem_mem hjl)
   obtain ⟨sn,sl,sc,sb,se,sd,su,sw,sr,hsv⟩:∃ sn sl sc sb se sd su sw sr,hdD l[j].1=fun so si=>[.string sn,.int .i64 sl,.int .i64 sc,.bool sb,.bool se,.string sd,.string su,.int .i64 sw,.int .i64 sr,so,si]:=⟨_,_,_,_,_,_,_,_,_,rfl⟩
   have hsd:hdV (thH l[j].1)=fun so si=>[.string sn,.int .i64 sl,.int .i64 sc,.bool sb,.bool se,.string sd,.string su,.int .i64 sw,.int .i64 sr,so,si]:=hsv
   rw [hsv] at hc
   obtain ⟨t,ht⟩:∃ t,l[j]=t:=⟨_,rfl⟩
   rw [ht] at hOn hIn hc hkt hsd htt
   obtain ⟨m,hm⟩:∃ m,t.1.2.2.2.2.length=m:=⟨_,rfl⟩
   obtain ⟨i,hi⟩:∃ m,t.2.length=m:=⟨_,rfl⟩
   rw [hm] at hOn hc
   rw [hi] at hIn hc
   have C0:=(hb.cell (p:=⟨b,off+j*11+0,none⟩) hbl).trans (hc 0 _ rfl)
   have C1:=(hb.cell (p:=⟨b,off+j*11+1,none⟩) hbl).trans (hc 1 _ rfl)
   have C2:=(hb.cell (p:=⟨b,off+j*11+2,none⟩) hbl).trans (hc 2 _ rfl)
   have C3:=(hb.cell (p:=⟨b,off+j*11+3,none⟩) hbl).trans (hc 3 _ rfl)
   have C4:=(hb.cell (p:=⟨b,off+j*11+4,none⟩) hbl).trans (hc 4 _ rfl)
   have C5:=(hb.cell (p:=⟨b,off+j*11+5,none⟩) hbl).trans (hc 5 _ rfl)
   have C6:=(hb.cell (p:=⟨b,off+j*11+6,none⟩) hbl).trans (hc 6 _ rfl)
   have C7:=(hb.cell (p:=⟨b,off+j*11+7,none⟩) hbl).trans (hc 7 _ rfl)
   have C8:=(hb.cell (p:=⟨b,off+j*11+8,none⟩) hbl).trans (hc 8 _ rfl)
   have C9:=(hb.cell (p:=⟨b,off+j*11+9,none⟩) hbl).trans (hc 9 _ rfl)
   have C10:=(hb.cell (p:=⟨b,off+j*11+10,none⟩) hbl).trans (hc 10 _ rfl)
   rw [Nat.add_zero] at C0
   have HOn:Hid (RdK ok w 10 (rOnD ok w) t.1.2.2.2.2 (.slice p1 m p3)):=hOn
   have HSD:Hid (hdV (thH t.1)=fun so si=>[.string sn,.int .i64 sl,.int .i64 sc,.bool sb,.bool se,.string sd,.string su,.int .i64 sw,.int .i64 sr,so,si]):=hsd
   have HKT:Hid (SmS (d+1) t):=hkt
   have HT:Hid (l[j]=t):=ht
   have HM:Hid (t.1.2.2.2.2.length=m):=hm
   have i1:(j:Int) < (n:Int):=by omega
   have i2:(0:Int)<=(j:Int):=by omega
   have hal:=(Below.refl wr.heap.size wr).alloc Nat.le.refl (.cells #[.string sn,.int .i64 sl,.int .i64 sc,.bool sb,.bool se,.string sd,.string su,.int .i64 sw,.int .i64 sr,.slice p1 m p3,.slice p4 i p6] 48)
   have hbx:=hb.trans (hal.mono hb.size)
   have hX:Bn (wr.alloc (.cells #[.string sn,.int .i64 sl,.int .i64 sc,.bool sb,.bool se,.string sd,.string su,.int .i64 sw,.int .i64 sr,.slice p1 m p3,.slice p4 i p6] 48)) wr.heap.size [.string sn,.int .i64 sl,.int .i64 sc,.bool sb,.bool se,.string sd,.string su,.int .i64 sw,.int .i64 sr,.slice p1 m p3,.slice p4 i p6]:=Bn.new wr [.string sn,.int .i64 sl,.int .i64 sc,.bool sb,.bool se,.string sd,.string su,.int .i64 sw,.int .i64 sr,.slice p1 m p3,.slice p4 i p6] 48 _ rfl
   have hcall:=fun w1 (b1:Below w.heap.size w w1)=>IH (fun k=>ok k) w1 t.2 (.slice p4 i p6) (hIn.stay (kp_stD d) (fun k hk hl=>⟨hk,b1.block k hl⟩)) hkt.2 (Nat.le_trans htt HTOT.out)
   have hsx:(wr.alloc (.cells #[.string sn,.int .i64 sl,.int .i64 sc,.bool sb,.bool se,.string sd,.string su,.int .i64 sw,.int .i64 sr,.slice p1 m p3,.slice p4 i p6] 48)).heap.size=wr.heap.size+1:=by simp
   clear hc hsv hsd ht hkt hm hOn hIn htt
   go_upto_region 6 with fail
   clear C0 C1 C2 C3 C4 C5 C6 C7 C8 C9 C10
   obtain ⟨S,hS⟩:∃ S,wr.heap.size=S:=⟨_,rfl⟩
   have hO':=hO.on (kp_st _) hal
   rw [hS] at hX hsx hal ⊢
   generalize wr.alloc (.cells #[.string sn,.int .i64 sl,.int .i64 sc,.bool sb,.bool se,.string sd,.string su,.int .i64 sw,.int .i64 sr,.slice p1 m p3,.slice p4 i p6] 48)=wx at *
   have hcall2:∀ w1,Below w.heap.size w w1->Calls Tryz.prog 18 #[.slice p4 i p6] w1 fun e w'=>∃ iq ic,e=.returned (.slice iq i ic)/\RdK (fun b=>w1.heap.size<=b) w' 11 (rSt d (fun b=>w1.heap.size<=b) w') (t.2.map (thS d)) (.slice iq i ic)/\Below w1.heap.size w1 w':=fun w1 b1=>(hcall w1 b1).mono (fun e w' hh=>by
    obtain ⟨u,h1,h2,h3⟩:=hh
    obtain ⟨iq,ic,rfl,_⟩:=h2.form
    rw [List.length_map,hi] at h1 h2
    exact ⟨iq,ic,h1,h2,h3⟩)
   clear hcall hi
   have hSw:w.heap.size<=S:=by have:=hb.size;omega
   go_cut [6] (fun u6 wc=>∃ Q iq ic,u6=.pointer (some ⟨Q,0,none⟩)/\S+1<=Q/\Bn wc Q [.string sn,.int .i64 sl,.int .i64 sc,.bool sb,.bool se,.string sd,.string su,.int .i64 sw,.int .i64 sr,.slice none 0 0,.slice iq i ic]/\RdK (fun k=>S+1<=k/\k≠Q) wc 11 (rSt d (fun k=>S+1<=k/\k≠Q) wc) (t.2.map (thS d)) (.slice iq i ic)/\Below (S+1) wx wc)
   case first=>
    clear HOn HKT HC HK hO hO' hal hb IH HSD HT HM
    have hbz:Below w.heap.size w (wx.alloc zS11):=hbx.alloc hbx.size _
    have hZ0:Bn (wx.alloc zS11) (S+1) zSl:=Bn.new wx zSl 79 _ hsx.symm
    have hzx:(wx.alloc zS11).heap.size=S+2:=by simp;omega
    have n1:S≠S+1:=by omega
    have X0:=(hX 0 _ rfl).1
    have X1:=(hX 1 _ rfl).1
    have X2:=(hX 2 _ rfl).1
    have X3:=(hX 3 _ rfl).1
    have X4:=(hX 4 _ rfl).1
    have X5:=(hX 5 _ rfl).1
    have X6:=(hX 6 _ rfl).1
    have X7:=(hX 7 _ rfl).1
    have X8:=(hX 8 _ rfl).1
    have X9:=(hX 9 _ rfl).1
    have X10:=(hX 10 _ rfl).1
    go_region_held_law (fun w'=>w'.cell? ⟨S,0,none⟩=some (.string sn)/\w'.cell? ⟨S,1,none⟩=some (.int .i64 sl)/\w'.cell? ⟨S,2,none⟩=some (.int .i64 sc)/\w'.cell? ⟨S,3,none⟩=some (.bool sb)/\w'.cell? ⟨S,4,none⟩=some (.bool se)/\w'.cell? ⟨S,5,none⟩=some (.string sd)/\w'.cell? ⟨S,6,none⟩=some (.string su)/\w'.cell? ⟨S,7,none⟩=some (.int .i64 sw)/\w'.cell? ⟨S,8,none⟩=some (.int .i64 sr)/\w'.cell? ⟨S,10,none⟩=some (.slice p4 i p6))
     ((refine ⟨?_,?_,?_,?_,?_,?_,?_,?_,?_,?_⟩<;>(repeat (with_reducible first|exact X0|exact X1|exact X2|exact X3|exact X4|exact X5|exact X6|exact X7|exact X8|exact X10|exact Y0|exact Y1|exact Y2|exact Y3|exact Y4|exact Y5|exact Y6|exact Y7|exact Y8|exact Y10|refine cell_al ?_|refine cell_dr ?_|refine cell_far4 (ne_pt n1) ?_|refine cell_far4 (ne_pt n2) ?_))<;>done))
     (first
      | (go_at_call 18;(with_reducible refine (hcall2 _ hbx.drew).mono ?_);rintro e w1 ⟨iq,ic,rfl,hr1,b1⟩;have bw:Below wx.heap.size wx w1:=((Below.refl _ wx).drew).trans b1;have n2:S≠w1.heap.size:=(by have:=bw.size;omega);have kc:∀ p u,wx.cell? p=some u->w1.cell? p=some u:=fun p u hp=>(by rw [bw.cell (World.block_lt_of_cell? wx _ hp)];exact hp);have Y0:=kc _ _ X0;have Y1:=kc _ _ X1;have Y2:=kc _ _ X2;have Y3:=kc _ _ X3;have Y4:=kc _ _ X4;have Y5:=kc _ _ X5;have Y6:=kc _ _ X6;have Y7:=kc _ _ X7;have Y8:=kc _ _ X8;have Y10:=kc _ _ X10)
      | (go_at_call 18;(with_reducible refine (hcall2 _ hbz.drew).mono ?_);rintro e w1 ⟨iq,ic,rfl,hr1,b1⟩;have bz:Below (wx.alloc zS11).heap.size (wx.alloc zS11) w1:=((Below.refl _ (wx.alloc zS11)).drew).trans b1;have bw:Below wx.heap.size wx w1:=((Below.refl wx.heap.size wx).alloc Nat.le.refl zS11).trans (bz.mono (by rw [hsx,hzx];omega));have kc:∀ p u,wx.cell? p=some u->w1.cell? p=some u:=fun p u hp=>(by rw [bw.cell (World.block_lt_of_cell? wx _ hp)];exact hp);have Y0:=kc _ _ X0;have Y1:=kc _ _ X1;have Y2:=kc _ _ X2;have Y3:=kc _ _ X3;have Y4:=kc _ _ X4;have Y5:=kc _ _ X5;have Y6:=kc _ _ X6;have Y7:=kc _ _ X7;have Y8:=kc _ _ X8;have Y10:=kc _ _ X10;have hZ:=hZ0.on bz;obtain ⟨z0,f0⟩:=hZ 0 _ rfl;obtain ⟨z1,f1⟩:=hZ 1 _ rfl;obtain ⟨z2,f2⟩:=hZ 2 _ rfl;obtain ⟨z3,f3⟩:=hZ 3 _ rfl;obtain ⟨z4,f4⟩:=hZ 4 _ rfl;obtain ⟨z5,f5⟩:=hZ 5 _ rfl;obtain ⟨z6,f6⟩:=hZ 6 _ rfl;obtain ⟨z7,f7⟩:=hZ 7 _ rfl;obtain ⟨z8,f8⟩:=hZ 8 _ rfl;obtain ⟨z9,f9⟩:=hZ 9 _ rfl;obtain ⟨z10,f10⟩:=hZ 10 _ rfl)
      | fail)
    ·have bw2:Below (S+1) wx w1:=by rw [<- hsx];exact bw
     have hs1:S+1<=w1.heap.size:=by have:=bw.size;omega
     have hr2:=hr1.stay (kp_st d) (ok':=fun k=>S+1<=k/\k≠w1.heap.size) (w':=w1.alloc (.cells #[.string sn,.int .i64 sl,.int .i64 sc,.bool sb,.bool se,.string sd,.string su,.int .i64 sw,.int .i64 sr,.slice none 0 0,.slice iq i ic] 79)) (fun k hk hl=>⟨⟨by have hk':wx.heap.size<=k:=hk;omega,by omega⟩,((Below.refl w1.heap.size w1).alloc Nat.le.refl _).block k hl⟩)
     go_wp2
     go_meet
     case rel=>exact ⟨w1.heap.size,iq,ic,rfl,hs1,Bn.new w1 [.string sn,.int .i64 sl,.int .i64 sc,.bool sb,.bool se,.string sd,.string su,.int .i64 sw,.int .i64 sr,.slice none 0 0,.slice iq i ic] 79 _ rfl,hr2,bw2.alloc hs1 _⟩
    ·have bw2:Below (S+1) wx w1:=by rw [<- hsx];exact bw
     have hQ2:=(((((((((((hZ.set (i:=0) (by simp) (.string sn)).set (i:=1) (by simp) (.int .i64 sl)).set (i:=2) (by simp) (.int .i64 sc)).set (i:=3) (by simp) (.bool sb)).set (i:=4) (by simp) (.bool se)).set (i:=5) (by simp) (.string sd)).set (i:=6) (by simp) (.string su)).set (i:=7) (by simp) (.int .i64 sw)).set (i:=8) (by simp) (.int .i64 sr)).set (i:=9) (by simp) (.slice none 0 0)).set (i:=10) (by simp) (.slice iq i ic))
     have hb2:=(below_st (below_st (below_st (below_st (below_st (below_st (below_st (below_st (below_st (below_st (below_st bw2 (S+1) 0 (.string sn) Nat.le.refl) (S+1) 1 (.int .i64 sl) Nat.le.refl) (S+1) 2 (.int .i64 sc) Nat.le.refl) (S+1) 3 (.bool sb) Nat.le.refl) (S+1) 4 (.bool se) Nat.le.refl) (S+1) 5 (.string sd) Nat.le.refl) (S+1) 6 (.string su) Nat.le.refl) (S+1) 7 (.int .i64 sw) Nat.le.refl) (S+1) 8 (.int .i64 sr) Nat.le.refl) (S+1) 9 (.slice none 0 0) Nat.le.refl) (S+1) 10 (.slice iq i ic) Nat.le.refl)
     have hk2:∀ k,(wx.alloc zS11).drew.heap.size<=k->k < w1.heap.size->(S+1<=k/\k≠S+1)/\(((((((((((w1.setCell ⟨S+1,0,none⟩ (.string sn)).setCell ⟨S+1,1,none⟩ (.int .i64 sl)).setCell ⟨S+1,2,none⟩ (.int .i64 sc)).setCell ⟨S+1,3,none⟩ (.bool sb)).setCell ⟨S+1,4,none⟩ (.bool se)).setCell ⟨S+1,5,none⟩ (.string sd)).setCell ⟨S+1,6,none⟩ (.string su)).setCell ⟨S+1,7,none⟩ (.int .i64 sw)).setCell ⟨S+1,8,none⟩ (.int .i64 sr)).setCell ⟨S+1,9,none⟩ (.slice none 0 0)).setCell ⟨S+1,10,none⟩ (.slice iq i ic)).heap[k]?=w1.heap[k]?:=fun k hk hl=>by
      have hk':(wx.alloc zS11).heap.size<=k:=hk
      rw [hzx] at hk'
      exact ⟨by omega,by rw [Below.heap_setCell _ _ _ _ (fun e=>by have e2:k=S+1:=e;omega),Below.heap_setCell _ _ _ _ (fun e=>by have e2:k=S+1:=e;omega),Below.heap_setCell _ _ _ _ (fun e=>by have e2:k=S+1:=e;omega),Below.heap_setCell _ _ _ _ (fun e=>by have e2:k=S+1:=e;omega),Below.heap_setCell _ _ _ _ (fun e=>by have e2:k=S+1:=e;omega),Below.heap_setCell _ _ _ _ (fun e=>by have e2:k=S+1:=e;omega),Below.heap_setCell _ _ _ _ (fun e=>by have e2:k=S+1:=e;omega),Below.heap_setCell _ _ _ _ (fun e=>by have e2:k=S+1:=e;omega),Below.heap_setCell _ _ _ _ (fun e=>by have e2:k=S+1:=e;omega),Below.heap_setCell _ _ _ _ (fun e=>by have e2:k=S+1:=e;omega),Below.heap_setCell _ _ _ _ (fun e=>by have e2:k=S+1:=e;omega)]⟩
     have hr2:=hr1.stay (kp_st d) (ok':=fun k=>S+1<=k/\k≠S+1) hk2
     go_wp2
     go_meet
     case rel=>exact ⟨S+1,iq,ic,rfl,Nat.le_refl _,hQ2,hr2,hb2⟩
   case rest=>
    obtain ⟨Q,iq,ic,rfl,hQ,hQb,hQr,hbq⟩:=hcut
    have hXc:=hX.blk (hbq.block S (by omega))
    have hbw:=hbx.trans (hbq.mono (by omega))
    have hOc:=hO'.on (kp_st _) (show Below wx.heap.size wx wc by rw [hsx];exact hbq)
    have hm3:m<=400:=by have:=HKT.out.1.2.2.2.1;rw [HM.out] at this;exact this
    have x9:=(hXc 9 _ rfl).1
    obtain ⟨wk,hwk⟩:∃ x,x=wc:=⟨_,rfl⟩
    subst hwk
    go_wp2
    go_loopw [42] (fun ix wr=>∃ (g:Nat) (sl2:Value),g<=m/\ix=.int .i64 (g:Int)/\Bn wr Q [.string sn,.int .i64 sl,.int .i64 sc,.bool sb,.bool se,.string sd,.string su,.int .i64 sw,.int .i64 sr,sl2,.slice iq i ic]/\OwnB wr wk.heap.size (fun _=>False) 88 6 rOn sl2 ((t.1.2.2.2.2.map thO).take g)/\Fx Q wk wr) (fun ix _=>m - (RowKit.intOf ix).toNat)
    case atStart=>exact ⟨0,_,Nat.zero_le _,rfl,hQb,ownB_nil _ _ _ _ _ _,Fx.refl _ _⟩
    case round=>
     clear x9
     obtain ⟨g,sl2,hg,rfl,hQB,hRow,hF⟩:=hrel
     obtain ⟨acg,hacg⟩:∃ acg,(t.1.2.2.2.2.map thO).take g=acg:=⟨_,rfl⟩
     have hlg:acg.length=g:=by rw [<- hacg,List.length_take,List.length_map,HM.out];omega
     rw [hacg] at hRow
     have HACG:Hid ((t.1.2.2.2.2.map thO).take g=acg):=hacg
     clear hacg
     obtain ⟨ra,rc,rfl,hrl,hrm⟩:=hRow.form
     rw [hlg] at hRow hQB hrl
     have hql:Q < wk.heap.size:=hQb.lt
     have hXr:=hXc.fx hF (by omega)
     have hFs:=hF.size
     have hws:=hXc.lt
     by_cases hgl:g < m
     ·have hgt:g < t.1.2.2.2.2.length:=by rw [HM.out];exact hgl
      obtain ⟨bo,oo,c0,c1,c2,c3,s1,s3,rfl,_,hbl2,hGx,hSe,hco⟩:=onD_at HOn.out g hgt
      have hko:=HKT.out.1.2.2.2.2 _ (List.getElem_mem hgt)
      obtain ⟨o,ho⟩:∃ o,t.1.2.2.2.2[g]=o:=⟨_,rfl⟩
      rw [ho] at hGx hSe hco hko
      obtain ⟨ns,hns⟩:∃ m,o.2.2.2.1.length=m:=⟨_,rfl⟩
      rw [hns] at hSe hco
      obtain ⟨x1,x2,x3,x4,x5,x6,rfl,rfl,rfl,rfl⟩:=rdX_let hGx
      obtain ⟨ev,hev⟩:∃ e,sD o.1=.string e:=⟨_,rfl⟩
      obtain ⟨tg,htg⟩:∃ e,sD o.2.2.1=.string e:=⟨_,rfl⟩
      obtain ⟨gb,hgb⟩:∃ x,o.2.1.1=x:=⟨_,rfl⟩
      obtain ⟨ol,hol⟩:∃ x,o.2.2.2.2.1=x:=⟨_,rfl⟩
      obtain ⟨oc,hoc⟩:∃ x,o.2.2.2.2.2=x:=⟨_,rfl⟩
      rw [hev,htg,hgb,hol,hoc] at hco
      have hbr:Below w.heap.size w wr:=hF.bel hbw (by omega) Nat.le.refl
      have P9:=(hXr 9 _ rfl).1
      have O0:=(hbr.cell (p:=⟨bo,oo+g*10+0,none⟩) hbl2).trans (hco 0 _ rfl)
      have O1:=(hbr.cell (p:=⟨bo,oo+g*10+1,none⟩) hbl2).trans (hco 1 _ rfl)
      have O2:=(hbr.cell (p:=⟨bo,oo+g*10+2,none⟩) hbl2).trans (hco 2 _ rfl)
      have O3:=(hbr.cell (p:=⟨bo,oo+g*10+3,none⟩) hbl2).trans (hco 3 _ rfl)
      have O4:=(hbr.cell (p:=⟨bo,oo+g*10+4,none⟩) hbl2).trans (hco 4 _ rfl)
      have O5:=(hbr.cell (p:=⟨bo,oo+g*10+5,none⟩) hbl2).trans (hco 5 _ rfl)
      have O6:=(hbr.cell (p:=⟨bo,oo+g*10+6,none⟩) hbl2).trans (hco 6 _ rfl)
      have O7:=(hbr.cell (p:=⟨bo,oo+g*10+7,none⟩) hbl2).trans (hco 7 _ rfl)
      have O8:=(hbr.cell (p:=⟨bo,oo+g*10+8,none⟩) hbl2).trans (hco 8 _ rfl)
      have O9:=(hbr.cell (p:=⟨bo,oo+g*10+9,none⟩) hbl2).trans (hco 9 _ rfl)
      rw [Nat.add_zero] at O0
      obtain ⟨gv,hgv⟩:∃ gv,exX o.2.1.2=gv:=⟨_,rfl⟩
      have hth:∀ w1,Below w.heap.size w w1->Calls Tryz.prog 40 #[.agg #[.int .i64 x1,.int .i64 x2,.string x3,.slice x4 x5 x6]] w1 fun e w'=>e=.returned gv/\Below w1.heap.size w1 w':=fun w1 b1=>by
       rw [<- hgv];exact theirs_any o.2.1.2.1 ok o.2.1.2.2 _ w1 (hGx.keep (fun k hk hl=>⟨hk,b1.block k hl⟩):RdX ok w1 o.2.1.2 _)
      have hgf:=exX_form o.2.1.2
      rw [hgv] at hgf
      have i3:(g:Int) < (m:Int):=by omega
      have i4:(0:Int)<=(g:Int):=by omega
      have hbw2:=hbw.size
      have HEVT:Hid (sV o.1=.string ev/\sV o.2.2.1=.string tg/\o.2.2.2.2.1=ol/\o.2.2.2.2.2=oc):=⟨hev,htg,hol,hoc⟩
      have HGD:Hid (gdV (thO o).2.1=if gb=true then gv else .nilIface):=by
       show _=_
       rw [gd_th,hgb,hgv]
      have HCO:=mkHid hco
      have HO2:Hid (t.1.2.2.2.2[g]=o):=ho
      have HKO:Hid (OnS o):=hko
      have HSE:Hid (RdK ok w 5 (rSetD ok w) o.2.2.2.1 (.slice s1 ns s3)):=hSe
      have HNS:Hid (o.2.2.2.1.length=ns):=hns
      clear hco hgv hev htg hol hoc hgb ho hko hSe hns hGx
      go_wp2
      go_cut [8] (fun u8 wd=>∃ O,u8=.pointer (some ⟨O,0,none⟩)/\wr.heap.size<=O/\Bn wd O [.string ev,.nilIface,.string tg,.slice none 0 0,.int .i64 ol,.int .i64 oc]/\Below wr.heap.size wr wd)
      case first=>
       have n1:S≠wr.heap.size:=by omega
       have n2:bo≠wr.heap.size:=by omega
       clear HOn HKT HC HK hO hO' hal hb IH HSD HT HM hRow hQB hQr hOc hXr hXc hX
       go_region_held_law (fun w'=>w'.cell? ⟨S,9,none⟩=some (.slice (some ⟨bo,oo,none⟩) m p3)/\w'.cell? ⟨bo,oo+g*10,none⟩=some (.string ev)/\w'.cell? ⟨bo,oo+g*10+6,none⟩=some (.string tg)/\w'.cell? ⟨bo,oo+g*10+8,none⟩=some (.int .i64 ol)/\w'.cell? ⟨bo,oo+g*10+9,none⟩=some (.int .i64 oc))
        ((refine ⟨?_,?_,?_,?_,?_⟩<;>(repeat (with_reducible first|exact P9|exact O0|exact O6|exact O8|exact O9|refine cell_al ?_|refine cell_dr ?_|refine cell_far4 (ne_pt n1) ?_|refine cell_far4 (ne_pt n2) ?_))<;>done))
        (fail)
       all_goals (
        go_wp2
        go_meet
        case rel=>exact ⟨wr.heap.size,rfl,Nat.le_refl _,Bn.new wr [.string ev,.nilIface,.string tg,.slice none 0 0,.int .i64 ol,.int .i64 oc] 88 _ rfl,by first|exact ((Below.refl _ wr).alloc Nat.le.refl _).drew|exact (Below.refl _ wr).alloc Nat.le.refl _⟩)
      case rest=>
       obtain ⟨O,rfl,hOl,hOb,hbd⟩:=hcut
       obtain ⟨we,hwe⟩:∃ x,x=wc:=⟨_,rfl⟩
       subst hwe
       obtain ⟨w2,hw2⟩:∃ x,x=wr:=⟨_,rfl⟩
       subst hw2
       have hbre:=hbr.trans (hbd.mono hbr.size)
       have hlb:∀ k,k < w.heap.size->k < w2.heap.size:=fun k hk=>Nat.lt_of_lt_of_le hk hbr.size
       have E1:=(hbd.cell (p:=⟨bo,oo+g*10+1,none⟩) (hlb _ hbl2)).trans O1
       have E2:=(hbd.cell (p:=⟨bo,oo+g*10+2,none⟩) (hlb _ hbl2)).trans O2
       have E3':=(hbd.cell (p:=⟨bo,oo+g*10+3,none⟩) (hlb _ hbl2)).trans O3
       have E4:=(hbd.cell (p:=⟨bo,oo+g*10+4,none⟩) (hlb _ hbl2)).trans O4
       have E5:=(hbd.cell (p:=⟨bo,oo+g*10+5,none⟩) (hlb _ hbl2)).trans O5
       have hXe:=hXr.on hbd
       have e9:=(hXe 9 _ rfl).1
       obtain ⟨ob1,ofz1⟩:=hOb 1 _ rfl
       clear O0 O1 O2 O3 O4 O5 O6 O7 O8 O9 P9
       obtain ⟨hv,hhv⟩:∃ x,(if gb=true then gv else .nilIface)=x:=⟨_,rfl⟩
       have hhf:hv=.nilIface∨∃ u y,hv=.iface u y:=by
        rw [<- hhv]
        split
        ·exact hgf
        ·exact .inl rfl
       have HGD2:=HGD.out
       rw [hhv] at HGD2
       have HGD3:=mkHid HGD2
       clear HGD2 HGD
       go_upto_if 69 with fail
       go_cut [] from 70 to 77 (fun wd=>Bn wd O [.string ev,hv,.string tg,.slice none 0 0,.int .i64 ol,.int .i64 oc]/\Below w2.heap.size w2 wd)
       case first=>
        clear HOn HKT HC HK hO hO' hal hb IH HSD HT HM hRow hQB hQr hOc hXr hXc hX HCO HSE HKO
        cases gb with
        | false=>
         rw [if_neg (by decide)] at hhv
         subst hhv
         go_wp2
         go_meet
         case rel=>exact ⟨hOb,hbd⟩
        | true=>
         rw [if_pos rfl] at hhv
         subst hhv
         have hth1:=hth _ hbre
         clear HGD3 hgf
         rcases hhf with rfl|⟨hu,hy,rfl⟩
         all_goals (
          go_wp2_with (first
           | (go_at_call 40;refine hth1.mono ?_;rintro e w3 ⟨rfl,b3⟩;have hO3:=hOb.on b3;obtain ⟨ob1,ofz1⟩:=hO3 1 _ rfl)
           | fail)
          go_meet
          case rel=>exact ⟨hO3.set (i:=1) (by simp) _,below_st (hbd.trans (b3.mono hbd.size)) O 1 _ hOl⟩)
       case rest=>
        obtain ⟨hOb2,hbd2⟩:=hcut
        obtain ⟨wd,hwd⟩:∃ x,x=wc:=⟨_,rfl⟩
        subst hwd
        clear hOb hbd hbre E1 E2 E3' E4 E5 e9 ob1 ofz1 hXe hth hgf hhv
        have hbd:=hbd2
        have hOb:=hOb2
        clear hbd2 hOb2
        have hXd:=hXr.on hbd
        have hbrd:=hbr.trans (hbd.mono hbr.size)
        have hns3:ns<=400:=by have:=HKO.out.2.2.2.1;rw [HNS.out] at this;exact this
        have D3:=(hbrd.cell (p:=⟨bo,oo+g*10+7,none⟩) hbl2).trans (HCO.out 7 _ rfl)
        have d9:=(hXd 9 _ rfl).1
        have hod:O < wd.heap.size:=hOb.lt
        clear hXr
        go_wp2
        go_loopw [85] (fun ix w3=>∃ (h:Nat) (sl3:Value),h<=ns/\ix=.int .i64 (h:Int)/\Bn w3 O [.string ev,hv,.string tg,sl3,.int .i64 ol,.int .i64 oc]/\OwnB w3 wd.heap.size (fun _=>False) 120 2 rSet sl3 ((o.2.2.2.1.map thT).take h)/\Fx O wd w3) (fun ix _=>ns - (RowKit.intOf ix).toNat)
        case atStart=>exact ⟨0,_,Nat.zero_le _,rfl,hOb,ownB_nil _ _ _ _ _ _,Fx.refl _ _⟩
        case round=>
         clear d9 D3
         try (obtain ⟨w3,hw3⟩:∃ x,x=wr:=⟨_,rfl⟩;subst hw3)
         obtain ⟨h,sl3,hh,rfl,hOB,hRo3,hF3⟩:=hrel
         obtain ⟨ta,tc,rfl,htl,htm⟩:=hRo3.form
         obtain ⟨acc,hac⟩:∃ acc,(o.2.2.2.1.map thT).take h=acc:=⟨_,rfl⟩
         have hlh:acc.length=h:=by rw [<- hac,List.length_take,List.length_map,HNS.out];omega
         rw [hac] at hRo3 hOB htl
         rw [hlh] at hRo3 hOB htl
         have HAC:Hid ((o.2.2.2.1.map thT).take h=acc):=hac
         have hs3:=hF3.size
         have hbr3:Below w.heap.size w w3:=hF3.bel hbrd (by omega) Nat.le.refl
         clear hac
         by_cases hhl:h < ns
         ·have hht:h < o.2.2.2.1.length:=by rw [HNS.out];exact hhl
          obtain ⟨bs,os,c0,c1,c2,c3,rfl,_,hbl3,hQx,hcs⟩:=setD_at HSE.out h hht
          obtain ⟨q,hq⟩:∃ q,o.2.2.2.1[h]=q:=⟨_,rfl⟩
          rw [hq] at hcs hQx
          obtain ⟨y1,y2,y3,y4,y5,y6,rfl,rfl,rfl,rfl⟩:=rdX_let hQx
          obtain ⟨s0,hs0⟩:∃ s0,sD q.1=.string s0:=⟨_,rfl⟩
          obtain ⟨tv,htv⟩:∃ tv,exX q.2=tv:=⟨_,rfl⟩
          rw [hs0] at hcs
          have hX3:=hXd.fx hF3 (by omega)
          have E9:=(hX3 9 _ rfl).1
          have E3:=(hbr3.cell (p:=⟨bo,oo+g*10+7,none⟩) hbl2).trans (HCO.out 7 _ rfl)
          have B0:=(hbr3.cell (p:=⟨bs,os+h*5+0,none⟩) hbl3).trans (hcs 0 _ rfl)
          have B1:=(hbr3.cell (p:=⟨bs,os+h*5+1,none⟩) hbl3).trans (hcs 1 _ rfl)
          have B2:=(hbr3.cell (p:=⟨bs,os+h*5+2,none⟩) hbl3).trans (hcs 2 _ rfl)
          have B3:=(hbr3.cell (p:=⟨bs,os+h*5+3,none⟩) hbl3).trans (hcs 3 _ rfl)
          have B4:=(hbr3.cell (p:=⟨bs,os+h*5+4,none⟩) hbl3).trans (hcs 4 _ rfl)
          rw [Nat.add_zero] at B0
          obtain ⟨k7,z7⟩:=hOB 3 _ rfl
          have i5:(h:Int) < (ns:Int):=by omega
          have i6:(0:Int)<=(h:Int):=by omega
          have hth2:∀ w1,Below w3.heap.size w3 w1->Calls Tryz.prog 40 #[.agg #[.int .i64 y1,.int .i64 y2,.string y3,.slice y4 y5 y6]] w1 fun e w'=>e=.returned tv/\Below w1.heap.size w1 w':=fun w1 b1=>by
           have b2:=hbr3.trans (b1.mono hbr3.size)
           rw [<- htv];exact theirs_any q.2.1 ok q.2.2 _ w1 (hQx.keep (fun k hk hl=>⟨hk,b2.block k hl⟩):RdX ok w1 q.2 _)
          have htf:=exX_form q.2
          rw [htv] at htf
          have HQ:Hid (o.2.2.2.1[h]=q):=hq
          have HEL:Hid (∀ (ok':Nat->Prop) (wa:World),rSet ok' wa (thT q) [.string s0,tv]):=fun ok' wa=>by
           show [Value.string s0,tv]=[sV q.1,exX (clX q.2)]
           rw [exX_cl,htv,<- hs0];rfl
          clear hcs hq hs0 htv hX3 hQx
          have kw3:∀ wa,Below w3.heap.size w3 wa->∀ p u,w3.cell? p=some u->wa.cell? p=some u:=fun wa bw p u hp=>by rw [bw.cell (World.block_lt_of_cell? w3 _ hp)];exact hp
          go_upto_region 16 with fail
          have hbrs:=hbrd.size
          have lS:S < wd.heap.size:=hXd.lt
          have lbo:bo < wd.heap.size:=by omega
          have lbs:bs < wd.heap.size:=by omega
          have nS:S≠O:=by omega
          have nbo:bo≠O:=by omega
          have nbs:bs≠O:=by omega
          refine wp_region_held_drew (S:=(fun w'=>w'.cell? ⟨S,9,none⟩=some (.slice (some ⟨bo,oo,none⟩) m p3)/\w'.cell? ⟨bo,oo+g*10+7,none⟩=some (.slice (some ⟨bs,os,none⟩) ns s3)/\w'.cell? ⟨bs,os+h*5,none⟩=some (.string s0)/\w'.cell? ⟨bs,os+h*5+1,none⟩=some (.int .i64 y1)/\w'.cell? ⟨bs,os+h*5+2,none⟩=some (.int .i64 y2)/\w'.cell? ⟨bs,os+h*5+3,none⟩=some (.string y3)/\w'.cell? ⟨bs,os+h*5+4,none⟩=some (.slice y4 y5 y6))) (by kernel_rfl) ?_ (fun hHeld=>?_)
          ·(try dsimp only);(refine ⟨?_,?_,?_,?_,?_,?_,?_⟩<;>(repeat (with_reducible first|assumption|refine cell_al ?_|refine cell_dr ?_|refine cell_far4 (ne_pt (by assumption)) ?_))<;>done)
          refine wpAnyH_take (i:=0) (oi:=_) (v:=_) rfl (by kernel_rfl) (by kernel_rfl) (by kernel_rfl) (fun _ _ _ h=>h) (Or.inl ⟨by rfl,by intro w hSw;(try dsimp only at hSw);go_simp;try (with_reducible rfl)⟩) (by assumption) ?_
          (try simp only [Act.put,List.setIfInBounds_toArray,List.set_cons_zero,List.set_cons_succ])
          refine wpAnyH_take (i:=2) (oi:=_) (v:=_) rfl (by kernel_rfl) (by kernel_rfl) (by kernel_rfl) (fun _ _ _ h=>h) (Or.inl ⟨by rfl,by intro w hSw;(try dsimp only at hSw);go_simp;try (with_reducible rfl)⟩) (by assumption) ?_
          (try simp only [Act.put,List.setIfInBounds_toArray,List.set_cons_zero,List.set_cons_succ])
          refine wpAnyH_take (i:=3) (oi:=_) (v:=_) rfl (by kernel_rfl) (by kernel_rfl) (by kernel_rfl) (fun _ _ _ h=>h) (Or.inl ⟨by rfl,by intro w hSw;(try dsimp only at hSw);go_simp;try (with_reducible rfl)⟩) (by assumption) ?_
          (try simp only [Act.put,List.setIfInBounds_toArray,List.set_cons_zero,List.set_cons_succ])
          refine wpAnyH_take (i:=4) (oi:=_) (v:=_) rfl (by kernel_rfl) (by kernel_rfl) (by kernel_rfl) (fun _ _ _ h=>h) (Or.inl ⟨by rfl,by intro w hSw;(try dsimp only at hSw);go_simp;try (with_reducible rfl)⟩) (by assumption) ?_
          (try simp only [Act.put,List.setIfInBounds_toArray,List.set_cons_zero,List.set_cons_succ])
          refine wpAnyH_take (i:=5) (oi:=_) (v:=_) rfl (by kernel_rfl) (by kernel_rfl) (by kernel_rfl) (fun _ _ _ h=>h) (Or.inl ⟨by rfl,by intro w hSw;(try dsimp only at hSw);go_simp;try (with_reducible rfl)⟩) (by assumption) ?_
          (try simp only [Act.put,List.setIfInBounds_toArray,List.set_cons_zero,List.set_cons_succ])
          refine wpAnyH_take (i:=6) (oi:=_) (v:=_) rfl (by kernel_rfl) (by kernel_rfl) (by kernel_rfl) (fun _ _ _ h=>h) (Or.inl ⟨by rfl,by intro w hSw;(try dsimp only at hSw);go_simp;try (with_reducible rfl)⟩) (by assumption) ?_
          (try simp only [Act.put,List.setIfInBounds_toArray,List.set_cons_zero,List.set_cons_succ])
          refine wpAnyH_take (i:=7) (oi:=_) (v:=_) rfl (by kernel_rfl) (by kernel_rfl) (by kernel_rfl) (fun _ _ _ h=>h) (Or.inl ⟨by rfl,by intro w hSw;(try dsimp only at hSw);go_simp;try (with_reducible rfl)⟩) (by assumption) ?_
          (try simp only [Act.put,List.setIfInBounds_toArray,List.set_cons_zero,List.set_cons_succ])
          refine wpAnyH_take (i:=8) (oi:=_) (v:=_) rfl (by kernel_rfl) (by kernel_rfl) (by kernel_rfl) (fun _ _ _ h=>h) (Or.inl ⟨by rfl,by intro w hSw;(try dsimp only at hSw);go_simp;try (with_reducible rfl)⟩) (by assumption) ?_
          (try simp only [Act.put,List.setIfInBounds_toArray,List.set_cons_zero,List.set_cons_succ])
          refine wpAnyH_take (i:=9) (oi:=_) (v:=_) rfl (by kernel_rfl) (by kernel_rfl) (by kernel_rfl) (fun _ _ _ h=>h) (Or.inl ⟨by rfl,by intro w hSw;(try dsimp only at hSw);go_simp;try (with_reducible rfl)⟩) (by assumption) ?_
          (try simp only [Act.put,List.setIfInBounds_toArray,List.set_cons_zero,List.set_cons_succ])
          refine wpAnyH_take (i:=10) (oi:=_) (v:=_) rfl (by kernel_rfl) (by kernel_rfl) (by kernel_rfl) (fun _ _ _ h=>h) (Or.inl ⟨by rfl,by intro w hSw;(try dsimp only at hSw);go_simp;try (with_reducible rfl)⟩) (by assumption) ?_
          (try simp only [Act.put,List.setIfInBounds_toArray,List.set_cons_zero,List.set_cons_succ])
          refine wpAnyH_take (i:=11) (oi:=_) (v:=_) rfl (by kernel_rfl) (by kernel_rfl) (by kernel_rfl) (fun _ _ _ h=>h) (Or.inl ⟨by rfl,by intro w hSw;(try dsimp only at hSw);go_simp;try (with_reducible rfl)⟩) (by assumption) ?_
          (try simp only [Act.put,List.setIfInBounds_toArray,List.set_cons_zero,List.set_cons_succ])
          refine wpAnyH_take (i:=12) (oi:=_) (v:=_) rfl (by kernel_rfl) (by kernel_rfl) (by kernel_rfl) (fun _ _ _ h=>h) (Or.inl ⟨by rfl,by intro w hSw;(try dsimp only at hSw);go_simp;try (with_reducible rfl)⟩) (by assumption) ?_
          (try simp only [Act.put,List.setIfInBounds_toArray,List.set_cons_zero,List.set_cons_succ])
          refine wpAnyH_take (i:=13) (oi:=_) (v:=_) rfl (by kernel_rfl) (by kernel_rfl) (by kernel_rfl) (fun _ _ _ h=>h) (Or.inl ⟨by rfl,by intro w hSw;(try dsimp only at hSw);go_simp;try (with_reducible rfl)⟩) (by assumption) ?_
          (try simp only [Act.put,List.setIfInBounds_toArray,List.set_cons_zero,List.set_cons_succ])
          refine wpAnyH_take (i:=14) (oi:=_) (v:=_) rfl (by kernel_rfl) (by kernel_rfl) (by kernel_rfl) (fun _ _ _ h=>h) (Or.inl ⟨by rfl,by intro w hSw;(try dsimp only at hSw);go_simp;try (with_reducible rfl)⟩) (by assumption) ?_
          (try simp only [Act.put,List.setIfInBounds_toArray,List.set_cons_zero,List.set_cons_succ])
          refine wpAnyH_take (i:=15) (oi:=_) (v:=_) rfl (by kernel_rfl) (by kernel_rfl) (by kernel_rfl) (fun _ _ _ h=>h) (Or.inl ⟨by rfl,by intro w hSw;(try dsimp only at hSw);go_simp;try (with_reducible rfl)⟩) (by assumption) ?_
          (try simp only [Act.put,List.setIfInBounds_toArray,List.set_cons_zero,List.set_cons_succ])
          refine wpAnyH_take (i:=16) (oi:=_) (v:=_) rfl (by kernel_rfl) (by kernel_rfl) (by kernel_rfl) (fun _ _ _ h=>h) (Or.inl ⟨by rfl,by intro w hSw;(try dsimp only at hSw);go_simp;try (with_reducible rfl)⟩) (by assumption) ?_
          (try simp only [Act.put,List.setIfInBounds_toArray,List.set_cons_zero,List.set_cons_succ])
          refine wpAnyH_take (i:=17) (oi:=_) (v:=_) rfl (by kernel_rfl) (by kernel_rfl) (by kernel_rfl) (fun _ _ _ h=>h) (Or.inl ⟨by rfl,by intro w hSw;(try dsimp only at hSw);go_simp;try (with_reducible rfl)⟩) (by assumption) ?_
          (try simp only [Act.put,List.setIfInBounds_toArray,List.set_cons_zero,List.set_cons_succ])
          refine wpAnyH_take (i:=18) (oi:=_) (v:=_) rfl (by kernel_rfl) (by kernel_rfl) (by kernel_rfl) (fun _ _ _ h=>h) (Or.inl ⟨by rfl,by intro w hSw;(try dsimp only at hSw);go_simp;try (with_reducible rfl)⟩) (by assumption) ?_
          (try simp only [Act.put,List.setIfInBounds_toArray,List.set_cons_zero,List.set_cons_succ])
          refine wpAnyH_take (i:=19) (oi:=_) (v:=_) rfl (by kernel_rfl) (by kernel_rfl) (by kernel_rfl) (fun _ _ _ h=>h) (Or.inl ⟨by rfl,by intro w hSw;(try dsimp only at hSw);go_simp;try (with_reducible rfl)⟩) (by assumption) ?_
          (try simp only [Act.put,List.setIfInBounds_toArray,List.set_cons_zero,List.set_cons_succ])
          refine wpAnyH_take (i:=20) (oi:=_) (v:=_) rfl (by kernel_rfl) (by kernel_rfl) (by kernel_rfl) (fun _ _ _ h=>h) (Or.inl ⟨by rfl,by intro w hSw;(try dsimp only at hSw);go_simp;try (with_reducible rfl)⟩) (by assumption) ?_
          (try simp only [Act.put,List.setIfInBounds_toArray,List.set_cons_zero,List.set_cons_succ])
          refine wpAnyH_take (i:=21) (oi:=_) (v:=_) rfl (by kernel_rfl) (by kernel_rfl) (by kernel_rfl) (fun _ _ _ h=>h) (Or.inl ⟨by rfl,by intro w hSw;(try dsimp only at hSw);go_simp;try (with_reducible rfl)⟩) (by assumption) ?_
          (try simp only [Act.put,List.setIfInBounds_toArray,List.set_cons_zero,List.set_cons_succ])
          rcases htf with rfl|⟨tu,ty,rfl⟩
          ·skip
           refine wpAnyH_ready (rs:=[1,22]) (by kernel_rfl) (by simp) ?_
           refine AllReadyH.cons rfl (fun K hK=>?_) (AllReadyH.cons rfl (fun K hK=>?_) AllReadyH.nil)
           ·go_simp
            refine hK.out _ _ ?_ (fun hHeld=>?_)
            ·(try dsimp only);(refine ⟨?_,?_,?_,?_,?_,?_,?_⟩<;>(repeat (with_reducible first|assumption|refine cell_al ?_|refine cell_dr ?_|refine cell_far4 (ne_pt (by assumption)) ?_))<;>done)
            clear hK K
            refine wpAnyH_ready (rs:=[22]) (by kernel_rfl) (by simp) ?_
            refine AllReadyH.cons rfl (fun K hK=>?_) AllReadyH.nil
            go_simp
            go_wp2_with (first|(go_at_call 40;(with_reducible refine (hth2 _ ((Below.refl _ w3).drew)).mono ?_);rintro e wa ⟨rfl,b1⟩;have bw:Below w3.heap.size w3 wa:=((Below.refl _ w3).drew).trans b1;have E9:=kw3 wa bw _ _ E9;have E3:=kw3 wa bw _ _ E3;have B0:=kw3 wa bw _ _ B0;have B1:=kw3 wa bw _ _ B1;have B2:=kw3 wa bw _ _ B2;have B3:=kw3 wa bw _ _ B3;have B4:=kw3 wa bw _ _ B4;have hOBa:=hOB.on bw;obtain ⟨m7,n7⟩:=hOBa 3 _ rfl;have hRa:=hRo3.on kp_set bw;have hsa:=Nat.le_trans hs3 bw.size;have hra:rSet (fun b=>w3.heap.size<=b) wa (thT q) [.string s0,.nilIface]:=HEL.out _ _;have hali:=(Below.refl wa.heap.size wa).alloc Nat.le.refl (.cells #[.string s0,.nilIface] 120);have m4:=((hOBa.on hali) 3 _ rfl).1)|fail)
            refine hK.out _ _ ?_ (fun hHeld=>?_)
            ·(try dsimp only);(refine ⟨?_,?_,?_,?_,?_,?_,?_⟩<;>(repeat (with_reducible first|assumption|refine cell_al ?_|refine cell_dr ?_|refine cell_far4 (ne_pt (by assumption)) ?_))<;>done)
            clear hK K
            refine wpAnyH_take (i:=23) (oi:=_) (v:=_) rfl (by kernel_rfl) (by kernel_rfl) (by kernel_rfl) (fun _ _ _ h=>h) (Or.inl ⟨by rfl,by intro w hSw;(try dsimp only at hSw);go_simp;try (with_reducible rfl)⟩) (by assumption) ?_
            (try simp only [Act.put,List.setIfInBounds_toArray,List.set_cons_zero,List.set_cons_succ])
            refine wpAnyH_ready (rs:=[24]) (by kernel_rfl) (by simp) ?_
            refine AllReadyH.cons rfl (fun K hK=>?_) AllReadyH.nil
            go_simp
            refine hK.out _ _ ?_ (fun hHeld=>?_)
            ·(try dsimp only);(refine ⟨?_,?_,?_,?_,?_,?_,?_⟩<;>(repeat (with_reducible first|assumption|refine cell_al ?_|refine cell_dr ?_|refine cell_far4 (ne_pt (by assumption)) ?_))<;>done)
            clear hK K
            refine wpAnyH_ready (rs:=[25]) (by kernel_rfl) (by simp) ?_
            refine AllReadyH.cons rfl (fun K hK=>?_) AllReadyH.nil
            refine step_pushB wa rfl _ _ 86 rfl wd.heap.size (fun _=>False) 120 ie (.agg #[.string ⟨#[]⟩,.nilIface]) 2 32 Tryz.underlying86 hie hie0 hie1 hie2 rfl kp_set (.slice ta h tc) acc (thT q) [.string s0,.nilIface] w3.heap.size rfl rfl rfl (by simp [Value.oneCell']) hRa hra hs3 (fun x hx=>(hRo3.lt x hx).2) (fun b hb=>hb.elim) (by omega) (by unfold maxLen;omega) hsa ?_;intro vb wb hOb2 hgb2 hbb hat;have hBb:=hOBa.blk (hbb.block _ hod);obtain ⟨m5,n5⟩:=hBb 3 _ rfl;have E9:=(hbb.cell (p:=⟨S,9,none⟩) lS).trans E9;have E3:=(hbb.cell (p:=⟨bo,oo+g*10+7,none⟩) lbo).trans E3;have B0:=(hbb.cell (p:=⟨bs,os+h*5,none⟩) lbs).trans B0;have B1:=(hbb.cell (p:=⟨bs,os+h*5+1,none⟩) lbs).trans B1;have B2:=(hbb.cell (p:=⟨bs,os+h*5+2,none⟩) lbs).trans B2;have B3:=(hbb.cell (p:=⟨bs,os+h*5+3,none⟩) lbs).trans B3;have B4:=(hbb.cell (p:=⟨bs,os+h*5+4,none⟩) lbs).trans B4;obtain ⟨vba,vbc,hvb,hvbl,hvbm⟩:=hOb2.form;rw [List.length_append,List.length_singleton,hlh] at hvb;subst hvb
            refine hK.out _ _ ?_ (fun hHeld=>?_)
            ·(try dsimp only);(refine ⟨?_,?_,?_,?_,?_,?_,?_⟩<;>(repeat (with_reducible first|assumption|refine cell_al ?_|refine cell_dr ?_|refine cell_far4 (ne_pt (by assumption)) ?_))<;>done)
            clear hK K
            (try (refine wpAnyH_take (i:=26) (oi:=_) (v:=_) rfl (by kernel_rfl) (by kernel_rfl) (by kernel_rfl) (fun _ _ _ h=>h) (Or.inl ⟨by rfl,by intro w hSw;(try dsimp only at hSw);go_simp;try (with_reducible rfl)⟩) (by assumption) ?_;(try simp only [Act.put,List.setIfInBounds_toArray,List.set_cons_zero,List.set_cons_succ])))
            refine wpAnyH_ready (rs:=[27]) (by kernel_rfl) (by simp) ?_
            refine AllReadyH.cons rfl (fun K hK=>?_) AllReadyH.nil
            go_simp
            refine hK.out _ _ ?_ (fun hHeld=>?_)
            ·(try dsimp only);(refine ⟨?_,?_,?_,?_,?_,?_,?_⟩<;>(repeat (with_reducible first|assumption|refine cell_al ?_|refine cell_dr ?_|refine cell_far4 (ne_pt (by assumption)) ?_))<;>done)
            clear hK K
            refine wpAnyH_done (by kernel_rfl) ?_ _
            have hBc:=hBb.set (i:=3) (by simp) (.slice vba (h+1) vbc)
            have hRc:=hOb2.set kp_set (X:=O) (i:=3) hod (.slice vba (h+1) vbc)
            have hFc:=((hF3.andD bw hs3).andD hbb Nat.le.refl).setX (i:=3) (.slice vba (h+1) vbc)
            have hac2:(o.2.2.2.1.map thT).take (h+1)=acc++[thT q]:=by rw [List.take_succ_eq_append_getElem (by rw [List.length_map];exact hht),HAC.out,List.getElem_map,HQ.out]
            clear hOBa m7 n7 hRa hsa hra hali m4 hgb2 hbb hat hBb m5 n5 hOb2 k7 z7 E9 E3 B0 B1 B2 B3 B4 kw3
            go_wp2
            go_roundw
            case rel=>exact ⟨h+1,_,hhl,by go_num,hBc,by rw [hac2];exact hRc,hFc⟩
            case measure=>simp [RowKit.intOf];omega
           ·go_simp
            go_wp2_with (first|(go_at_call 40;(with_reducible refine (hth2 _ ((Below.refl _ w3).drew)).mono ?_);rintro e wa ⟨rfl,b1⟩;have bw:Below w3.heap.size w3 wa:=((Below.refl _ w3).drew).trans b1;have E9:=kw3 wa bw _ _ E9;have E3:=kw3 wa bw _ _ E3;have B0:=kw3 wa bw _ _ B0;have B1:=kw3 wa bw _ _ B1;have B2:=kw3 wa bw _ _ B2;have B3:=kw3 wa bw _ _ B3;have B4:=kw3 wa bw _ _ B4;have hOBa:=hOB.on bw;obtain ⟨m7,n7⟩:=hOBa 3 _ rfl;have hRa:=hRo3.on kp_set bw;have hsa:=Nat.le_trans hs3 bw.size;have hra:rSet (fun b=>w3.heap.size<=b) wa (thT q) [.string s0,.nilIface]:=HEL.out _ _;have hali:=(Below.refl wa.heap.size wa).alloc Nat.le.refl (.cells #[.string s0,.nilIface] 120);have m4:=((hOBa.on hali) 3 _ rfl).1)|fail)
            refine hK.out _ _ ?_ (fun hHeld=>?_)
            ·(try dsimp only);(refine ⟨?_,?_,?_,?_,?_,?_,?_⟩<;>(repeat (with_reducible first|assumption|refine cell_al ?_|refine cell_dr ?_|refine cell_far4 (ne_pt (by assumption)) ?_))<;>done)
            clear hK K
            refine wpAnyH_take (i:=23) (oi:=_) (v:=_) rfl (by kernel_rfl) (by kernel_rfl) (by kernel_rfl) (fun _ _ _ h=>h) (Or.inl ⟨by rfl,by intro w hSw;(try dsimp only at hSw);go_simp;try (with_reducible rfl)⟩) (by assumption) ?_
            (try simp only [Act.put,List.setIfInBounds_toArray,List.set_cons_zero,List.set_cons_succ])
            refine wpAnyH_ready (rs:=[1,24]) (by kernel_rfl) (by simp) ?_
            refine AllReadyH.cons rfl (fun K hK=>?_) (AllReadyH.cons rfl (fun K hK=>?_) AllReadyH.nil)
            ·go_simp
             refine hK.out _ _ ?_ (fun hHeld=>?_)
             ·(try dsimp only);(refine ⟨?_,?_,?_,?_,?_,?_,?_⟩<;>(repeat (with_reducible first|assumption|refine cell_al ?_|refine cell_dr ?_|refine cell_far4 (ne_pt (by assumption)) ?_))<;>done)
             clear hK K
             refine wpAnyH_ready (rs:=[24]) (by kernel_rfl) (by simp) ?_
             refine AllReadyH.cons rfl (fun K hK=>?_) AllReadyH.nil
             go_simp
             refine hK.out _ _ ?_ (fun hHeld=>?_)
             ·(try dsimp only);(refine ⟨?_,?_,?_,?_,?_,?_,?_⟩<;>(repeat (with_reducible first|assumption|refine cell_al ?_|refine cell_dr ?_|refine cell_far4 (ne_pt (by assumption)) ?_))<;>done)
             clear hK K
             refine wpAnyH_ready (rs:=[25]) (by kernel_rfl) (by simp) ?_
             refine AllReadyH.cons rfl (fun K hK=>?_) AllReadyH.nil
             refine step_pushB wa rfl _ _ 86 rfl wd.heap.size (fun _=>False) 120 ie (.agg #[.string ⟨#[]⟩,.nilIface]) 2 32 Tryz.underlying86 hie hie0 hie1 hie2 rfl kp_set (.slice ta h tc) acc (thT q) [.string s0,.nilIface] w3.heap.size rfl rfl rfl (by simp [Value.oneCell']) hRa hra hs3 (fun x hx=>(hRo3.lt x hx).2) (fun b hb=>hb.elim) (by omega) (by unfold maxLen;omega) hsa ?_;intro vb wb hOb2 hgb2 hbb hat;have hBb:=hOBa.blk (hbb.block _ hod);obtain ⟨m5,n5⟩:=hBb 3 _ rfl;have E9:=(hbb.cell (p:=⟨S,9,none⟩) lS).trans E9;have E3:=(hbb.cell (p:=⟨bo,oo+g*10+7,none⟩) lbo).trans E3;have B0:=(hbb.cell (p:=⟨bs,os+h*5,none⟩) lbs).trans B0;have B1:=(hbb.cell (p:=⟨bs,os+h*5+1,none⟩) lbs).trans B1;have B2:=(hbb.cell (p:=⟨bs,os+h*5+2,none⟩) lbs).trans B2;have B3:=(hbb.cell (p:=⟨bs,os+h*5+3,none⟩) lbs).trans B3;have B4:=(hbb.cell (p:=⟨bs,os+h*5+4,none⟩) lbs).trans B4;obtain ⟨vba,vbc,hvb,hvbl,hvbm⟩:=hOb2.form;rw [List.length_append,List.length_singleton,hlh] at hvb;subst hvb
             refine hK.out _ _ ?_ (fun hHeld=>?_)
             ·(try dsimp only);(refine ⟨?_,?_,?_,?_,?_,?_,?_⟩<;>(repeat (with_reducible first|assumption|refine cell_al ?_|refine cell_dr ?_|refine cell_far4 (ne_pt (by assumption)) ?_))<;>done)
             clear hK K
             (try (refine wpAnyH_take (i:=26) (oi:=_) (v:=_) rfl (by kernel_rfl) (by kernel_rfl) (by kernel_rfl) (fun _ _ _ h=>h) (Or.inl ⟨by rfl,by intro w hSw;(try dsimp only at hSw);go_simp;try (with_reducible rfl)⟩) (by assumption) ?_;(try simp only [Act.put,List.setIfInBounds_toArray,List.set_cons_zero,List.set_cons_succ])))
             refine wpAnyH_ready (rs:=[27]) (by kernel_rfl) (by simp) ?_
             refine AllReadyH.cons rfl (fun K hK=>?_) AllReadyH.nil
             go_simp
             refine hK.out _ _ ?_ (fun hHeld=>?_)
             ·(try dsimp only);(refine ⟨?_,?_,?_,?_,?_,?_,?_⟩<;>(repeat (with_reducible first|assumption|refine cell_al ?_|refine cell_dr ?_|refine cell_far4 (ne_pt (by assumption)) ?_))<;>done)
             clear hK K
             refine wpAnyH_done (by kernel_rfl) ?_ _
             have hBc:=hBb.set (i:=3) (by simp) (.slice vba (h+1) vbc)
             have hRc:=hOb2.set kp_set (X:=O) (i:=3) hod (.slice vba (h+1) vbc)
             have hFc:=((hF3.andD bw hs3).andD hbb Nat.le.refl).setX (i:=3) (.slice vba (h+1) vbc)
             have hac2:(o.2.2.2.1.map thT).take (h+1)=acc++[thT q]:=by rw [List.take_succ_eq_append_getElem (by rw [List.length_map];exact hht),HAC.out,List.getElem_map,HQ.out]
             clear hOBa m7 n7 hRa hsa hra hali m4 hgb2 hbb hat hBb m5 n5 hOb2 k7 z7 E9 E3 B0 B1 B2 B3 B4 kw3
             go_wp2
             go_roundw
             case rel=>exact ⟨h+1,_,hhl,by go_num,hBc,by rw [hac2];exact hRc,hFc⟩
             case measure=>simp [RowKit.intOf];omega
            ·go_simp
             refine hK.out _ _ ?_ (fun hHeld=>?_)
             ·(try dsimp only);(refine ⟨?_,?_,?_,?_,?_,?_,?_⟩<;>(repeat (with_reducible first|assumption|refine cell_al ?_|refine cell_dr ?_|refine cell_far4 (ne_pt (by assumption)) ?_))<;>done)
             clear hK K
             refine wpAnyH_ready (rs:=[1]) (by kernel_rfl) (by simp) ?_
             refine AllReadyH.cons rfl (fun K hK=>?_) AllReadyH.nil
             go_simp
             refine hK.out _ _ ?_ (fun hHeld=>?_)
             ·(try dsimp only);(refine ⟨?_,?_,?_,?_,?_,?_,?_⟩<;>(repeat (with_reducible first|assumption|refine cell_al ?_|refine cell_dr ?_|refine cell_far4 (ne_pt (by assumption)) ?_))<;>done)
             clear hK K
             refine wpAnyH_ready (rs:=[25]) (by kernel_rfl) (by simp) ?_
             refine AllReadyH.cons rfl (fun K hK=>?_) AllReadyH.nil
             refine step_pushB wa rfl _ _ 86 rfl wd.heap.size (fun _=>False) 120 ie (.agg #[.string ⟨#[]⟩,.nilIface]) 2 32 Tryz.underlying86 hie hie0 hie1 hie2 rfl kp_set (.slice ta h tc) acc (thT q) [.string s0,.nilIface] w3.heap.size rfl rfl rfl (by simp [Value.oneCell']) hRa hra hs3 (fun x hx=>(hRo3.lt x hx).2) (fun b hb=>hb.elim) (by omega) (by unfold maxLen;omega) hsa ?_;intro vb wb hOb2 hgb2 hbb hat;have hBb:=hOBa.blk (hbb.block _ hod);obtain ⟨m5,n5⟩:=hBb 3 _ rfl;have E9:=(hbb.cell (p:=⟨S,9,none⟩) lS).trans E9;have E3:=(hbb.cell (p:=⟨bo,oo+g*10+7,none⟩) lbo).trans E3;have B0:=(hbb.cell (p:=⟨bs,os+h*5,none⟩) lbs).trans B0;have B1:=(hbb.cell (p:=⟨bs,os+h*5+1,none⟩) lbs).trans B1;have B2:=(hbb.cell (p:=⟨bs,os+h*5+2,none⟩) lbs).trans B2;have B3:=(hbb.cell (p:=⟨bs,os+h*5+3,none⟩) lbs).trans B3;have B4:=(hbb.cell (p:=⟨bs,os+h*5+4,none⟩) lbs).trans B4;obtain ⟨vba,vbc,hvb,hvbl,hvbm⟩:=hOb2.form;rw [List.length_append,List.length_singleton,hlh] at hvb;subst hvb
             refine hK.out _ _ ?_ (fun hHeld=>?_)
             ·(try dsimp only);(refine ⟨?_,?_,?_,?_,?_,?_,?_⟩<;>(repeat (with_reducible first|assumption|refine cell_al ?_|refine cell_dr ?_|refine cell_far4 (ne_pt (by assumption)) ?_))<;>done)
             clear hK K
             (try (refine wpAnyH_take (i:=26) (oi:=_) (v:=_) rfl (by kernel_rfl) (by kernel_rfl) (by kernel_rfl) (fun _ _ _ h=>h) (Or.inl ⟨by rfl,by intro w hSw;(try dsimp only at hSw);go_simp;try (with_reducible rfl)⟩) (by assumption) ?_;(try simp only [Act.put,List.setIfInBounds_toArray,List.set_cons_zero,List.set_cons_succ])))
             refine wpAnyH_ready (rs:=[27]) (by kernel_rfl) (by simp) ?_
             refine AllReadyH.cons rfl (fun K hK=>?_) AllReadyH.nil
             go_simp
             refine hK.out _ _ ?_ (fun hHeld=>?_)
             ·(try dsimp only);(refine ⟨?_,?_,?_,?_,?_,?_,?_⟩<;>(repeat (with_reducible first|assumption|refine cell_al ?_|refine cell_dr ?_|refine cell_far4 (ne_pt (by assumption)) ?_))<;>done)
             clear hK K
             refine wpAnyH_done (by kernel_rfl) ?_ _
             have hBc:=hBb.set (i:=3) (by simp) (.slice vba (h+1) vbc)
             have hRc:=hOb2.set kp_set (X:=O) (i:=3) hod (.slice vba (h+1) vbc)
             have hFc:=((hF3.andD bw hs3).andD hbb Nat.le.refl).setX (i:=3) (.slice vba (h+1) vbc)
             have hac2:(o.2.2.2.1.map thT).take (h+1)=acc++[thT q]:=by rw [List.take_succ_eq_append_getElem (by rw [List.length_map];exact hht),HAC.out,List.getElem_map,HQ.out]
             clear hOBa m7 n7 hRa hsa hra hali m4 hgb2 hbb hat hBb m5 n5 hOb2 k7 z7 E9 E3 B0 B1 B2 B3 B4 kw3
             go_wp2
             go_roundw
             case rel=>exact ⟨h+1,_,hhl,by go_num,hBc,by rw [hac2];exact hRc,hFc⟩
             case measure=>simp [RowKit.intOf];omega
          ·skip
           refine wpAnyH_ready (rs:=[1,22]) (by kernel_rfl) (by simp) ?_
           refine AllReadyH.cons rfl (fun K hK=>?_) (AllReadyH.cons rfl (fun K hK=>?_) AllReadyH.nil)
           ·go_simp
            refine hK.out _ _ ?_ (fun hHeld=>?_)
            ·(try dsimp only);(refine ⟨?_,?_,?_,?_,?_,?_,?_⟩<;>(repeat (with_reducible first|assumption|refine cell_al ?_|refine cell_dr ?_|refine cell_far4 (ne_pt (by assumption)) ?_))<;>done)
            clear hK K
            refine wpAnyH_ready (rs:=[22]) (by kernel_rfl) (by simp) ?_
            refine AllReadyH.cons rfl (fun K hK=>?_) AllReadyH.nil
            go_simp
            go_wp2_with (first|(go_at_call 40;(with_reducible refine (hth2 _ ((Below.refl _ w3).drew)).mono ?_);rintro e wa ⟨rfl,b1⟩;have bw:Below w3.heap.size w3 wa:=((Below.refl _ w3).drew).trans b1;have E9:=kw3 wa bw _ _ E9;have E3:=kw3 wa bw _ _ E3;have B0:=kw3 wa bw _ _ B0;have B1:=kw3 wa bw _ _ B1;have B2:=kw3 wa bw _ _ B2;have B3:=kw3 wa bw _ _ B3;have B4:=kw3 wa bw _ _ B4;have hOBa:=hOB.on bw;obtain ⟨m7,n7⟩:=hOBa 3 _ rfl;have hRa:=hRo3.on kp_set bw;have hsa:=Nat.le_trans hs3 bw.size;have hra:rSet (fun b=>w3.heap.size<=b) wa (thT q) [.string s0,.iface tu ty]:=HEL.out _ _;have hali:=(Below.refl wa.heap.size wa).alloc Nat.le.refl (.cells #[.string s0,.iface tu ty] 120);have m4:=((hOBa.on hali) 3 _ rfl).1)|fail)
            refine hK.out _ _ ?_ (fun hHeld=>?_)
            ·(try dsimp only);(refine ⟨?_,?_,?_,?_,?_,?_,?_⟩<;>(repeat (with_reducible first|assumption|refine cell_al ?_|refine cell_dr ?_|refine cell_far4 (ne_pt (by assumption)) ?_))<;>done)
            clear hK K
            refine wpAnyH_take (i:=23) (oi:=_) (v:=_) rfl (by kernel_rfl) (by kernel_rfl) (by kernel_rfl) (fun _ _ _ h=>h) (Or.inl ⟨by rfl,by intro w hSw;(try dsimp only at hSw);go_simp;try (with_reducible rfl)⟩) (by assumption) ?_
            (try simp only [Act.put,List.setIfInBounds_toArray,List.set_cons_zero,List.set_cons_succ])
            refine wpAnyH_ready (rs:=[24]) (by kernel_rfl) (by simp) ?_
            refine AllReadyH.cons rfl (fun K hK=>?_) AllReadyH.nil
            go_simp
            refine hK.out _ _ ?_ (fun hHeld=>?_)
            ·(try dsimp only);(refine ⟨?_,?_,?_,?_,?_,?_,?_⟩<;>(repeat (with_reducible first|assumption|refine cell_al ?_|refine cell_dr ?_|refine cell_far4 (ne_pt (by assumption)) ?_))<;>done)
            clear hK K
            refine wpAnyH_ready (rs:=[25]) (by kernel_rfl) (by simp) ?_
            refine AllReadyH.cons rfl (fun K hK=>?_) AllReadyH.nil
            refine step_pushB wa rfl _ _ 86 rfl wd.heap.size (fun _=>False) 120 ie (.agg #[.string ⟨#[]⟩,.nilIface]) 2 32 Tryz.underlying86 hie hie0 hie1 hie2 rfl kp_set (.slice ta h tc) acc (thT q) [.string s0,.iface tu ty] w3.heap.size rfl rfl rfl (by simp [Value.oneCell']) hRa hra hs3 (fun x hx=>(hRo3.lt x hx).2) (fun b hb=>hb.elim) (by omega) (by unfold maxLen;omega) hsa ?_;intro vb wb hOb2 hgb2 hbb hat;have hBb:=hOBa.blk (hbb.block _ hod);obtain ⟨m5,n5⟩:=hBb 3 _ rfl;have E9:=(hbb.cell (p:=⟨S,9,none⟩) lS).trans E9;have E3:=(hbb.cell (p:=⟨bo,oo+g*10+7,none⟩) lbo).trans E3;have B0:=(hbb.cell (p:=⟨bs,os+h*5,none⟩) lbs).trans B0;have B1:=(hbb.cell (p:=⟨bs,os+h*5+1,none⟩) lbs).trans B1;have B2:=(hbb.cell (p:=⟨bs,os+h*5+2,none⟩) lbs).trans B2;have B3:=(hbb.cell (p:=⟨bs,os+h*5+3,none⟩) lbs).trans B3;have B4:=(hbb.cell (p:=⟨bs,os+h*5+4,none⟩) lbs).trans B4;obtain ⟨vba,vbc,hvb,hvbl,hvbm⟩:=hOb2.form;rw [List.length_append,List.length_singleton,hlh] at hvb;subst hvb
            refine hK.out _ _ ?_ (fun hHeld=>?_)
            ·(try dsimp only);(refine ⟨?_,?_,?_,?_,?_,?_,?_⟩<;>(repeat (with_reducible first|assumption|refine cell_al ?_|refine cell_dr ?_|refine cell_far4 (ne_pt (by assumption)) ?_))<;>done)
            clear hK K
            (try (refine wpAnyH_take (i:=26) (oi:=_) (v:=_) rfl (by kernel_rfl) (by kernel_rfl) (by kernel_rfl) (fun _ _ _ h=>h) (Or.inl ⟨by rfl,by intro w hSw;(try dsimp only at hSw);go_simp;try (with_reducible rfl)⟩) (by assumption) ?_;(try simp only [Act.put,List.setIfInBounds_toArray,List.set_cons_zero,List.set_cons_succ])))
            refine wpAnyH_ready (rs:=[27]) (by kernel_rfl) (by simp) ?_
            refine AllReadyH.cons rfl (fun K hK=>?_) AllReadyH.nil
            go_simp
            refine hK.out _ _ ?_ (fun hHeld=>?_)
            ·(try dsimp only);(refine ⟨?_,?_,?_,?_,?_,?_,?_⟩<;>(repeat (with_reducible first|assumption|refine cell_al ?_|refine cell_dr ?_|refine cell_far4 (ne_pt (by assumption)) ?_))<;>done)
            clear hK K
            refine wpAnyH_done (by kernel_rfl) ?_ _
            have hBc:=hBb.set (i:=3) (by simp) (.slice vba (h+1) vbc)
            have hRc:=hOb2.set kp_set (X:=O) (i:=3) hod (.slice vba (h+1) vbc)
            have hFc:=((hF3.andD bw hs3).andD hbb Nat.le.refl).setX (i:=3) (.slice vba (h+1) vbc)
            have hac2:(o.2.2.2.1.map thT).take (h+1)=acc++[thT q]:=by rw [List.take_succ_eq_append_getElem (by rw [List.length_map];exact hht),HAC.out,List.getElem_map,HQ.out]
            clear hOBa m7 n7 hRa hsa hra hali m4 hgb2 hbb hat hBb m5 n5 hOb2 k7 z7 E9 E3 B0 B1 B2 B3 B4 kw3
            go_wp2
            go_roundw
            case rel=>exact ⟨h+1,_,hhl,by go_num,hBc,by rw [hac2];exact hRc,hFc⟩
            case measure=>simp [RowKit.intOf];omega
           ·go_simp
            go_wp2_with (first|(go_at_call 40;(with_reducible refine (hth2 _ ((Below.refl _ w3).drew)).mono ?_);rintro e wa ⟨rfl,b1⟩;have bw:Below w3.heap.size w3 wa:=((Below.refl _ w3).drew).trans b1;have E9:=kw3 wa bw _ _ E9;have E3:=kw3 wa bw _ _ E3;have B0:=kw3 wa bw _ _ B0;have B1:=kw3 wa bw _ _ B1;have B2:=kw3 wa bw _ _ B2;have B3:=kw3 wa bw _ _ B3;have B4:=kw3 wa bw _ _ B4;have hOBa:=hOB.on bw;obtain ⟨m7,n7⟩:=hOBa 3 _ rfl;have hRa:=hRo3.on kp_set bw;have hsa:=Nat.le_trans hs3 bw.size;have hra:rSet (fun b=>w3.heap.size<=b) wa (thT q) [.string s0,.iface tu ty]:=HEL.out _ _;have hali:=(Below.refl wa.heap.size wa).alloc Nat.le.refl (.cells #[.string s0,.iface tu ty] 120);have m4:=((hOBa.on hali) 3 _ rfl).1)|fail)
            refine hK.out _ _ ?_ (fun hHeld=>?_)
            ·(try dsimp only);(refine ⟨?_,?_,?_,?_,?_,?_,?_⟩<;>(repeat (with_reducible first|assumption|refine cell_al ?_|refine cell_dr ?_|refine cell_far4 (ne_pt (by assumption)) ?_))<;>done)
            clear hK K
            refine wpAnyH_take (i:=23) (oi:=_) (v:=_) rfl (by kernel_rfl) (by kernel_rfl) (by kernel_rfl) (fun _ _ _ h=>h) (Or.inl ⟨by rfl,by intro w hSw;(try dsimp only at hSw);go_simp;try (with_reducible rfl)⟩) (by assumption) ?_
            (try simp only [Act.put,List.setIfInBounds_toArray,List.set_cons_zero,List.set_cons_succ])
            refine wpAnyH_ready (rs:=[1,24]) (by kernel_rfl) (by simp) ?_
            refine AllReadyH.cons rfl (fun K hK=>?_) (AllReadyH.cons rfl (fun K hK=>?_) AllReadyH.nil)
            ·go_simp
             refine hK.out _ _ ?_ (fun hHeld=>?_)
             ·(try dsimp only);(refine ⟨?_,?_,?_,?_,?_,?_,?_⟩<;>(repeat (with_reducible first|assumption|refine cell_al ?_|refine cell_dr ?_|refine cell_far4 (ne_pt (by assumption)) ?_))<;>done)
             clear hK K
             refine wpAnyH_ready (rs:=[24]) (by kernel_rfl) (by simp) ?_
             refine AllReadyH.cons rfl (fun K hK=>?_) AllReadyH.nil
             go_simp
             refine hK.out _ _ ?_ (fun hHeld=>?_)
             ·(try dsimp only);(refine ⟨?_,?_,?_,?_,?_,?_,?_⟩<;>(repeat (with_reducible first|assumption|refine cell_al ?_|refine cell_dr ?_|refine cell_far4 (ne_pt (by assumption)) ?_))<;>done)
             clear hK K
             refine wpAnyH_ready (rs:=[25]) (by kernel_rfl) (by simp) ?_
             refine AllReadyH.cons rfl (fun K hK=>?_) AllReadyH.nil
             refine step_pushB wa rfl _ _ 86 rfl wd.heap.size (fun _=>False) 120 ie (.agg #[.string ⟨#[]⟩,.nilIface]) 2 32 Tryz.underlying86 hie hie0 hie1 hie2 rfl kp_set (.slice ta h tc) acc (thT q) [.string s0,.iface tu ty] w3.heap.size rfl rfl rfl (by simp [Value.oneCell']) hRa hra hs3 (fun x hx=>(hRo3.lt x hx).2) (fun b hb=>hb.elim) (by omega) (by unfold maxLen;omega) hsa ?_;intro vb wb hOb2 hgb2 hbb hat;have hBb:=hOBa.blk (hbb.block _ hod);obtain ⟨m5,n5⟩:=hBb 3 _ rfl;have E9:=(hbb.cell (p:=⟨S,9,none⟩) lS).trans E9;have E3:=(hbb.cell (p:=⟨bo,oo+g*10+7,none⟩) lbo).trans E3;have B0:=(hbb.cell (p:=⟨bs,os+h*5,none⟩) lbs).trans B0;have B1:=(hbb.cell (p:=⟨bs,os+h*5+1,none⟩) lbs).trans B1;have B2:=(hbb.cell (p:=⟨bs,os+h*5+2,none⟩) lbs).trans B2;have B3:=(hbb.cell (p:=⟨bs,os+h*5+3,none⟩) lbs).trans B3;have B4:=(hbb.cell (p:=⟨bs,os+h*5+4,none⟩) lbs).trans B4;obtain ⟨vba,vbc,hvb,hvbl,hvbm⟩:=hOb2.form;rw [List.length_append,List.length_singleton,hlh] at hvb;subst hvb
             refine hK.out _ _ ?_ (fun hHeld=>?_)
             ·(try dsimp only);(refine ⟨?_,?_,?_,?_,?_,?_,?_⟩<;>(repeat (with_reducible first|assumption|refine cell_al ?_|refine cell_dr ?_|refine cell_far4 (ne_pt (by assumption)) ?_))<;>done)
             clear hK K
             (try (refine wpAnyH_take (i:=26) (oi:=_) (v:=_) rfl (by kernel_rfl) (by kernel_rfl) (by kernel_rfl) (fun _ _ _ h=>h) (Or.inl ⟨by rfl,by intro w hSw;(try dsimp only at hSw);go_simp;try (with_reducible rfl)⟩) (by assumption) ?_;(try simp only [Act.put,List.setIfInBounds_toArray,List.set_cons_zero,List.set_cons_succ])))
             refine wpAnyH_ready (rs:=[27]) (by kernel_rfl) (by simp) ?_
             refine AllReadyH.cons rfl (fun K hK=>?_) AllReadyH.nil
             go_simp
             refine hK.out _ _ ?_ (fun hHeld=>?_)
             ·(try dsimp only);(refine ⟨?_,?_,?_,?_,?_,?_,?_⟩<;>(repeat (with_reducible first|assumption|refine cell_al ?_|refine cell_dr ?_|refine cell_far4 (ne_pt (by assumption)) ?_))<;>done)
             clear hK K
             refine wpAnyH_done (by kernel_rfl) ?_ _
             have hBc:=hBb.set (i:=3) (by simp) (.slice vba (h+1) vbc)
             have hRc:=hOb2.set kp_set (X:=O) (i:=3) hod (.slice vba (h+1) vbc)
             have hFc:=((hF3.andD bw hs3).andD hbb Nat.le.refl).setX (i:=3) (.slice vba (h+1) vbc)
             have hac2:(o.2.2.2.1.map thT).take (h+1)=acc++[thT q]:=by rw [List.take_succ_eq_append_getElem (by rw [List.length_map];exact hht),HAC.out,List.getElem_map,HQ.out]
             clear hOBa m7 n7 hRa hsa hra hali m4 hgb2 hbb hat hBb m5 n5 hOb2 k7 z7 E9 E3 B0 B1 B2 B3 B4 kw3
             go_wp2
             go_roundw
             case rel=>exact ⟨h+1,_,hhl,by go_num,hBc,by rw [hac2];exact hRc,hFc⟩
             case measure=>simp [RowKit.intOf];omega
            ·go_simp
             refine hK.out _ _ ?_ (fun hHeld=>?_)
             ·(try dsimp only);(refine ⟨?_,?_,?_,?_,?_,?_,?_⟩<;>(repeat (with_reducible first|assumption|refine cell_al ?_|refine cell_dr ?_|refine cell_far4 (ne_pt (by assumption)) ?_))<;>done)
             clear hK K
             refine wpAnyH_ready (rs:=[1]) (by kernel_rfl) (by simp) ?_
             refine AllReadyH.cons rfl (fun K hK=>?_) AllReadyH.nil
             go_simp
             refine hK.out _ _ ?_ (fun hHeld=>?_)
             ·(try dsimp only);(refine ⟨?_,?_,?_,?_,?_,?_,?_⟩<;>(repeat (with_reducible first|assumption|refine cell_al ?_|refine cell_dr ?_|refine cell_far4 (ne_pt (by assumption)) ?_))<;>done)
             clear hK K
             refine wpAnyH_ready (rs:=[25]) (by kernel_rfl) (by simp) ?_
             refine AllReadyH.cons rfl (fun K hK=>?_) AllReadyH.nil
             refine step_pushB wa rfl _ _ 86 rfl wd.heap.size (fun _=>False) 120 ie (.agg #[.string ⟨#[]⟩,.nilIface]) 2 32 Tryz.underlying86 hie hie0 hie1 hie2 rfl kp_set (.slice ta h tc) acc (thT q) [.string s0,.iface tu ty] w3.heap.size rfl rfl rfl (by simp [Value.oneCell']) hRa hra hs3 (fun x hx=>(hRo3.lt x hx).2) (fun b hb=>hb.elim) (by omega) (by unfold maxLen;omega) hsa ?_;intro vb wb hOb2 hgb2 hbb hat;have hBb:=hOBa.blk (hbb.block _ hod);obtain ⟨m5,n5⟩:=hBb 3 _ rfl;have E9:=(hbb.cell (p:=⟨S,9,none⟩) lS).trans E9;have E3:=(hbb.cell (p:=⟨bo,oo+g*10+7,none⟩) lbo).trans E3;have B0:=(hbb.cell (p:=⟨bs,os+h*5,none⟩) lbs).trans B0;have B1:=(hbb.cell (p:=⟨bs,os+h*5+1,none⟩) lbs).trans B1;have B2:=(hbb.cell (p:=⟨bs,os+h*5+2,none⟩) lbs).trans B2;have B3:=(hbb.cell (p:=⟨bs,os+h*5+3,none⟩) lbs).trans B3;have B4:=(hbb.cell (p:=⟨bs,os+h*5+4,none⟩) lbs).trans B4;obtain ⟨vba,vbc,hvb,hvbl,hvbm⟩:=hOb2.form;rw [List.length_append,List.length_singleton,hlh] at hvb;subst hvb
             refine hK.out _ _ ?_ (fun hHeld=>?_)
             ·(try dsimp only);(refine ⟨?_,?_,?_,?_,?_,?_,?_⟩<;>(repeat (with_reducible first|assumption|refine cell_al ?_|refine cell_dr ?_|refine cell_far4 (ne_pt (by assumption)) ?_))<;>done)
             clear hK K
             (try (refine wpAnyH_take (i:=26) (oi:=_) (v:=_) rfl (by kernel_rfl) (by kernel_rfl) (by kernel_rfl) (fun _ _ _ h=>h) (Or.inl ⟨by rfl,by intro w hSw;(try dsimp only at hSw);go_simp;try (with_reducible rfl)⟩) (by assumption) ?_;(try simp only [Act.put,List.setIfInBounds_toArray,List.set_cons_zero,List.set_cons_succ])))
             refine wpAnyH_ready (rs:=[27]) (by kernel_rfl) (by simp) ?_
             refine AllReadyH.cons rfl (fun K hK=>?_) AllReadyH.nil
             go_simp
             refine hK.out _ _ ?_ (fun hHeld=>?_)
             ·(try dsimp only);(refine ⟨?_,?_,?_,?_,?_,?_,?_⟩<;>(repeat (with_reducible first|assumption|refine cell_al ?_|refine cell_dr ?_|refine cell_far4 (ne_pt (by assumption)) ?_))<;>done)
             clear hK K
             refine wpAnyH_done (by kernel_rfl) ?_ _
             have hBc:=hBb.set (i:=3) (by simp) (.slice vba (h+1) vbc)
             have hRc:=hOb2.set kp_set (X:=O) (i:=3) hod (.slice vba (h+1) vbc)
             have hFc:=((hF3.andD bw hs3).andD hbb Nat.le.refl).setX (i:=3) (.slice vba (h+1) vbc)
             have hac2:(o.2.2.2.1.map thT).take (h+1)=acc++[thT q]:=by rw [List.take_succ_eq_append_getElem (by rw [List.length_map];exact hht),HAC.out,List.getElem_map,HQ.out]
             clear hOBa m7 n7 hRa hsa hra hali m4 hgb2 hbb hat hBb m5 n5 hOb2 k7 z7 E9 E3 B0 B1 B2 B3 B4 kw3
             go_wp2
             go_roundw
             case rel=>exact ⟨h+1,_,hhl,by go_num,hBc,by rw [hac2];exact hRc,hFc⟩
             case measure=>simp [RowKit.intOf];omega
         ·have i5:¬ (h:Int) < (ns:Int):=by omega
          have hhn:h=ns:=by omega
          subst hhn
          have hfull:acc=o.2.2.2.1.map thT:=by rw [<- HAC.out];exact List.take_of_length_le (by rw [List.length_map,HNS.out];omega)
          have hb4:Below w2.heap.size w2 w3:=hF3.bel hbd hOl Nat.le.refl
          have hQ4:=hQB.on hb4
          have hRow4:=hRow.on kp_on hb4
          have hsets:RdK (fun b=>w2.heap.size<=b) w3 2 (rSet (fun b=>w2.heap.size<=b) w3) (o.2.2.2.1.map thT) (.slice ta h tc):=by
           rw [<- hfull]
           exact (hRo3.rd kp_set).stay kp_set (fun b hb hl=>⟨by have:=hbd.size;omega,rfl⟩)
          have hel:rOn (fun b=>w2.heap.size<=b) w3 (thO o) [.string ev,hv,.string tg,.slice ta h tc,.int .i64 ol,.int .i64 oc]:=by
           refine ⟨.slice ta h tc,?_,hsets⟩
           show _=[sV o.1,gdV (thO o).2.1,sV o.2.2.1,_,.int .i64 o.2.2.2.2.1,.int .i64 o.2.2.2.2.2]
           rw [HEVT.out.1,HGD3.out,HEVT.out.2.1,HEVT.out.2.2.1,HEVT.out.2.2.2]
          obtain ⟨k9,j9⟩:=hQ4 9 _ rfl
          have hws4:wk.heap.size<=w3.heap.size:=Nat.le_trans hFs hb4.size
          rcases hhf with rfl|⟨hu,hy,rfl⟩
          ·skip
           have t0:=(hOB 0 _ rfl).1
           have t1:=(hOB 1 _ rfl).1
           have t2:=(hOB 2 _ rfl).1
           have t3:=(hOB 3 _ rfl).1
           have t4:=(hOB 4 _ rfl).1
           have t5:=(hOB 5 _ rfl).1
           go_wp2_with (first
            | (at_builtin;refine wpList_pushB w3 rfl _ _ 77 rfl wk.heap.size (fun _=>False) 88 io (.agg #[.string ⟨#[]⟩,.nilIface,.string ⟨#[]⟩,.slice none 0 0,.int .i64 0,.int .i64 0]) 6 88 Tryz.underlying77 hio hio0 hio1 hio2 rfl kp_on (.slice ra g rc) acg (thO o) [.string ev,.nilIface,.string tg,.slice ta h tc,.int .i64 ol,.int .i64 oc] w2.heap.size rfl rfl rfl (by simp [Value.oneCell']) hRow4 hel hFs (fun x hx=>(hRow.lt x hx).2) (fun b hb=>hb.elim) (by omega) (by unfold maxLen;omega) hws4 ?_;intro vb wb2 hOb2 hgb2 hbb hat;have hBb:=hQ4.blk (hbb.block _ hql);obtain ⟨m9,n9⟩:=hBb 9 _ rfl;obtain ⟨vba,vbc,hvb,hvbl,hvbm⟩:=hOb2.form;rw [List.length_append,List.length_singleton,hlg] at hvb;subst hvb)
            | fail)
           have hBc:=hBb.set (i:=9) (by simp) (.slice vba (g+1) vbc)
           have hRc:=hOb2.set kp_on (X:=Q) (i:=9) hql (.slice vba (g+1) vbc)
           have hFc:=((hF.andD hb4 hFs).andD hbb Nat.le.refl).setX (i:=9) (.slice vba (g+1) vbc)
           have hac2:(t.1.2.2.2.2.map thO).take (g+1)=acg++[thO o]:=by rw [List.take_succ_eq_append_getElem (by rw [List.length_map];exact hgt),HACG.out,List.getElem_map,HO2.out]
           clear k9 j9 hBb m9 n9 hOb2 hgb2 hbb hat hQ4 hRow4 t0 t1 t2 t3 t4 t5
           go_wp2
           go_roundw
           case rel=>exact ⟨g+1,_,hgl,by go_num,hBc,by rw [hac2];exact hRc,hFc⟩
           case measure=>simp [RowKit.intOf];omega
          ·skip
           have t0:=(hOB 0 _ rfl).1
           have t1:=(hOB 1 _ rfl).1
           have t2:=(hOB 2 _ rfl).1
           have t3:=(hOB 3 _ rfl).1
           have t4:=(hOB 4 _ rfl).1
           have t5:=(hOB 5 _ rfl).1
           go_wp2_with (first
            | (at_builtin;refine wpList_pushB w3 rfl _ _ 77 rfl wk.heap.size (fun _=>False) 88 io (.agg #[.string ⟨#[]⟩,.nilIface,.string ⟨#[]⟩,.slice none 0 0,.int .i64 0,.int .i64 0]) 6 88 Tryz.underlying77 hio hio0 hio1 hio2 rfl kp_on (.slice ra g rc) acg (thO o) [.string ev,.iface hu hy,.string tg,.slice ta h tc,.int .i64 ol,.int .i64 oc] w2.heap.size rfl rfl rfl (by simp [Value.oneCell']) hRow4 hel hFs (fun x hx=>(hRow.lt x hx).2) (fun b hb=>hb.elim) (by omega) (by unfold maxLen;omega) hws4 ?_;intro vb wb2 hOb2 hgb2 hbb hat;have hBb:=hQ4.blk (hbb.block _ hql);obtain ⟨m9,n9⟩:=hBb 9 _ rfl;obtain ⟨vba,vbc,hvb,hvbl,hvbm⟩:=hOb2.form;rw [List.length_append,List.length_singleton,hlg] at hvb;subst hvb)
            | fail)
           have hBc:=hBb.set (i:=9) (by simp) (.slice vba (g+1) vbc)
           have hRc:=hOb2.set kp_on (X:=Q) (i:=9) hql (.slice vba (g+1) vbc)
           have hFc:=((hF.andD hb4 hFs).andD hbb Nat.le.refl).setX (i:=9) (.slice vba (g+1) vbc)
           have hac2:(t.1.2.2.2.2.map thO).take (g+1)=acg++[thO o]:=by rw [List.take_succ_eq_append_getElem (by rw [List.length_map];exact hgt),HACG.out,List.getElem_map,HO2.out]
           clear k9 j9 hBb m9 n9 hOb2 hgb2 hbb hat hQ4 hRow4 t0 t1 t2 t3 t4 t5
           go_wp2
           go_roundw
           case rel=>exact ⟨g+1,_,hgl,by go_num,hBc,by rw [hac2];exact hRc,hFc⟩
           case measure=>simp [RowKit.intOf];omega
     ·have i3:¬ (g:Int) < (m:Int):=by omega
      have hgm:g=m:=by omega
      subst hgm
      have hfull:acg=t.1.2.2.2.2.map thO:=by rw [<- HACG.out];exact List.take_of_length_le (by rw [List.length_map,HM.out];omega)
      have hsx2:S+1<=wr.heap.size:=Nat.le_trans (by omega) hFs
      have hwcs:S+1<=wk.heap.size:=by have:=hXc.lt;omega
      have hons:RdK (fun b=>S+1<=b) wr 6 (rOn (fun b=>S+1<=b) wr) (t.1.2.2.2.2.map thO) (.slice ra g rc):=by
       rw [<- hfull]
       exact (hRow.rd kp_on).stay kp_on (fun b hb hl=>⟨by omega,rfl⟩)
      have hinn:RdK (fun b=>S+1<=b) wr 11 (rSt d (fun b=>S+1<=b) wr) (t.2.map (thS d)) (.slice iq i ic):=hQr.stay (kp_st d) (fun b hb hl=>⟨hb.1,hF.block b hl (fun e=>hb.2 (Option.some.inj e))⟩)
      have hel:rSt (d+1) (fun b=>S+1<=b) wr (thS (d+1) t) [.string sn,.int .i64 sl,.int .i64 sc,.bool sb,.bool se,.string sd,.string su,.int .i64 sw,.int .i64 sr,.slice ra g rc,.slice iq i ic]:=⟨_,_,(congrFun (congrFun HSD.out (.slice ra g rc)) (.slice iq i ic)).symm,hons,hinn⟩
      have hOr2:=hO'.keep (kp_st _) (bad':=fun _=>False) (w':=wr) (fun b hb hbad hl=>⟨(hF.block b (by omega) (fun e=>by have e2:b=Q:=Option.some.inj e;omega)).trans (hbq.block b (by omega)),fun q=>q⟩)
      have hbr:Below w.heap.size w wr:=hF.bel hbw (by omega) Nat.le.refl
      have hbs:=hbr.size
      have hbxs:=hbx.size
      have t0:=(hQB 0 _ rfl).1
      have t1:=(hQB 1 _ rfl).1
      have t2:=(hQB 2 _ rfl).1
      have t3:=(hQB 3 _ rfl).1
      have t4:=(hQB 4 _ rfl).1
      have t5:=(hQB 5 _ rfl).1
      have t6:=(hQB 6 _ rfl).1
      have t7:=(hQB 7 _ rfl).1
      have t8:=(hQB 8 _ rfl).1
      have t9:=(hQB 9 _ rfl).1
      have t10:=(hQB 10 _ rfl).1
      go_wp2_with (first
       | (at_builtin;refine wpList_pushB wr rfl _ _ 40 rfl w.heap.size (fun _=>False) 79 is (.agg #[.string ⟨#[]⟩,.int .i64 0,.int .i64 0,.bool false,.bool false,.string ⟨#[]⟩,.string ⟨#[]⟩,.int .i64 0,.int .i64 0,.slice none 0 0,.slice none 0 0]) 11 136 Tryz.underlying40 his his0 his1 his2 rfl (kp_st _) (.slice va j vc) ((l.map (thS (d+1))).take j) (thS (d+1) t) [.string sn,.int .i64 sl,.int .i64 sc,.bool sb,.bool se,.string sd,.string su,.int .i64 sw,.int .i64 sr,.slice ra g rc,.slice iq i ic] (S+1) rfl rfl rfl (by simp [Value.oneCell']) hOr2 hel (by omega) (fun x hx=>by have:=(hO'.lt x hx).2;omega) (fun b hb=>hb.elim) (by rw [hlj];omega) (by rw [hlj];unfold maxLen;omega) hbs ?_;intro vb wb2 hOb2 hgb2 hbb hat;obtain ⟨vba,vbc,hvb,hvbl,hvbm⟩:=hOb2.form;rw [List.length_append,List.length_singleton,hlj] at hvb;subst hvb)
       | fail)
      have hac2:(l.map (thS (d+1))).take (j+1)=(l.map (thS (d+1))).take j++[thS (d+1) t]:=by rw [List.take_succ_eq_append_getElem (by rw [List.length_map];exact hjl),List.getElem_map,HT.out]
      have hbz:=hbr.trans hbb
      clear hgb2 hbb hat t0 t1 t2 t3 t4 t5 t6 t7 t8 t9 t10
      go_wp2
      go_roundw
      case rel=>exact ⟨j+1,hlt,by go_num,by rw [hac2];exact hOb2,hbz⟩
      case measure=>simp [RowKit.intOf];omega
  ·have i1:¬ (j:Int) < (n:Int):=by omega
   have hjn:(l.map (thS (d+1))).take j=l.map (thS (d+1)):=List.take_of_length_le (by rw [List.length_map,HN.out];omega)
   rw [hjn] at hO
   go_wp2
   go_ret
   refine ⟨_,rfl,?_,hb⟩
   exact hO.rd (kp_st _)
theorem ts_any:∀ (d:Nat),TsC d
 | 0=>ts_zero
 | d+1=>ts_step d (ts_any d)
