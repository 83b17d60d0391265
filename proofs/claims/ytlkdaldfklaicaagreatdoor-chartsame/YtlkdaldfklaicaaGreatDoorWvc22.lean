import Derived.Test.YtlkdaldfklaicaaGreatDoorWvc01
import Derived.Test.YtlkdaldfklaicaaGreatDoorWvc16
import Derived.Test.YtlkdaldfklaicaaGreatDoorWvc21
import Derived.Test.YtlkdaldfklaicaaGreatDoorWvc09
set_option maxRecDepth 100000
set_option maxHeartbeats 32000000
namespace Go.Proofs.YtlkdaldfklaicaaGreatDoor
open Go.RowKit Go.Lib
set_option linter.unusedSimpArgs false
set_option linter.unusedVariables false
attribute [local go_sem ↓] Go.wp_at_zero Go.wp_at_succ
theorem zmS {ok:Nat->Prop}{w:World}{l:List OnC}{a:Option Addr}{n cap:Nat}(h:RdK ok w 6 (rOn ok w) l (.slice a n cap)) (j:Nat) (hj:j < l.length):∃ b off s1 s3,a=some ⟨b,off,none⟩/\b < w.heap.size/\RdK ok w 2 (zaq ok w) l[j].2.2.2.1 (.slice s1 l[j].2.2.2.1.length s3)/\∀ i u,(onV l[j] (.slice s1 l[j].2.2.2.1.length s3))[i]?=some u->w.cell? ⟨b,off+j*6+i,none⟩=some u:=by
 obtain ⟨a1,cap1,he,h1,h2,h3⟩:=h
 simp only [Value.slice.injEq] at he
 obtain ⟨rfl,rfl,rfl⟩:=he
 obtain ⟨b,off,cs,ha,_,hb,hl,⟨sl,rfl,hs⟩,hc⟩:=h3 j hj
 obtain ⟨s1,s3,rfl,_⟩:=hs.form
 exact ⟨b,off,s1,s3,ha,hb,hs,hc⟩
theorem zlI {ok:Nat->Prop}{w:World}{l:List (List UInt8 × Sx)}{a:Option Addr}{n cap:Nat}(h:RdK ok w 2 (zaq ok w) l (.slice a n cap)) (j:Nat) (hj:j < l.length):∃ b off,a=some ⟨b,off,none⟩/\b < w.heap.size/\∀ i u,[sV l[j].1,exX l[j].2][i]?=some u->w.cell? ⟨b,off+j*2+i,none⟩=some u:=by
 obtain ⟨a1,cap1,he,h1,h2,h3⟩:=h
 simp only [Value.slice.injEq] at he
 obtain ⟨rfl,rfl,rfl⟩:=he
 obtain ⟨b,off,cs,ha,_,hb,hl,hr,hc⟩:=h3 j hj
 have hr:cs=[sV l[j].1,exX l[j].2]:=hr
 subst hr
 exact ⟨b,off,ha,hb,hc⟩
def OsC (d:Nat):Prop:=∀ (ok:Nat->Prop) (w:World) (l:List (St d)) (v:Value),RdK ok w 11 (rSt d ok w) l v->(∀ t∈l,OkS d t)->l.length<=3001->
 Calls Tryz.prog 21 #[v] w fun e w'=>∃ u,e=.returned u/\RdK (fun b=>w.heap.size<=b) w' 11 (zad d (fun b=>w.heap.size<=b) w') l u/\Below w.heap.size w w'
theorem zl3:OsC 0:=by
 intro ok w l v h _ _
 cases l with
 | cons x _=>exact Empty.elim x
 | nil=>
  obtain ⟨a,cap,rfl,_⟩:=h.form
  simp only [List.length_nil]
  clear h
  go_enter Tryz.func21,Tryz.ntmps21
  go_wp2
  go_loopw [3,12] (fun a3 i wr=>a3=.slice none 0 0/\i=.int .i64 0/\Below w.heap.size w wr) (fun _ _ _=>0)
  case atStart=>exact ⟨rfl,rfl,Below.refl _ _⟩
  case round=>
   obtain ⟨rfl,rfl,hb⟩:=hrel
   go_wp2
   go_ret
   exact ⟨_,rfl,zaO _ _ _ _,hb⟩
theorem zlq (d:Nat) (IH:OsC d):OsC (d+1):=by
 intro ok w l v h hok hl3
 obtain ⟨is,his,his0,his1,his2⟩:=info_parts Tryz.infoStD
 obtain ⟨io,hio,hio0,hio1,hio2⟩:=info_parts Tryz.infoOnD
 obtain ⟨ie,hie,hie0,hie1,hie2⟩:=info_parts Tryz.infoSetD
 obtain ⟨a,cap,rfl,hlc,hcm⟩:=h.form
 unfold maxLen at hcm
 have HC:Hid (RdK ok w 11 (rSt (d+1) ok w) l (.slice a l.length cap)):=h
 have HK:Hid (∀ t∈l,OkS (d+1) t):=hok
 obtain ⟨n,hn⟩:∃ n,l.length=n:=⟨_,rfl⟩
 rw [hn] at hlc hl3 ⊢
 have HN:Hid (l.length=n):=hn
 clear h hok hn
 go_enter Tryz.func21,Tryz.ntmps21
 go_wp2
 go_loopw [3,12] (fun a3 ix wr=>∃ (j:Nat),j<=n/\ix=.int .i64 (j:Int)/\OwnB wr w.heap.size (fun _=>False) 76 11 (zad (d+1)) a3 (l.take j)/\Below w.heap.size w wr) (fun _ ix _=>n - (RowKit.intOf ix).toNat)
 case atStart=>exact ⟨0,Nat.zero_le _,rfl,zZ _ _ _ _ _ _,Below.refl _ _⟩
 case round=>
  obtain ⟨j,hj,rfl,hO,hb⟩:=hrel
  obtain ⟨va,vc,rfl,hvl,hvm⟩:=hO.form
  have hlj:(l.take j).length=j:=by rw [List.length_take,HN.out];omega
  rw [hlj] at hO hvl ⊢
  by_cases hlt:j < n
  ·have hjl:j < l.length:=by rw [HN.out];exact hlt
   obtain ⟨b,off,so,si,rfl,_,hbl,hOn,hIn,hc⟩:=zh8 HC.out j hjl
   obtain ⟨p1,p3,rfl,_⟩:=hOn.form
   obtain ⟨p4,p6,rfl,_⟩:=hIn.form
   have hkt:=HK.out _ (List.getElem_mem hjl)
   obtain ⟨sn,sl,sc,sb,se,sd,su,sw,sr,hsv⟩:∃ sn sl sc sb se sd su sw sr,hdV l[j].1=fun so si=>[.string sn,.int .i64 sl,.int .i64 sc,.bool sb,.bool se,.string sd,.string su,.int .i64 sw,.int .i64 sr,so,si]:=⟨_,_,_,_,_,_,_,_,_,rfl⟩
   have hsd:hdD l[j].1=fun so si=>[.string sn,.int .i64 sl,.int .i64 sc,.bool sb,.bool se,.string sd,.string su,.int .i64 sw,.int .i64 sr,so,si]:=hsv
   rw [hsv] at hc
   obtain ⟨t,ht⟩:∃ t,l[j]=t:=⟨_,rfl⟩
   rw [ht] at hOn hIn hc hkt hsd
   obtain ⟨m,hm⟩:∃ m,t.1.2.2.2.2.length=m:=⟨_,rfl⟩
   obtain ⟨i,hi⟩:∃ m,t.2.length=m:=⟨_,rfl⟩
   rw [hm] at hOn hc
   rw [hi] at hIn hc
   have C0:=(hb.cell (p:=⟨b,off+j*11+0,none⟩) hbl).trans (hc 0 _ rfl)
   have C1:=(hb.cell (p:=⟨b,off+j*11+1,none⟩) hbl).trans (hc 1 _ rfl)
   have C2:=(hb.cell (p:=⟨b,off+j*11+2,none⟩) hbl).trans (hc 2 _ rfl)
   have C3:=(hb.cell (p:=⟨b,off+j*11+3,none⟩) hbl).trans (hc 3 _ rfl)
   have C4:=(hb.cell (p:=⟨b,off+j*11+4,none⟩) hbl).trans (hc 4 _ rfl)
   have C5:=(hb.cell (p:=⟨b,off+j*11+5,none⟩) hbl).trans (hc 5 _ rfl)
   have C6:=(hb.cell (p:=⟨b,off+j*11+6,none⟩) hbl).trans (hc 6 _ rfl)
   have C7:=(hb.cell (p:=⟨b,off+j*11+7,none⟩) hbl).trans (hc 7 _ rfl)
   have C8:=(hb.cell (p:=⟨b,off+j*11+8,none⟩) hbl).trans (hc 8 _ rfl)
   have C9:=(hb.cell (p:=⟨b,off+j*11+9,none⟩) hbl).trans (hc 9 _ rfl)
   have C10:=(hb.cell (p:=⟨b,off+j*11+10,none⟩) hbl).trans (hc 10 _ rfl)
   rw [Nat.add_zero] at C0
   have HOn:Hid (RdK ok w 6 (rOn ok w) t.1.2.2.2.2 (.slice p1 m p3)):=hOn
   have HSD:Hid (hdD t.1=fun so si=>[.string sn,.int .i64 sl,.int .i64 sc,.bool sb,.bool se,.string sd,.string su,.int .i64 sw,.int .i64 sr,so,si]):=hsd
   have HKT:Hid (OkS (d+1) t):=hkt
   have HT:Hid (l[j]=t):=ht
   have HM:Hid (t.1.2.2.2.2.length=m):=hm
   have i1:(j:Int) < (n:Int):=by omega
   have i2:(0:Int)<=(j:Int):=by omega
   have hal:=(Below.refl wr.heap.size wr).alloc zn2 (.cells #[.string sn,.int .i64 sl,.int .i64 sc,.bool sb,.bool se,.string sd,.string su,.int .i64 sw,.int .i64 sr,.slice p1 m p3,.slice p4 i p6] 45)
   have hbx:=hb.trans (hal.mono hb.size)
   have hX:Bn (wr.alloc (.cells #[.string sn,.int .i64 sl,.int .i64 sc,.bool sb,.bool se,.string sd,.string su,.int .i64 sw,.int .i64 sr,.slice p1 m p3,.slice p4 i p6] 45)) wr.heap.size [.string sn,.int .i64 sl,.int .i64 sc,.bool sb,.bool se,.string sd,.string su,.int .i64 sw,.int .i64 sr,.slice p1 m p3,.slice p4 i p6]:=Bn.new wr [.string sn,.int .i64 sl,.int .i64 sc,.bool sb,.bool se,.string sd,.string su,.int .i64 sw,.int .i64 sr,.slice p1 m p3,.slice p4 i p6] 45 _ rfl
   have hcall:=fun w1 (b1:Below w.heap.size w w1)=>IH (fun k=>ok k) w1 t.2 (.slice p4 i p6) (hIn.stay (zp d) (fun k hk hl=>⟨hk,b1.block k hl⟩)) hkt.2.2.2 hkt.2.2.1
   have hsx:(wr.alloc (.cells #[.string sn,.int .i64 sl,.int .i64 sc,.bool sb,.bool se,.string sd,.string su,.int .i64 sw,.int .i64 sr,.slice p1 m p3,.slice p4 i p6] 45)).heap.size=wr.heap.size+1:=by simp
   clear hc hsv hsd ht hkt hm hOn hIn
   go_upto_region 6 with fail
   clear C0 C1 C2 C3 C4 C5 C6 C7 C8 C9 C10
   obtain ⟨S,hS⟩:∃ S,wr.heap.size=S:=⟨_,rfl⟩
   have hO':=hO.on (zy _) hal
   rw [hS] at hX hsx hal ⊢
   generalize wr.alloc (.cells #[.string sn,.int .i64 sl,.int .i64 sc,.bool sb,.bool se,.string sd,.string su,.int .i64 sw,.int .i64 sr,.slice p1 m p3,.slice p4 i p6] 45)=wx at *
   have hcall2:∀ w1,Below w.heap.size w w1->Calls Tryz.prog 21 #[.slice p4 i p6] w1 fun e w'=>∃ iq ic,e=.returned (.slice iq i ic)/\RdK (fun b=>w1.heap.size<=b) w' 11 (zad d (fun b=>w1.heap.size<=b) w') t.2 (.slice iq i ic)/\Below w1.heap.size w1 w':=fun w1 b1=>(hcall w1 b1).mono (fun e w' hh=>by
    obtain ⟨u,h1,h2,h3⟩:=hh
    obtain ⟨iq,ic,rfl,_⟩:=h2.form
    rw [hi] at h1 h2
    exact ⟨iq,ic,h1,h2,h3⟩)
   clear hcall hi
   have hSw:w.heap.size<=S:=by have:=hb.size;omega
   go_cut [6] (fun u6 wc=>∃ Q iq ic,u6=.pointer (some ⟨Q,0,none⟩)/\S+1<=Q/\Bn wc Q [.string sn,.int .i64 sl,.int .i64 sc,.bool sb,.bool se,.string sd,.string su,.int .i64 sw,.int .i64 sr,.slice none 0 0,.slice iq i ic]/\RdK (fun k=>S+1<=k/\k≠Q) wc 11 (zad d (fun k=>S+1<=k/\k≠Q) wc) t.2 (.slice iq i ic)/\Below (S+1) wx wc)
   case first=>
    clear HOn HKT HC HK hO hO' hal hb IH HSD HT HM
    have hbz:Below w.heap.size w (wx.alloc zfQ):=hbx.alloc hbx.size _
    have hZ0:Bn (wx.alloc zfQ) (S+1) zDl:=Bn.new wx zDl 76 _ hsx.symm
    have hzx:(wx.alloc zfQ).heap.size=S+2:=by simp;omega
    have n1:S≠S+1:=by omega
    have X0:=(hX 0 _ rfl).1
    have X1:=(hX 1 _ rfl).1
    have X2:=(hX 2 _ rfl).1
    have X3:=(hX 3 _ rfl).1
    have X4:=(hX 4 _ rfl).1
    have X5:=(hX 5 _ rfl).1
    have X6:=(hX 6 _ rfl).1
    have X7:=(hX 7 _ rfl).1
    have X8:=(hX 8 _ rfl).1
    have X9:=(hX 9 _ rfl).1
    have X10:=(hX 10 _ rfl).1
    go_region_held_law (fun w'=>w'.cell? ⟨S,0,none⟩=some (.string sn)/\w'.cell? ⟨S,1,none⟩=some (.int .i64 sl)/\w'.cell? ⟨S,2,none⟩=some (.int .i64 sc)/\w'.cell? ⟨S,3,none⟩=some (.bool sb)/\w'.cell? ⟨S,4,none⟩=some (.bool se)/\w'.cell? ⟨S,5,none⟩=some (.string sd)/\w'.cell? ⟨S,6,none⟩=some (.string su)/\w'.cell? ⟨S,7,none⟩=some (.int .i64 sw)/\w'.cell? ⟨S,8,none⟩=some (.int .i64 sr)/\w'.cell? ⟨S,10,none⟩=some (.slice p4 i p6))
     ((refine ⟨?_,?_,?_,?_,?_,?_,?_,?_,?_,?_⟩<;>(repeat (with_reducible first|exact X0|exact X1|exact X2|exact X3|exact X4|exact X5|exact X6|exact X7|exact X8|exact X10|exact Y0|exact Y1|exact Y2|exact Y3|exact Y4|exact Y5|exact Y6|exact Y7|exact Y8|exact Y10|refine zj ?_|refine zh ?_|refine za (zg n1) ?_|refine za (zg n2) ?_))<;>done))
     (first
      | (go_at_call 21;(with_reducible refine (hcall2 _ hbx.drew).mono ?_);rintro e w1 ⟨iq,ic,rfl,hr1,b1⟩;have bw:Below wx.heap.size wx w1:=((Below.refl _ wx).drew).trans b1;have n2:S≠w1.heap.size:=(by have:=bw.size;omega);have kc:∀ p u,wx.cell? p=some u->w1.cell? p=some u:=fun p u hp=>(by rw [bw.cell (World.block_lt_of_cell? wx _ hp)];exact hp);have Y0:=kc _ _ X0;have Y1:=kc _ _ X1;have Y2:=kc _ _ X2;have Y3:=kc _ _ X3;have Y4:=kc _ _ X4;have Y5:=kc _ _ X5;have Y6:=kc _ _ X6;have Y7:=kc _ _ X7;have Y8:=kc _ _ X8;have Y10:=kc _ _ X10)
      | (go_at_call 21;(with_reducible refine (hcall2 _ hbz.drew).mono ?_);rintro e w1 ⟨iq,ic,rfl,hr1,b1⟩;have bz:Below (wx.alloc zfQ).heap.size (wx.alloc zfQ) w1:=((Below.refl _ (wx.alloc zfQ)).drew).trans b1;have bw:Below wx.heap.size wx w1:=((Below.refl wx.heap.size wx).alloc zn2 zfQ).trans (bz.mono (by rw [hsx,hzx];omega));have kc:∀ p u,wx.cell? p=some u->w1.cell? p=some u:=fun p u hp=>(by rw [bw.cell (World.block_lt_of_cell? wx _ hp)];exact hp);have Y0:=kc _ _ X0;have Y1:=kc _ _ X1;have Y2:=kc _ _ X2;have Y3:=kc _ _ X3;have Y4:=kc _ _ X4;have Y5:=kc _ _ X5;have Y6:=kc _ _ X6;have Y7:=kc _ _ X7;have Y8:=kc _ _ X8;have Y10:=kc _ _ X10;have hZ:=hZ0.on bz;obtain ⟨z0,f0⟩:=hZ 0 _ rfl;obtain ⟨z1,f1⟩:=hZ 1 _ rfl;obtain ⟨z2,f2⟩:=hZ 2 _ rfl;obtain ⟨z3,f3⟩:=hZ 3 _ rfl;obtain ⟨z4,f4⟩:=hZ 4 _ rfl;obtain ⟨z5,f5⟩:=hZ 5 _ rfl;obtain ⟨z6,f6⟩:=hZ 6 _ rfl;obtain ⟨z7,f7⟩:=hZ 7 _ rfl;obtain ⟨z8,f8⟩:=hZ 8 _ rfl;obtain ⟨z9,f9⟩:=hZ 9 _ rfl;obtain ⟨z10,f10⟩:=hZ 10 _ rfl)
      | fail)
    ·have bw2:Below (S+1) wx w1:=by rw [<- hsx];exact bw
     have hs1:S+1<=w1.heap.size:=by have:=bw.size;omega
     have hr2:=hr1.stay (zy d) (ok':=fun k=>S+1<=k/\k≠w1.heap.size) (w':=w1.alloc (.cells #[.string sn,.int .i64 sl,.int .i64 sc,.bool sb,.bool se,.string sd,.string su,.int .i64 sw,.int .i64 sr,.slice none 0 0,.slice iq i ic] 76)) (fun k hk hl=>⟨⟨by have hk':wx.heap.size<=k:=hk;omega,by omega⟩,((Below.refl w1.heap.size w1).alloc zn2 _).block k hl⟩)
     go_wp2
     go_meet
     case rel=>exact ⟨w1.heap.size,iq,ic,rfl,hs1,Bn.new w1 [.string sn,.int .i64 sl,.int .i64 sc,.bool sb,.bool se,.string sd,.string su,.int .i64 sw,.int .i64 sr,.slice none 0 0,.slice iq i ic] 76 _ rfl,hr2,bw2.alloc hs1 _⟩
    ·have bw2:Below (S+1) wx w1:=by rw [<- hsx];exact bw
     have hQ2:=(((((((((((hZ.set (i:=0) (by simp) (.string sn)).set (i:=1) (by simp) (.int .i64 sl)).set (i:=2) (by simp) (.int .i64 sc)).set (i:=3) (by simp) (.bool sb)).set (i:=4) (by simp) (.bool se)).set (i:=5) (by simp) (.string sd)).set (i:=6) (by simp) (.string su)).set (i:=7) (by simp) (.int .i64 sw)).set (i:=8) (by simp) (.int .i64 sr)).set (i:=9) (by simp) (.slice none 0 0)).set (i:=10) (by simp) (.slice iq i ic))
     have hb2:=(zf (zf (zf (zf (zf (zf (zf (zf (zf (zf (zf bw2 (S+1) 0 (.string sn) zn2) (S+1) 1 (.int .i64 sl) zn2) (S+1) 2 (.int .i64 sc) zn2) (S+1) 3 (.bool sb) zn2) (S+1) 4 (.bool se) zn2) (S+1) 5 (.string sd) zn2) (S+1) 6 (.string su) zn2) (S+1) 7 (.int .i64 sw) zn2) (S+1) 8 (.int .i64 sr) zn2) (S+1) 9 (.slice none 0 0) zn2) (S+1) 10 (.slice iq i ic) zn2)
     have hk2:∀ k,(wx.alloc zfQ).drew.heap.size<=k->k < w1.heap.size->(S+1<=k/\k≠S+1)/\(((((((((((w1.setCell ⟨S+1,0,none⟩ (.string sn)).setCell ⟨S+1,1,none⟩ (.int .i64 sl)).setCell ⟨S+1,2,none⟩ (.int .i64 sc)).setCell ⟨S+1,3,none⟩ (.bool sb)).setCell ⟨S+1,4,none⟩ (.bool se)).setCell ⟨S+1,5,none⟩ (.string sd)).setCell ⟨S+1,6,none⟩ (.string su)).setCell ⟨S+1,7,none⟩ (.int .i64 sw)).setCell ⟨S+1,8,none⟩ (.int .i64 sr)).setCell ⟨S+1,9,none⟩ (.slice none 0 0)).setCell ⟨S+1,10,none⟩ (.slice iq i ic)).heap[k]?=w1.heap[k]?:=fun k hk hl=>by
      have hk':(wx.alloc zfQ).heap.size<=k:=hk
      rw [hzx] at hk'
      exact ⟨by omega,by rw [Below.heap_setCell _ _ _ _ (fun e=>by have e2:k=S+1:=e;omega),Below.heap_setCell _ _ _ _ (fun e=>by have e2:k=S+1:=e;omega),Below.heap_setCell _ _ _ _ (fun e=>by have e2:k=S+1:=e;omega),Below.heap_setCell _ _ _ _ (fun e=>by have e2:k=S+1:=e;omega),Below.heap_setCell _ _ _ _ (fun e=>by have e2:k=S+1:=e;omega),Below.heap_setCell _ _ _ _ (fun e=>by have e2:k=S+1:=e;omega),Below.heap_setCell _ _ _ _ (fun e=>by have e2:k=S+1:=e;omega),Below.heap_setCell _ _ _ _ (fun e=>by have e2:k=S+1:=e;omega),Below.heap_setCell _ _ _ _ (fun e=>by have e2:k=S+1:=e;omega),Below.heap_setCell _ _ _ _ (fun e=>by have e2:k=S+1:=e;omega),Below.heap_setCell _ _ _ _ (fun e=>by have e2:k=S+1:=e;omega)]⟩
     have hr2:=hr1.stay (zy d) (ok':=fun k=>S+1<=k/\k≠S+1) hk2
     go_wp2
     go_meet
     case rel=>exact ⟨S+1,iq,ic,rfl,Nat.le_refl _,hQ2,hr2,hb2⟩
   case rest=>
    obtain ⟨Q,iq,ic,rfl,hQ,hQb,hQr,hbq⟩:=hcut
    have hXc:=hX.blk (hbq.block S (by omega))
    have hbw:=hbx.trans (hbq.mono (by omega))
    have hOc:=hO'.on (zy _) (show Below wx.heap.size wx wc by rw [hsx];exact hbq)
    have hm3:m<=3001:=by have:=HKT.out.2.1;rw [HM.out] at this;exact this
    have x9:=(hXc 9 _ rfl).1
    obtain ⟨wk,hwk⟩:∃ x,x=wc:=⟨_,rfl⟩
    subst hwk
    go_wp2
    go_loopw [42] (fun ix wr=>∃ (g:Nat) (sl2:Value),g<=m/\ix=.int .i64 (g:Int)/\Bn wr Q [.string sn,.int .i64 sl,.int .i64 sc,.bool sb,.bool se,.string sd,.string su,.int .i64 sw,.int .i64 sr,sl2,.slice iq i ic]/\OwnB wr wk.heap.size (fun _=>False) 82 10 zba sl2 (t.1.2.2.2.2.take g)/\Fx Q wk wr) (fun ix _=>m - (RowKit.intOf ix).toNat)
    case atStart=>exact ⟨0,_,Nat.zero_le _,rfl,hQb,zZ _ _ _ _ _ _,Fx.refl _ _⟩
    case round=>
     clear x9
     obtain ⟨g,sl2,hg,rfl,hQB,hRow,hF⟩:=hrel
     obtain ⟨acg,hacg⟩:∃ acg,t.1.2.2.2.2.take g=acg:=⟨_,rfl⟩
     have hlg:acg.length=g:=by rw [<- hacg,List.length_take,HM.out];omega
     rw [hacg] at hRow
     have HACG:Hid (t.1.2.2.2.2.take g=acg):=hacg
     clear hacg
     obtain ⟨ra,rc,rfl,hrl,hrm⟩:=hRow.form
     rw [hlg] at hRow hQB hrl
     have hql:Q < wk.heap.size:=hQb.lt
     have hXr:=hXc.fx hF (by omega)
     have hFs:=hF.size
     have hws:=hXc.lt
     by_cases hgl:g < m
     ·have hgt:g < t.1.2.2.2.2.length:=by rw [HM.out];exact hgl
      obtain ⟨bo,oo,s1,s3,rfl,hbl2,hSe,hco⟩:=zmS HOn.out g hgt
      have hko:=HKT.out.1 _ (List.getElem_mem hgt)
      obtain ⟨o,ho⟩:∃ o,t.1.2.2.2.2[g]=o:=⟨_,rfl⟩
      rw [ho] at hSe hco hko
      obtain ⟨ns,hns⟩:∃ m,o.2.2.2.1.length=m:=⟨_,rfl⟩
      rw [hns] at hSe hco
      obtain ⟨x,hx⟩:∃ x,o.2.1.2=x:=⟨_,rfl⟩
      obtain ⟨ev,tg,ol,oc,hov⟩:∃ ev tg ol oc,onV o=fun sl=>[.string ev,gdV o.2.1,.string tg,sl,.int .i64 ol,.int .i64 oc]:=⟨_,_,_,_,rfl⟩
      rw [hov] at hco
      have hbr:Below w.heap.size w wr:=hF.bel hbw (by omega) zn2
      have P9:=(hXr 9 _ rfl).1
      have O0:=(hbr.cell (p:=⟨bo,oo+g*6+0,none⟩) hbl2).trans (hco 0 _ rfl)
      have O1:=(hbr.cell (p:=⟨bo,oo+g*6+1,none⟩) hbl2).trans (hco 1 _ rfl)
      have O2:=(hbr.cell (p:=⟨bo,oo+g*6+2,none⟩) hbl2).trans (hco 2 _ rfl)
      have O3:=(hbr.cell (p:=⟨bo,oo+g*6+3,none⟩) hbl2).trans (hco 3 _ rfl)
      have O4:=(hbr.cell (p:=⟨bo,oo+g*6+4,none⟩) hbl2).trans (hco 4 _ rfl)
      have O5:=(hbr.cell (p:=⟨bo,oo+g*6+5,none⟩) hbl2).trans (hco 5 _ rfl)
      rw [Nat.add_zero] at O0
      have hours:=fun w1=>zez x.1 x.2 w1 (by rw [<- hx];exact hko.1)
      have i3:(g:Int) < (m:Int):=by omega
      have i4:(0:Int)<=(g:Int):=by omega
      have hbw2:=hbw.size
      obtain ⟨gb,hgb⟩:∃ gb,o.2.1.1=gb:=⟨_,rfl⟩
      obtain ⟨gv,hgv⟩:∃ gv,gdV o.2.1=gv:=⟨_,rfl⟩
      rw [hgv] at O1
      have hgv2:exX x=gv/\((gb=true/\∃ gu gy,gv=.iface gu gy)∨(gb=false/\gv=.nilIface)):=by
       rw [<- hgv]
       unfold gdV
       cases hbb:o.2.1.1 with
       | true=>
        obtain ⟨gu,gy,hq⟩:=hko.2.2.1 hbb
        rw [if_pos rfl,hx]
        rw [hx] at hq
        exact ⟨rfl,.inl ⟨by rw [<- hgb,hbb],gu,gy,hq⟩⟩
       | false=>
        rw [if_neg (by decide)]
        have hq:=hko.2.1 hbb
        rw [hx] at hq
        rw [hq]
        exact ⟨rfl,.inr ⟨by rw [<- hgb,hbb],rfl⟩⟩
      have hours:∀ w1,Calls Tryz.prog 38 #[gv] w1 fun e w'=>∃ u,e=.returned u/\RdX (fun b=>w1.heap.size<=b) w' x u/\Below w1.heap.size w1 w':=fun w1=>by rw [<- hgv2.1];exact hours w1
      have hgf:=hgv2.2
      have HGB:Hid (o.2.1.1=gb):=hgb
      have HCO:Hid (∀ i u,[Value.string ev,gv,.string tg,.slice s1 ns s3,.int .i64 ol,.int .i64 oc][i]?=some u->w.cell? ⟨bo,oo+g*6+i,none⟩=some u):=by rw [<- hgv];exact hco
      have HOV:Hid (onV o=fun sl=>[.string ev,gdV o.2.1,.string tg,sl,.int .i64 ol,.int .i64 oc]):=hov
      have HO2:Hid (t.1.2.2.2.2[g]=o):=ho
      have HKO:Hid (OkO o):=hko
      have HSE:Hid (RdK ok w 2 (zaq ok w) o.2.2.2.1 (.slice s1 ns s3)):=hSe
      have HNS:Hid (o.2.2.2.1.length=ns):=hns
      have HX:Hid (o.2.1.2=x):=hx
      clear hco hgv hgv2 hgb hov ho hko hSe hns hx
      go_wp2
      go_cut [8] (fun u8 wd=>∃ O x1 x2 x3 x4 x5 x6,u8=.pointer (some ⟨O,0,none⟩)/\wr.heap.size<=O/\Bn wd O [.string ev,.bool gb,.int .i64 x1,.int .i64 x2,.string x3,.slice x4 x5 x6,.string tg,.slice none 0 0,.int .i64 ol,.int .i64 oc]/\RdX (fun k=>wr.heap.size<=k/\k≠O) wd x (.agg #[.int .i64 x1,.int .i64 x2,.string x3,.slice x4 x5 x6])/\Below wr.heap.size wr wd)
      case first=>
       rcases hgf with ⟨rfl,gu,gy,rfl⟩|⟨rfl,rfl⟩
       ·
        have hZ0:Bn (wr.alloc zcu) wr.heap.size [.string ⟨#[]⟩,.bool false,.int .i64 0,.int .i64 0,.string ⟨#[]⟩,.slice none 0 0,.string ⟨#[]⟩,.slice none 0 0,.int .i64 0,.int .i64 0]:=Bn.new wr [.string ⟨#[]⟩,.bool false,.int .i64 0,.int .i64 0,.string ⟨#[]⟩,.slice none 0 0,.string ⟨#[]⟩,.slice none 0 0,.int .i64 0,.int .i64 0] 82 _ rfl
        have hzx:(wr.alloc zcu).heap.size=wr.heap.size+1:=by simp
        have n1:S≠wr.heap.size:=by omega
        have n2:bo≠wr.heap.size:=by omega
        clear HOn HKT HC HK hO hO' hal hb IH HSD HT HM hRow hQB hQr hOc hXr hXc hX
        go_region_held_law (fun w'=>w'.cell? ⟨S,9,none⟩=some (.slice (some ⟨bo,oo,none⟩) m p3)/\w'.cell? ⟨bo,oo+g*6,none⟩=some (.string ev)/\w'.cell? ⟨bo,oo+g*6+1,none⟩=some (.iface gu gy)/\w'.cell? ⟨bo,oo+g*6+2,none⟩=some (.string tg)/\w'.cell? ⟨bo,oo+g*6+4,none⟩=some (.int .i64 ol)/\w'.cell? ⟨bo,oo+g*6+5,none⟩=some (.int .i64 oc))
         ((refine ⟨?_,?_,?_,?_,?_,?_⟩<;>(repeat (with_reducible first|exact P9|exact O0|exact O1|exact O2|exact O4|exact O5|exact YP9|exact YO0|exact YO1|exact YO2|exact YO4|exact YO5|refine zj ?_|refine zh ?_|refine za (zg n1) ?_|refine za (zg n2) ?_|refine za (zg n3) ?_|refine za (zg n4) ?_))<;>done))
         (first
          | (go_at_call 38;(with_reducible refine (hours wr.drew).mono ?_);rintro e w1 ⟨u,rfl,hr1,b1⟩;obtain ⟨x1,x2,x3,x4,x5,x6,rfl⟩:=hr1.form;have bw:Below wr.heap.size wr w1:=((Below.refl _ wr).drew).trans b1;have n3:S≠w1.heap.size:=(by have:=bw.size;omega);have n4:bo≠w1.heap.size:=(by have:=bw.size;omega);have kc:∀ p u,wr.cell? p=some u->w1.cell? p=some u:=fun p u hp=>(by rw [bw.cell (World.block_lt_of_cell? wr _ hp)];exact hp);have YP9:=kc _ _ P9;have YO0:=kc _ _ O0;have YO1:=kc _ _ O1;have YO2:=kc _ _ O2;have YO4:=kc _ _ O4;have YO5:=kc _ _ O5)
          | (go_at_call 38;(with_reducible refine (hours (wr.alloc zcu).drew).mono ?_);rintro e w1 ⟨u,rfl,hr1,b1⟩;obtain ⟨x1,x2,x3,x4,x5,x6,rfl⟩:=hr1.form;have bz:Below (wr.alloc zcu).heap.size (wr.alloc zcu) w1:=((Below.refl _ (wr.alloc zcu)).drew).trans b1;have bw:Below wr.heap.size wr w1:=((Below.refl wr.heap.size wr).alloc zn2 zcu).trans (bz.mono (by rw [hzx];omega));have kc:∀ p u,wr.cell? p=some u->w1.cell? p=some u:=fun p u hp=>(by rw [bw.cell (World.block_lt_of_cell? wr _ hp)];exact hp);have YP9:=kc _ _ P9;have YO0:=kc _ _ O0;have YO1:=kc _ _ O1;have YO2:=kc _ _ O2;have YO4:=kc _ _ O4;have YO5:=kc _ _ O5;have hZ:=hZ0.on bz;obtain ⟨z0,f0⟩:=hZ 0 _ rfl;obtain ⟨z1,f1⟩:=hZ 1 _ rfl;obtain ⟨z2,f2⟩:=hZ 2 _ rfl;obtain ⟨z3,f3⟩:=hZ 3 _ rfl;obtain ⟨z4,f4⟩:=hZ 4 _ rfl;obtain ⟨z5,f5⟩:=hZ 5 _ rfl;obtain ⟨z6,f6⟩:=hZ 6 _ rfl;obtain ⟨z7,f7⟩:=hZ 7 _ rfl;obtain ⟨z8,f8⟩:=hZ 8 _ rfl;obtain ⟨z9,f9⟩:=hZ 9 _ rfl)
          | fail)
        ·have hs1:wr.heap.size<=w1.heap.size:=bw.size
         have hr2:RdX (fun k=>wr.heap.size<=k/\k≠w1.heap.size) (w1.alloc (.cells #[.string ev,.bool true,.int .i64 x1,.int .i64 x2,.string x3,.slice x4 x5 x6,.string tg,.slice none 0 0,.int .i64 ol,.int .i64 oc] 82)) x (.agg #[.int .i64 x1,.int .i64 x2,.string x3,.slice x4 x5 x6]):=RdX.keep hr1 (fun k hk hl=>⟨⟨hk,by omega⟩,((Below.refl w1.heap.size w1).alloc zn2 _).block k hl⟩)
         go_wp2
         go_meet
         case rel=>exact ⟨w1.heap.size,x1,x2,x3,x4,x5,x6,rfl,hs1,Bn.new w1 [.string ev,.bool true,.int .i64 x1,.int .i64 x2,.string x3,.slice x4 x5 x6,.string tg,.slice none 0 0,.int .i64 ol,.int .i64 oc] 82 _ rfl,hr2,bw.alloc hs1 _⟩
        ·have hQ2:=((((((((((hZ.set (i:=0) (by simp) (.string ev)).set (i:=1) (by simp) (.bool true)).set (i:=2) (by simp) (.int .i64 x1)).set (i:=3) (by simp) (.int .i64 x2)).set (i:=4) (by simp) (.string x3)).set (i:=5) (by simp) (.slice x4 x5 x6)).set (i:=6) (by simp) (.string tg)).set (i:=7) (by simp) (.slice none 0 0)).set (i:=8) (by simp) (.int .i64 ol)).set (i:=9) (by simp) (.int .i64 oc))
         have hb2:=(zf (zf (zf (zf (zf (zf (zf (zf (zf (zf bw wr.heap.size 0 (.string ev) zn2) wr.heap.size 1 (.bool true) zn2) wr.heap.size 2 (.int .i64 x1) zn2) wr.heap.size 3 (.int .i64 x2) zn2) wr.heap.size 4 (.string x3) zn2) wr.heap.size 5 (.slice x4 x5 x6) zn2) wr.heap.size 6 (.string tg) zn2) wr.heap.size 7 (.slice none 0 0) zn2) wr.heap.size 8 (.int .i64 ol) zn2) wr.heap.size 9 (.int .i64 oc) zn2)
         have hk2:∀ k,(wr.alloc zcu).drew.heap.size<=k->k < w1.heap.size->(wr.heap.size<=k/\k≠wr.heap.size)/\((((((((((w1.setCell ⟨wr.heap.size,0,none⟩ (.string ev)).setCell ⟨wr.heap.size,1,none⟩ (.bool true)).setCell ⟨wr.heap.size,2,none⟩ (.int .i64 x1)).setCell ⟨wr.heap.size,3,none⟩ (.int .i64 x2)).setCell ⟨wr.heap.size,4,none⟩ (.string x3)).setCell ⟨wr.heap.size,5,none⟩ (.slice x4 x5 x6)).setCell ⟨wr.heap.size,6,none⟩ (.string tg)).setCell ⟨wr.heap.size,7,none⟩ (.slice none 0 0)).setCell ⟨wr.heap.size,8,none⟩ (.int .i64 ol)).setCell ⟨wr.heap.size,9,none⟩ (.int .i64 oc)).heap[k]?=w1.heap[k]?:=fun k hk hl=>by
          have hk':(wr.alloc zcu).heap.size<=k:=hk
          rw [hzx] at hk'
          exact ⟨by omega,by rw [Below.heap_setCell _ _ _ _ (fun e=>by have e2:k=wr.heap.size:=e;omega),Below.heap_setCell _ _ _ _ (fun e=>by have e2:k=wr.heap.size:=e;omega),Below.heap_setCell _ _ _ _ (fun e=>by have e2:k=wr.heap.size:=e;omega),Below.heap_setCell _ _ _ _ (fun e=>by have e2:k=wr.heap.size:=e;omega),Below.heap_setCell _ _ _ _ (fun e=>by have e2:k=wr.heap.size:=e;omega),Below.heap_setCell _ _ _ _ (fun e=>by have e2:k=wr.heap.size:=e;omega),Below.heap_setCell _ _ _ _ (fun e=>by have e2:k=wr.heap.size:=e;omega),Below.heap_setCell _ _ _ _ (fun e=>by have e2:k=wr.heap.size:=e;omega),Below.heap_setCell _ _ _ _ (fun e=>by have e2:k=wr.heap.size:=e;omega),Below.heap_setCell _ _ _ _ (fun e=>by have e2:k=wr.heap.size:=e;omega)]⟩
         have hr2:RdX (fun k=>wr.heap.size<=k/\k≠wr.heap.size) _ x (.agg #[.int .i64 x1,.int .i64 x2,.string x3,.slice x4 x5 x6]):=RdX.keep hr1 hk2
         go_wp2
         go_meet
         case rel=>exact ⟨wr.heap.size,x1,x2,x3,x4,x5,x6,rfl,Nat.le_refl _,hQ2,hr2,hb2⟩
       ·
        have hZ0:Bn (wr.alloc zcu) wr.heap.size [.string ⟨#[]⟩,.bool false,.int .i64 0,.int .i64 0,.string ⟨#[]⟩,.slice none 0 0,.string ⟨#[]⟩,.slice none 0 0,.int .i64 0,.int .i64 0]:=Bn.new wr [.string ⟨#[]⟩,.bool false,.int .i64 0,.int .i64 0,.string ⟨#[]⟩,.slice none 0 0,.string ⟨#[]⟩,.slice none 0 0,.int .i64 0,.int .i64 0] 82 _ rfl
        have hzx:(wr.alloc zcu).heap.size=wr.heap.size+1:=by simp
        have n1:S≠wr.heap.size:=by omega
        have n2:bo≠wr.heap.size:=by omega
        clear HOn HKT HC HK hO hO' hal hb IH HSD HT HM hRow hQB hQr hOc hXr hXc hX
        go_region_held_law (fun w'=>w'.cell? ⟨S,9,none⟩=some (.slice (some ⟨bo,oo,none⟩) m p3)/\w'.cell? ⟨bo,oo+g*6,none⟩=some (.string ev)/\w'.cell? ⟨bo,oo+g*6+1,none⟩=some (.nilIface)/\w'.cell? ⟨bo,oo+g*6+2,none⟩=some (.string tg)/\w'.cell? ⟨bo,oo+g*6+4,none⟩=some (.int .i64 ol)/\w'.cell? ⟨bo,oo+g*6+5,none⟩=some (.int .i64 oc))
         ((refine ⟨?_,?_,?_,?_,?_,?_⟩<;>(repeat (with_reducible first|exact P9|exact O0|exact O1|exact O2|exact O4|exact O5|exact YP9|exact YO0|exact YO1|exact YO2|exact YO4|exact YO5|refine zj ?_|refine zh ?_|refine za (zg n1) ?_|refine za (zg n2) ?_|refine za (zg n3) ?_|refine za (zg n4) ?_))<;>done))
         (first
          | (go_at_call 38;(with_reducible refine (hours wr.drew).mono ?_);rintro e w1 ⟨u,rfl,hr1,b1⟩;obtain ⟨x1,x2,x3,x4,x5,x6,rfl⟩:=hr1.form;have bw:Below wr.heap.size wr w1:=((Below.refl _ wr).drew).trans b1;have n3:S≠w1.heap.size:=(by have:=bw.size;omega);have n4:bo≠w1.heap.size:=(by have:=bw.size;omega);have kc:∀ p u,wr.cell? p=some u->w1.cell? p=some u:=fun p u hp=>(by rw [bw.cell (World.block_lt_of_cell? wr _ hp)];exact hp);have YP9:=kc _ _ P9;have YO0:=kc _ _ O0;have YO1:=kc _ _ O1;have YO2:=kc _ _ O2;have YO4:=kc _ _ O4;have YO5:=kc _ _ O5)
          | (go_at_call 38;(with_reducible refine (hours (wr.alloc zcu).drew).mono ?_);rintro e w1 ⟨u,rfl,hr1,b1⟩;obtain ⟨x1,x2,x3,x4,x5,x6,rfl⟩:=hr1.form;have bz:Below (wr.alloc zcu).heap.size (wr.alloc zcu) w1:=((Below.refl _ (wr.alloc zcu)).drew).trans b1;have bw:Below wr.heap.size wr w1:=((Below.refl wr.heap.size wr).alloc zn2 zcu).trans (bz.mono (by rw [hzx];omega));have kc:∀ p u,wr.cell? p=some u->w1.cell? p=some u:=fun p u hp=>(by rw [bw.cell (World.block_lt_of_cell? wr _ hp)];exact hp);have YP9:=kc _ _ P9;have YO0:=kc _ _ O0;have YO1:=kc _ _ O1;have YO2:=kc _ _ O2;have YO4:=kc _ _ O4;have YO5:=kc _ _ O5;have hZ:=hZ0.on bz;obtain ⟨z0,f0⟩:=hZ 0 _ rfl;obtain ⟨z1,f1⟩:=hZ 1 _ rfl;obtain ⟨z2,f2⟩:=hZ 2 _ rfl;obtain ⟨z3,f3⟩:=hZ 3 _ rfl;obtain ⟨z4,f4⟩:=hZ 4 _ rfl;obtain ⟨z5,f5⟩:=hZ 5 _ rfl;obtain ⟨z6,f6⟩:=hZ 6 _ rfl;obtain ⟨z7,f7⟩:=hZ 7 _ rfl;obtain ⟨z8,f8⟩:=hZ 8 _ rfl;obtain ⟨z9,f9⟩:=hZ 9 _ rfl)
          | fail)
        ·have hs1:wr.heap.size<=w1.heap.size:=bw.size
         have hr2:RdX (fun k=>wr.heap.size<=k/\k≠w1.heap.size) (w1.alloc (.cells #[.string ev,.bool false,.int .i64 x1,.int .i64 x2,.string x3,.slice x4 x5 x6,.string tg,.slice none 0 0,.int .i64 ol,.int .i64 oc] 82)) x (.agg #[.int .i64 x1,.int .i64 x2,.string x3,.slice x4 x5 x6]):=RdX.keep hr1 (fun k hk hl=>⟨⟨hk,by omega⟩,((Below.refl w1.heap.size w1).alloc zn2 _).block k hl⟩)
         go_wp2
         go_meet
         case rel=>exact ⟨w1.heap.size,x1,x2,x3,x4,x5,x6,rfl,hs1,Bn.new w1 [.string ev,.bool false,.int .i64 x1,.int .i64 x2,.string x3,.slice x4 x5 x6,.string tg,.slice none 0 0,.int .i64 ol,.int .i64 oc] 82 _ rfl,hr2,bw.alloc hs1 _⟩
        ·have hQ2:=((((((((((hZ.set (i:=0) (by simp) (.string ev)).set (i:=1) (by simp) (.bool false)).set (i:=2) (by simp) (.int .i64 x1)).set (i:=3) (by simp) (.int .i64 x2)).set (i:=4) (by simp) (.string x3)).set (i:=5) (by simp) (.slice x4 x5 x6)).set (i:=6) (by simp) (.string tg)).set (i:=7) (by simp) (.slice none 0 0)).set (i:=8) (by simp) (.int .i64 ol)).set (i:=9) (by simp) (.int .i64 oc))
         have hb2:=(zf (zf (zf (zf (zf (zf (zf (zf (zf (zf bw wr.heap.size 0 (.string ev) zn2) wr.heap.size 1 (.bool false) zn2) wr.heap.size 2 (.int .i64 x1) zn2) wr.heap.size 3 (.int .i64 x2) zn2) wr.heap.size 4 (.string x3) zn2) wr.heap.size 5 (.slice x4 x5 x6) zn2) wr.heap.size 6 (.string tg) zn2) wr.heap.size 7 (.slice none 0 0) zn2) wr.heap.size 8 (.int .i64 ol) zn2) wr.heap.size 9 (.int .i64 oc) zn2)
         have hk2:∀ k,(wr.alloc zcu).drew.heap.size<=k->k < w1.heap.size->(wr.heap.size<=k/\k≠wr.heap.size)/\((((((((((w1.setCell ⟨wr.heap.size,0,none⟩ (.string ev)).setCell ⟨wr.heap.size,1,none⟩ (.bool false)).setCell ⟨wr.heap.size,2,none⟩ (.int .i64 x1)).setCell ⟨wr.heap.size,3,none⟩ (.int .i64 x2)).setCell ⟨wr.heap.size,4,none⟩ (.string x3)).setCell ⟨wr.heap.size,5,none⟩ (.slice x4 x5 x6)).setCell ⟨wr.heap.size,6,none⟩ (.string tg)).setCell ⟨wr.heap.size,7,none⟩ (.slice none 0 0)).setCell ⟨wr.heap.size,8,none⟩ (.int .i64 ol)).setCell ⟨wr.heap.size,9,none⟩ (.int .i64 oc)).heap[k]?=w1.heap[k]?:=fun k hk hl=>by
          have hk':(wr.alloc zcu).heap.size<=k:=hk
          rw [hzx] at hk'
          exact ⟨by omega,by rw [Below.heap_setCell _ _ _ _ (fun e=>by have e2:k=wr.heap.size:=e;omega),Below.heap_setCell _ _ _ _ (fun e=>by have e2:k=wr.heap.size:=e;omega),Below.heap_setCell _ _ _ _ (fun e=>by have e2:k=wr.heap.size:=e;omega),Below.heap_setCell _ _ _ _ (fun e=>by have e2:k=wr.heap.size:=e;omega),Below.heap_setCell _ _ _ _ (fun e=>by have e2:k=wr.heap.size:=e;omega),Below.heap_setCell _ _ _ _ (fun e=>by have e2:k=wr.heap.size:=e;omega),Below.heap_setCell _ _ _ _ (fun e=>by have e2:k=wr.heap.size:=e;omega),Below.heap_setCell _ _ _ _ (fun e=>by have e2:k=wr.heap.size:=e;omega),Below.heap_setCell _ _ _ _ (fun e=>by have e2:k=wr.heap.size:=e;omega),Below.heap_setCell _ _ _ _ (fun e=>by have e2:k=wr.heap.size:=e;omega)]⟩
         have hr2:RdX (fun k=>wr.heap.size<=k/\k≠wr.heap.size) _ x (.agg #[.int .i64 x1,.int .i64 x2,.string x3,.slice x4 x5 x6]):=RdX.keep hr1 hk2
         go_wp2
         go_meet
         case rel=>exact ⟨wr.heap.size,x1,x2,x3,x4,x5,x6,rfl,Nat.le_refl _,hQ2,hr2,hb2⟩
      case rest=>
       obtain ⟨O,x1,x2,x3,x4,x5,x6,rfl,hOl,hOb,hOr,hbd⟩:=hcut
       obtain ⟨wd,hwd⟩:∃ x,x=wc:=⟨_,rfl⟩
       subst hwd
       obtain ⟨w2,hw2⟩:∃ x,x=wr:=⟨_,rfl⟩
       subst hw2
       have hXd:=hXr.on hbd
       have hbrd:=hbr.trans (hbd.mono hbr.size)
       have hns3:ns<=3001:=by have:=HKO.out.2.2.2.2;rw [HNS.out] at this;exact this
       have D3:=(hbd.cell (p:=⟨bo,oo+g*6+3,none⟩) (zn4 hbl2 hbr.size)).trans O3
       have d9:=(hXd 9 _ rfl).1
       have hod:O < wd.heap.size:=hOb.lt
       clear O0 O1 O2 O3 O4 O5 P9 hours hgf hXr
       go_wp2
       go_loopw [85] (fun ix w3=>∃ (h:Nat) (sl3:Value),h<=ns/\ix=.int .i64 (h:Int)/\Bn w3 O [.string ev,.bool gb,.int .i64 x1,.int .i64 x2,.string x3,.slice x4 x5 x6,.string tg,sl3,.int .i64 ol,.int .i64 oc]/\OwnB w3 wd.heap.size (fun _=>False) 85 5 zbf sl3 (o.2.2.2.1.take h)/\Fx O wd w3) (fun ix _=>ns - (RowKit.intOf ix).toNat)
       case atStart=>exact ⟨0,_,Nat.zero_le _,rfl,hOb,zZ _ _ _ _ _ _,Fx.refl _ _⟩
       case round=>
        clear d9 D3
        try (obtain ⟨w3,hw3⟩:∃ x,x=wr:=⟨_,rfl⟩;subst hw3)
        obtain ⟨h,sl3,hh,rfl,hOB,hRo3,hF3⟩:=hrel
        obtain ⟨ta,tc,rfl,htl,htm⟩:=hRo3.form
        obtain ⟨acc,hac⟩:∃ acc,o.2.2.2.1.take h=acc:=⟨_,rfl⟩
        have hlh:acc.length=h:=by rw [<- hac,List.length_take,HNS.out];omega
        rw [hac] at hRo3 hOB htl
        rw [hlh] at hRo3 hOB htl
        have HAC:Hid (o.2.2.2.1.take h=acc):=hac
        have hs3:=hF3.size
        have hbr3:Below w.heap.size w w3:=hF3.bel hbrd (by omega) zn2
        clear hac
        by_cases hhl:h < ns
        ·have hht:h < o.2.2.2.1.length:=by rw [HNS.out];exact hhl
         obtain ⟨bs,os,rfl,hbl3,hcs⟩:=zlI HSE.out h hht
         have hks:=HKO.out.2.2.2.1 _ (List.getElem_mem hht)
         obtain ⟨q,hq⟩:∃ q,o.2.2.2.1[h]=q:=⟨_,rfl⟩
         rw [hq] at hcs hks
         obtain ⟨s0,hs0⟩:∃ s0,sV q.1=.string s0:=⟨_,rfl⟩
         obtain ⟨tv,htv⟩:∃ tv,exX q.2=tv:=⟨_,rfl⟩
         rw [hs0,htv] at hcs
         have hX3:=hXd.fx hF3 (by omega)
         have E9:=(hX3 9 _ rfl).1
         have E3:=(hbr3.cell (p:=⟨bo,oo+g*6+3,none⟩) hbl2).trans (HCO.out 3 _ rfl)
         have B0:=(hbr3.cell (p:=⟨bs,os+h*2+0,none⟩) hbl3).trans (hcs 0 _ rfl)
         have B1:=(hbr3.cell (p:=⟨bs,os+h*2+1,none⟩) hbl3).trans (hcs 1 _ rfl)
         rw [Nat.add_zero] at B0
         obtain ⟨k7,z7⟩:=hOB 7 _ rfl
         have i5:(h:Int) < (ns:Int):=by omega
         have i6:(0:Int)<=(h:Int):=by omega
         have hours2:∀ w1,Calls Tryz.prog 38 #[tv] w1 fun e w'=>∃ u,e=.returned u/\RdX (fun b=>w1.heap.size<=b) w' q.2 u/\Below w1.heap.size w1 w':=fun w1=>by rw [<- htv];exact zez q.2.1 q.2.2 w1 hks
         have HQ:Hid (o.2.2.2.1[h]=q):=hq
         have HS0:Hid (sV q.1=.string s0):=hs0
         clear hcs hks hq hs0 htv hX3
         have kw3:∀ wa,Below w3.heap.size w3 wa->∀ p u,w3.cell? p=some u->wa.cell? p=some u:=fun wa bw p u hp=>by rw [bw.cell (World.block_lt_of_cell? w3 _ hp)];exact hp
         go_upto_region 14 with fail
         have hbrs:=hbrd.size
         have lS:S < wd.heap.size:=hXd.lt
         have lbo:bo < wd.heap.size:=by omega
         have lbs:bs < wd.heap.size:=by omega
         have nS:S≠O:=by omega
         have nbo:bo≠O:=by omega
         have nbs:bs≠O:=by omega
         refine wp_region_held_drew (S:=(fun w'=>w'.cell? ⟨S,9,none⟩=some (.slice (some ⟨bo,oo,none⟩) m p3)/\w'.cell? ⟨bo,oo+g*6+3,none⟩=some (.slice (some ⟨bs,os,none⟩) ns s3)/\w'.cell? ⟨bs,os+h*2,none⟩=some (.string s0)/\w'.cell? ⟨bs,os+h*2+1,none⟩=some tv)) (by kernel_rfl) ?_ (fun hHeld=>?_)
         ·(try dsimp only);(refine ⟨?_,?_,?_,?_⟩<;>(repeat (with_reducible first|exact E9|exact E3|exact B0|exact B1|exact F9|exact F3|exact G0|exact G1|exact H9|exact H3|exact I0|exact I1|refine zj ?_|refine zh ?_|refine za (zg nS) ?_|refine za (zg nbo) ?_|refine za (zg nbs) ?_))<;>done)
         refine wpAnyH_take (i:=0) (oi:=_) (v:=_) rfl (by kernel_rfl) (by kernel_rfl) (by kernel_rfl) (fun _ _ _ h=>h) (Or.inl ⟨by rfl,by intro w hSw;(try dsimp only at hSw);go_simp;try (with_reducible rfl)⟩) (by assumption) ?_
         (try simp only [Act.put,List.setIfInBounds_toArray,List.set_cons_zero,List.set_cons_succ])
         refine wpAnyH_take (i:=2) (oi:=_) (v:=_) rfl (by kernel_rfl) (by kernel_rfl) (by kernel_rfl) (fun _ _ _ h=>h) (Or.inl ⟨by rfl,by intro w hSw;(try dsimp only at hSw);go_simp;try (with_reducible rfl)⟩) (by assumption) ?_
         (try simp only [Act.put,List.setIfInBounds_toArray,List.set_cons_zero,List.set_cons_succ])
         refine wpAnyH_take (i:=3) (oi:=_) (v:=_) rfl (by kernel_rfl) (by kernel_rfl) (by kernel_rfl) (fun _ _ _ h=>h) (Or.inl ⟨by rfl,by intro w hSw;(try dsimp only at hSw);go_simp;try (with_reducible rfl)⟩) (by assumption) ?_
         (try simp only [Act.put,List.setIfInBounds_toArray,List.set_cons_zero,List.set_cons_succ])
         refine wpAnyH_take (i:=4) (oi:=_) (v:=_) rfl (by kernel_rfl) (by kernel_rfl) (by kernel_rfl) (fun _ _ _ h=>h) (Or.inl ⟨by rfl,by intro w hSw;(try dsimp only at hSw);go_simp;try (with_reducible rfl)⟩) (by assumption) ?_
         (try simp only [Act.put,List.setIfInBounds_toArray,List.set_cons_zero,List.set_cons_succ])
         refine wpAnyH_take (i:=5) (oi:=_) (v:=_) rfl (by kernel_rfl) (by kernel_rfl) (by kernel_rfl) (fun _ _ _ h=>h) (Or.inl ⟨by rfl,by intro w hSw;(try dsimp only at hSw);go_simp;try (with_reducible rfl)⟩) (by assumption) ?_
         (try simp only [Act.put,List.setIfInBounds_toArray,List.set_cons_zero,List.set_cons_succ])
         refine wpAnyH_take (i:=6) (oi:=_) (v:=_) rfl (by kernel_rfl) (by kernel_rfl) (by kernel_rfl) (fun _ _ _ h=>h) (Or.inl ⟨by rfl,by intro w hSw;(try dsimp only at hSw);go_simp;try (with_reducible rfl)⟩) (by assumption) ?_
         (try simp only [Act.put,List.setIfInBounds_toArray,List.set_cons_zero,List.set_cons_succ])
         refine wpAnyH_take (i:=7) (oi:=_) (v:=_) rfl (by kernel_rfl) (by kernel_rfl) (by kernel_rfl) (fun _ _ _ h=>h) (Or.inl ⟨by rfl,by intro w hSw;(try dsimp only at hSw);go_simp;try (with_reducible rfl)⟩) (by assumption) ?_
         (try simp only [Act.put,List.setIfInBounds_toArray,List.set_cons_zero,List.set_cons_succ])
         refine wpAnyH_take (i:=8) (oi:=_) (v:=_) rfl (by kernel_rfl) (by kernel_rfl) (by kernel_rfl) (fun _ _ _ h=>h) (Or.inl ⟨by rfl,by intro w hSw;(try dsimp only at hSw);go_simp;try (with_reducible rfl)⟩) (by assumption) ?_
         (try simp only [Act.put,List.setIfInBounds_toArray,List.set_cons_zero,List.set_cons_succ])
         refine wpAnyH_take (i:=9) (oi:=_) (v:=_) rfl (by kernel_rfl) (by kernel_rfl) (by kernel_rfl) (fun _ _ _ h=>h) (Or.inl ⟨by rfl,by intro w hSw;(try dsimp only at hSw);go_simp;try (with_reducible rfl)⟩) (by assumption) ?_
         (try simp only [Act.put,List.setIfInBounds_toArray,List.set_cons_zero,List.set_cons_succ])
         refine wpAnyH_take (i:=10) (oi:=_) (v:=_) rfl (by kernel_rfl) (by kernel_rfl) (by kernel_rfl) (fun _ _ _ h=>h) (Or.inl ⟨by rfl,by intro w hSw;(try dsimp only at hSw);go_simp;try (with_reducible rfl)⟩) (by assumption) ?_
         (try simp only [Act.put,List.setIfInBounds_toArray,List.set_cons_zero,List.set_cons_succ])
         refine wpAnyH_take (i:=11) (oi:=_) (v:=_) rfl (by kernel_rfl) (by kernel_rfl) (by kernel_rfl) (fun _ _ _ h=>h) (Or.inl ⟨by rfl,by intro w hSw;(try dsimp only at hSw);go_simp;try (with_reducible rfl)⟩) (by assumption) ?_
         (try simp only [Act.put,List.setIfInBounds_toArray,List.set_cons_zero,List.set_cons_succ])
         refine wpAnyH_take (i:=12) (oi:=_) (v:=_) rfl (by kernel_rfl) (by kernel_rfl) (by kernel_rfl) (fun _ _ _ h=>h) (Or.inl ⟨by rfl,by intro w hSw;(try dsimp only at hSw);go_simp;try (with_reducible rfl)⟩) (by assumption) ?_
         (try simp only [Act.put,List.setIfInBounds_toArray,List.set_cons_zero,List.set_cons_succ])
         refine wpAnyH_take (i:=13) (oi:=_) (v:=_) rfl (by kernel_rfl) (by kernel_rfl) (by kernel_rfl) (fun _ _ _ h=>h) (Or.inl ⟨by rfl,by intro w hSw;(try dsimp only at hSw);go_simp;try (with_reducible rfl)⟩) (by assumption) ?_
         (try simp only [Act.put,List.setIfInBounds_toArray,List.set_cons_zero,List.set_cons_succ])
         refine wpAnyH_take (i:=14) (oi:=_) (v:=_) rfl (by kernel_rfl) (by kernel_rfl) (by kernel_rfl) (fun _ _ _ h=>h) (Or.inl ⟨by rfl,by intro w hSw;(try dsimp only at hSw);go_simp;try (with_reducible rfl)⟩) (by assumption) ?_
         (try simp only [Act.put,List.setIfInBounds_toArray,List.set_cons_zero,List.set_cons_succ])
         refine wpAnyH_take (i:=15) (oi:=_) (v:=_) rfl (by kernel_rfl) (by kernel_rfl) (by kernel_rfl) (fun _ _ _ h=>h) (Or.inl ⟨by rfl,by intro w hSw;(try dsimp only at hSw);go_simp;try (with_reducible rfl)⟩) (by assumption) ?_
         (try simp only [Act.put,List.setIfInBounds_toArray,List.set_cons_zero,List.set_cons_succ])
         refine wpAnyH_take (i:=16) (oi:=_) (v:=_) rfl (by kernel_rfl) (by kernel_rfl) (by kernel_rfl) (fun _ _ _ h=>h) (Or.inl ⟨by rfl,by intro w hSw;(try dsimp only at hSw);go_simp;try (with_reducible rfl)⟩) (by assumption) ?_
         (try simp only [Act.put,List.setIfInBounds_toArray,List.set_cons_zero,List.set_cons_succ])
         refine wpAnyH_take (i:=17) (oi:=_) (v:=_) rfl (by kernel_rfl) (by kernel_rfl) (by kernel_rfl) (fun _ _ _ h=>h) (Or.inl ⟨by rfl,by intro w hSw;(try dsimp only at hSw);go_simp;try (with_reducible rfl)⟩) (by assumption) ?_
         (try simp only [Act.put,List.setIfInBounds_toArray,List.set_cons_zero,List.set_cons_succ])
         refine wpAnyH_take (i:=18) (oi:=_) (v:=_) rfl (by kernel_rfl) (by kernel_rfl) (by kernel_rfl) (fun _ _ _ h=>h) (Or.inl ⟨by rfl,by intro w hSw;(try dsimp only at hSw);go_simp;try (with_reducible rfl)⟩) (by assumption) ?_
         (try simp only [Act.put,List.setIfInBounds_toArray,List.set_cons_zero,List.set_cons_succ])
         refine wpAnyH_take (i:=19) (oi:=_) (v:=_) rfl (by kernel_rfl) (by kernel_rfl) (by kernel_rfl) (fun _ _ _ h=>h) (Or.inl ⟨by rfl,by intro w hSw;(try dsimp only at hSw);go_simp;try (with_reducible rfl)⟩) (by assumption) ?_
         (try simp only [Act.put,List.setIfInBounds_toArray,List.set_cons_zero,List.set_cons_succ])
         refine wpAnyH_take (i:=20) (oi:=_) (v:=_) rfl (by kernel_rfl) (by kernel_rfl) (by kernel_rfl) (fun _ _ _ h=>h) (Or.inl ⟨by rfl,by intro w hSw;(try dsimp only at hSw);go_simp;try (with_reducible rfl)⟩) (by assumption) ?_
         (try simp only [Act.put,List.setIfInBounds_toArray,List.set_cons_zero,List.set_cons_succ])
         refine wpAnyH_take (i:=21) (oi:=_) (v:=_) rfl (by kernel_rfl) (by kernel_rfl) (by kernel_rfl) (fun _ _ _ h=>h) (Or.inl ⟨by rfl,by intro w hSw;(try dsimp only at hSw);go_simp;try (with_reducible rfl)⟩) (by assumption) ?_
         (try simp only [Act.put,List.setIfInBounds_toArray,List.set_cons_zero,List.set_cons_succ])
         refine wpAnyH_ready (rs:=[1,22]) (by kernel_rfl) (by simp) ?_
         refine AllReadyH.cons rfl (fun K hK=>?_) (AllReadyH.cons rfl (fun K hK=>?_) AllReadyH.nil)
         ·go_simp
          refine hK.out _ _ ?_ (fun hHeld=>?_)
          ·(try dsimp only);(refine ⟨?_,?_,?_,?_⟩<;>(repeat (with_reducible first|exact E9|exact E3|exact B0|exact B1|exact F9|exact F3|exact G0|exact G1|exact H9|exact H3|exact I0|exact I1|refine zj ?_|refine zh ?_|refine za (zg nS) ?_|refine za (zg nbo) ?_|refine za (zg nbs) ?_))<;>done)
          clear hK K
          refine wpAnyH_ready (rs:=[22]) (by kernel_rfl) (by simp) ?_
          refine AllReadyH.cons rfl (fun K hK=>?_) AllReadyH.nil
          go_simp
          go_wp2_with (first|(go_at_call 38;(with_reducible refine (hours2 _).mono ?_);rintro e wa ⟨u,rfl,hr1,b1⟩;obtain ⟨y1,y2,y3,y4,y5,y6,rfl⟩:=hr1.form;have bw:Below w3.heap.size w3 wa:=((Below.refl _ w3).drew).trans b1;have F9:=kw3 wa bw _ _ E9;have F3:=kw3 wa bw _ _ E3;have G0:=kw3 wa bw _ _ B0;have G1:=kw3 wa bw _ _ B1;have hOBa:=hOB.on bw;obtain ⟨m7,n7⟩:=hOBa 7 _ rfl;have hRa:=hRo3.on zU bw;have hsa:=zn5 hs3 bw.size;have hra:zbf (fun b=>w3.heap.size<=b) wa q [.string s0,.int .i64 y1,.int .i64 y2,.string y3,.slice y4 y5 y6]:=(⟨_,_,_,_,by rw [<- HS0.out];rfl,hr1⟩);have hali:=(Below.refl wa.heap.size wa).alloc zn2 (.cells #[.string s0,.int .i64 y1,.int .i64 y2,.string y3,.slice y4 y5 y6] 85);have m4:=((hOBa.on hali) 7 _ rfl).1)|fail)
          refine hK.out _ _ ?_ (fun hHeld=>?_)
          ·(try dsimp only);(refine ⟨?_,?_,?_,?_⟩<;>(repeat (with_reducible first|exact E9|exact E3|exact B0|exact B1|exact F9|exact F3|exact G0|exact G1|exact H9|exact H3|exact I0|exact I1|refine zj ?_|refine zh ?_|refine za (zg nS) ?_|refine za (zg nbo) ?_|refine za (zg nbs) ?_))<;>done)
          clear hK K
          refine wpAnyH_take (i:=23) (oi:=_) (v:=_) rfl (by kernel_rfl) (by kernel_rfl) (by kernel_rfl) (fun _ _ _ h=>h) (Or.inl ⟨by rfl,by intro w hSw;(try dsimp only at hSw);go_simp;try (with_reducible rfl)⟩) (by assumption) ?_
          (try simp only [Act.put,List.setIfInBounds_toArray,List.set_cons_zero,List.set_cons_succ])
          refine wpAnyH_ready (rs:=[24]) (by kernel_rfl) (by simp) ?_
          refine AllReadyH.cons rfl (fun K hK=>?_) AllReadyH.nil
          go_simp
          refine hK.out _ _ ?_ (fun hHeld=>?_)
          ·(try dsimp only);(refine ⟨?_,?_,?_,?_⟩<;>(repeat (with_reducible first|exact E9|exact E3|exact B0|exact B1|exact F9|exact F3|exact G0|exact G1|exact H9|exact H3|exact I0|exact I1|refine zj ?_|refine zh ?_|refine za (zg nS) ?_|refine za (zg nbo) ?_|refine za (zg nbs) ?_))<;>done)
          clear hK K
          refine wpAnyH_ready (rs:=[25]) (by kernel_rfl) (by simp) ?_
          refine AllReadyH.cons rfl (fun K hK=>?_) AllReadyH.nil
          refine zH wa rfl _ _ 80 rfl wd.heap.size (fun _=>False) 85 ie (.agg #[.string ⟨#[]⟩,.int .i64 0,.int .i64 0,.string ⟨#[]⟩,.slice none 0 0]) 5 72 Tryz.underlying80 hie hie0 hie1 hie2 rfl zU (.slice ta h tc) acc q [.string s0,.int .i64 y1,.int .i64 y2,.string y3,.slice y4 y5 y6] w3.heap.size rfl rfl rfl (by simp [Value.oneCell']) hRa hra hs3 (fun x hx=>(hRo3.lt x hx).2) (fun b hb=>hb.elim) (by omega) (by unfold maxLen;omega) hsa ?_;intro vb wb hOb2 hgb2 hbb hat;have hBb:=hOBa.blk (hbb.block _ hod);obtain ⟨m5,n5⟩:=hBb 7 _ rfl;have H9:=(hbb.cell (p:=⟨S,9,none⟩) lS).trans F9;have H3:=(hbb.cell (p:=⟨bo,oo+g*6+3,none⟩) lbo).trans F3;have I0:=(hbb.cell (p:=⟨bs,os+h*2,none⟩) lbs).trans G0;have I1:=(hbb.cell (p:=⟨bs,os+h*2+1,none⟩) lbs).trans G1;obtain ⟨vba,vbc,hvb,hvbl,hvbm⟩:=hOb2.form;rw [List.length_append,List.length_singleton,hlh] at hvb;subst hvb
          refine hK.out _ _ ?_ (fun hHeld=>?_)
          ·(try dsimp only);(refine ⟨?_,?_,?_,?_⟩<;>(repeat (with_reducible first|exact E9|exact E3|exact B0|exact B1|exact F9|exact F3|exact G0|exact G1|exact H9|exact H3|exact I0|exact I1|refine zj ?_|refine zh ?_|refine za (zg nS) ?_|refine za (zg nbo) ?_|refine za (zg nbs) ?_))<;>done)
          clear hK K
          (try (refine wpAnyH_take (i:=26) (oi:=_) (v:=_) rfl (by kernel_rfl) (by kernel_rfl) (by kernel_rfl) (fun _ _ _ h=>h) (Or.inl ⟨by rfl,by intro w hSw;(try dsimp only at hSw);go_simp;try (with_reducible rfl)⟩) (by assumption) ?_;(try simp only [Act.put,List.setIfInBounds_toArray,List.set_cons_zero,List.set_cons_succ])))
          refine wpAnyH_ready (rs:=[27]) (by kernel_rfl) (by simp) ?_
          refine AllReadyH.cons rfl (fun K hK=>?_) AllReadyH.nil
          go_simp
          refine hK.out _ _ ?_ (fun hHeld=>?_)
          ·(try dsimp only);(refine ⟨?_,?_,?_,?_⟩<;>(repeat (with_reducible first|exact E9|exact E3|exact B0|exact B1|exact F9|exact F3|exact G0|exact G1|exact H9|exact H3|exact I0|exact I1|refine zj ?_|refine zh ?_|refine za (zg nS) ?_|refine za (zg nbo) ?_|refine za (zg nbs) ?_))<;>done)
          clear hK K
          refine wpAnyH_done (by kernel_rfl) ?_ _
          have hBc:=hBb.set (i:=7) (by simp) (.slice vba (h+1) vbc)
          have hRc:=hOb2.set zU (X:=O) (i:=7) hod (.slice vba (h+1) vbc)
          have hFc:=((hF3.andD bw hs3).andD hbb zn2).setX (i:=7) (.slice vba (h+1) vbc)
          have hac2:o.2.2.2.1.take (h+1)=acc++[q]:=by rw [List.take_succ_eq_append_getElem hht,HAC.out,HQ.out]
          clear hOBa m7 n7 hRa hsa hra hali m4 hgb2 hbb hat hBb m5 n5 hOb2 k7 z7 E9 E3 B0 B1 F9 F3 G0 G1 H9 H3 I0 I1 kw3
          go_wp2
          go_roundw
          case rel=>exact ⟨h+1,_,hhl,by go_num,hBc,by rw [hac2];exact hRc,hFc⟩
          case measure=>simp [RowKit.intOf];omega
         ·go_simp
          go_wp2_with (first|(go_at_call 38;(with_reducible refine (hours2 _).mono ?_);rintro e wa ⟨u,rfl,hr1,b1⟩;obtain ⟨y1,y2,y3,y4,y5,y6,rfl⟩:=hr1.form;have bw:Below w3.heap.size w3 wa:=((Below.refl _ w3).drew).trans b1;have F9:=kw3 wa bw _ _ E9;have F3:=kw3 wa bw _ _ E3;have G0:=kw3 wa bw _ _ B0;have G1:=kw3 wa bw _ _ B1;have hOBa:=hOB.on bw;obtain ⟨m7,n7⟩:=hOBa 7 _ rfl;have hRa:=hRo3.on zU bw;have hsa:=zn5 hs3 bw.size;have hra:zbf (fun b=>w3.heap.size<=b) wa q [.string s0,.int .i64 y1,.int .i64 y2,.string y3,.slice y4 y5 y6]:=(⟨_,_,_,_,by rw [<- HS0.out];rfl,hr1⟩);have hali:=(Below.refl wa.heap.size wa).alloc zn2 (.cells #[.string s0,.int .i64 y1,.int .i64 y2,.string y3,.slice y4 y5 y6] 85);have m4:=((hOBa.on hali) 7 _ rfl).1)|fail)
          refine hK.out _ _ ?_ (fun hHeld=>?_)
          ·(try dsimp only);(refine ⟨?_,?_,?_,?_⟩<;>(repeat (with_reducible first|exact E9|exact E3|exact B0|exact B1|exact F9|exact F3|exact G0|exact G1|exact H9|exact H3|exact I0|exact I1|refine zj ?_|refine zh ?_|refine za (zg nS) ?_|refine za (zg nbo) ?_|refine za (zg nbs) ?_))<;>done)
          clear hK K
          refine wpAnyH_take (i:=23) (oi:=_) (v:=_) rfl (by kernel_rfl) (by kernel_rfl) (by kernel_rfl) (fun _ _ _ h=>h) (Or.inl ⟨by rfl,by intro w hSw;(try dsimp only at hSw);go_simp;try (with_reducible rfl)⟩) (by assumption) ?_
          (try simp only [Act.put,List.setIfInBounds_toArray,List.set_cons_zero,List.set_cons_succ])
          refine wpAnyH_ready (rs:=[1,24]) (by kernel_rfl) (by simp) ?_
          refine AllReadyH.cons rfl (fun K hK=>?_) (AllReadyH.cons rfl (fun K hK=>?_) AllReadyH.nil)
          ·go_simp
           refine hK.out _ _ ?_ (fun hHeld=>?_)
           ·(try dsimp only);(refine ⟨?_,?_,?_,?_⟩<;>(repeat (with_reducible first|exact E9|exact E3|exact B0|exact B1|exact F9|exact F3|exact G0|exact G1|exact H9|exact H3|exact I0|exact I1|refine zj ?_|refine zh ?_|refine za (zg nS) ?_|refine za (zg nbo) ?_|refine za (zg nbs) ?_))<;>done)
           clear hK K
           refine wpAnyH_ready (rs:=[24]) (by kernel_rfl) (by simp) ?_
           refine AllReadyH.cons rfl (fun K hK=>?_) AllReadyH.nil
           go_simp
           refine hK.out _ _ ?_ (fun hHeld=>?_)
           ·(try dsimp only);(refine ⟨?_,?_,?_,?_⟩<;>(repeat (with_reducible first|exact E9|exact E3|exact B0|exact B1|exact F9|exact F3|exact G0|exact G1|exact H9|exact H3|exact I0|exact I1|refine zj ?_|refine zh ?_|refine za (zg nS) ?_|refine za (zg nbo) ?_|refine za (zg nbs) ?_))<;>done)
           clear hK K
           refine wpAnyH_ready (rs:=[25]) (by kernel_rfl) (by simp) ?_
           refine AllReadyH.cons rfl (fun K hK=>?_) AllReadyH.nil
           refine zH wa rfl _ _ 80 rfl wd.heap.size (fun _=>False) 85 ie (.agg #[.string ⟨#[]⟩,.int .i64 0,.int .i64 0,.string ⟨#[]⟩,.slice none 0 0]) 5 72 Tryz.underlying80 hie hie0 hie1 hie2 rfl zU (.slice ta h tc) acc q [.string s0,.int .i64 y1,.int .i64 y2,.string y3,.slice y4 y5 y6] w3.heap.size rfl rfl rfl (by simp [Value.oneCell']) hRa hra hs3 (fun x hx=>(hRo3.lt x hx).2) (fun b hb=>hb.elim) (by omega) (by unfold maxLen;omega) hsa ?_;intro vb wb hOb2 hgb2 hbb hat;have hBb:=hOBa.blk (hbb.block _ hod);obtain ⟨m5,n5⟩:=hBb 7 _ rfl;have H9:=(hbb.cell (p:=⟨S,9,none⟩) lS).trans F9;have H3:=(hbb.cell (p:=⟨bo,oo+g*6+3,none⟩) lbo).trans F3;have I0:=(hbb.cell (p:=⟨bs,os+h*2,none⟩) lbs).trans G0;have I1:=(hbb.cell (p:=⟨bs,os+h*2+1,none⟩) lbs).trans G1;obtain ⟨vba,vbc,hvb,hvbl,hvbm⟩:=hOb2.form;rw [List.length_append,List.length_singleton,hlh] at hvb;subst hvb
           refine hK.out _ _ ?_ (fun hHeld=>?_)
           ·(try dsimp only);(refine ⟨?_,?_,?_,?_⟩<;>(repeat (with_reducible first|exact E9|exact E3|exact B0|exact B1|exact F9|exact F3|exact G0|exact G1|exact H9|exact H3|exact I0|exact I1|refine zj ?_|refine zh ?_|refine za (zg nS) ?_|refine za (zg nbo) ?_|refine za (zg nbs) ?_))<;>done)
           clear hK K
           (try (refine wpAnyH_take (i:=26) (oi:=_) (v:=_) rfl (by kernel_rfl) (by kernel_rfl) (by kernel_rfl) (fun _ _ _ h=>h) (Or.inl ⟨by rfl,by intro w hSw;(try dsimp only at hSw);go_simp;try (with_reducible rfl)⟩) (by assumption) ?_;(try simp only [Act.put,List.setIfInBounds_toArray,List.set_cons_zero,List.set_cons_succ])))
           refine wpAnyH_ready (rs:=[27]) (by kernel_rfl) (by simp) ?_
           refine AllReadyH.cons rfl (fun K hK=>?_) AllReadyH.nil
           go_simp
           refine hK.out _ _ ?_ (fun hHeld=>?_)
           ·(try dsimp only);(refine ⟨?_,?_,?_,?_⟩<;>(repeat (with_reducible first|exact E9|exact E3|exact B0|exact B1|exact F9|exact F3|exact G0|exact G1|exact H9|exact H3|exact I0|exact I1|refine zj ?_|refine zh ?_|refine za (zg nS) ?_|refine za (zg nbo) ?_|refine za (zg nbs) ?_))<;>done)
           clear hK K
           refine wpAnyH_done (by kernel_rfl) ?_ _
           have hBc:=hBb.set (i:=7) (by simp) (.slice vba (h+1) vbc)
           have hRc:=hOb2.set zU (X:=O) (i:=7) hod (.slice vba (h+1) vbc)
           have hFc:=((hF3.andD bw hs3).andD hbb zn2).setX (i:=7) (.slice vba (h+1) vbc)
           have hac2:o.2.2.2.1.take (h+1)=acc++[q]:=by rw [List.take_succ_eq_append_getElem hht,HAC.out,HQ.out]
           clear hOBa m7 n7 hRa hsa hra hali m4 hgb2 hbb hat hBb m5 n5 hOb2 k7 z7 E9 E3 B0 B1 F9 F3 G0 G1 H9 H3 I0 I1 kw3
           go_wp2
           go_roundw
           case rel=>exact ⟨h+1,_,hhl,by go_num,hBc,by rw [hac2];exact hRc,hFc⟩
           case measure=>simp [RowKit.intOf];omega
          ·go_simp
           refine hK.out _ _ ?_ (fun hHeld=>?_)
           ·(try dsimp only);(refine ⟨?_,?_,?_,?_⟩<;>(repeat (with_reducible first|exact E9|exact E3|exact B0|exact B1|exact F9|exact F3|exact G0|exact G1|exact H9|exact H3|exact I0|exact I1|refine zj ?_|refine zh ?_|refine za (zg nS) ?_|refine za (zg nbo) ?_|refine za (zg nbs) ?_))<;>done)
           clear hK K
           refine wpAnyH_ready (rs:=[1]) (by kernel_rfl) (by simp) ?_
           refine AllReadyH.cons rfl (fun K hK=>?_) AllReadyH.nil
           go_simp
           refine hK.out _ _ ?_ (fun hHeld=>?_)
           ·(try dsimp only);(refine ⟨?_,?_,?_,?_⟩<;>(repeat (with_reducible first|exact E9|exact E3|exact B0|exact B1|exact F9|exact F3|exact G0|exact G1|exact H9|exact H3|exact I0|exact I1|refine zj ?_|refine zh ?_|refine za (zg nS) ?_|refine za (zg nbo) ?_|refine za (zg nbs) ?_))<;>done)
           clear hK K
           refine wpAnyH_ready (rs:=[25]) (by kernel_rfl) (by simp) ?_
           refine AllReadyH.cons rfl (fun K hK=>?_) AllReadyH.nil
           refine zH wa rfl _ _ 80 rfl wd.heap.size (fun _=>False) 85 ie (.agg #[.string ⟨#[]⟩,.int .i64 0,.int .i64 0,.string ⟨#[]⟩,.slice none 0 0]) 5 72 Tryz.underlying80 hie hie0 hie1 hie2 rfl zU (.slice ta h tc) acc q [.string s0,.int .i64 y1,.int .i64 y2,.string y3,.slice y4 y5 y6] w3.heap.size rfl rfl rfl (by simp [Value.oneCell']) hRa hra hs3 (fun x hx=>(hRo3.lt x hx).2) (fun b hb=>hb.elim) (by omega) (by unfold maxLen;omega) hsa ?_;intro vb wb hOb2 hgb2 hbb hat;have hBb:=hOBa.blk (hbb.block _ hod);obtain ⟨m5,n5⟩:=hBb 7 _ rfl;have H9:=(hbb.cell (p:=⟨S,9,none⟩) lS).trans F9;have H3:=(hbb.cell (p:=⟨bo,oo+g*6+3,none⟩) lbo).trans F3;have I0:=(hbb.cell (p:=⟨bs,os+h*2,none⟩) lbs).trans G0;have I1:=(hbb.cell (p:=⟨bs,os+h*2+1,none⟩) lbs).trans G1;obtain ⟨vba,vbc,hvb,hvbl,hvbm⟩:=hOb2.form;rw [List.length_append,List.length_singleton,hlh] at hvb;subst hvb
           refine hK.out _ _ ?_ (fun hHeld=>?_)
           ·(try dsimp only);(refine ⟨?_,?_,?_,?_⟩<;>(repeat (with_reducible first|exact E9|exact E3|exact B0|exact B1|exact F9|exact F3|exact G0|exact G1|exact H9|exact H3|exact I0|exact I1|refine zj ?_|refine zh ?_|refine za (zg nS) ?_|refine za (zg nbo) ?_|refine za (zg nbs) ?_))<;>done)
           clear hK K
           (try (refine wpAnyH_take (i:=26) (oi:=_) (v:=_) rfl (by kernel_rfl) (by kernel_rfl) (by kernel_rfl) (fun _ _ _ h=>h) (Or.inl ⟨by rfl,by intro w hSw;(try dsimp only at hSw);go_simp;try (with_reducible rfl)⟩) (by assumption) ?_;(try simp only [Act.put,List.setIfInBounds_toArray,List.set_cons_zero,List.set_cons_succ])))
           refine wpAnyH_ready (rs:=[27]) (by kernel_rfl) (by simp) ?_
           refine AllReadyH.cons rfl (fun K hK=>?_) AllReadyH.nil
           go_simp
           refine hK.out _ _ ?_ (fun hHeld=>?_)
           ·(try dsimp only);(refine ⟨?_,?_,?_,?_⟩<;>(repeat (with_reducible first|exact E9|exact E3|exact B0|exact B1|exact F9|exact F3|exact G0|exact G1|exact H9|exact H3|exact I0|exact I1|refine zj ?_|refine zh ?_|refine za (zg nS) ?_|refine za (zg nbo) ?_|refine za (zg nbs) ?_))<;>done)
           clear hK K
           refine wpAnyH_done (by kernel_rfl) ?_ _
           have hBc:=hBb.set (i:=7) (by simp) (.slice vba (h+1) vbc)
           have hRc:=hOb2.set zU (X:=O) (i:=7) hod (.slice vba (h+1) vbc)
           have hFc:=((hF3.andD bw hs3).andD hbb zn2).setX (i:=7) (.slice vba (h+1) vbc)
           have hac2:o.2.2.2.1.take (h+1)=acc++[q]:=by rw [List.take_succ_eq_append_getElem hht,HAC.out,HQ.out]
           clear hOBa m7 n7 hRa hsa hra hali m4 hgb2 hbb hat hBb m5 n5 hOb2 k7 z7 E9 E3 B0 B1 F9 F3 G0 G1 H9 H3 I0 I1 kw3
           go_wp2
           go_roundw
           case rel=>exact ⟨h+1,_,hhl,by go_num,hBc,by rw [hac2];exact hRc,hFc⟩
           case measure=>simp [RowKit.intOf];omega
        ·have i5:¬ (h:Int) < (ns:Int):=by omega
         have hhn:h=ns:=by omega
         subst hhn
         have hfull:acc=o.2.2.2.1:=by rw [<- HAC.out];exact List.take_of_length_le (by rw [HNS.out];omega)
         have hb4:Below w2.heap.size w2 w3:=hF3.bel hbd hOl zn2
         have hQ4:=hQB.on hb4
         have hRow4:=hRow.on zap hb4
         have hsets:RdK (fun b=>w2.heap.size<=b) w3 5 (zbf (fun b=>w2.heap.size<=b) w3) o.2.2.2.1 (.slice ta h tc):=by
          rw [<- hfull]
          exact (hRo3.rd zU).stay zU (fun b hb hl=>⟨by have:=hbd.size;omega,rfl⟩)
         have hgx:RdX (fun b=>w2.heap.size<=b) w3 x (.agg #[.int .i64 x1,.int .i64 x2,.string x3,.slice x4 x5 x6]):=hOr.keep (fun k hk hl=>⟨hk.1,hF3.block k hl (fun e=>hk.2 (Option.some.inj e))⟩)
         have hel:zba (fun b=>w2.heap.size<=b) w3 o [.string ev,.bool gb,.int .i64 x1,.int .i64 x2,.string x3,.slice x4 x5 x6,.string tg,.slice ta h tc,.int .i64 ol,.int .i64 oc]:=by
          have e1:[sD o.1,.bool o.2.1.1,Value.int .i64 x1,.int .i64 x2,.string x3,.slice x4 x5 x6,sD o.2.2.1,.slice ta h tc,.int .i64 o.2.2.2.2.1,.int .i64 o.2.2.2.2.2]=[.string ev,.bool gb,.int .i64 x1,.int .i64 x2,.string x3,.slice x4 x5 x6,.string tg,.slice ta h tc,.int .i64 ol,.int .i64 oc]:=by
           have e2:=congrFun HOV.out (.slice ta h tc)
           unfold onV at e2
           simp only [List.cons.injEq,and_true,true_and] at e2
           rw [show sD o.1=sV o.1 from rfl,show sD o.2.2.1=sV o.2.2.1 from rfl,e2.1,e2.2.1,e2.2.2.1,e2.2.2.2,HGB.out]
          rw [<- e1]
          exact ⟨_,_,_,_,_,rfl,by rw [HX.out];exact hgx,hsets⟩
         obtain ⟨k9,j9⟩:=hQ4 9 _ rfl
         have t0:=(hOB 0 _ rfl).1
         have t1:=(hOB 1 _ rfl).1
         have t2:=(hOB 2 _ rfl).1
         have t3:=(hOB 3 _ rfl).1
         have t4:=(hOB 4 _ rfl).1
         have t5:=(hOB 5 _ rfl).1
         have t6:=(hOB 6 _ rfl).1
         have t7:=(hOB 7 _ rfl).1
         have t8:=(hOB 8 _ rfl).1
         have t9:=(hOB 9 _ rfl).1
         have hws4:wk.heap.size<=w3.heap.size:=zn5 hFs hb4.size
         go_wp2_with (first
          | (at_builtin;refine zag w3 rfl _ _ 74 rfl wk.heap.size (fun _=>False) 82 io (.agg #[.string ⟨#[]⟩,.bool false,.int .i64 0,.int .i64 0,.string ⟨#[]⟩,.slice none 0 0,.string ⟨#[]⟩,.slice none 0 0,.int .i64 0,.int .i64 0]) 10 136 Tryz.underlying74 hio hio0 hio1 hio2 rfl zap (.slice ra g rc) acg o [.string ev,.bool gb,.int .i64 x1,.int .i64 x2,.string x3,.slice x4 x5 x6,.string tg,.slice ta h tc,.int .i64 ol,.int .i64 oc] w2.heap.size rfl rfl rfl (by simp [Value.oneCell']) hRow4 hel hFs (fun x hx=>(hRow.lt x hx).2) (fun b hb=>hb.elim) (by omega) (by unfold maxLen;omega) hws4 ?_;intro vb wb2 hOb2 hgb2 hbb hat;have hBb:=hQ4.blk (hbb.block _ hql);obtain ⟨m9,n9⟩:=hBb 9 _ rfl;obtain ⟨vba,vbc,hvb,hvbl,hvbm⟩:=hOb2.form;rw [List.length_append,List.length_singleton,hlg] at hvb;subst hvb)
          | fail)
         have hBc:=hBb.set (i:=9) (by simp) (.slice vba (g+1) vbc)
         have hRc:=hOb2.set zap (X:=Q) (i:=9) hql (.slice vba (g+1) vbc)
         have hFc:=((hF.andD hb4 hFs).andD hbb zn2).setX (i:=9) (.slice vba (g+1) vbc)
         have hac2:t.1.2.2.2.2.take (g+1)=acg++[o]:=by rw [List.take_succ_eq_append_getElem hgt,HACG.out,HO2.out]
         clear k9 j9 hBb m9 n9 hOb2 hgb2 hbb hat hQ4 hRow4 t0 t1 t2 t3 t4 t5 t6 t7 t8 t9
         go_wp2
         go_roundw
         case rel=>exact ⟨g+1,_,hgl,by go_num,hBc,by rw [hac2];exact hRc,hFc⟩
         case measure=>simp [RowKit.intOf];omega
     ·have i3:¬ (g:Int) < (m:Int):=by omega
      have hgm:g=m:=by omega
      subst hgm
      have hfull:acg=t.1.2.2.2.2:=by rw [<- HACG.out];exact List.take_of_length_le (by rw [HM.out];omega)
      have hsx2:S+1<=wr.heap.size:=zn5 (by omega) hFs
      have hwcs:S+1<=wk.heap.size:=by have:=hXc.lt;omega
      have hons:RdK (fun b=>S+1<=b) wr 10 (zba (fun b=>S+1<=b) wr) t.1.2.2.2.2 (.slice ra g rc):=by
       rw [<- hfull]
       exact (hRow.rd zap).stay zap (fun b hb hl=>⟨by omega,rfl⟩)
      have hinn:RdK (fun b=>S+1<=b) wr 11 (zad d (fun b=>S+1<=b) wr) t.2 (.slice iq i ic):=hQr.stay (zy d) (fun b hb hl=>⟨hb.1,hF.block b hl (fun e=>hb.2 (Option.some.inj e))⟩)
      have hel:zad (d+1) (fun b=>S+1<=b) wr t [.string sn,.int .i64 sl,.int .i64 sc,.bool sb,.bool se,.string sd,.string su,.int .i64 sw,.int .i64 sr,.slice ra g rc,.slice iq i ic]:=⟨_,_,(congrFun (congrFun HSD.out (.slice ra g rc)) (.slice iq i ic)).symm,hons,hinn⟩
      have hOr2:=hO'.keep (zy _) (bad':=fun _=>False) (w':=wr) (fun b hb hbad hl=>⟨(hF.block b (by omega) (fun e=>by have e2:b=Q:=Option.some.inj e;omega)).trans (hbq.block b (by omega)),fun q=>q⟩)
      have hbr:Below w.heap.size w wr:=hF.bel hbw (by omega) zn2
      have hbs:=hbr.size
      have hbxs:=hbx.size
      have t0:=(hQB 0 _ rfl).1
      have t1:=(hQB 1 _ rfl).1
      have t2:=(hQB 2 _ rfl).1
      have t3:=(hQB 3 _ rfl).1
      have t4:=(hQB 4 _ rfl).1
      have t5:=(hQB 5 _ rfl).1
      have t6:=(hQB 6 _ rfl).1
      have t7:=(hQB 7 _ rfl).1
      have t8:=(hQB 8 _ rfl).1
      have t9:=(hQB 9 _ rfl).1
      have t10:=(hQB 10 _ rfl).1
      go_wp2_with (first
       | (at_builtin;refine zag wr rfl _ _ 25 rfl w.heap.size (fun _=>False) 76 is (.agg #[.string ⟨#[]⟩,.int .i64 0,.int .i64 0,.bool false,.bool false,.string ⟨#[]⟩,.string ⟨#[]⟩,.int .i64 0,.int .i64 0,.slice none 0 0,.slice none 0 0]) 11 136 Tryz.underlying25 his his0 his1 his2 rfl (zy _) (.slice va j vc) (l.take j) t [.string sn,.int .i64 sl,.int .i64 sc,.bool sb,.bool se,.string sd,.string su,.int .i64 sw,.int .i64 sr,.slice ra g rc,.slice iq i ic] (S+1) rfl rfl rfl (by simp [Value.oneCell']) hOr2 hel (by omega) (fun x hx=>by have:=(hO'.lt x hx).2;omega) (fun b hb=>hb.elim) (by rw [hlj];omega) (by rw [hlj];unfold maxLen;omega) hbs ?_;intro vb wb2 hOb2 hgb2 hbb hat;obtain ⟨vba,vbc,hvb,hvbl,hvbm⟩:=hOb2.form;rw [List.length_append,List.length_singleton,hlj] at hvb;subst hvb)
       | fail)
      have hac2:l.take (j+1)=l.take j++[t]:=by rw [List.take_succ_eq_append_getElem hjl,HT.out]
      have hbz:=hbr.trans hbb
      clear hgb2 hbb hat t0 t1 t2 t3 t4 t5 t6 t7 t8 t9 t10
      go_wp2
      go_roundw
      case rel=>exact ⟨j+1,hlt,by go_num,by rw [hac2];exact hOb2,hbz⟩
      case measure=>simp [RowKit.intOf];omega
  ·have i1:¬ (j:Int) < (n:Int):=by omega
   have hjn:l.take j=l:=List.take_of_length_le (by rw [HN.out];omega)
   rw [hjn] at hO
   go_wp2
   go_ret
   refine ⟨_,rfl,?_,hb⟩
   exact hO.rd (zy _)
theorem zjH:∀ (d:Nat),OsC d
 | 0=>zl3
 | d+1=>zlq d (zjH d)
