import Derived.Test.YtfjdceknbdmhpaaGreatDoorWvc15
import Derived.Test.YtfjdceknbdmhpaaGreatDoorWvc14
import Derived.Test.YtfjdceknbdmhpaaGreatDoorWvc13
/- Package show's writer: on. -/
namespace Go.Proofs.YtfjdceknbdmhpaaGreatDoor
open Go.RowKit Go.Lib
set_option linter.unusedSimpArgs false
set_option linter.unusedVariables false
attribute [local go_sem ↓] Go.wp_at_zero Go.wp_at_succ
def onH (n:Nat) (ev:List UInt8) (G:List (List UInt8)) (tg:List UInt8):List (List UInt8):=[List.replicate n 9,[111,110,32]++ev]++(G++[[32,103,111,32]++tg])
def onL (n:Nat) (ev:List UInt8) (G:List (List UInt8)) (tg:List UInt8) (ss:List (List UInt8)):List (List UInt8):=[List.replicate n 9,[111,110,32]++ev]++(G++([[32,103,111,32]++tg]++(ss++[[10]])))
/-- A set that has a text. -/
def SetW (s:List UInt8 × Sx):Prop:=s.1.length≤1000∧(∃ u y,exX s.2=.iface u y)∧(exW s.2).length≤4000∧∀ w,Pow w→Calls Tryz.prog 199 #[exX s.2] w fun e w'=>e=.returned (.string ⟨(exW s.2).toArray⟩)∧Below w.heap.size w w'
theorem setB_at {B:Nat} {w:World} {l:List (List UInt8 × Sx)} {a:Option Addr} {n cap:Nat} (h:RdK (fun x=>x < B) w 2 (rSet (fun x=>x < B) w) l (.slice a n cap)) (j:Nat) (hj:j < l.length):∃ b off,a=some ⟨b,off,none⟩∧b < B∧∀ i u,[sV l[j].1,exX l[j].2][i]?=some u→w.cell? ⟨b,off+j*2+i,none⟩=some u:=by
 obtain ⟨a1,cap1,he,h1,h2,h3⟩:=h
 simp only [Value.slice.injEq] at he
 obtain ⟨rfl,rfl,rfl⟩:=he
 obtain ⟨b,off,cs,ha,hb,_,hl,hr,hc⟩:=h3 j hj
 have hr:cs=_:=hr
 subst hr
 exact ⟨b,off,ha,hb,hc⟩
set_option maxRecDepth 100000 in
set_option maxHeartbeats 16000000 in
theorem on_nil {B b:Nat} {l:List UInt8} {w:World} (n:Nat) (ev tg:ByteArray) (s1:Option Addr) (ns s3:Nat) (ol oc:Int) (ss:List (List UInt8 × Sx)) (h:Wr B b l w) (hB:B≤w.heap.size) (hn:n≤1000) (hev:ev.size≤1000) (htg:tg.size≤1000) (hs:RdK (fun x=>x < B) w 2 (rSet (fun x=>x < B) w) ss (.slice s1 ns s3)) (hns:ss.length=ns) (hok:∀ s∈ss,SetW s) (hp:∀ w1,Below B w w1→Pow w1) :
  Calls Tryz.prog 140 #[.pointer (some ⟨b,0,none⟩),.int .i64 (n:Int),.agg #[.string ev,.nilIface,.string tg,.slice s1 ns s3,.int .i64 ol,.int .i64 oc]] w fun e w'=>e=.returned (.tuple #[])∧Wx B b ((onL n (bl ev) [] (bl tg) (ss.map setW)).foldl wpL l) w w':=by
 have hal:Below w.heap.size w (w.alloc (.cells #[.string ev,.nilIface,.string tg,.slice s1 ns s3,.int .i64 ol,.int .i64 oc] 133)):=(Below.refl w.heap.size w).alloc (Nat.le_refl _) _
 have hX:Bn (w.alloc (.cells #[.string ev,.nilIface,.string tg,.slice s1 ns s3,.int .i64 ol,.int .i64 oc] 133)) w.heap.size [.string ev,.nilIface,.string tg,.slice s1 ns s3,.int .i64 ol,.int .i64 oc]:=Bn.new w [.string ev,.nilIface,.string tg,.slice s1 ns s3,.int .i64 ol,.int .i64 oc] 133 _ rfl
 have hO:(w.alloc (.cells #[.string ev,.nilIface,.string tg,.slice s1 ns s3,.int .i64 ol,.int .i64 oc] 133)).heap[w.heap.size]?=some (.cells #[.string ev,.nilIface,.string tg,.slice s1 ns s3,.int .i64 ol,.int .i64 oc] 133 (0,0)):=blk_new _ _
 have k:Wx B b l (w.alloc (.cells #[.string ev,.nilIface,.string tg,.slice s1 ns s3,.int .i64 ol,.int .i64 oc] 133)) (w.alloc (.cells #[.string ev,.nilIface,.string tg,.slice s1 ns s3,.int .i64 ol,.int .i64 oc] 133)):=⟨Wr.below h hal,Below.refl _ _,Lib.OthersKept.refl _ _ _⟩
 have hbl:=h.lt
 have hBx:B≤(w.alloc (.cells #[.string ev,.nilIface,.string tg,.slice s1 ns s3,.int .i64 ol,.int .i64 oc] 133)).heap.size:=Nat.le_trans hB hal.size
 have hPW:Hid (∀ w1,Below B (w.alloc (.cells #[.string ev,.nilIface,.string tg,.slice s1 ns s3,.int .i64 ol,.int .i64 oc] 133)) w1→Pow w1):=fun w1 bb=>hp w1 ((hal.mono hB).trans bb)
 have hsx:=hs.stay kp_set (ok':=fun x=>x < B) (w':=(w.alloc (.cells #[.string ev,.nilIface,.string tg,.slice s1 ns s3,.int .i64 ol,.int .i64 oc] 133))) (fun x hx hl=>⟨hx,hal.block x hl⟩)
 obtain ⟨x1,q1,z1,a1⟩:=add_ex ⟨#[111,110,32]⟩ ev (by show 3+_≤_;omega)
 have g1:(⟨#[111,110,32]⟩:ByteArray).size=3:=rfl
 have zl1:x1.size≤140737488340000:=by omega
 obtain ⟨x3,q3,z3,a3⟩:=add_ex ⟨#[32,103,111,32]⟩ tg (by show 4+_≤_;omega)
 have g3:(⟨#[32,103,111,32]⟩:ByteArray).size=4:=rfl
 have zl3:x3.size≤140737488340000:=by omega
 have zl4:(⟨#[10]⟩:ByteArray).size≤140737488340000:=by decide
 obtain ⟨_,_,he,hcap,hcm⟩:=hs.form
 simp only [Value.slice.injEq] at he
 obtain ⟨rfl,hx0,rfl⟩:=he
 clear hx0
 rw [hns] at hcap
 unfold maxLen at hcm
 have hfin:Hid (∀ L w',L=(onL n (bl ev) [] (bl tg) (ss.map setW)).foldl wpL l→Wx B b L (w.alloc (.cells #[.string ev,.nilIface,.string tg,.slice s1 ns s3,.int .i64 ol,.int .i64 oc] 133)) w'→Wx B b ((onL n (bl ev) [] (bl tg) (ss.map setW)).foldl wpL l) w w'):=fun L w' e k=>by
  rw [← e]
  exact ⟨k.1,(hal.mono hB).trans k.2.1,(others_below hal).trans k.2.2⟩
 have hpre:wpL (wpL (wpL l (List.replicate n 9)) (bl x1)) (bl x3)=(onH n (bl ev) [] (bl tg)).foldl wpL l:=by rw [q1,q3];rfl
 have HPRE:=mkHid hpre
 have HK:=mkHid hok
 have HSX:=mkHid hsx
 have HN:Hid (ss.length=ns):=hns
 clear h hs hp hsx hok hns hpre q1 q3 z1 z3 g1 g3
 go_enter Tryz.func140,Tryz.ntmps140
 go_upto_region 1 with fail
 generalize (w.alloc (.cells #[.string ev,.nilIface,.string tg,.slice s1 ns s3,.int .i64 ol,.int .i64 oc] 133))=wx at *
 obtain ⟨c0,_⟩:=hX 0 _ rfl
 obtain ⟨c1,_⟩:=hX 1 _ rfl
 obtain ⟨c2,_⟩:=hX 2 _ rfl
 obtain ⟨c3,_⟩:=hX 3 _ rfl
 have hlt:=hX.lt
 have hbS:b≠w.heap.size:=by omega
 clear hal
 obtain ⟨S,hS⟩:∃ S,w.heap.size=S:=⟨_,rfl⟩
 rw [hS] at c0 c1 c2 c3 hlt hO hbS ⊢
 clear hX hbl hB hS
 have hbeg:=beginX hBx n l wx k hn
 have hput:=fun t l' w1 k ht=>putX (B:=B) (b:=b) (w:=wx) hBx t l' w1 k ht
 clear k
 go_wp2_with (first
  | (go_at_call 137;go_loud (refine hbeg.mono ?_;rintro e w1 ⟨rfl,k⟩;have y0:=keep_cell (p:=⟨S,0,none⟩) (keepX k.2.2 hO hbS (by decide)) c0;have y1:=keep_cell (p:=⟨S,1,none⟩) (keepX k.2.2 hO hbS (by decide)) c1;have y2:=keep_cell (p:=⟨S,2,none⟩) (keepX k.2.2 hO hbS (by decide)) c2;have y3:=keep_cell (p:=⟨S,3,none⟩) (keepX k.2.2 hO hbS (by decide)) c3))
  | (go_at_call 138;refine (hput _ _ _ k (by assumption)).mono ?_;clear k;rintro e w2 ⟨rfl,k⟩;have y0:=keep_cell (p:=⟨S,0,none⟩) (keepX k.2.2 hO hbS (by decide)) c0;have y1:=keep_cell (p:=⟨S,1,none⟩) (keepX k.2.2 hO hbS (by decide)) c1;have y2:=keep_cell (p:=⟨S,2,none⟩) (keepX k.2.2 hO hbS (by decide)) c2;have y3:=keep_cell (p:=⟨S,3,none⟩) (keepX k.2.2 hO hbS (by decide)) c3)
  | fail)
 rw [HPRE.out] at k
 obtain ⟨L,hL⟩:∃ L,(onH n (bl ev) [] (bl tg)).foldl wpL l=L:=⟨_,rfl⟩
 rw [hL] at k
 have HL:=mkHid hL
 clear hL hbeg
 go_loopw [33] (fun ix wr=>∃ (i:Nat),i≤ns∧ix=.int .i64 (i:Int)∧Wx B b (((ss.take i).map setW).foldl wpL L) wx wr) (fun ix _=>ns - (RowKit.intOf ix).toNat)
 case atStart=>exact ⟨0,Nat.zero_le _,rfl,k⟩
 case round=>
  clear k
  obtain ⟨i,hi,rfl,k⟩:=hrel
  by_cases hlti:i < ns
  ·have hil:i < ss.length:=by rw [HN.out];exact hlti
   obtain ⟨bb,off,rfl,hbb,hc⟩:=setB_at HSX.out i hil
   obtain ⟨hk1,⟨tu,ty,hk2⟩,hk3,hk4⟩:=HK.out _ (List.getElem_mem hil)
   have htk:((ss.take (i+1)).map setW).foldl wpL L=wpL (((ss.take i).map setW).foldl wpL L) (setW ss[i]):=by
    rw [List.take_succ_eq_append_getElem hil,List.map_append,List.foldl_append];rfl
   obtain ⟨q,hq⟩:∃ q,ss[i]=q:=⟨_,rfl⟩
   rw [hq] at hc hk1 hk2 hk3 hk4 htk
   obtain ⟨s0,hs0,e0,z0⟩:=letter_of q.1
   obtain ⟨tx',hs2,e2',z2'⟩:=letter_of (exW q.2)
   have e3:[sV q.1,exX q.2]=[.string s0,.iface tu ty]:=by unfold sV;rw [hs0,hk2]
   rw [e3] at hc
   rw [hk2,hs2] at hk4
   obtain ⟨u1,r1,v1,d1⟩:=add_ex ⟨#[32,115,101,116,32]⟩ s0 (by show 5+_≤_;omega)
   have f1:(⟨#[32,115,101,116,32]⟩:ByteArray).size=5:=rfl
   obtain ⟨u2,r2,v2,d2⟩:=add_ex u1 ⟨#[32,61,32]⟩ (by show _+3≤_;omega)
   have f2:(⟨#[32,61,32]⟩:ByteArray).size=3:=rfl
   obtain ⟨u3,r3,v3,d3⟩:=add_ex u2 tx' (by omega)
   have zu:u3.size≤140737488340000:=by omega
   have hu:bl u3=setW q:=by rw [r3,r2,r1,e0,e2'];rfl
   rw [← hu] at htk
   have HTK:=mkHid htk
   clear r1 r2 r3 v1 v2 v3 f1 f2 e0 z0 e2' z2' hk1 hk2 hk3 hs0 hs2 e3 hu htk hq
   have i1:(i:Int) < (ns:Int):=by omega
   have i2:(0:Int)≤(i:Int):=by omega
   have C0:=(k.2.1.cell (p:=⟨bb,off+i*2+0,none⟩) hbb).trans (hc 0 _ rfl)
   have C1:=(k.2.1.cell (p:=⟨bb,off+i*2+1,none⟩) hbb).trans (hc 1 _ rfl)
   rw [Nat.add_zero] at C0
   clear hc
   generalize ((ss.take i).map setW).foldl wpL L=L1 at *
   have hal:Below wr.heap.size wr (wr.alloc (.cells #[.string s0,.iface tu ty] 136)):=(Below.refl _ _).alloc (Nat.le_refl _) _
   have hX:Bn (wr.alloc (.cells #[.string s0,.iface tu ty] 136)) wr.heap.size [.string s0,.iface tu ty]:=Bn.new wr [.string s0,.iface tu ty] 136 _ rfl
   have hOs:(wr.alloc (.cells #[.string s0,.iface tu ty] 136)).heap[wr.heap.size]?=some (.cells #[.string s0,.iface tu ty] 136 (0,0)):=blk_new _ _
   have hbR:b≠wr.heap.size:=Nat.ne_of_lt k.1.lt
   have kx:=k.on hBx hal
   go_upto_region 9 with fail
   clear C0 C1
   generalize (wr.alloc (.cells #[.string s0,.iface tu ty] 136))=wy at *
   have hpt:∀ w1,Below wy.heap.size wy w1→Calls Tryz.prog 138 #[.pointer (some ⟨b,0,none⟩),.string u3] w1 fun e w'=>e=.returned (.tuple #[])∧Wx B b (wpL L1 (bl u3)) wx w'∧w'.heap[wr.heap.size]?=wy.heap[wr.heap.size]?:=fun w1 b1=>by
    have hk:=kx.on hBx b1
    refine (put_any u3 hk.1 zu (Nat.le_trans hBx hk.2.1.size)).mono ?_
    rintro e w' ⟨he,hw⟩
    have h3:=b1.block wr.heap.size hX.lt
    exact ⟨he,hk.trans hw,(keepX hw.2.2 (h3.trans hOs) hbR (by decide)).trans h3⟩
   have htx:∀ w1,Below wy.heap.size wy w1→Calls Tryz.prog 199 #[.iface tu ty] w1 fun e w'=>e=.returned (.string tx')∧Below w1.heap.size w1 w':=fun w1 b1=>hk4 w1 (hPW.out _ (kx.on hBx b1).2.1)
   obtain ⟨c0,_⟩:=hX 0 _ rfl
   obtain ⟨c1,_⟩:=hX 1 _ rfl
   have hlr:=hX.lt
   obtain ⟨R,hR⟩:∃ R,wr.heap.size=R:=⟨_,rfl⟩
   rw [hR] at c0 c1 hlr ⊢
   simp only [hR] at hpt
   clear k kx hX hOs hal hk4 hput hR
   have hB:Below wy.heap.size wy wy:=Below.refl _ _
   have y0:=c0
   have y1:=c1
   go_region_held_law (fun w'=>w'.cell? ⟨R,0,none⟩=some (.string s0)∧w'.cell? ⟨R,1,none⟩=some (.iface tu ty))
    ((refine ⟨?_,?_⟩ <;> (repeat (first | (with_reducible exact y0) | (with_reducible exact y1) | (with_reducible refine cell_dr ?_))) <;> done))
    (first
     | (go_at_call 199;(first | (with_reducible refine (htx _ hB).mono ?_) | (with_reducible refine (htx _ hB.drew).mono ?_));rintro e w1 ⟨rfl,b1⟩;(first | have hB:=Below.nxd hB b1 | have hB:=Below.nx hB b1);have y0:=(hB.cell (p:=⟨R,0,none⟩) hlr).trans c0;have y1:=(hB.cell (p:=⟨R,1,none⟩) hlr).trans c1)
     | (go_at_call 138;(first | (with_reducible refine (hpt _ hB).mono ?_) | (with_reducible refine (hpt _ hB.drew).mono ?_));rintro e w1 ⟨rfl,k,kb⟩;have y0:=keep_cell (p:=⟨R,0,none⟩) kb c0;have y1:=keep_cell (p:=⟨R,1,none⟩) kb c1)
     | fail)
   all_goals (
    rw [← HTK.out] at k
    go_wp2
    go_roundw
    case rel=>exact ⟨i+1,hlti,by go_num,k⟩
    case measure=>simp [RowKit.intOf];omega)
  ·have i1:¬ (i:Int) < (ns:Int):=by omega
   have hie:ss.take i=ss:=List.take_of_length_le (by rw [HN.out];omega)
   rw [hie] at k
   go_wp2_with (first
    | (go_at_call 138;refine (hput _ _ _ k (by assumption)).mono ?_;clear k;rintro e w2 ⟨rfl,k⟩)
    | fail)
   go_end0
   refine ⟨rfl,hfin.out _ _ ?_ k⟩
   rw [← HL.out]
   unfold onL onH
   simp only [List.foldl_append]
   rfl
set_option maxRecDepth 100000 in
set_option maxHeartbeats 16000000 in
theorem on_ifc {B b:Nat} {l:List UInt8} {w:World} (n:Nat) (ev tg:ByteArray) (gu:TypeId) (gy:Value) (tx:ByteArray) (s1:Option Addr) (ns s3:Nat) (ol oc:Int) (ss:List (List UInt8 × Sx)) (h:Wr B b l w) (hB:B≤w.heap.size) (hn:n≤1000) (hev:ev.size≤1000) (htg:tg.size≤1000) (htx:tx.size≤4000) (ht:∀ w1,Pow w1→Calls Tryz.prog 199 #[.iface gu gy] w1 fun e w'=>e=.returned (.string tx)∧Below w1.heap.size w1 w') (hs:RdK (fun x=>x < B) w 2 (rSet (fun x=>x < B) w) ss (.slice s1 ns s3)) (hns:ss.length=ns) (hok:∀ s∈ss,SetW s) (hp:∀ w1,Below B w w1→Pow w1) :
  Calls Tryz.prog 140 #[.pointer (some ⟨b,0,none⟩),.int .i64 (n:Int),.agg #[.string ev,.iface gu gy,.string tg,.slice s1 ns s3,.int .i64 ol,.int .i64 oc]] w fun e w'=>e=.returned (.tuple #[])∧Wx B b ((onL n (bl ev) [[32,105,102,32]++bl tx] (bl tg) (ss.map setW)).foldl wpL l) w w':=by
 have hal:Below w.heap.size w (w.alloc (.cells #[.string ev,.iface gu gy,.string tg,.slice s1 ns s3,.int .i64 ol,.int .i64 oc] 133)):=(Below.refl w.heap.size w).alloc (Nat.le_refl _) _
 have hX:Bn (w.alloc (.cells #[.string ev,.iface gu gy,.string tg,.slice s1 ns s3,.int .i64 ol,.int .i64 oc] 133)) w.heap.size [.string ev,.iface gu gy,.string tg,.slice s1 ns s3,.int .i64 ol,.int .i64 oc]:=Bn.new w [.string ev,.iface gu gy,.string tg,.slice s1 ns s3,.int .i64 ol,.int .i64 oc] 133 _ rfl
 have hO:(w.alloc (.cells #[.string ev,.iface gu gy,.string tg,.slice s1 ns s3,.int .i64 ol,.int .i64 oc] 133)).heap[w.heap.size]?=some (.cells #[.string ev,.iface gu gy,.string tg,.slice s1 ns s3,.int .i64 ol,.int .i64 oc] 133 (0,0)):=blk_new _ _
 have k:Wx B b l (w.alloc (.cells #[.string ev,.iface gu gy,.string tg,.slice s1 ns s3,.int .i64 ol,.int .i64 oc] 133)) (w.alloc (.cells #[.string ev,.iface gu gy,.string tg,.slice s1 ns s3,.int .i64 ol,.int .i64 oc] 133)):=⟨Wr.below h hal,Below.refl _ _,Lib.OthersKept.refl _ _ _⟩
 have hbl:=h.lt
 have hBx:B≤(w.alloc (.cells #[.string ev,.iface gu gy,.string tg,.slice s1 ns s3,.int .i64 ol,.int .i64 oc] 133)).heap.size:=Nat.le_trans hB hal.size
 have hPW:Hid (∀ w1,Below B (w.alloc (.cells #[.string ev,.iface gu gy,.string tg,.slice s1 ns s3,.int .i64 ol,.int .i64 oc] 133)) w1→Pow w1):=fun w1 bb=>hp w1 ((hal.mono hB).trans bb)
 have hsx:=hs.stay kp_set (ok':=fun x=>x < B) (w':=(w.alloc (.cells #[.string ev,.iface gu gy,.string tg,.slice s1 ns s3,.int .i64 ol,.int .i64 oc] 133))) (fun x hx hl=>⟨hx,hal.block x hl⟩)
 obtain ⟨x1,q1,z1,a1⟩:=add_ex ⟨#[111,110,32]⟩ ev (by show 3+_≤_;omega)
 have g1:(⟨#[111,110,32]⟩:ByteArray).size=3:=rfl
 have zl1:x1.size≤140737488340000:=by omega
 obtain ⟨x2,q2,z2,a2⟩:=add_ex ⟨#[32,105,102,32]⟩ tx (by show 4+_≤_;omega)
 have g2:(⟨#[32,105,102,32]⟩:ByteArray).size=4:=rfl
 have zl2:x2.size≤140737488340000:=by omega
 obtain ⟨x3,q3,z3,a3⟩:=add_ex ⟨#[32,103,111,32]⟩ tg (by show 4+_≤_;omega)
 have g3:(⟨#[32,103,111,32]⟩:ByteArray).size=4:=rfl
 have zl3:x3.size≤140737488340000:=by omega
 have zl4:(⟨#[10]⟩:ByteArray).size≤140737488340000:=by decide
 obtain ⟨_,_,he,hcap,hcm⟩:=hs.form
 simp only [Value.slice.injEq] at he
 obtain ⟨rfl,hx0,rfl⟩:=he
 clear hx0
 rw [hns] at hcap
 unfold maxLen at hcm
 have hfin:Hid (∀ L w',L=(onL n (bl ev) [[32,105,102,32]++bl tx] (bl tg) (ss.map setW)).foldl wpL l→Wx B b L (w.alloc (.cells #[.string ev,.iface gu gy,.string tg,.slice s1 ns s3,.int .i64 ol,.int .i64 oc] 133)) w'→Wx B b ((onL n (bl ev) [[32,105,102,32]++bl tx] (bl tg) (ss.map setW)).foldl wpL l) w w'):=fun L w' e k=>by
  rw [← e]
  exact ⟨k.1,(hal.mono hB).trans k.2.1,(others_below hal).trans k.2.2⟩
 have hpre:wpL (wpL (wpL (wpL l (List.replicate n 9)) (bl x1)) (bl x2)) (bl x3)=(onH n (bl ev) [[32,105,102,32]++bl tx] (bl tg)).foldl wpL l:=by rw [q1,q2,q3];rfl
 have HPRE:=mkHid hpre
 have HK:=mkHid hok
 have HSX:=mkHid hsx
 have HN:Hid (ss.length=ns):=hns
 clear h hs hp hsx hok hns hpre q1 q2 q3 z1 z2 z3 g1 g2 g3
 go_enter Tryz.func140,Tryz.ntmps140
 go_upto_region 1 with fail
 generalize (w.alloc (.cells #[.string ev,.iface gu gy,.string tg,.slice s1 ns s3,.int .i64 ol,.int .i64 oc] 133))=wx at *
 obtain ⟨c0,_⟩:=hX 0 _ rfl
 obtain ⟨c1,_⟩:=hX 1 _ rfl
 obtain ⟨c2,_⟩:=hX 2 _ rfl
 obtain ⟨c3,_⟩:=hX 3 _ rfl
 have hlt:=hX.lt
 have hbS:b≠w.heap.size:=by omega
 clear hal
 obtain ⟨S,hS⟩:∃ S,w.heap.size=S:=⟨_,rfl⟩
 rw [hS] at c0 c1 c2 c3 hlt hO hbS ⊢
 clear hX hbl hB hS
 have hbeg:=beginX hBx n l wx k hn
 have hput:=fun t l' w1 k ht=>putX (B:=B) (b:=b) (w:=wx) hBx t l' w1 k ht
 clear k
 go_wp2_with (first
  | (go_at_call 137;go_loud (refine hbeg.mono ?_;rintro e w1 ⟨rfl,k⟩;have y0:=keep_cell (p:=⟨S,0,none⟩) (keepX k.2.2 hO hbS (by decide)) c0;have y1:=keep_cell (p:=⟨S,1,none⟩) (keepX k.2.2 hO hbS (by decide)) c1;have y2:=keep_cell (p:=⟨S,2,none⟩) (keepX k.2.2 hO hbS (by decide)) c2;have y3:=keep_cell (p:=⟨S,3,none⟩) (keepX k.2.2 hO hbS (by decide)) c3))
  | (go_at_call 138;refine (hput _ _ _ k (by assumption)).mono ?_;clear k;rintro e w2 ⟨rfl,k⟩;have y0:=keep_cell (p:=⟨S,0,none⟩) (keepX k.2.2 hO hbS (by decide)) c0;have y1:=keep_cell (p:=⟨S,1,none⟩) (keepX k.2.2 hO hbS (by decide)) c1;have y2:=keep_cell (p:=⟨S,2,none⟩) (keepX k.2.2 hO hbS (by decide)) c2;have y3:=keep_cell (p:=⟨S,3,none⟩) (keepX k.2.2 hO hbS (by decide)) c3)
  | (go_at_call 199;refine (ht _ (hPW.out _ k.2.1)).mono ?_;rintro e w3 ⟨rfl,b3⟩;have k:=k.on hBx b3;have y0:=keep_cell (p:=⟨S,0,none⟩) (keepX k.2.2 hO hbS (by decide)) c0;have y1:=keep_cell (p:=⟨S,1,none⟩) (keepX k.2.2 hO hbS (by decide)) c1;have y2:=keep_cell (p:=⟨S,2,none⟩) (keepX k.2.2 hO hbS (by decide)) c2;have y3:=keep_cell (p:=⟨S,3,none⟩) (keepX k.2.2 hO hbS (by decide)) c3)
  | fail)
 rw [HPRE.out] at k
 obtain ⟨L,hL⟩:∃ L,(onH n (bl ev) [[32,105,102,32]++bl tx] (bl tg)).foldl wpL l=L:=⟨_,rfl⟩
 rw [hL] at k
 have HL:=mkHid hL
 clear hL hbeg
 go_loopw [33] (fun ix wr=>∃ (i:Nat),i≤ns∧ix=.int .i64 (i:Int)∧Wx B b (((ss.take i).map setW).foldl wpL L) wx wr) (fun ix _=>ns - (RowKit.intOf ix).toNat)
 case atStart=>exact ⟨0,Nat.zero_le _,rfl,k⟩
 case round=>
  clear k
  obtain ⟨i,hi,rfl,k⟩:=hrel
  by_cases hlti:i < ns
  ·have hil:i < ss.length:=by rw [HN.out];exact hlti
   obtain ⟨bb,off,rfl,hbb,hc⟩:=setB_at HSX.out i hil
   obtain ⟨hk1,⟨tu,ty,hk2⟩,hk3,hk4⟩:=HK.out _ (List.getElem_mem hil)
   have htk:((ss.take (i+1)).map setW).foldl wpL L=wpL (((ss.take i).map setW).foldl wpL L) (setW ss[i]):=by
    rw [List.take_succ_eq_append_getElem hil,List.map_append,List.foldl_append];rfl
   obtain ⟨q,hq⟩:∃ q,ss[i]=q:=⟨_,rfl⟩
   rw [hq] at hc hk1 hk2 hk3 hk4 htk
   obtain ⟨s0,hs0,e0,z0⟩:=letter_of q.1
   obtain ⟨tx',hs2,e2',z2'⟩:=letter_of (exW q.2)
   have e3:[sV q.1,exX q.2]=[.string s0,.iface tu ty]:=by unfold sV;rw [hs0,hk2]
   rw [e3] at hc
   rw [hk2,hs2] at hk4
   obtain ⟨u1,r1,v1,d1⟩:=add_ex ⟨#[32,115,101,116,32]⟩ s0 (by show 5+_≤_;omega)
   have f1:(⟨#[32,115,101,116,32]⟩:ByteArray).size=5:=rfl
   obtain ⟨u2,r2,v2,d2⟩:=add_ex u1 ⟨#[32,61,32]⟩ (by show _+3≤_;omega)
   have f2:(⟨#[32,61,32]⟩:ByteArray).size=3:=rfl
   obtain ⟨u3,r3,v3,d3⟩:=add_ex u2 tx' (by omega)
   have zu:u3.size≤140737488340000:=by omega
   have hu:bl u3=setW q:=by rw [r3,r2,r1,e0,e2'];rfl
   rw [← hu] at htk
   have HTK:=mkHid htk
   clear r1 r2 r3 v1 v2 v3 f1 f2 e0 z0 e2' z2' hk1 hk2 hk3 hs0 hs2 e3 hu htk hq
   have i1:(i:Int) < (ns:Int):=by omega
   have i2:(0:Int)≤(i:Int):=by omega
   have C0:=(k.2.1.cell (p:=⟨bb,off+i*2+0,none⟩) hbb).trans (hc 0 _ rfl)
   have C1:=(k.2.1.cell (p:=⟨bb,off+i*2+1,none⟩) hbb).trans (hc 1 _ rfl)
   rw [Nat.add_zero] at C0
   clear hc
   generalize ((ss.take i).map setW).foldl wpL L=L1 at *
   have hal:Below wr.heap.size wr (wr.alloc (.cells #[.string s0,.iface tu ty] 136)):=(Below.refl _ _).alloc (Nat.le_refl _) _
   have hX:Bn (wr.alloc (.cells #[.string s0,.iface tu ty] 136)) wr.heap.size [.string s0,.iface tu ty]:=Bn.new wr [.string s0,.iface tu ty] 136 _ rfl
   have hOs:(wr.alloc (.cells #[.string s0,.iface tu ty] 136)).heap[wr.heap.size]?=some (.cells #[.string s0,.iface tu ty] 136 (0,0)):=blk_new _ _
   have hbR:b≠wr.heap.size:=Nat.ne_of_lt k.1.lt
   have kx:=k.on hBx hal
   go_upto_region 9 with fail
   clear C0 C1
   generalize (wr.alloc (.cells #[.string s0,.iface tu ty] 136))=wy at *
   have hpt:∀ w1,Below wy.heap.size wy w1→Calls Tryz.prog 138 #[.pointer (some ⟨b,0,none⟩),.string u3] w1 fun e w'=>e=.returned (.tuple #[])∧Wx B b (wpL L1 (bl u3)) wx w'∧w'.heap[wr.heap.size]?=wy.heap[wr.heap.size]?:=fun w1 b1=>by
    have hk:=kx.on hBx b1
    refine (put_any u3 hk.1 zu (Nat.le_trans hBx hk.2.1.size)).mono ?_
    rintro e w' ⟨he,hw⟩
    have h3:=b1.block wr.heap.size hX.lt
    exact ⟨he,hk.trans hw,(keepX hw.2.2 (h3.trans hOs) hbR (by decide)).trans h3⟩
   have htx:∀ w1,Below wy.heap.size wy w1→Calls Tryz.prog 199 #[.iface tu ty] w1 fun e w'=>e=.returned (.string tx')∧Below w1.heap.size w1 w':=fun w1 b1=>hk4 w1 (hPW.out _ (kx.on hBx b1).2.1)
   obtain ⟨c0,_⟩:=hX 0 _ rfl
   obtain ⟨c1,_⟩:=hX 1 _ rfl
   have hlr:=hX.lt
   obtain ⟨R,hR⟩:∃ R,wr.heap.size=R:=⟨_,rfl⟩
   rw [hR] at c0 c1 hlr ⊢
   simp only [hR] at hpt
   clear k kx hX hOs hal hk4 hput hR
   have hB:Below wy.heap.size wy wy:=Below.refl _ _
   have y0:=c0
   have y1:=c1
   go_region_held_law (fun w'=>w'.cell? ⟨R,0,none⟩=some (.string s0)∧w'.cell? ⟨R,1,none⟩=some (.iface tu ty))
    ((refine ⟨?_,?_⟩ <;> (repeat (first | (with_reducible exact y0) | (with_reducible exact y1) | (with_reducible refine cell_dr ?_))) <;> done))
    (first
     | (go_at_call 199;(first | (with_reducible refine (htx _ hB).mono ?_) | (with_reducible refine (htx _ hB.drew).mono ?_));rintro e w1 ⟨rfl,b1⟩;(first | have hB:=Below.nxd hB b1 | have hB:=Below.nx hB b1);have y0:=(hB.cell (p:=⟨R,0,none⟩) hlr).trans c0;have y1:=(hB.cell (p:=⟨R,1,none⟩) hlr).trans c1)
     | (go_at_call 138;(first | (with_reducible refine (hpt _ hB).mono ?_) | (with_reducible refine (hpt _ hB.drew).mono ?_));rintro e w1 ⟨rfl,k,kb⟩;have y0:=keep_cell (p:=⟨R,0,none⟩) kb c0;have y1:=keep_cell (p:=⟨R,1,none⟩) kb c1)
     | fail)
   all_goals (
    rw [← HTK.out] at k
    go_wp2
    go_roundw
    case rel=>exact ⟨i+1,hlti,by go_num,k⟩
    case measure=>simp [RowKit.intOf];omega)
  ·have i1:¬ (i:Int) < (ns:Int):=by omega
   have hie:ss.take i=ss:=List.take_of_length_le (by rw [HN.out];omega)
   rw [hie] at k
   go_wp2_with (first
    | (go_at_call 138;refine (hput _ _ _ k (by assumption)).mono ?_;clear k;rintro e w2 ⟨rfl,k⟩)
    | fail)
   go_end0
   refine ⟨rfl,hfin.out _ _ ?_ k⟩
   rw [← HL.out]
   unfold onL onH
   simp only [List.foldl_append]
   rfl
end Go.Proofs.YtfjdceknbdmhpaaGreatDoor
/- What is left to strip: the places of rows; and what follows when they are stripped. -/
namespace Go.Proofs.YtfjdceknbdmhpaaGreatDoor
open Go.RowKit Go.Lib
set_option linter.unusedSimpArgs false
set_option linter.unusedVariables false
abbrev Fo:=(d:Nat) × List (St d)
abbrev Pd:=(Nat × Nat) × Fo
def pdA (p:Pd):Addr:=⟨p.1.1,p.1.2,none⟩
def pdV (p:Pd):Value:=.pointer (some (pdA p))
/-- The value reads as the list, stripped; all of it from block B on. -/
def RdSp (B:Nat) (w:World) (x:Fo) (v:Value):Prop:=RdK (fun b=>B≤b) w 11 (rSt x.1 (fun b=>B≤b) w) (x.2.map (stS x.1)) v
/-- Nothing has turned but these cells, and the blocks of X. -/
structure Agr (X:Nat→Prop) (P:List Pd) (w w':World):Prop where
 size:w.heap.size≤w'.heap.size
 block:∀ b,b < w.heap.size→¬ X b→(∀ p∈P,p.1.1≠b)→w'.heap[b]?=w.heap[b]?
 cell:∀ b o,b < w.heap.size→¬ X b→(∀ p∈P,p.1≠(b,o))→w'.cell? ⟨b,o,none⟩=w.cell? ⟨b,o,none⟩
theorem Agr.refl (X:Nat→Prop) (P:List Pd) (w:World):Agr X P w w:=⟨Nat.le_refl _,fun _ _ _ _=>rfl,fun _ _ _ _ _=>rfl⟩
/-- When all of these are stripped, R holds. -/
def Wnd (B:Nat) (X:Nat→Prop) (P:List Pd) (w:World) (R:World→Prop):Prop:=∀ w',Agr X P w w'→(∀ p∈P,∃ v,w'.cell? (pdA p)=some v∧RdSp B w' p.2 v)→R w'
theorem Wnd.end {B:Nat} {X:Nat→Prop} {w:World} {R:World→Prop} (h:Wnd B X [] w R):R w:=h w (Agr.refl _ _ _) (fun p hp=>by cases hp)
/-- The world has moved on, these places as they were. -/
theorem Wnd.move {B:Nat} {X X':Nat→Prop} {P:List Pd} {w w1:World} {R:World→Prop} (h:Wnd B X P w R) (hs:w.heap.size≤w1.heap.size) (hX:∀ b,X' b→X b∨w.heap.size≤b) (hb:∀ b,b < w.heap.size→¬ X b→w1.heap[b]?=w.heap[b]?):Wnd B X' P w1 R:=fun w' hA hr=>by
 have nx:∀ b,b < w.heap.size→¬ X b→¬ X' b:=fun b hl hn q=>by
  rcases hX b q with h | h
  ·exact hn h
  ·omega
 exact h w' ⟨Nat.le_trans hs hA.size,fun b hl hn hp=>(hA.block b (Nat.lt_of_lt_of_le hl hs) (nx b hl hn) hp).trans (hb b hl hn),fun b o hl hn hp=>(hA.cell b o (Nat.lt_of_lt_of_le hl hs) (nx b hl hn) hp).trans (World.cell?_of_block (w:=w) (a:=⟨b,o,none⟩) (hb b hl hn))⟩ hr
/-- An empty row is one at any depth. -/
theorem Wnd.zero {B:Nat} {X:Nat→Prop} {P:List Pd} {a:Nat × Nat} {l:List (St 0)} {w:World} {R:World→Prop} (h:Wnd B X (P++[(a,⟨0,l⟩)]) w R):Wnd B X (P++[(a,(⟨1,[]⟩:Fo))]) w R:=fun w' hA hr=>by
 cases l with
 | cons x _=>exact Empty.elim x
 | nil=>
  refine h w' ⟨hA.size,fun b hl hn hp=>hA.block b hl hn (fun p hp'=>?_),fun b o hl hn hp=>hA.cell b o hl hn (fun p hp'=>?_)⟩ (fun p hp=>?_)
  ·rcases List.mem_append.1 hp' with h | h
   ·exact hp p (List.mem_append_left _ h)
   ·have:p=(a,(⟨1,[]⟩:Fo)):=by simpa using h
    subst this
    exact hp (a,(⟨0,[]⟩:Fo)) (List.mem_append_right _ List.mem_cons_self)
  ·rcases List.mem_append.1 hp' with h | h
   ·exact hp p (List.mem_append_left _ h)
   ·have:p=(a,(⟨1,[]⟩:Fo)):=by simpa using h
    subst this
    exact hp (a,(⟨0,[]⟩:Fo)) (List.mem_append_right _ List.mem_cons_self)
  ·rcases List.mem_append.1 hp with h | h
   ·exact hr p (List.mem_append_left _ h)
   ·have:p=(a,(⟨0,[]⟩:Fo)):=by simpa using h
    subst this
    obtain ⟨v,h1,a1,cap,h2,h3,h4,_⟩:=hr (a,(⟨1,[]⟩:Fo)) (List.mem_append_right _ List.mem_cons_self)
    exact ⟨v,h1,a1,cap,h2,h3,h4,fun i hi=>absurd hi (by simp)⟩
/-- The rows within a row's elements. -/
def kidC (G d:Nat):Nat→List (St (d+1))→List Pd
 | _,[]=>[]
 | i,t :: l=>((G,i*11+10),⟨d,t.2⟩) :: kidC G d (i+1) l
theorem kid_mem {G:Nat}:∀ {i d:Nat} {l:List (St (d+1))} {p:Pd},p∈kidC G d i l→∃ (j:Nat) (hj:j < l.length),p=((G,(i+j)*11+10),⟨d,l[j].2⟩)
 | i,d,[],p,h=>by cases h
 | i,d,t :: l,p,h=>by
  rcases List.mem_cons.1 h with rfl | h
  ·exact ⟨0,by simp,rfl⟩
  ·obtain ⟨j,hj,rfl⟩:=kid_mem h
   exact ⟨j+1,by simpa using hj,by rw [show i+1+j=i+(j+1) by omega];rfl⟩
theorem kid_of {G:Nat}:∀ {i d:Nat} {l:List (St (d+1))} (j:Nat) (hj:j < l.length),(((G,(i+j)*11+10),⟨d,l[j].2⟩):Pd)∈kidC G d i l
 | i,d,[],j,hj=>by simp at hj
 | i,d,t :: l,0,_=>List.mem_cons_self
 | i,d,t :: l,j+1,hj=>by
  have:=kid_of (G:=G) (i:=i+1) (d:=d) (l:=l) j (by simpa using hj)
  rw [show i+1+j=i+(j+1) by omega] at this
  exact List.mem_cons_of_mem _ this
theorem kid_len {G:Nat}:∀ (i d:Nat) (l:List (St (d+1))),(kidC G d i l).length=l.length
 | i,d,[]=>rfl
 | i,d,t :: l=>congrArg (· + 1) (kid_len (i+1) d l)
theorem kid_get {G:Nat}:∀ (i d:Nat) (l:List (St (d+1))) (j:Nat) (hj:j < l.length) (hj':j < (kidC G d i l).length),(kidC G d i l)[j]=(((G,(i+j)*11+10),⟨d,l[j].2⟩):Pd)
 | i,d,[],j,hj,_=>by simp at hj
 | i,d,t :: l,0,_,_=>rfl
 | i,d,t :: l,j+1,hj,hj'=>by
  have:=kid_get (G:=G) (i+1) d l j (by simpa using hj) (by rw [kid_len];simpa using hj)
  rw [show i+1+j=i+(j+1) by omega] at this
  exact this
/-- One row stripped by itself, and put in its place. -/
theorem Wnd.step {B:Nat} {X:Nat→Prop} {P:List Pd} {p:Pd} {w w1:World} {R:World→Prop} {d:Nat} {l:List (St (d+1))} {okO:Nat→Prop} {wO:World} (hp:p.2=⟨d+1,l⟩) (hW:Wnd B X (P++[p]) w R) (hX:∀ b,X b→b < w.heap.size) (hXp:¬ X p.1.1) (hb:Below w.heap.size w w1) (hB:B≤w.heap.size) (pb:p.1.1 < w.heap.size)
  (hnd:∀ q∈P,q.1≠p.1) (hlt:∀ q∈P,q.1.1 < w.heap.size) (hc0:∃ v,w.cell? (pdA p)=some v) (hu:RowG w1 w.heap.size 11 l.length (rHf d okO wO) l) (hG:w.heap.size < w1.heap.size) (hm:l.length≤maxLen) :
  Wnd B X (P++kidC w.heap.size d 0 l) (w1.setCell (pdA p) (.slice (some ⟨w.heap.size,0,none⟩) l.length l.length)) R:=by
 intro w' hA hr
 obtain ⟨u,hu'⟩:∃ u,Value.slice (some ⟨w.heap.size,0,none⟩) l.length l.length=u:=⟨_,rfl⟩
 rw [hu'] at hA
 have hs2:(w1.setCell (pdA p) u).heap.size=w1.heap.size:=by simp
 have hsw:=hb.size
 have hA1:=hA.size
 rw [hs2] at hA1
 have hkb:∀ q∈kidC w.heap.size d 0 l,q.1.1=w.heap.size:=fun q hq=>by
  obtain ⟨j,hj,rfl⟩:=kid_mem hq
  rfl
 have nofar:∀ b o,b < w.heap.size→¬ X b→(∀ q∈P++[p],q.1≠(b,o))→w'.cell? ⟨b,o,none⟩=w.cell? ⟨b,o,none⟩:=fun b o hl hn hq=>by
  have h1:=hA.cell b o (by rw [hs2];omega) hn (fun q hq'=>by
   rcases List.mem_append.1 hq' with h | h
   ·exact hq q (List.mem_append_left _ h)
   ·intro e
    have:=hkb q h
    rw [e] at this
    have:b=w.heap.size:=this
    omega)
  rw [h1]
  have hne:p.1≠(b,o):=hq p (List.mem_append_right _ List.mem_cons_self)
  have h2:(w1.setCell (pdA p) u).cell? ⟨b,o,none⟩=w1.cell? ⟨b,o,none⟩:=World.cell?_setCell_other w1 (pdA p) ⟨b,o,none⟩ u (fun e=>hne (by
   unfold pdA at e
   simp only [Addr.mk.injEq,and_true] at e
   exact Prod.ext e.1 e.2))
  rw [h2]
  exact hb.cell (p:=⟨b,o,none⟩) hl
 refine hW w' ⟨by omega,fun b hl hn hq=>?_,nofar⟩ (fun q hq=>?_)
 ·have h1:=hA.block b (by rw [hs2];omega) hn (fun q hq'=>by
   rcases List.mem_append.1 hq' with h | h
   ·exact hq q (List.mem_append_left _ h)
   ·rw [hkb q h];omega)
  rw [h1,Below.heap_setCell _ _ _ _ (fun e=>hq p (List.mem_append_right _ List.mem_cons_self) e.symm)]
  exact hb.block b hl
 ·rcases List.mem_append.1 hq with h | h
  ·exact hr q (List.mem_append_left _ h)
  ·have:q=p:=by simpa using h
   subst this
   have hcell:w'.cell? (pdA q)=some u:=by
    have h1:=hA.cell q.1.1 q.1.2 (by rw [hs2];omega) hXp (fun q' hq'=>by
     rcases List.mem_append.1 hq' with h | h
     ·exact fun e=>hnd q' h e
     ·intro e
      have:=hkb q' h
      rw [e] at this
      have:q.1.1=w.heap.size:=this
      omega)
    show w'.cell? ⟨q.1.1,q.1.2,none⟩=_
    rw [h1]
    obtain ⟨v,hv⟩:=hc0
    exact cell_same4 ((hb.cell (p:=pdA q) pb).trans hv)
   refine ⟨u,hcell,?_⟩
   rw [hp]
   subst hu'
   refine ⟨some ⟨w.heap.size,0,none⟩,l.length,by rw [List.length_map],by rw [List.length_map];exact Nat.le_refl _,hm,fun i hi=>?_⟩
   have hil:i < l.length:=by simpa using hi
   obtain ⟨cs,hk,⟨so,si,rfl,hso,hsi⟩,hcs⟩:=hu.2 i hil
   have hkid:=hr _ (List.mem_append_right _ (kid_of (G:=w.heap.size) (i:=0) i hil))
   obtain ⟨v,hv1,hv2⟩:=hkid
   refine ⟨w.heap.size,0,hdV (stH l[i].1) so v,rfl,hB,by omega,rfl,?_,fun j x hx=>?_⟩
   ·have e1:(l.map (stS (d+1)))[i]=stS (d+1) l[i]:=by simp
    rw [e1]
    refine ⟨so,v,rfl,?_,hv2⟩
    refine hso.stay kp_on (fun b hb' hl=>⟨by omega,?_⟩)
    have h1:=hA.block b (by rw [hs2];exact hl) (fun q=>by have:=hX b q;omega) (fun q' hq'=>by
     rcases List.mem_append.1 hq' with h | h
     ·have:=hlt q' h;omega
     ·rw [hkb q' h];omega)
    rw [h1]
    exact Below.heap_setCell _ _ _ _ (fun e=>by have e2:b=q.1.1:=e;omega)
   ·rw [Nat.zero_add]
    by_cases hj:j=10
    ·subst hj
     have:x=v:=by
      have:(hdV (stH l[i].1) so v)[10]?=some v:=rfl
      rw [this] at hx
      exact (Option.some.inj hx).symm
     subst this
     rw [Nat.zero_add] at hv1
     exact hv1
    ·have hj11:j < 11:=(List.getElem?_eq_some_iff.1 hx).1
     have hx':(hdV (stH l[i].1) so si)[j]?=some x:=by
      rw [← hx]
      match j,hj11,hj with
      | 0,_,_=>rfl
      | 1,_,_=>rfl
      | 2,_,_=>rfl
      | 3,_,_=>rfl
      | 4,_,_=>rfl
      | 5,_,_=>rfl
      | 6,_,_=>rfl
      | 7,_,_=>rfl
      | 8,_,_=>rfl
      | 9,_,_=>rfl
      | 10,_,h=>exact absurd rfl h
     have h1:=hA.cell w.heap.size (i*11+j) (by rw [hs2];exact hG) (fun q=>by have:=hX _ q;omega) (fun q' hq'=>by
      rcases List.mem_append.1 hq' with h | h
      ·intro e;have:=hlt q' h;rw [e] at this;exact absurd this (by simp)
      ·obtain ⟨j',hj',rfl⟩:=kid_mem h
       intro e
       have:(0+j')*11+10=i*11+j:=congrArg Prod.snd e
       omega)
     rw [h1,World.cell?_setCell_far _ _ _ _ (by show q.1.1≠w.heap.size;omega)]
     exact hcs j x hx'
/-- How much is left. -/
def szL:(d:Nat)→List (St d)→Nat
 | 0,_=>1
 | d+1,l=>(l.map (fun t=>szL d t.2)).sum+1
def szF (p:Pd):Nat:=szL p.2.1 p.2.2
theorem szL_pos:∀ (d:Nat) (l:List (St d)),1≤szL d l
 | 0,_=>Nat.le_refl _
 | d+1,l=>by
  show 1≤(l.map (fun t=>szL d t.2)).sum+1
  omega
theorem kid_sz {G:Nat}:∀ (i d:Nat) (l:List (St (d+1))),((kidC G d i l).map szF).sum+1=szL (d+1) l
 | i,d,[]=>rfl
 | i,d,t :: l=>by
  have:=kid_sz (G:=G) (i+1) d l
  have e1:szL (d+1) l=(l.map (fun t=>szL d t.2)).sum+1:=rfl
  have e2:szL (d+1) (t :: l)=(szL d t.2+(l.map (fun t=>szL d t.2)).sum)+1:=rfl
  have e3:((kidC G d i (t :: l)).map szF).sum=szL d t.2+((kidC G d (i+1) l).map szF).sum:=rfl
  omega
def StOk:(d:Nat)→St d→Prop
 | 0,t=>Empty.elim t
 | d+1,t=>HdOk t.1∧t.2.length≤100000∧∀ x∈t.2,StOk d x
def FoOk (x:Fo):Prop:=x.2.length≤100000∧∀ t∈x.2,StOk x.1 t
def POk (N:Nat) (X:Nat→Prop) (w:World) (p:Pd):Prop:=
 N≤p.1.1∧p.1.1 < w.heap.size∧w.frozen? (pdA p)=false∧¬ X p.1.1∧FoOk p.2∧∃ u,w.cell? (pdA p)=some u∧RdK (fun b=>b < N) w 11 (rSt p.2.1 (fun b=>b < N) w) p.2.2 u
structure PInv (N:Nat) (R:World→Prop) (X:Nat→Prop) (w:World) (v:Value) (P:List Pd):Prop where
 row:w.ownsRow N 71 1 v P.length (P.map pdV)
 ok:∀ p∈P,POk N X w p
 nd:P.Pairwise (fun a b=>a.1≠b.1)
 wnd:Wnd (N+2) X P w R
 x1:∀ b,X b→b < w.heap.size∧N≤b
 x2:∀ g,v.ownBlock=some g→X g
 big:N+2≤w.heap.size
theorem rowV_pop {w:World} {base e:Nat} {v:Value} {xs:List Value} {x:Value} {n:Nat} (hn:n=xs.length) (h:w.ownsRow base e 1 v (n+1) (xs++[x])):∃ g cap,v=.slice (some ⟨g,0,none⟩) (n+1) cap∧n+1≤cap∧cap≤maxLen∧base≤g∧g < w.heap.size∧
  w.cell? ⟨g,n,none⟩=some x∧w.ownsRow base e 1 (.slice (some ⟨g,0,none⟩) n cap) n xs:=by
 subst hn
 have hc:=fun g=>World.ownsRow.cells h (g:=g)
 rcases h.2 with ⟨_,h2⟩ | ⟨g,cap,cur,rfl,hb,hg,hnc,hcm,hcs,htake⟩
 ·omega
 ·have h1:=hc g rfl xs.length x (by simp)
  rw [show (⟨g,0,none⟩:Addr).add xs.length=⟨g,xs.length,none⟩ by unfold Addr.add;split <;> simp_all] at h1
  refine ⟨g,cap,rfl,hnc,hcm,hb,(Array.getElem?_eq_some_iff.1 hg).1,h1,by simp,.inr ⟨g,cap,cur,rfl,hb,hg,by omega,hcm,hcs,?_⟩⟩
  have h3:=congrArg (List.take xs.length) htake
  rw [List.take_take] at h3
  simp only [Nat.mul_one] at h3 ⊢
  rw [Nat.min_eq_left (by omega),List.take_left' (by simp)] at h3
  exact h3
theorem rowV_nil {w:World} {base e:Nat} {v:Value} (h:w.ownsRow base e 1 v 0 []):∃ a cap,v=.slice a 0 cap:=by
 rcases h.2 with ⟨h1,_⟩ | ⟨g,cap,cur,rfl,_⟩
 ·exact ⟨_,_,h1⟩
 ·exact ⟨_,_,rfl⟩
/-- The last one, an empty row, as one at depth 1. -/
theorem PInv.deep {N:Nat} {R:World→Prop} {X:Nat→Prop} {w:World} {v:Value} {P:List Pd} {p:Pd} (h:PInv N R X w v (P++[p])):∃ (d:Nat) (l:List (St (d+1))),PInv N R X w v (P++[(p.1,⟨d+1,l⟩)])∧szF p=szL (d+1) l:=by
 obtain ⟨a,d,l⟩:=p
 cases d with
 | succ d=>exact ⟨d,l,h,rfl⟩
 | zero=>
  cases l with
  | cons x _=>exact Empty.elim x
  | nil=>
   refine ⟨0,[],⟨?_,fun q hq=>?_,?_,h.wnd.zero,h.x1,h.x2,h.big⟩,rfl⟩
   ·have:=h.row
    rw [List.map_append,List.length_append] at this ⊢
    exact this
   ·rcases List.mem_append.1 hq with hq | hq
    ·exact h.ok q (List.mem_append_left _ hq)
    ·have e:q=(a,(⟨1,[]⟩:Fo)):=by simpa using hq
     subst e
     obtain ⟨h1,h2,h3,h4,h5,u,h6,a1,cap,h7,h8,h9,_⟩:=h.ok (a,(⟨0,[]⟩:Fo)) (List.mem_append_right _ List.mem_cons_self)
     exact ⟨h1,h2,h3,h4,⟨by simp,fun t ht=>by cases ht⟩,u,h6,a1,cap,h7,h8,h9,fun i hi=>absurd hi (by simp)⟩
   ·have:=h.nd
    rw [List.pairwise_append] at this ⊢
    refine ⟨this.1,List.pairwise_singleton _ _,fun x hx y hy=>?_⟩
    have e:y=(a,(⟨1,[]⟩:Fo)):=by simpa using hy
    subst e
    exact this.2.2 x hx (a,(⟨0,[]⟩:Fo)) List.mem_cons_self
theorem szF_len:∀ P:List Pd,P.length≤(P.map szF).sum
 | []=>by simp
 | p :: P=>by
  have:=szF_len P
  have:=szL_pos p.2.1 p.2.2
  show P.length+1≤szL p.2.1 p.2.2+(P.map szF).sum
  omega
theorem kid_pair {G d:Nat}:∀ (i:Nat) (l:List (St (d+1))),(kidC G d i l).Pairwise (fun a b=>a.1≠b.1)
 | i,[]=>List.Pairwise.nil
 | i,t :: l=>by
  refine List.Pairwise.cons (fun q hq=>?_) (kid_pair (i+1) l)
  obtain ⟨j,hj,rfl⟩:=kid_mem hq
  intro e
  have:i*11+10=(i+1+j)*11+10:=congrArg Prod.snd e
  omega
theorem PInv.step {N:Nat} {R:World→Prop} {X:Nat→Prop} {w w1 w2:World} {v v2:Value} {P:List Pd} {a:Nat × Nat} {d:Nat} {l:List (St (d+1))} {g:Nat} (h:PInv N R X w v (P++[(a,⟨d+1,l⟩)])) (hb:Below w.heap.size w w1) (hu:RowG w1 w.heap.size 11 l.length (rHf d (fun b=>b < N) w) l) (hG:w.heap.size < w1.heap.size) (hv:v.ownBlock=some g)
  (hrow:w2.ownsRow N 71 1 v2 (P++kidC w.heap.size d 0 l).length ((P++kidC w.heap.size d 0 l).map pdV)) (hgr:(w1.setCell ⟨a.1,a.2,none⟩ (.slice (some ⟨w.heap.size,0,none⟩) l.length l.length)).grownBy w2 (some g)) (hl2:∀ g',v2.ownBlock=some g'→g=g'∨w1.heap.size≤g') (hl3:∀ g',v2.ownBlock=some g'→g' < w2.heap.size) :
  PInv N R (fun b=>X b∨v2.ownBlock=some b) w2 v2 (P++kidC w.heap.size d 0 l):=by
 have hN:=h.big
 obtain ⟨U,hU⟩:∃ U,Value.slice (some ⟨w.heap.size,0,none⟩) l.length l.length=U:=⟨_,rfl⟩
 rw [hU] at hgr
 have hs1:(w1.setCell ⟨a.1,a.2,none⟩ U).heap.size=w1.heap.size:=by simp
 have hXg:=h.x2 g hv
 obtain ⟨g1,g2⟩:=h.x1 g hXg
 have hpo:=h.ok (a,⟨d+1,l⟩) (List.mem_append_right _ List.mem_cons_self)
 obtain ⟨p1,p2,p3,p4,p5,u0,p6,p7⟩:=hpo
 have p1:N≤a.1:=p1
 have p2:a.1 < w.heap.size:=p2
 have p4:¬ X a.1:=p4
 have hag:a.1≠g:=fun e=>p4 (e ▸ hXg)
 have hsw:=hb.size
 have hgs:=hgr.size
 rw [hs1] at hgs
 have far:∀ b,b < w1.heap.size→b≠g→w2.heap[b]?=(w1.setCell ⟨a.1,a.2,none⟩ U).heap[b]?:=fun b hl hn=>hgr.block b (by rw [hs1];exact hl) (fun e=>hn (Option.some.inj e))
 have far2:∀ b,b < w1.heap.size→b≠g→b≠a.1→w2.heap[b]?=w1.heap[b]?:=fun b hl hn hn2=>(far b hl hn).trans (Below.heap_setCell _ _ _ _ (fun e=>hn2 e))
 have far3:∀ b,b < w.heap.size→b≠g→b≠a.1→w2.heap[b]?=w.heap[b]?:=fun b hl hn hn2=>(far2 b (by omega) hn hn2).trans (hb.block b hl)
 have low:∀ b,b < N→b < w.heap.size→b < N∧w2.heap[b]?=w.heap[b]?:=fun b hbN hl=>⟨hbN,far3 b hl (by omega) (by omega)⟩
 have hnd:=List.pairwise_append.1 h.nd
 have hne:∀ q∈P,q.1≠a:=fun q hq=>hnd.2.2 q hq (a,⟨d+1,l⟩) List.mem_cons_self
 have nX:∀ b,b < w1.heap.size→¬ X b→¬ (X b∨v2.ownBlock=some b):=fun b hl hn q=>by
  rcases q with q | q
  ·exact hn q
  ·rcases hl2 b q with e | e
   ·exact hn (e ▸ hXg)
   ·omega
 refine ⟨hrow,fun q hq=>?_,?_,?_,fun b q=>?_,fun g' hg'=>.inr hg',by omega⟩
 ·rcases List.mem_append.1 hq with hq | hq
  ·obtain ⟨q1,q2,q3,q4,q5,u,q6,q7⟩:=h.ok q (List.mem_append_left _ hq)
   have hqg:q.1.1≠g:=fun e=>q4 (e ▸ hXg)
   have hblk:=far q.1.1 (by omega) hqg
   have hne2:(⟨a.1,a.2,none⟩:Addr)≠pdA q:=fun e=>hne q hq (by
    unfold pdA at e
    simp only [Addr.mk.injEq,and_true] at e
    exact Prod.ext e.1.symm e.2.symm)
   refine ⟨q1,by omega,?_,nX _ (by omega) q4,q5,u,?_,q7.stay (kp_st _) low⟩
   ·rw [show pdA q=⟨q.1.1,q.1.2,none⟩ from rfl] at q3 ⊢
    rw [frozen_of_block hblk,World.frozen?_setCell,hb.frozen (p:=⟨q.1.1,q.1.2,none⟩) q2]
    exact q3
   ·rw [World.cell?_of_block (w:=w1.setCell ⟨a.1,a.2,none⟩ U) (a:=pdA q) hblk,World.cell?_setCell_other w1 _ _ U hne2,hb.cell (p:=pdA q) q2]
    exact q6
  ·obtain ⟨j,hj,rfl⟩:=kid_mem hq
   obtain ⟨cs,hk,⟨so,si,rfl,hso,hsi⟩,hcs⟩:=hu.2 j hj
   have hGg:w.heap.size≠g:=by omega
   have hblk:=far2 w.heap.size hG hGg (by omega)
   have hc10:=hcs 10 si rfl
   have hfr:=(hu.1 (j*11+10) (mul_in hj (by omega))).2
   refine ⟨by show N≤w.heap.size;omega,by show w.heap.size < _;omega,?_,nX _ hG (fun q=>absurd (show w.heap.size < w.heap.size from (h.x1 _ q).1) (Nat.lt_irrefl _)),⟨(p5.2 _ (List.getElem_mem hj)).2.1,(p5.2 _ (List.getElem_mem hj)).2.2⟩,si,?_,hsi.stay (kp_st d) low⟩
   ·show w2.frozen? ⟨w.heap.size,(0+j)*11+10,none⟩=false
    rw [Nat.zero_add,frozen_of_block hblk]
    exact hfr
   ·show w2.cell? ⟨w.heap.size,(0+j)*11+10,none⟩=some si
    rw [Nat.zero_add,World.cell?_of_block (w:=w1) (a:=⟨w.heap.size,j*11+10,none⟩) hblk]
    exact hc10
 ·rw [List.pairwise_append]
  refine ⟨hnd.1,kid_pair 0 l,fun q hq k hk=>?_⟩
  obtain ⟨j,hj,rfl⟩:=kid_mem hk
  intro e
  have h1:=(h.ok q (List.mem_append_left _ hq)).2.1
  rw [e] at h1
  exact absurd h1 (by simp)
 ·have hst:=Wnd.step (p:=(a,⟨d+1,l⟩)) rfl h.wnd (fun b q=>(h.x1 b q).1) p4 hb hN p2 (fun q hq=>hne q hq) (fun q hq=>(h.ok q (List.mem_append_left _ hq)).2.1) ⟨u0,p6⟩ hu hG (by unfold maxLen;have:=p5.1;simp only at this;omega)
  rw [hU] at hst
  refine hst.move (by show (w1.setCell ⟨a.1,a.2,none⟩ U).heap.size≤_;rw [hs1];exact hgs) (fun b q=>?_) (fun b hl hn=>?_)
  ·rcases q with q | q
   ·exact .inl q
   ·rcases hl2 b q with e | e
    ·exact .inl (e ▸ hXg)
    ·right
     show (w1.setCell ⟨a.1,a.2,none⟩ U).heap.size≤b
     rw [hs1];exact e
  ·have hl':b < w1.heap.size:=by
    have:b < (w1.setCell ⟨a.1,a.2,none⟩ U).heap.size:=hl
    rw [hs1] at this;exact this
   exact far b hl' (fun e=>hn (e ▸ hXg))
 ·rcases q with q | q
  ·have:=h.x1 b q
   exact ⟨by omega,this.2⟩
  ·refine ⟨hl3 b q,?_⟩
   rcases hl2 b q with e | e
   ·omega
   ·omega
end Go.Proofs.YtfjdceknbdmhpaaGreatDoor
