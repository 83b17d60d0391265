import Derived.Test.YtppefcdkgejfbaaGreatDoorXac12
import Derived.Test.YtppefcdkgejfbaaGreatDoorXac05
import Derived.Test.YtppefcdkgejfbaaGreatDoorXac10
import Derived.RangeFuncNested
set_option maxRecDepth 100000
set_option maxHeartbeats 32000000
namespace Go.Proofs.YtppefcdkgejfbaaGreatDoor
open Go.RowKit Go.Lib
set_option linter.unusedSimpArgs false
set_option linter.unusedVariables false
attribute [local go_sem ↓] Go.wp_at_zero Go.wp_at_succ
theorem cst_res {w4:World}{R:Nat}{a b c d e f g h i j k:Value}{tmps:Array Value}(hR:Bn w4 R [a,b,c,d,e,f,g,h,i,j,k]) (ht:tmps.getD 2 undef=.pointer (some ⟨R,0,none⟩)):(results Tryz.f82 tmps).run Tryz.prog w4=.ok (.agg #[a,b,c,d,e,f,g,h,i,j,k]) w4:=by
 have ht':tmps[2]?.getD undef=.pointer (some ⟨R,0,none⟩):=by simpa using ht
 have c0:=(hR 0 _ rfl).1
 have c1:=(hR 1 _ rfl).1
 have c2:=(hR 2 _ rfl).1
 have c3:=(hR 3 _ rfl).1
 have c4:=(hR 4 _ rfl).1
 have c5:=(hR 5 _ rfl).1
 have c6:=(hR 6 _ rfl).1
 have c7:=(hR 7 _ rfl).1
 have c8:=(hR 8 _ rfl).1
 have c9:=(hR 9 _ rfl).1
 have c10:=(hR 10 _ rfl).1
 simp [results,Tryz.results82,go_sem,ht',c0,c1,c2,c3,c4,c5,c6,c7,c8,c9,c10]
theorem salone_any {ok:Nat->Prop}{w:World}(sn:ByteArray) (sl sc:Int) (sb se:Bool) (sd su:ByteArray) (sw sr:Int) (p1:Option Addr) (m p3:Nat) (p4:Option Addr) (i p6:Nat) (l:List OnC) (h1:sn.size<=140737488351232) (h2:sd.size<=140737488351232) (h3:su.size<=140737488351232)
  (hs:RdK ok w 6 (rOn ok w) l (.slice p1 m p3)) (hn:l.length=m) (hl:m<=100000) (hok:∀ s∈l,OnOk s):Calls Tryz.prog 82 #[.agg #[.string sn,.int .i64 sl,.int .i64 sc,.bool sb,.bool se,.string sd,.string su,.int .i64 sw,.int .i64 sr,.slice p1 m p3,.slice p4 i p6]] w fun e w'=>∃ u1 u3,e=.returned (.agg #[.string sn,.int .i64 0,.int .i64 0,.bool sb,.bool se,.string sd,.string su,.int .i64 sw,.int .i64 sr,.slice u1 m u3,.slice p4 i p6])/\RdK (Nw w.heap.size w') w' 6 (rOn (Nw w.heap.size w') w') (l.map stO) (.slice u1 m u3)/\Below w.heap.size w w':=by
 have g1:=fun w1=>pClone_any sn w1 h1
 have g2:=fun w1=>pClone_any sd w1 h2
 have g3:=fun w1=>pClone_any su w1 h3
 have hal:Below w.heap.size w ((w.alloc (.cells #[.string sn,.int .i64 sl,.int .i64 sc,.bool sb,.bool se,.string sd,.string su,.int .i64 sw,.int .i64 sr,.slice p1 m p3,.slice p4 i p6] 79)).alloc (.cells #[.string ⟨#[]⟩,.int .i64 0,.int .i64 0,.bool false,.bool false,.string ⟨#[]⟩,.string ⟨#[]⟩,.int .i64 0,.int .i64 0,.slice none 0 0,.slice none 0 0] 79)):=((Below.refl w.heap.size w).alloc Nat.le.refl _).alloc (by simp) _
 have hX:Bn ((w.alloc (.cells #[.string sn,.int .i64 sl,.int .i64 sc,.bool sb,.bool se,.string sd,.string su,.int .i64 sw,.int .i64 sr,.slice p1 m p3,.slice p4 i p6] 79)).alloc (.cells #[.string ⟨#[]⟩,.int .i64 0,.int .i64 0,.bool false,.bool false,.string ⟨#[]⟩,.string ⟨#[]⟩,.int .i64 0,.int .i64 0,.slice none 0 0,.slice none 0 0] 79)) w.heap.size [.string sn,.int .i64 sl,.int .i64 sc,.bool sb,.bool se,.string sd,.string su,.int .i64 sw,.int .i64 sr,.slice p1 m p3,.slice p4 i p6]:=(Bn.new w [.string sn,.int .i64 sl,.int .i64 sc,.bool sb,.bool se,.string sd,.string su,.int .i64 sw,.int .i64 sr,.slice p1 m p3,.slice p4 i p6] 79 _ rfl).on ((Below.refl _ _).alloc Nat.le.refl _)
 have hR:Bn ((w.alloc (.cells #[.string sn,.int .i64 sl,.int .i64 sc,.bool sb,.bool se,.string sd,.string su,.int .i64 sw,.int .i64 sr,.slice p1 m p3,.slice p4 i p6] 79)).alloc (.cells #[.string ⟨#[]⟩,.int .i64 0,.int .i64 0,.bool false,.bool false,.string ⟨#[]⟩,.string ⟨#[]⟩,.int .i64 0,.int .i64 0,.slice none 0 0,.slice none 0 0] 79)) (w.heap.size+1) [.string ⟨#[]⟩,.int .i64 0,.int .i64 0,.bool false,.bool false,.string ⟨#[]⟩,.string ⟨#[]⟩,.int .i64 0,.int .i64 0,.slice none 0 0,.slice none 0 0]:=Bn.new (w.alloc (.cells #[.string sn,.int .i64 sl,.int .i64 sc,.bool sb,.bool se,.string sd,.string su,.int .i64 sw,.int .i64 sr,.slice p1 m p3,.slice p4 i p6] 79)) [.string ⟨#[]⟩,.int .i64 0,.int .i64 0,.bool false,.bool false,.string ⟨#[]⟩,.string ⟨#[]⟩,.int .i64 0,.int .i64 0,.slice none 0 0,.slice none 0 0] 79 _ (by simp)
 have hsz:w.heap.size+2<=((w.alloc (.cells #[.string sn,.int .i64 sl,.int .i64 sc,.bool sb,.bool se,.string sd,.string su,.int .i64 sw,.int .i64 sr,.slice p1 m p3,.slice p4 i p6] 79)).alloc (.cells #[.string ⟨#[]⟩,.int .i64 0,.int .i64 0,.bool false,.bool false,.string ⟨#[]⟩,.string ⟨#[]⟩,.int .i64 0,.int .i64 0,.slice none 0 0,.slice none 0 0] 79)).heap.size:=by simp
 go_enter Tryz.func82,Tryz.ntmps82
 go_upto_region 1 with fail
 generalize ((w.alloc (.cells #[.string sn,.int .i64 sl,.int .i64 sc,.bool sb,.bool se,.string sd,.string su,.int .i64 sw,.int .i64 sr,.slice p1 m p3,.slice p4 i p6] 79)).alloc (.cells #[.string ⟨#[]⟩,.int .i64 0,.int .i64 0,.bool false,.bool false,.string ⟨#[]⟩,.string ⟨#[]⟩,.int .i64 0,.int .i64 0,.slice none 0 0,.slice none 0 0] 79))=wx at *
 obtain ⟨c0,e0⟩:=hX 0 _ rfl
 go_upto_region 2 with (first
  | (go_at_call 13;refine (g1 _).mono ?_;rintro e w1 ⟨rfl,b1⟩;have hX1:=hX.on b1;obtain ⟨x0,y0⟩:=hX1 0 _ rfl))
 have hX2:=hX1.set (i:=0) (by simp) (.string sn)
 have hR2:=(hR.on b1).far (X:=w.heap.size) (i:=0) (by omega) (.string sn)
 have hB2:Below w.heap.size w (w1.setCell ⟨w.heap.size,0,none⟩ (.string sn)):=(hal.trans (b1.mono (by omega))).setCell Nat.le.refl _
 have hs2:w.heap.size+2<=(w1.setCell ⟨w.heap.size,0,none⟩ (.string sn)).heap.size:=by simpa using Nat.le_trans hsz b1.size
 clear hX hR hX1 x0 y0 c0 e0 b1 hal hsz
 generalize w1.setCell ⟨w.heap.size,0,none⟩ (.string sn)=w2 at *
 obtain ⟨a1,q1⟩:=hX2 1 _ rfl
 obtain ⟨a2,q2⟩:=hX2 2 _ rfl
 go_upto_region 3 with fail
 have hX3:=(hX2.set (i:=1) (by simp) (.int .i64 0)).set (i:=2) (by simp) (.int .i64 0)
 have hR3:=(hR2.far (X:=w.heap.size) (i:=1) (by omega) (.int .i64 0)).far (X:=w.heap.size) (i:=2) (by omega) (.int .i64 0)
 have hB3:Below w.heap.size w ((w2.setCell ⟨w.heap.size,1,none⟩ (.int .i64 0)).setCell ⟨w.heap.size,2,none⟩ (.int .i64 0)):=(hB2.setCell (p:=⟨w.heap.size,1,none⟩) Nat.le.refl _).setCell (p:=⟨w.heap.size,2,none⟩) Nat.le.refl _
 have hs3:w.heap.size+2<=((w2.setCell ⟨w.heap.size,1,none⟩ (.int .i64 0)).setCell ⟨w.heap.size,2,none⟩ (.int .i64 0)).heap.size:=by simpa using hs2
 clear hX2 hR2 hB2 hs2 a1 q1 a2 q2
 generalize (w2.setCell ⟨w.heap.size,1,none⟩ (.int .i64 0)).setCell ⟨w.heap.size,2,none⟩ (.int .i64 0)=w3 at *
 obtain ⟨c5,e5⟩:=hX3 5 _ rfl
 go_upto_region 4 with (first
  | (go_at_call 13;refine (g2 _).mono ?_;rintro e w4 ⟨rfl,b4⟩;have hX4:=hX3.on b4;obtain ⟨x5,y5⟩:=hX4 5 _ rfl))
 have hX5:=hX4.set (i:=5) (by simp) (.string sd)
 have hR5:=(hR3.on b4).far (X:=w.heap.size) (i:=5) (by omega) (.string sd)
 have hB5:Below w.heap.size w (w4.setCell ⟨w.heap.size,5,none⟩ (.string sd)):=(hB3.trans (b4.mono (by omega))).setCell Nat.le.refl _
 have hs5:w.heap.size+2<=(w4.setCell ⟨w.heap.size,5,none⟩ (.string sd)).heap.size:=by simpa using Nat.le_trans hs3 b4.size
 clear hX3 hR3 hX4 x5 y5 c5 e5 b4 hB3 hs3
 generalize w4.setCell ⟨w.heap.size,5,none⟩ (.string sd)=w5 at *
 obtain ⟨c6,e6⟩:=hX5 6 _ rfl
 go_upto_region 5 with (first
  | (go_at_call 13;refine (g3 _).mono ?_;rintro e w6 ⟨rfl,b6⟩;have hX6:=hX5.on b6;obtain ⟨x6,y6⟩:=hX6 6 _ rfl))
 have hX7:=hX6.set (i:=6) (by simp) (.string su)
 have hR7:=(hR5.on b6).far (X:=w.heap.size) (i:=6) (by omega) (.string su)
 have hB7:Below w.heap.size w (w6.setCell ⟨w.heap.size,6,none⟩ (.string su)):=(hB5.trans (b6.mono (by omega))).setCell Nat.le.refl _
 have hs7:w.heap.size+2<=(w6.setCell ⟨w.heap.size,6,none⟩ (.string su)).heap.size:=by simpa using Nat.le_trans hs5 b6.size
 clear hX5 hR5 hX6 x6 y6 c6 e6 b6 hB5 hs5
 generalize w6.setCell ⟨w.heap.size,6,none⟩ (.string su)=w7 at *
 have hE:Calls Tryz.prog 113 #[.slice p1 m p3,.func (.func 114) #[] #[]] w7 fun e w'=>∃ u1 u3,e=.returned (.slice u1 m u3)/\RdK (Nw w7.heap.size w') w' 6 (rOn (Nw w7.heap.size w') w') (l.map stO) (.slice u1 m u3)/\Below w7.heap.size w7 w':=by
  refine (eachOn_any (hs.stay kp_on (ok':=ok) (w':=w7) (fun b hb hl=>⟨hb,hB7.block b hl⟩)) (by omega) hok).mono ?_
  rintro e w' ⟨u,h1,h2,h3⟩
  obtain ⟨u1,u3,rfl,_⟩:=h2.form
  rw [List.length_map,hn] at h1 h2
  exact ⟨u1,u3,h1,h2,h3⟩
 obtain ⟨c9,e9⟩:=hX7 9 _ rfl
 go_upto_region 6 with (first
  | (go_at_call 113;refine hE.mono ?_;rintro e w8 ⟨u1,u3,rfl,hr,b8⟩;have hX8:=hX7.on b8;obtain ⟨x9,y9⟩:=hX8 9 _ rfl))
 have hX9:Bn (w8.setCell ⟨w.heap.size,9,none⟩ (.slice u1 m u3)) w.heap.size [.string sn,.int .i64 0,.int .i64 0,.bool sb,.bool se,.string sd,.string su,.int .i64 sw,.int .i64 sr,.slice u1 m u3,.slice p4 i p6]:=hX8.set (i:=9) (by simp) (.slice u1 m u3)
 have hR9:=(hR7.on b8).far (X:=w.heap.size) (i:=9) (by omega) (.slice u1 m u3)
 have hB9:Below w.heap.size w (w8.setCell ⟨w.heap.size,9,none⟩ (.slice u1 m u3)):=(hB7.trans (b8.mono (by omega))).setCell Nat.le.refl _
 have hr9:=hr.stay kp_on (ok':=Nw (w.heap.size+2) (w8.setCell ⟨w.heap.size,9,none⟩ (.slice u1 m u3))) (w':=w8.setCell ⟨w.heap.size,9,none⟩ (.slice u1 m u3)) (fun b hb hl=>hb.to (by have:=hb.1;omega) (Below.heap_setCell _ _ _ _ (fun e=>by have e2:b=w.heap.size:=e;have:=hb.1;omega)))
 clear hX7 hR7 hX8 x9 y9 c9 e9 b8 hB7 hs7 hr hE
 generalize w8.setCell ⟨w.heap.size,9,none⟩ (.slice u1 m u3)=w9 at *
 have k0:=(hX9 0 _ rfl).1
 obtain ⟨r0,f0⟩:=hR9 0 _ rfl
 have k1:=(hX9 1 _ rfl).1
 obtain ⟨r1,f1⟩:=hR9 1 _ rfl
 have k2:=(hX9 2 _ rfl).1
 obtain ⟨r2,f2⟩:=hR9 2 _ rfl
 have k3:=(hX9 3 _ rfl).1
 obtain ⟨r3,f3⟩:=hR9 3 _ rfl
 have k4:=(hX9 4 _ rfl).1
 obtain ⟨r4,f4⟩:=hR9 4 _ rfl
 have k5:=(hX9 5 _ rfl).1
 obtain ⟨r5,f5⟩:=hR9 5 _ rfl
 have k6:=(hX9 6 _ rfl).1
 obtain ⟨r6,f6⟩:=hR9 6 _ rfl
 have k7:=(hX9 7 _ rfl).1
 obtain ⟨r7,f7⟩:=hR9 7 _ rfl
 have k8:=(hX9 8 _ rfl).1
 obtain ⟨r8,f8⟩:=hR9 8 _ rfl
 have k9:=(hX9 9 _ rfl).1
 obtain ⟨r9,f9⟩:=hR9 9 _ rfl
 have k10:=(hX9 10 _ rfl).1
 obtain ⟨r10,f10⟩:=hR9 10 _ rfl
 have hRz:=((((((((((hR9.set (i:=0) (by simp) (.string sn)).set (i:=1) (by simp) (.int .i64 0)).set (i:=2) (by simp) (.int .i64 0)).set (i:=3) (by simp) (.bool sb)).set (i:=4) (by simp) (.bool se)).set (i:=5) (by simp) (.string sd)).set (i:=6) (by simp) (.string su)).set (i:=7) (by simp) (.int .i64 sw)).set (i:=8) (by simp) (.int .i64 sr)).set (i:=9) (by simp) (.slice u1 m u3)).set (i:=10) (by simp) (.slice p4 i p6)
 have hbz:=putL_below [.string sn,.int .i64 0,.int .i64 0,.bool sb,.bool se,.string sd,.string su,.int .i64 sw,.int .i64 sr,.slice u1 m u3,.slice p4 i p6] w9 (w.heap.size+1) 0 hB9 (by omega)
 have hrz:=hr9.stay kp_on (ok':=Nw w.heap.size (putL w9 (w.heap.size+1) 0 [.string sn,.int .i64 0,.int .i64 0,.bool sb,.bool se,.string sd,.string su,.int .i64 sw,.int .i64 sr,.slice u1 m u3,.slice p4 i p6])) (w':=putL w9 (w.heap.size+1) 0 [.string sn,.int .i64 0,.int .i64 0,.bool sb,.bool se,.string sd,.string su,.int .i64 sw,.int .i64 sr,.slice u1 m u3,.slice p4 i p6]) (fun b hb hl=>hb.to (by have:=hb.1;omega) (putL_heap _ _ _ _ _ (by have:=hb.1;omega)))
 go_wp2
 exact bodyPost_ret (cst_res hRz rfl) rfl ⟨u1,u3,rfl,hrz,hbz⟩
theorem Tryz.infoESt:(Tryz.prog.info? 79).map (fun i=>(i.zero,i.size,i.bytes))=some (some (.agg #[.string ⟨#[]⟩,.int .i64 0,.int .i64 0,.bool false,.bool false,.string ⟨#[]⟩,.string ⟨#[]⟩,.int .i64 0,.int .i64 0,.slice none 0 0,.slice none 0 0]),11,136):=by kernel_rfl
def stH (h:HdC):HdC:=((h.1.1,(0,0)),h.2.1,h.2.2.1,h.2.2.2.1,h.2.2.2.2.map stO)
def HdOk (h:HdC):Prop:=h.1.1.length<=140737488351232/\h.2.2.1.1.length<=140737488351232/\h.2.2.1.2.length<=140737488351232/\h.2.2.2.2.length<=100000/\∀ o∈h.2.2.2.2,OnOk o
def rHf (d:Nat) (okO:Nat->Prop) (w0:World) (ok:Nat->Prop) (w:World) (t:St (d+1)) (cs:List Value):Prop:=∃ so si,cs=hdV (stH t.1) so si/\RdK ok w 6 (rOn ok w) (t.1.2.2.2.2.map stO) so/\RdK okO w0 11 (rSt d okO w0) t.2 si
theorem kp_hf (d:Nat) (okO:Nat->Prop) (w0:World):Kp (rHf d okO w0):=fun _ _ _ _ _ _ ⟨so,si,h,h1,h2⟩ hk=>⟨so,si,h,h1.stay kp_on hk,h2⟩
theorem stQ_at {ok:Nat->Prop}{w:World}{d:Nat}{l:List (St (d+1))}{a:Option Addr}{n cap:Nat}(h:RdK ok w 11 (rSt (d+1) ok w) l (.slice a n cap)) (j:Nat) (hj:j < l.length):∃ b off p1 p3 p4 p6,a=some ⟨b,off,none⟩/\b < w.heap.size/\RdK ok w 6 (rOn ok w) l[j].1.2.2.2.2 (.slice p1 l[j].1.2.2.2.2.length p3)/\RdK ok w 11 (rSt d ok w) l[j].2 (.slice p4 l[j].2.length p6)/\∀ i u,(hdV l[j].1 (.slice p1 l[j].1.2.2.2.2.length p3) (.slice p4 l[j].2.length p6))[i]?=some u->w.cell? ⟨b,off+j*11+i,none⟩=some u:=by
 obtain ⟨a1,cap1,he,h1,h2,h3⟩:=h
 simp only [Value.slice.injEq] at he
 obtain ⟨rfl,rfl,rfl⟩:=he
 obtain ⟨b,off,cs,ha,_,hb,hl,⟨so,si,rfl,hs,hi⟩,hc⟩:=h3 j hj
 obtain ⟨s1,s3,rfl,_⟩:=hs.form
 obtain ⟨s4,s6,rfl,_⟩:=hi.form
 exact ⟨b,off,s1,s3,s4,s6,ha,hb,hs,hi,hc⟩
theorem eachSt_any {d:Nat}{ok:Nat->Prop}{w:World}{l:List (St (d+1))}{v:Value}(h:RdK ok w 11 (rSt (d+1) ok w) l v) (hl:l.length<=100000) (hok:∀ s∈l,HdOk s.1) :
  Calls Tryz.prog 81 #[v,.func (.func 82) #[] #[]] w fun e w'=>e=.returned (.slice (some ⟨w.heap.size,0,none⟩) l.length l.length)/\RowG w' w.heap.size 11 l.length (rHf d ok w) (l)/\Below w.heap.size w w'/\w.heap.size < w'.heap.size:=by
 obtain ⟨ie,hie,hie0,hie1,hie2⟩:=info_parts Tryz.infoESt
 obtain ⟨a,cap,rfl,hlc,hcm⟩:=h.form
 unfold maxLen at hcm
 have HC:=mkHid h
 have HK:=mkHid hok
 obtain ⟨n,hn⟩:∃ n,l.length=n:=⟨_,rfl⟩
 rw [hn] at hlc hl ⊢
 have HN:Hid (l.length=n):=hn
 clear h hok hn
 have hmk:=run_make (P:=Tryz.prog) w 40 79 ie _ Tryz.underlying40 hie hie0 .i64 .i64 (n:Int) (n:Int) (by omega) (by omega) (by rw [hie2];omega) (by omega)
 rw [Int.toNat_natCast,hie1] at hmk
 have hG0:RowG (w.alloc (.cells (madeCells (.agg #[.string ⟨#[]⟩,.int .i64 0,.int .i64 0,.bool false,.bool false,.string ⟨#[]⟩,.string ⟨#[]⟩,.int .i64 0,.int .i64 0,.slice none 0 0,.slice none 0 0]:Value).cells (n*11)) 79)) w.heap.size 11 n (rHf d ok w) ([]:List (St (d+1))):=RowG.made w _ 11 n _ _
 have hb0:Below w.heap.size w (w.alloc (.cells (madeCells (.agg #[.string ⟨#[]⟩,.int .i64 0,.int .i64 0,.bool false,.bool false,.string ⟨#[]⟩,.string ⟨#[]⟩,.int .i64 0,.int .i64 0,.slice none 0 0,.slice none 0 0]:Value).cells (n*11)) 79)):=(Below.refl _ _).alloc Nat.le.refl _
 have hs0:(w.alloc (.cells (madeCells (.agg #[.string ⟨#[]⟩,.int .i64 0,.int .i64 0,.bool false,.bool false,.string ⟨#[]⟩,.string ⟨#[]⟩,.int .i64 0,.int .i64 0,.slice none 0 0,.slice none 0 0]:Value).cells (n*11)) 79)).heap.size=w.heap.size+1:=by simp
 generalize w.alloc (.cells (madeCells (.agg #[.string ⟨#[]⟩,.int .i64 0,.int .i64 0,.bool false,.bool false,.string ⟨#[]⟩,.string ⟨#[]⟩,.int .i64 0,.int .i64 0,.slice none 0 0,.slice none 0 0]:Value).cells (n*11)) 79)=w0 at *
 go_enter Tryz.func81,Tryz.ntmps81
 go_wp2
 go_loopw [13] (fun ix wr=>∃ (i:Nat),i<=n/\ix=.int .i64 (i:Int)/\RowG wr w.heap.size 11 n (rHf d ok w) ((l).take i)/\Below w.heap.size w wr/\w.heap.size < wr.heap.size) (fun ix _=>n - (RowKit.intOf ix).toNat)
 case atStart=>exact ⟨0,Nat.zero_le _,rfl,hG0,hb0,by omega⟩
 case round=>
  obtain ⟨i,hi,rfl,hRow,hb,hGs⟩:=hrel
  clear hG0 hb0 hs0 hmk
  by_cases hlt:i < n
  ·have hil:i < l.length:=by rw [HN.out];exact hlt
   obtain ⟨b,off,p1,p3,p4,p6,rfl,hbl,hOn,hIn,hc⟩:=stQ_at HC.out i hil
   have hko:=HK.out _ (List.getElem_mem hil)
   obtain ⟨t,ht⟩:∃ t,l[i]=t:=⟨_,rfl⟩
   rw [ht] at hOn hIn hc hko
   obtain ⟨m,hm⟩:∃ m,t.1.2.2.2.2.length=m:=⟨_,rfl⟩
   obtain ⟨ni,hni⟩:∃ m,t.2.length=m:=⟨_,rfl⟩
   rw [hm] at hOn hc
   rw [hni] at hIn hc
   obtain ⟨sn,hsn⟩:∃ s:ByteArray,⟨t.1.1.1.toArray⟩=s:=⟨_,rfl⟩
   obtain ⟨sd,hsd⟩:∃ s:ByteArray,⟨t.1.2.2.1.1.toArray⟩=s:=⟨_,rfl⟩
   obtain ⟨su,hsu⟩:∃ s:ByteArray,⟨t.1.2.2.1.2.toArray⟩=s:=⟨_,rfl⟩
   have hz1:sn.size<=140737488351232:=by rw [<- hsn];show t.1.1.1.toArray.size<=_;simpa using hko.1
   have hz2:sd.size<=140737488351232:=by rw [<- hsd];show t.1.2.2.1.1.toArray.size<=_;simpa using hko.2.1
   have hz3:su.size<=140737488351232:=by rw [<- hsu];show t.1.2.2.1.2.toArray.size<=_;simpa using hko.2.2.1
   obtain ⟨sl,hsl⟩:∃ x,t.1.1.2.1=x:=⟨_,rfl⟩
   obtain ⟨sc,hsc⟩:∃ x,t.1.1.2.2=x:=⟨_,rfl⟩
   obtain ⟨sb,hsb⟩:∃ x,t.1.2.1.1=x:=⟨_,rfl⟩
   obtain ⟨se,hse⟩:∃ x,t.1.2.1.2=x:=⟨_,rfl⟩
   obtain ⟨sw,hsw⟩:∃ x,t.1.2.2.2.1.1=x:=⟨_,rfl⟩
   obtain ⟨sr,hsr⟩:∃ x,t.1.2.2.2.1.2=x:=⟨_,rfl⟩
   have hv:∀ so si,hdV t.1 so si=[.string sn,.int .i64 sl,.int .i64 sc,.bool sb,.bool se,.string sd,.string su,.int .i64 sw,.int .i64 sr,so,si]:=fun so si=>by
    unfold hdV sV
    rw [hsn,hsd,hsu,hsl,hsc,hsb,hse,hsw,hsr]
   have hv2:∀ so si,hdV (stH t.1) so si=[.string sn,.int .i64 0,.int .i64 0,.bool sb,.bool se,.string sd,.string su,.int .i64 sw,.int .i64 sr,so,si]:=fun so si=>by
    show [sV t.1.1.1,.int .i64 0,.int .i64 0,.bool t.1.2.1.1,.bool t.1.2.1.2,sV t.1.2.2.1.1,sV t.1.2.2.1.2,.int .i64 t.1.2.2.2.1.1,.int .i64 t.1.2.2.2.1.2,so,si]=_
    unfold sV
    rw [hsn,hsd,hsu,hsb,hse,hsw,hsr]
   rw [hv] at hc
   have HQ:Hid (l[i]=t):=ht
   have HV2:Hid (∀ so si,hdV (stH t.1) so si=[.string sn,.int .i64 0,.int .i64 0,.bool sb,.bool se,.string sd,.string su,.int .i64 sw,.int .i64 sr,so,si]):=hv2
   have HM:Hid (t.1.2.2.2.2.length=m):=hm
   have HKO:Hid (HdOk t.1):=hko
   have HON:Hid (RdK ok w 6 (rOn ok w) t.1.2.2.2.2 (.slice p1 m p3)):=hOn
   have HIN:Hid (RdK ok w 11 (rSt d ok w) t.2 (.slice p4 ni p6)):=hIn
   clear ht hm hni hko hOn hIn hsn hsd hsu hsl hsc hsb hse hsw hsr hv hv2
   obtain ⟨acc,hac⟩:∃ acc,(l).take i=acc:=⟨_,rfl⟩
   have hla:acc.length=i:=by rw [<- hac];simp [HN.out];omega
   rw [hac] at hRow
   have HAC:Hid ((l).take i=acc):=hac
   clear hac
   have i1:(i:Int) < (n:Int):=by omega
   have i2:(0:Int)<=(i:Int):=by omega
   have C0:=(hb.cell (p:=⟨b,off+i*11+0,none⟩) hbl).trans (hc 0 _ rfl)
   have C1:=(hb.cell (p:=⟨b,off+i*11+1,none⟩) hbl).trans (hc 1 _ rfl)
   have C2:=(hb.cell (p:=⟨b,off+i*11+2,none⟩) hbl).trans (hc 2 _ rfl)
   have C3:=(hb.cell (p:=⟨b,off+i*11+3,none⟩) hbl).trans (hc 3 _ rfl)
   have C4:=(hb.cell (p:=⟨b,off+i*11+4,none⟩) hbl).trans (hc 4 _ rfl)
   have C5:=(hb.cell (p:=⟨b,off+i*11+5,none⟩) hbl).trans (hc 5 _ rfl)
   have C6:=(hb.cell (p:=⟨b,off+i*11+6,none⟩) hbl).trans (hc 6 _ rfl)
   have C7:=(hb.cell (p:=⟨b,off+i*11+7,none⟩) hbl).trans (hc 7 _ rfl)
   have C8:=(hb.cell (p:=⟨b,off+i*11+8,none⟩) hbl).trans (hc 8 _ rfl)
   have C9:=(hb.cell (p:=⟨b,off+i*11+9,none⟩) hbl).trans (hc 9 _ rfl)
   have C10:=(hb.cell (p:=⟨b,off+i*11+10,none⟩) hbl).trans (hc 10 _ rfl)
   rw [Nat.add_zero] at C0
   clear hc
   have hal:=(Below.refl wr.heap.size wr).alloc Nat.le.refl (.cells #[.string sn,.int .i64 sl,.int .i64 sc,.bool sb,.bool se,.string sd,.string su,.int .i64 sw,.int .i64 sr,.slice p1 m p3,.slice p4 ni p6] 79)
   have hX:=Bn.new wr [.string sn,.int .i64 sl,.int .i64 sc,.bool sb,.bool se,.string sd,.string su,.int .i64 sw,.int .i64 sr,.slice p1 m p3,.slice p4 ni p6] 79 _ rfl
   have hRx:=hRow.on (kp_hf d ok w) hGs hal
   have hbx:=hb.trans (hal.mono hb.size)
   have hGx:=Nat.lt_of_lt_of_le hGs hal.size
   have hcall:∀ w1,Below w.heap.size w w1->Calls Tryz.prog 82 #[.agg #[.string sn,.int .i64 sl,.int .i64 sc,.bool sb,.bool se,.string sd,.string su,.int .i64 sw,.int .i64 sr,.slice p1 m p3,.slice p4 ni p6]] w1 fun e w'=>∃ u1 u3,e=.returned (.agg #[.string sn,.int .i64 0,.int .i64 0,.bool sb,.bool se,.string sd,.string su,.int .i64 sw,.int .i64 sr,.slice u1 m u3,.slice p4 ni p6])/\RdK (Nw w1.heap.size w') w' 6 (rOn (Nw w1.heap.size w') w') (t.1.2.2.2.2.map stO) (.slice u1 m u3)/\Below w1.heap.size w1 w':=fun w1 b1=>salone_any sn sl sc sb se sd su sw sr p1 m p3 p4 ni p6 t.1.2.2.2.2 hz1 hz2 hz3 (HON.out.stay kp_on (ok':=ok) (fun b hb hl=>⟨hb,b1.block b hl⟩)) HM.out (by have:=HKO.out.2.2.2.1;rw [HM.out] at this;exact this) HKO.out.2.2.2.2
   go_upto_region 5 with fail
   clear C0 C1 C2 C3 C4 C5 C6 C7 C8 C9 C10 hal
   generalize wr.alloc (.cells #[.string sn,.int .i64 sl,.int .i64 sc,.bool sb,.bool se,.string sd,.string su,.int .i64 sw,.int .i64 sr,.slice p1 m p3,.slice p4 ni p6] 79)=wx at *
   obtain ⟨X,hXX⟩:∃ X,wr.heap.size=X:=⟨_,rfl⟩
   rw [hXX] at hX ⊢
   have HXX:Hid (wr.heap.size=X):=hXX
   clear hXX
   have x0:=(hX 0 _ rfl).1
   have x1:=(hX 1 _ rfl).1
   have x2:=(hX 2 _ rfl).1
   have x3:=(hX 3 _ rfl).1
   have x4:=(hX 4 _ rfl).1
   have x5:=(hX 5 _ rfl).1
   have x6:=(hX 6 _ rfl).1
   have x7:=(hX 7 _ rfl).1
   have x8:=(hX 8 _ rfl).1
   have x9:=(hX 9 _ rfl).1
   have x10:=(hX 10 _ rfl).1
   go_wp2_with (first
    | (go_at_call 82;refine (hcall _ hbx).mono ?_;rintro e w1 ⟨u1,u3,rfl,hr,b1⟩;have hp:rHf d ok w (Nw (w.heap.size+1) w1) w1 t [.string sn,.int .i64 0,.int .i64 0,.bool sb,.bool se,.string sd,.string su,.int .i64 sw,.int .i64 sr,.slice u1 m u3,.slice p4 ni p6]:=(⟨.slice u1 m u3,.slice p4 ni p6,(HV2.out _ _).symm,hr.stay kp_on (fun b hb hl=>hb.to (Nat.lt_of_lt_of_le hGx hb.1) rfl),HIN.out⟩);clear hr;have hR1:=hRx.on (kp_hf d ok w) hGx b1;obtain ⟨⟨r0,q0⟩,z0⟩:=hR1.1 (i*11+0) (mul_in hlt (by omega));obtain ⟨⟨r1,q1⟩,z1⟩:=hR1.1 (i*11+1) (mul_in hlt (by omega));obtain ⟨⟨r2,q2⟩,z2⟩:=hR1.1 (i*11+2) (mul_in hlt (by omega));obtain ⟨⟨r3,q3⟩,z3⟩:=hR1.1 (i*11+3) (mul_in hlt (by omega));obtain ⟨⟨r4,q4⟩,z4⟩:=hR1.1 (i*11+4) (mul_in hlt (by omega));obtain ⟨⟨r5,q5⟩,z5⟩:=hR1.1 (i*11+5) (mul_in hlt (by omega));obtain ⟨⟨r6,q6⟩,z6⟩:=hR1.1 (i*11+6) (mul_in hlt (by omega));obtain ⟨⟨r7,q7⟩,z7⟩:=hR1.1 (i*11+7) (mul_in hlt (by omega));obtain ⟨⟨r8,q8⟩,z8⟩:=hR1.1 (i*11+8) (mul_in hlt (by omega));obtain ⟨⟨r9,q9⟩,z9⟩:=hR1.1 (i*11+9) (mul_in hlt (by omega));obtain ⟨⟨r10,q10⟩,z10⟩:=hR1.1 (i*11+10) (mul_in hlt (by omega));rw [Nat.add_zero] at q0 z0)
    | fail)
   have hP:=hR1.put (kp_hf d ok w) (x:=t) (cs:=[.string sn,.int .i64 0,.int .i64 0,.bool sb,.bool se,.string sd,.string su,.int .i64 sw,.int .i64 sr,.slice u1 m u3,.slice p4 ni p6]) (by rw [hla];exact hlt) rfl hp
   rw [hla] at hP
   have hb2:=putL_below [.string sn,.int .i64 0,.int .i64 0,.bool sb,.bool se,.string sd,.string su,.int .i64 sw,.int .i64 sr,.slice u1 m u3,.slice p4 ni p6] w1 w.heap.size (i*11) (hbx.trans (b1.mono (Nat.le_of_lt hGx))) Nat.le.refl
   have hs2:w.heap.size < (putL w1 w.heap.size (i*11) [.string sn,.int .i64 0,.int .i64 0,.bool sb,.bool se,.string sd,.string su,.int .i64 sw,.int .i64 sr,.slice u1 m u3,.slice p4 ni p6]).heap.size:=by rw [putL_size];exact Nat.lt_of_lt_of_le hGx b1.size
   have hac2:(l).take (i+1)=acc++[t]:=by
    rw [List.take_succ_eq_append_getElem (by simp [HN.out];omega),HAC.out]
    simp [HQ.out]
   clear x0 r0 q0 z0 x1 r1 q1 z1 x2 r2 q2 z2 x3 r3 q3 z3 x4 r4 q4 z4 x5 r5 q5 z5 x6 r6 q6 z6 x7 r7 q7 z7 x8 r8 q8 z8 x9 r9 q9 z9 x10 r10 q10 z10 hR1 hRx hp
   go_wp2
   go_roundw
   case rel=>exact ⟨i+1,hlt,by go_num,by rw [hac2];exact hP,hb2,hs2⟩
   case measure=>simp [RowKit.intOf];omega
  ·have i1:¬ (i:Int) < (n:Int):=by omega
   have hin:i=n:=by omega
   have hfull:(l).take i=l:=List.take_of_length_le (by simp [HN.out];omega)
   rw [hfull] at hRow
   go_wp2
   go_ret
   exact ⟨rfl,hRow,hb,hGs⟩
def rSg (ok:Nat->Prop) (w:World) (x:Int × SgS) (cs:List Value):Prop:=rSt x.2.1 ok w x.2.2 cs
theorem kp_sg:Kp rSg:=fun _ _ _ _ x _ h hk=>kp_st x.2.1 h hk
theorem sg_let {ok:Nat->Prop}{w:World}{x:Int × SgS}{cs:List Value}(h:rSg ok w x cs):∃ (sn:ByteArray) (sl sc:Int) (sb se:Bool) (sd su:ByteArray) (sw sr:Int) (p1:Option Addr) (p3:Nat) (p4:Option Addr) (p6:Nat),cs=[.string sn,.int .i64 sl,.int .i64 sc,.bool sb,.bool se,.string sd,.string su,.int .i64 sw,.int .i64 sr,.slice p1 (sgO x.2).length p3,.slice p4 (sgI x.2) p6]/\Hid (sn=sgN x.2/\(sl,sc)=sgP x.2/\sb=(sgH x.2).2.1.1/\se=(sgH x.2).2.1.2/\sd=⟨(sgH x.2).2.2.1.1.toArray⟩/\su=⟨(sgH x.2).2.2.1.2.toArray⟩/\sw=(sgH x.2).2.2.2.1.1/\sr=(sgH x.2).2.2.2.1.2)/\RdK ok w 6 (rOn ok w) (sgO x.2) (.slice p1 (sgO x.2).length p3):=by
 obtain ⟨k,e,t⟩:=x
 cases e with
 | zero=>exact Empty.elim t
 | succ e=>
  obtain ⟨so,si,rfl,h1,h2⟩:=h
  obtain ⟨p1,p3,rfl,_⟩:=h1.form
  obtain ⟨p4,p6,rfl,_⟩:=h2.form
  exact ⟨_,_,_,_,_,_,_,_,_,p1,p3,p4,p6,rfl,⟨rfl,rfl,rfl,rfl,rfl,rfl,rfl,rfl⟩,h1⟩
theorem rdK_at {α:Type}{ok:Nat->Prop}{w:World}{k:Nat}{R:α->List Value->Prop}{l:List α}{a:Option Addr}{n cap:Nat}(h:RdK ok w k R l (.slice a n cap)) (j:Nat) (hj:j < l.length):∃ b off cs,a=some ⟨b,off,none⟩/\ok b/\b < w.heap.size/\cs.length=k/\R l[j] cs/\∀ i u,cs[i]?=some u->w.cell? ⟨b,off+j*k+i,none⟩=some u:=by
 obtain ⟨a1,cap1,he,h1,h2,h3⟩:=h
 simp only [Value.slice.injEq] at he
 obtain ⟨rfl,rfl,rfl⟩:=he
 exact h3 j hj
theorem ixS_any {ok:Nat->Prop}{w:World}{l:List (Int × SgS)}{v:Value}(h:RdK ok w 11 (rSg ok w) l v) (hl:l.length<=1000000) (n1:Nat) (ba lb:Array Value) (p:Nat->Bool) (eg:∀ args W,(callFunc n1 args).run Tryz.prog W=.ok (.enter n1 args) W)
  (hcl:∀ (i:Nat) (hi:i < l.length) (cs:List Value) (W:World),rSg ok w l[i] cs->Below w.heap.size w W->Calls Tryz.prog n1 (ba++#[.agg cs.toArray]++lb) W fun e w'=>e=.returned (.bool (p i))/\Below W.heap.size W w') :
  Calls Tryz.prog 160 #[v,.func (.func n1) ba lb] w fun e w'=>e=.returned (.int .i64 (ixF p l.length 0))/\Below w.heap.size w w':=by
 obtain ⟨a,cap,rfl,hlc,hcm⟩:=h.form
 unfold maxLen at hcm
 have HR:=mkHid h
 obtain ⟨n,hn⟩:∃ n,l.length=n:=⟨_,rfl⟩
 have HC:=mkHid hcl
 rw [hn] at hlc hl HR ⊢
 have HN:Hid (l.length=n):=hn
 clear h hn hcl
 go_enter Tryz.func160,Tryz.ntmps160
 go_wp2
 go_loopw [8] (fun ix wr=>∃ (i:Nat),i<=n/\ix=.int .i64 (i:Int)/\Hid (ixF p n 0=ixF p (n - i) i)/\Below w.heap.size w wr) (fun ix _=>n - (RowKit.intOf ix).toNat)
 case atStart=>exact ⟨0,Nat.zero_le _,rfl,rfl,Below.refl _ _⟩
 case round=>
  obtain ⟨i,hi,rfl,HX,hb⟩:=hrel
  by_cases hlt:i < n
  ·have hil:i < l.length:=by rw [HN.out];exact hlt
   obtain ⟨b,off,cs,rfl,_,hbl,_,hr,hc⟩:=rdK_at HR.out i hil
   have hcall:=HC.out i hil cs
   obtain ⟨sn,sl,sc,sb,se,sd,su,sw,sr,p1,p3,p4,p6,rfl,_,_⟩:=sg_let hr
   have hcall2:=fun W hW=>hcall W hr hW
   clear hcall hr
   obtain ⟨no,hno⟩:∃ no,(sgO l[i].2).length=no:=⟨_,rfl⟩
   obtain ⟨ni,hni⟩:∃ no,sgI l[i].2=no:=⟨_,rfl⟩
   rw [hno,hni] at hc hcall2
   clear hno hni
   have i1:(i:Int) < (n:Int):=by omega
   have i2:(0:Int)<=(i:Int):=by omega
   have hfu:n - i=(n - (i+1))+1:=by omega
   have C0:=(hb.cell (p:=⟨b,off+i*11+0,none⟩) hbl).trans (hc 0 _ rfl)
   have C1:=(hb.cell (p:=⟨b,off+i*11+1,none⟩) hbl).trans (hc 1 _ rfl)
   have C2:=(hb.cell (p:=⟨b,off+i*11+2,none⟩) hbl).trans (hc 2 _ rfl)
   have C3:=(hb.cell (p:=⟨b,off+i*11+3,none⟩) hbl).trans (hc 3 _ rfl)
   have C4:=(hb.cell (p:=⟨b,off+i*11+4,none⟩) hbl).trans (hc 4 _ rfl)
   have C5:=(hb.cell (p:=⟨b,off+i*11+5,none⟩) hbl).trans (hc 5 _ rfl)
   have C6:=(hb.cell (p:=⟨b,off+i*11+6,none⟩) hbl).trans (hc 6 _ rfl)
   have C7:=(hb.cell (p:=⟨b,off+i*11+7,none⟩) hbl).trans (hc 7 _ rfl)
   have C8:=(hb.cell (p:=⟨b,off+i*11+8,none⟩) hbl).trans (hc 8 _ rfl)
   have C9:=(hb.cell (p:=⟨b,off+i*11+9,none⟩) hbl).trans (hc 9 _ rfl)
   have C10:=(hb.cell (p:=⟨b,off+i*11+10,none⟩) hbl).trans (hc 10 _ rfl)
   rw [Nat.add_zero] at C0
   clear hc
   cases hp:p i with
   | true=>
    have HE:Hid (ixF p n 0=(i:Int)):=by
     show _=_
     rw [HX.out,hfu]
     unfold ixF
     rw [if_pos hp]
    rw [hp] at hcall2
    clear hfu
    go_wp2_with (first|(refine (hcall2 _ hb).mono ?_;rintro e w1 ⟨rfl,b1⟩)|fail)
    go_ret
    exact ⟨by rw [HE.out];rfl,hb.trans (b1.mono hb.size)⟩
   | false=>
    have HE:Hid (ixF p n 0=ixF p (n - (i+1)) (i+1)):=by
     show _=_
     rw [HX.out,hfu]
     conv=>lhs;unfold ixF
     rw [if_neg (by rw [hp];simp)]
    rw [hp] at hcall2
    clear hfu
    go_wp2_with (first|(refine (hcall2 _ hb).mono ?_;rintro e w1 ⟨rfl,b1⟩)|fail)
    go_roundw
    case rel=>exact ⟨i+1,hlt,by go_num,HE,hb.trans (b1.mono hb.size)⟩
    case measure=>simp [RowKit.intOf];omega
  ·have i1:¬ (i:Int) < (n:Int):=by omega
   have HE:Hid (ixF p n 0 = -1):=by
    show _=_
    rw [HX.out,show n - i=0 by omega]
    rfl
   go_wp2
   go_ret
   exact ⟨by rw [HE.out];rfl,hb⟩
theorem cfS_any {ok:Nat->Prop}{w:World}{l:List (Int × SgS)}{v:Value}(h:RdK ok w 11 (rSg ok w) l v) (hl:l.length<=1000000) (n1:Nat) (ba lb:Array Value) (p:Nat->Bool) (eg:∀ args W,(callFunc n1 args).run Tryz.prog W=.ok (.enter n1 args) W)
  (hcl:∀ (i:Nat) (hi:i < l.length) (cs:List Value) (W:World),rSg ok w l[i] cs->Below w.heap.size w W->Calls Tryz.prog n1 (ba++#[.agg cs.toArray]++lb) W fun e w'=>e=.returned (.bool (p i))/\Below W.heap.size W w') :
  Calls Tryz.prog 172 #[v,.func (.func n1) ba lb] w fun e w'=>e=.returned (.bool (decide (0<=ixF p l.length 0)))/\Below w.heap.size w w':=by
 have hc:=ixS_any h hl n1 ba lb p eg hcl
 obtain ⟨a,cap,rfl,_⟩:=h.form
 obtain ⟨n,hn⟩:∃ n,l.length=n:=⟨_,rfl⟩
 rw [hn] at hc ⊢
 obtain ⟨x,hx⟩:∃ x,ixF p n 0=x:=⟨_,rfl⟩
 rw [hx] at hc ⊢
 clear hn hx h hcl
 go_enter Tryz.func172,Tryz.ntmps172
 by_cases h0:0<=x
 ·go_wp2_with (first|(go_at_call 160;refine hc.mono ?_;rintro e w1 ⟨rfl,b1⟩)|fail)
  go_ret
  exact ⟨by simp [h0],b1⟩
 ·go_wp2_with (first|(go_at_call 160;refine hc.mono ?_;rintro e w1 ⟨rfl,b1⟩)|fail)
  go_ret
  exact ⟨by simp [h0],b1⟩
def rTx (ok:Nat->Prop) (w:World) (x:ByteArray) (cs:List Value):Prop:=cs=[.string x]
theorem ixV_any {ok:Nat->Prop}{w:World}{l:List (List UInt8 × Int × Pl)}{v:Value}(h:RdK ok w 4 (rVar ok w) l v) (hl:l.length<=1000000) (n1:Nat) (ba lb:Array Value) (p:Nat->Bool) (eg:∀ args W,(callFunc n1 args).run Tryz.prog W=.ok (.enter n1 args) W)
  (hcl:∀ (i:Nat) (hi:i < l.length) (cs:List Value) (W:World),rVar ok w l[i] cs->Below w.heap.size w W->Calls Tryz.prog n1 (ba++#[.agg cs.toArray]++lb) W fun e w'=>e=.returned (.bool (p i))/\Below W.heap.size W w') :
  Calls Tryz.prog 156 #[v,.func (.func n1) ba lb] w fun e w'=>e=.returned (.int .i64 (ixF p l.length 0))/\Below w.heap.size w w':=by
 obtain ⟨a,cap,rfl,hlc,hcm⟩:=h.form
 unfold maxLen at hcm
 have HR:=mkHid h
 obtain ⟨n,hn⟩:∃ n,l.length=n:=⟨_,rfl⟩
 have HC:=mkHid hcl
 rw [hn] at hlc hl HR ⊢
 have HN:Hid (l.length=n):=hn
 clear h hn hcl
 go_enter Tryz.func156,Tryz.ntmps156
 go_wp2
 go_loopw [8] (fun ix wr=>∃ (i:Nat),i<=n/\ix=.int .i64 (i:Int)/\Hid (ixF p n 0=ixF p (n - i) i)/\Below w.heap.size w wr) (fun ix _=>n - (RowKit.intOf ix).toNat)
 case atStart=>exact ⟨0,Nat.zero_le _,rfl,rfl,Below.refl _ _⟩
 case round=>
  obtain ⟨i,hi,rfl,HX,hb⟩:=hrel
  by_cases hlt:i < n
  ·have hil:i < l.length:=by rw [HN.out];exact hlt
   obtain ⟨b,off,cs,rfl,_,hbl,_,hr,hc⟩:=rdK_at HR.out i hil
   have hcall:=HC.out i hil cs
   obtain ⟨x0,x1,x2,x3,hxv⟩:∃ x0 x1 x2 x3,varV l[i]=[.string x0,.int .i64 x1,.int .i64 x2,.int .i64 x3]:=⟨_,_,_,_,rfl⟩
   have hr':cs=[.string x0,.int .i64 x1,.int .i64 x2,.int .i64 x3]:=Eq.trans hr hxv
   have hcall2:=fun W hW=>hcall W hr hW
   subst hr'
   clear hcall hr hxv
   have i1:(i:Int) < (n:Int):=by omega
   have i2:(0:Int)<=(i:Int):=by omega
   have hfu:n - i=(n - (i+1))+1:=by omega
   have C0:=(hb.cell (p:=⟨b,off+i*4+0,none⟩) hbl).trans (hc 0 _ rfl)
   have C1:=(hb.cell (p:=⟨b,off+i*4+1,none⟩) hbl).trans (hc 1 _ rfl)
   have C2:=(hb.cell (p:=⟨b,off+i*4+2,none⟩) hbl).trans (hc 2 _ rfl)
   have C3:=(hb.cell (p:=⟨b,off+i*4+3,none⟩) hbl).trans (hc 3 _ rfl)
   rw [Nat.add_zero] at C0
   clear hc
   cases hp:p i with
   | true=>
    have HE:Hid (ixF p n 0=(i:Int)):=by
     show _=_
     rw [HX.out,hfu]
     unfold ixF
     rw [if_pos hp]
    rw [hp] at hcall2
    clear hfu
    go_wp2_with (first|(refine (hcall2 _ hb).mono ?_;rintro e w1 ⟨rfl,b1⟩)|fail)
    go_ret
    exact ⟨by rw [HE.out];rfl,hb.trans (b1.mono hb.size)⟩
   | false=>
    have HE:Hid (ixF p n 0=ixF p (n - (i+1)) (i+1)):=by
     show _=_
     rw [HX.out,hfu]
     conv=>lhs;unfold ixF
     rw [if_neg (by rw [hp];simp)]
    rw [hp] at hcall2
    clear hfu
    go_wp2_with (first|(refine (hcall2 _ hb).mono ?_;rintro e w1 ⟨rfl,b1⟩)|fail)
    go_roundw
    case rel=>exact ⟨i+1,hlt,by go_num,HE,hb.trans (b1.mono hb.size)⟩
    case measure=>simp [RowKit.intOf];omega
  ·have i1:¬ (i:Int) < (n:Int):=by omega
   have HE:Hid (ixF p n 0 = -1):=by
    show _=_
    rw [HX.out,show n - i=0 by omega]
    rfl
   go_wp2
   go_ret
   exact ⟨by rw [HE.out];rfl,hb⟩
theorem ixE_any {ok:Nat->Prop}{w:World}{l:List (List UInt8 × Sx)}{v:Value}(h:RdK ok w 2 (rSet ok w) l v) (hl:l.length<=1000000) (n1:Nat) (ba lb:Array Value) (p:Nat->Bool) (eg:∀ args W,(callFunc n1 args).run Tryz.prog W=.ok (.enter n1 args) W)
  (hcl:∀ (i:Nat) (hi:i < l.length) (cs:List Value) (W:World),rSet ok w l[i] cs->Below w.heap.size w W->Calls Tryz.prog n1 (ba++#[.agg cs.toArray]++lb) W fun e w'=>e=.returned (.bool (p i))/\Below W.heap.size W w') :
  Calls Tryz.prog 166 #[v,.func (.func n1) ba lb] w fun e w'=>e=.returned (.int .i64 (ixF p l.length 0))/\Below w.heap.size w w':=by
 obtain ⟨a,cap,rfl,hlc,hcm⟩:=h.form
 unfold maxLen at hcm
 have HR:=mkHid h
 obtain ⟨n,hn⟩:∃ n,l.length=n:=⟨_,rfl⟩
 have HC:=mkHid hcl
 rw [hn] at hlc hl HR ⊢
 have HN:Hid (l.length=n):=hn
 clear h hn hcl
 go_enter Tryz.func166,Tryz.ntmps166
 go_wp2
 go_loopw [8] (fun ix wr=>∃ (i:Nat),i<=n/\ix=.int .i64 (i:Int)/\Hid (ixF p n 0=ixF p (n - i) i)/\Below w.heap.size w wr) (fun ix _=>n - (RowKit.intOf ix).toNat)
 case atStart=>exact ⟨0,Nat.zero_le _,rfl,rfl,Below.refl _ _⟩
 case round=>
  obtain ⟨i,hi,rfl,HX,hb⟩:=hrel
  by_cases hlt:i < n
  ·have hil:i < l.length:=by rw [HN.out];exact hlt
   obtain ⟨b,off,cs,rfl,_,hbl,_,hr,hc⟩:=rdK_at HR.out i hil
   have hcall:=HC.out i hil cs
   obtain ⟨s0,hs0⟩:∃ s0,sV l[i].1=.string s0:=⟨_,rfl⟩
   have hform:=exX_form l[i].2
   obtain ⟨tv,htv⟩:∃ tv,exX l[i].2=tv:=⟨_,rfl⟩
   have hr':cs=[.string s0,tv]:=by rw [<- hs0,<- htv];exact hr
   have hcall2:=fun W hW=>hcall W hr hW
   subst hr'
   rw [htv] at hform
   clear hcall hr hs0 htv
   have i1:(i:Int) < (n:Int):=by omega
   have i2:(0:Int)<=(i:Int):=by omega
   have hfu:n - i=(n - (i+1))+1:=by omega
   rcases hform with rfl|⟨tu,ty,rfl⟩
   all_goals (
    have C0:=(hb.cell (p:=⟨b,off+i*2+0,none⟩) hbl).trans (hc 0 _ rfl)
    have C1:=(hb.cell (p:=⟨b,off+i*2+1,none⟩) hbl).trans (hc 1 _ rfl)
    rw [Nat.add_zero] at C0
    clear hc
    cases hp:p i with
    | true=>
     have HE:Hid (ixF p n 0=(i:Int)):=by
      show _=_
      rw [HX.out,hfu]
      unfold ixF
      rw [if_pos hp]
     rw [hp] at hcall2
     clear hfu
     go_wp2_with (first|(refine (hcall2 _ hb).mono ?_;rintro e w1 ⟨rfl,b1⟩)|fail)
     go_ret
     exact ⟨by rw [HE.out];rfl,hb.trans (b1.mono hb.size)⟩
    | false=>
     have HE:Hid (ixF p n 0=ixF p (n - (i+1)) (i+1)):=by
      show _=_
      rw [HX.out,hfu]
      conv=>lhs;unfold ixF
      rw [if_neg (by rw [hp];simp)]
     rw [hp] at hcall2
     clear hfu
     go_wp2_with (first|(refine (hcall2 _ hb).mono ?_;rintro e w1 ⟨rfl,b1⟩)|fail)
     go_roundw
     case rel=>exact ⟨i+1,hlt,by go_num,HE,hb.trans (b1.mono hb.size)⟩
     case measure=>simp [RowKit.intOf];omega)
  ·have i1:¬ (i:Int) < (n:Int):=by omega
   have HE:Hid (ixF p n 0 = -1):=by
    show _=_
    rw [HX.out,show n - i=0 by omega]
    rfl
   go_wp2
   go_ret
   exact ⟨by rw [HE.out];rfl,hb⟩
theorem cfE_any {ok:Nat->Prop}{w:World}{l:List (List UInt8 × Sx)}{v:Value}(h:RdK ok w 2 (rSet ok w) l v) (hl:l.length<=1000000) (n1:Nat) (ba lb:Array Value) (p:Nat->Bool) (eg:∀ args W,(callFunc n1 args).run Tryz.prog W=.ok (.enter n1 args) W)
  (hcl:∀ (i:Nat) (hi:i < l.length) (cs:List Value) (W:World),rSet ok w l[i] cs->Below w.heap.size w W->Calls Tryz.prog n1 (ba++#[.agg cs.toArray]++lb) W fun e w'=>e=.returned (.bool (p i))/\Below W.heap.size W w') :
  Calls Tryz.prog 138 #[v,.func (.func n1) ba lb] w fun e w'=>e=.returned (.bool (decide (0<=ixF p l.length 0)))/\Below w.heap.size w w':=by
 have hc:=ixE_any h hl n1 ba lb p eg hcl
 obtain ⟨a,cap,rfl,_⟩:=h.form
 obtain ⟨n,hn⟩:∃ n,l.length=n:=⟨_,rfl⟩
 rw [hn] at hc ⊢
 obtain ⟨x,hx⟩:∃ x,ixF p n 0=x:=⟨_,rfl⟩
 rw [hx] at hc ⊢
 clear hn hx h hcl
 go_enter Tryz.func138,Tryz.ntmps138
 by_cases h0:0<=x
 ·go_wp2_with (first|(go_at_call 166;refine hc.mono ?_;rintro e w1 ⟨rfl,b1⟩)|fail)
  go_ret
  exact ⟨by simp [h0],b1⟩
 ·go_wp2_with (first|(go_at_call 166;refine hc.mono ?_;rintro e w1 ⟨rfl,b1⟩)|fail)
  go_ret
  exact ⟨by simp [h0],b1⟩
theorem ixT_any {ok:Nat->Prop}{w:World}{l:List (ByteArray)}{v:Value}(h:RdK ok w 1 (rTx ok w) l v) (hl:l.length<=1000000) (n1:Nat) (ba lb:Array Value) (p:Nat->Bool) (eg:∀ args W,(callFunc n1 args).run Tryz.prog W=.ok (.enter n1 args) W)
  (hcl:∀ (i:Nat) (hi:i < l.length) (cs:List Value) (W:World),rTx ok w l[i] cs->Below w.heap.size w W->Calls Tryz.prog n1 (ba++#[cs.getD 0 .nilIface]++lb) W fun e w'=>e=.returned (.bool (p i))/\Below W.heap.size W w') :
  Calls Tryz.prog 171 #[v,.func (.func n1) ba lb] w fun e w'=>e=.returned (.int .i64 (ixF p l.length 0))/\Below w.heap.size w w':=by
 obtain ⟨a,cap,rfl,hlc,hcm⟩:=h.form
 unfold maxLen at hcm
 have HR:=mkHid h
 obtain ⟨n,hn⟩:∃ n,l.length=n:=⟨_,rfl⟩
 have HC:=mkHid hcl
 rw [hn] at hlc hl HR ⊢
 have HN:Hid (l.length=n):=hn
 clear h hn hcl
 go_enter Tryz.func171,Tryz.ntmps171
 go_wp2
 go_loopw [8] (fun ix wr=>∃ (i:Nat),i<=n/\ix=.int .i64 (i:Int)/\Hid (ixF p n 0=ixF p (n - i) i)/\Below w.heap.size w wr) (fun ix _=>n - (RowKit.intOf ix).toNat)
 case atStart=>exact ⟨0,Nat.zero_le _,rfl,rfl,Below.refl _ _⟩
 case round=>
  obtain ⟨i,hi,rfl,HX,hb⟩:=hrel
  by_cases hlt:i < n
  ·have hil:i < l.length:=by rw [HN.out];exact hlt
   obtain ⟨b,off,cs,rfl,_,hbl,_,hr,hc⟩:=rdK_at HR.out i hil
   have hcall:=HC.out i hil cs
   have hr':cs=[.string l[i]]:=hr
   have hcall2:=fun W hW=>hcall W hr hW
   subst hr'
   obtain ⟨s0,hs0⟩:∃ s0,l[i]=s0:=⟨_,rfl⟩
   rw [hs0] at hc hcall2
   simp only [List.getD_cons_zero] at hcall2
   clear hcall hr hs0
   have i1:(i:Int) < (n:Int):=by omega
   have i2:(0:Int)<=(i:Int):=by omega
   have hfu:n - i=(n - (i+1))+1:=by omega
   have C0:=(hb.cell (p:=⟨b,off+i*1+0,none⟩) hbl).trans (hc 0 _ rfl)
   rw [Nat.add_zero] at C0
   rw [Nat.mul_one] at C0
   clear hc
   cases hp:p i with
   | true=>
    have HE:Hid (ixF p n 0=(i:Int)):=by
     show _=_
     rw [HX.out,hfu]
     unfold ixF
     rw [if_pos hp]
    rw [hp] at hcall2
    clear hfu
    go_wp2_with (first|(refine (hcall2 _ hb).mono ?_;rintro e w1 ⟨rfl,b1⟩)|fail)
    go_ret
    exact ⟨by rw [HE.out];rfl,hb.trans (b1.mono hb.size)⟩
   | false=>
    have HE:Hid (ixF p n 0=ixF p (n - (i+1)) (i+1)):=by
     show _=_
     rw [HX.out,hfu]
     conv=>lhs;unfold ixF
     rw [if_neg (by rw [hp];simp)]
    rw [hp] at hcall2
    clear hfu
    go_wp2_with (first|(refine (hcall2 _ hb).mono ?_;rintro e w1 ⟨rfl,b1⟩)|fail)
    go_roundw
    case rel=>exact ⟨i+1,hlt,by go_num,HE,hb.trans (b1.mono hb.size)⟩
    case measure=>simp [RowKit.intOf];omega
  ·have i1:¬ (i:Int) < (n:Int):=by omega
   have HE:Hid (ixF p n 0 = -1):=by
    show _=_
    rw [HX.out,show n - i=0 by omega]
    rfl
   go_wp2
   go_ret
   exact ⟨by rw [HE.out];rfl,hb⟩
theorem cfT_any {ok:Nat->Prop}{w:World}{l:List (ByteArray)}{v:Value}(h:RdK ok w 1 (rTx ok w) l v) (hl:l.length<=1000000) (n1:Nat) (ba lb:Array Value) (p:Nat->Bool) (eg:∀ args W,(callFunc n1 args).run Tryz.prog W=.ok (.enter n1 args) W)
  (hcl:∀ (i:Nat) (hi:i < l.length) (cs:List Value) (W:World),rTx ok w l[i] cs->Below w.heap.size w W->Calls Tryz.prog n1 (ba++#[cs.getD 0 .nilIface]++lb) W fun e w'=>e=.returned (.bool (p i))/\Below W.heap.size W w') :
  Calls Tryz.prog 164 #[v,.func (.func n1) ba lb] w fun e w'=>e=.returned (.bool (decide (0<=ixF p l.length 0)))/\Below w.heap.size w w':=by
 have hc:=ixT_any h hl n1 ba lb p eg hcl
 obtain ⟨a,cap,rfl,_⟩:=h.form
 obtain ⟨n,hn⟩:∃ n,l.length=n:=⟨_,rfl⟩
 rw [hn] at hc ⊢
 obtain ⟨x,hx⟩:∃ x,ixF p n 0=x:=⟨_,rfl⟩
 rw [hx] at hc ⊢
 clear hn hx h hcl
 go_enter Tryz.func164,Tryz.ntmps164
 by_cases h0:0<=x
 ·go_wp2_with (first|(go_at_call 171;refine hc.mono ?_;rintro e w1 ⟨rfl,b1⟩)|fail)
  go_ret
  exact ⟨by simp [h0],b1⟩
 ·go_wp2_with (first|(go_at_call 171;refine hc.mono ?_;rintro e w1 ⟨rfl,b1⟩)|fail)
  go_ret
  exact ⟨by simp [h0],b1⟩
def rIn (ok:Nat->Prop) (w:World) (x:Int × SgS) (cs:List Value):Prop:=cs=[.int .i64 x.1]
theorem kp_in:Kp rIn:=fun _ _ _ _ _ _ h _=>h
def Ly (ok:Nat->Prop) (w:World) (Lb:Nat) {d:Nat}(c:ChG d) (fs:List (Int × SgS)):Prop:=
 ∃ (g0:ByteArray) (g1 g2 g3:Int) (g4:Option Addr) (g6:Nat) (g7:Option Addr) (g8 g9:Nat) (sa:Option Addr) (sc:Nat) (oa:Option Addr) (oc:Nat),Bn w Lb [.string g0,.int .i64 g1,.int .i64 g2,.int .i64 g3,.slice g4 c.2.2.1.length g6,.slice g7 g8 g9,.slice sa fs.length sc,.slice oa fs.length oc]/\
  RdK ok w 4 (rVar ok w) c.2.2.1 (.slice g4 c.2.2.1.length g6)/\RdK ok w 11 (rSg ok w) fs (.slice sa fs.length sc)/\RdK ok w 1 (rIn ok w) fs (.slice oa fs.length oc)/\(g2,g3)=c.1.2
theorem Ly.on {ok:Nat->Prop}{w w':World}{Lb d:Nat}{c:ChG d}{fs:List (Int × SgS)}(h:Ly ok w Lb c fs) (hb:Below w.heap.size w w'):Ly ok w' Lb c fs:=by
 obtain ⟨g0,g1,g2,g3,g4,g6,g7,g8,g9,sa,sc,oa,oc,h1,h2,h3,h4,h5⟩:=h
 exact ⟨g0,g1,g2,g3,g4,g6,g7,g8,g9,sa,sc,oa,oc,h1.on hb,h2.stay kp_var (fun b hb' hl=>⟨hb',hb.block b hl⟩),h3.stay kp_sg (fun b hb' hl=>⟨hb',hb.block b hl⟩),h4.stay kp_in (fun b hb' hl=>⟨hb',hb.block b hl⟩),h5⟩
def atB {α:Type}(l:List α) (p:α->Bool) (i:Nat):Bool:=match l[i]? with
 | some x=>p x
 | none=>false
theorem atB_of {α:Type}{l:List α}{p:α->Bool}{i:Nat}(h:i < l.length):atB l p i=p l[i]:=by
 unfold atB
 rw [List.getElem?_eq_getElem h]
def fdS (fs:List (Int × SgS)) (nm:ByteArray):Int:=ixF (atB fs (fun x=>(sgN x.2).toList == nm.toList)) fs.length 0
def fdV (vs:List (List UInt8 × Int × Pl)) (nm:ByteArray):Int:=ixF (atB vs (fun x=>(⟨x.1.toArray⟩:ByteArray).toList == nm.toList)) vs.length 0
theorem stN_any {ok:Nat->Prop}{w W:World}{x:Int × SgS}{cs:List Value}(hr:rSg ok w x cs) (X:Nat) (nm:ByteArray) (hX:Bn W X [.string nm]) :
  Calls Tryz.prog 161 #[.agg cs.toArray,.pointer (some ⟨X,0,none⟩)] W fun e w'=>e=.returned (.bool ((sgN x.2).toList == nm.toList))/\Below W.heap.size W w':=by
 obtain ⟨sn,sl,sc,sb,se,sd,su,sw,sr,p1,p3,p4,p6,rfl,HS,_⟩:=sg_let hr
 rw [<- HS.out.1]
 obtain ⟨no,hno⟩:∃ no,(sgO x.2).length=no:=⟨_,rfl⟩
 obtain ⟨ni,hni⟩:∃ no,sgI x.2=no:=⟨_,rfl⟩
 rw [hno,hni]
 clear hr hno hni HS
 have hal:Below W.heap.size W (W.alloc (.cells #[.string sn,.int .i64 sl,.int .i64 sc,.bool sb,.bool se,.string sd,.string su,.int .i64 sw,.int .i64 sr,.slice p1 no p3,.slice p4 ni p6] 79)):=(Below.refl _ _).alloc Nat.le.refl _
 have hX2:=hX.on hal
 have x0:=(hX2 0 _ rfl).1
 go_enter Tryz.func161,Tryz.ntmps161
 go_wp2
 go_ret
 exact ⟨rfl,hal⟩
theorem vaN_any {ok:Nat->Prop}{w W:World}{x:List UInt8 × Int × Pl}{cs:List Value}(hr:rVar ok w x cs) (X:Nat) (nm:ByteArray) (hX:Bn W X [.string nm]) :
  Calls Tryz.prog 157 #[.agg cs.toArray,.pointer (some ⟨X,0,none⟩)] W fun e w'=>e=.returned (.bool ((⟨x.1.toArray⟩:ByteArray).toList == nm.toList))/\Below W.heap.size W w':=by
 obtain ⟨x0,x1,x2,x3,hxv,HS⟩:∃ x0 x1 x2 x3,varV x=[.string x0,.int .i64 x1,.int .i64 x2,.int .i64 x3]/\Hid ((⟨x.1.toArray⟩:ByteArray)=x0):=⟨_,_,_,_,rfl,rfl⟩
 have hr':cs=[.string x0,.int .i64 x1,.int .i64 x2,.int .i64 x3]:=Eq.trans hr hxv
 subst hr'
 rw [HS.out]
 clear hr hxv HS
 have hal:Below W.heap.size W (W.alloc (.cells #[.string x0,.int .i64 x1,.int .i64 x2,.int .i64 x3] 92)):=(Below.refl _ _).alloc Nat.le.refl _
 have hX2:=hX.on hal
 have y0:=(hX2 0 _ rfl).1
 go_enter Tryz.func157,Tryz.ntmps157
 go_wp2
 go_ret
 exact ⟨rfl,hal⟩
theorem stateL_any {ok:Nat->Prop}{w:World}{Lb d:Nat}{c:ChG d}{fs:List (Int × SgS)}(h:Ly ok w Lb c fs) (hl:fs.length<=1000000) (nm:ByteArray) :
  Calls Tryz.prog 133 #[.pointer (some ⟨Lb,0,none⟩),.string nm] w fun e w'=>e=.returned (.int .i64 (fdS fs nm))/\Below w.heap.size w w':=by
 have hal:Below w.heap.size w (w.alloc (.cells #[.string nm] 9)):=(Below.refl _ _).alloc Nat.le.refl _
 have hX:Bn (w.alloc (.cells #[.string nm] 9)) w.heap.size [.string nm]:=Bn.new w [.string nm] 9 _ rfl
 obtain ⟨g0,g1,g2,g3,g4,g6,g7,g8,g9,sa,sc,oa,oc,h1,h2,h3,h4,h5⟩:=h.on hal
 have hc:Calls Tryz.prog 160 #[.slice sa fs.length sc,.func (.func 161) #[] #[.pointer (some ⟨w.heap.size,0,none⟩)]] (w.alloc (.cells #[.string nm] 9)) fun e w'=>e=.returned (.int .i64 (fdS fs nm))/\Below (w.alloc (.cells #[.string nm] 9)).heap.size (w.alloc (.cells #[.string nm] 9)) w':=
  ixS_any h3 hl 161 #[] #[.pointer (some ⟨w.heap.size,0,none⟩)] _ (enters_of Tryz.func161 (by kernel_rfl) rfl) (fun i hi cs W hr hb=>by
   have:=stN_any hr w.heap.size nm (hX.on hb)
   rw [<- atB_of (p:=fun x:Int × SgS=>(sgN x.2).toList == nm.toList) hi] at this
   exact this)
 obtain ⟨n,hn⟩:∃ n,fs.length=n:=⟨_,rfl⟩
 rw [hn] at h1 hc
 obtain ⟨F,hF⟩:∃ F,fdS fs nm=F:=⟨_,rfl⟩
 rw [hF] at hc ⊢
 have c6:=(h1 6 _ rfl).1
 clear h2 h3 h4 h5 hn hF h1 hX h
 go_enter Tryz.func133,Tryz.ntmps133
 go_wp2_with (first|(go_at_call 160;refine hc.mono ?_;rintro e w1 ⟨rfl,b1⟩)|fail)
 go_ret
 exact ⟨rfl,hal.trans (b1.mono hal.size)⟩
theorem varL_any {ok:Nat->Prop}{w:World}{Lb d:Nat}{c:ChG d}{fs:List (Int × SgS)}(h:Ly ok w Lb c fs) (hl:c.2.2.1.length<=1000000) (nm:ByteArray) :
  Calls Tryz.prog 130 #[.pointer (some ⟨Lb,0,none⟩),.string nm] w fun e w'=>e=.returned (.int .i64 (fdV c.2.2.1 nm))/\Below w.heap.size w w':=by
 have hal:Below w.heap.size w (w.alloc (.cells #[.string nm] 9)):=(Below.refl _ _).alloc Nat.le.refl _
 have hX:Bn (w.alloc (.cells #[.string nm] 9)) w.heap.size [.string nm]:=Bn.new w [.string nm] 9 _ rfl
 obtain ⟨g0,g1,g2,g3,g4,g6,g7,g8,g9,sa,sc,oa,oc,h1,h2,h3,h4,h5⟩:=h.on hal
 have hc:Calls Tryz.prog 156 #[.slice g4 c.2.2.1.length g6,.func (.func 157) #[] #[.pointer (some ⟨w.heap.size,0,none⟩)]] (w.alloc (.cells #[.string nm] 9)) fun e w'=>e=.returned (.int .i64 (fdV c.2.2.1 nm))/\Below (w.alloc (.cells #[.string nm] 9)).heap.size (w.alloc (.cells #[.string nm] 9)) w':=
  ixV_any h2 hl 157 #[] #[.pointer (some ⟨w.heap.size,0,none⟩)] _ (enters_of Tryz.func157 (by kernel_rfl) rfl) (fun i hi cs W hr hb=>by
   have:=vaN_any hr w.heap.size nm (hX.on hb)
   rw [<- atB_of (p:=fun x:List UInt8 × Int × Pl=>(⟨x.1.toArray⟩:ByteArray).toList == nm.toList) hi] at this
   exact this)
 obtain ⟨n,hn⟩:∃ n,fs.length=n:=⟨_,rfl⟩
 obtain ⟨nv,hnv⟩:∃ n,c.2.2.1.length=n:=⟨_,rfl⟩
 rw [hn,hnv] at h1
 rw [hnv] at hc
 obtain ⟨F,hF⟩:∃ F,fdV c.2.2.1 nm=F:=⟨_,rfl⟩
 rw [hF] at hc ⊢
 have c6:=(h1 4 _ rfl).1
 clear h2 h3 h4 h5 hn hF h1 hX h hnv
 go_enter Tryz.func130,Tryz.ntmps130
 go_wp2_with (first|(go_at_call 156;refine hc.mono ?_;rintro e w1 ⟨rfl,b1⟩)|fail)
 go_ret
 exact ⟨rfl,hal.trans (b1.mono hal.size)⟩
