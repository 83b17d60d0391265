import Derived.Test.YtlgnahpfggagoaaGreatDoorWzc11
import Derived.Test.YtlgnahpfggagoaaGreatDoorWzc08
import Derived.Test.YtlgnahpfggagoaaGreatDoorWzc07
import Derived.Deep.LoopGhost
import Derived.Test.YtlgnahpfggagoaaGreatDoorWzc04
import Derived.Test.YtlgnahpfggagoaaGreatDoorWzc03
import Derived.Deep.DeepCutAuto
import Derived.Deep.RegionHeldLaw
import Derived.Lib.ParseIntBCases
import Derived.Lib.AtoiAll
/- rounds, Check, Right. -/
namespace Go.Proofs.YtlgnahpfggagoaaGreatDoor
open Go.RowKit Go.Lib
set_option linter.unusedSimpArgs false
set_option linter.unusedVariables false
attribute [local go_sem ↓] Go.wp_at_zero Go.wp_at_succ
theorem run_storeF (P:Program) (w:World) (a:Addr) (m:Mode) (f:Fn) (x y:Array Value):(store a (.func f x y) m).run P w=stored P w a (.func f x y) m:=run_store P w a _ m rfl
attribute [local go_sem] run_storeF
def rdsC {d:Nat}(c:ChG d) (fs:List (Int × SgS)):List (Int × Option Pl):=[(4,tmR c fs),(14,ntR c fs),(3,orR fs),(5,unR c fs),(16,miR fs),(15,asR fs),(17,bwR fs)]
/-- The first round that tells a place, and that. -/
def ckL:List (Int × Option Pl)→Pl × Int
 | []=>((0,0),0)
 | (n,some a) :: _=>(a,n)
 | (_,none) :: r=>ckL r
def ckC {d:Nat}(c:ChG d):Pl × Int:=if chF d c=true then ckL (rdsC c (fsC c)) else ((0,0),1)
theorem rounds_any (W:World) (Lb:Nat):Calls Tryz.prog 17 #[.pointer (some ⟨Lb,0,none⟩)] W fun e w'=>e=.returned (.slice (some ⟨W.heap.size,0,none⟩) 7 7)∧w'=W.alloc (.cells #[.int .i64 4,.func (.func 27) #[.pointer (some ⟨Lb,0,none⟩)] #[],.int .i64 14,.func (.func 28) #[.pointer (some ⟨Lb,0,none⟩)] #[],.int .i64 3,.func (.func 29) #[.pointer (some ⟨Lb,0,none⟩)] #[],.int .i64 5,.func (.func 30) #[.pointer (some ⟨Lb,0,none⟩)] #[],.int .i64 16,.func (.func 31) #[.pointer (some ⟨Lb,0,none⟩)] #[],.int .i64 15,.func (.func 32) #[.pointer (some ⟨Lb,0,none⟩)] #[],.int .i64 17,.func (.func 33) #[.pointer (some ⟨Lb,0,none⟩)] #[]] 70):=by
 go_enter Tryz.func17,Tryz.ntmps17
 go_wp2
 go_ret
 exact ⟨rfl,rfl⟩
theorem chk_res {w:World}{R:Nat}{a b q:Int}{tmps:Array Value}(hR:Bn w R [.int .i64 a,.int .i64 b]) (ht:tmps.getD 2 undef=.pointer (some ⟨R,0,none⟩)) (ht2:tmps.getD 3 undef=.int .i64 q):(results Tryz.f10 tmps).run Tryz.prog w=.ok (.tuple #[.agg #[.int .i64 a,.int .i64 b],.int .i64 q]) w:=by
 have ht':tmps[2]?.getD undef=.pointer (some ⟨R,0,none⟩):=by simpa using ht
 have ht2':tmps[3]?.getD undef=.int .i64 q:=by simpa using ht2
 have c0:=(hR 0 _ rfl).1
 have c1:=(hR 1 _ rfl).1
 simp [results,Tryz.results10,go_sem,ht',ht2',c0,c1]
set_option maxRecDepth 100000 in
set_option maxHeartbeats 32000000 in
theorem check_any {ok:Nat→Prop}{w:World}{d:Nat}{c:ChG d}{v:Value}(h:RdC ok w d c v) (hok:∀ b,ok b→b < w.heap.size) (hfo:FoOk ⟨d,c.2.2.2⟩) (hk:ChK d c) (hp:Pow w) (hf:FsOk c (fsC c)) :
  Calls Tryz.prog 10 #[v] w fun e w'=>e=.returned (.tuple #[.agg #[.int .i64 (ckC c).1.1,.int .i64 (ckC c).1.2],.int .i64 (ckC c).2])∧Below w.heap.size w w':=by
 have hfm:=fun w1 (b:Below w.heap.size w w1)=>formedC_any (h.keep (ok':=ok) (w':=w1) (fun b' hb hl=>⟨hb,b.block b' hl⟩)) hk (hp.below b)
 have hla:=fun w1 (b:Below w.heap.size w w1)=>laid_any (h.keep (ok':=ok) (w':=w1) (fun b' hb hl=>⟨hb,b.block b' hl⟩)) (fun b' hb=>Nat.lt_of_lt_of_le (hok b' hb) b.size) hfo
 obtain ⟨fs,hfs⟩:∃ fs,fsC c=fs:=⟨_,rfl⟩
 obtain ⟨F,hF⟩:∃ F,chF d c=F:=⟨_,rfl⟩
 have HCK:Hid (ckC c=if F=true then ckL (rdsC c fs) else ((0,0),1)):=by show _=_;unfold ckC;rw [hF,hfs]
 rw [hfs] at hla hf
 rw [hF] at hfm
 obtain ⟨sv,ss,rfl,hv,hs⟩:=h
 obtain ⟨va,vc,rfl,_⟩:=hv.form
 obtain ⟨sa,sc,rfl,_⟩:=hs.form
 obtain ⟨nm,hnm⟩:∃ nm:ByteArray,sV c.1.1=.string nm:=⟨_,rfl⟩
 obtain ⟨nv,hnv⟩:∃ n,c.2.2.1.length=n:=⟨_,rfl⟩
 obtain ⟨ns,hns⟩:∃ n,c.2.2.2.length=n:=⟨_,rfl⟩
 obtain ⟨vn,hvn⟩:∃ x,c.2.1=x:=⟨_,rfl⟩
 obtain ⟨ln,hln⟩:∃ x,c.1.2.1=x:=⟨_,rfl⟩
 obtain ⟨co,hco⟩:∃ x,c.1.2.2=x:=⟨_,rfl⟩
 rw [hnm,hvn,hln,hco,hnv,hns] at hfm hla ⊢
 have HF:=mkHid hf
 clear hv hs hnm hnv hns hvn hln hco hfs hF hk hfo hf
 have hal:Below w.heap.size w ((w.alloc (.cells #[.string nm,.int .i64 vn,.int .i64 ln,.int .i64 co,.slice va nv vc,.slice sa ns sc] 34)).alloc (.cells #[.int .i64 0,.int .i64 0] 23)):=((Below.refl _ _).alloc (Nat.le_refl _) _).alloc (by simp) _
 have hX:Bn ((w.alloc (.cells #[.string nm,.int .i64 vn,.int .i64 ln,.int .i64 co,.slice va nv vc,.slice sa ns sc] 34)).alloc (.cells #[.int .i64 0,.int .i64 0] 23)) w.heap.size [.string nm,.int .i64 vn,.int .i64 ln,.int .i64 co,.slice va nv vc,.slice sa ns sc]:=(Bn.new w [.string nm,.int .i64 vn,.int .i64 ln,.int .i64 co,.slice va nv vc,.slice sa ns sc] 34 _ rfl).on ((Below.refl _ _).alloc (Nat.le_refl _) _)
 have h2:Bn ((w.alloc (.cells #[.string nm,.int .i64 vn,.int .i64 ln,.int .i64 co,.slice va nv vc,.slice sa ns sc] 34)).alloc (.cells #[.int .i64 0,.int .i64 0] 23)) (w.heap.size+1) [.int .i64 0,.int .i64 0]:=Bn.new _ [.int .i64 0,.int .i64 0] 23 (w.heap.size+1) (by simp)
 go_enter Tryz.func10,Tryz.ntmps10
 go_upto_region 1 with fail
 generalize ((w.alloc (.cells #[.string nm,.int .i64 vn,.int .i64 ln,.int .i64 co,.slice va nv vc,.slice sa ns sc] 34)).alloc (.cells #[.int .i64 0,.int .i64 0] 23))=wx at *
 obtain ⟨x0,_⟩:=hX 0 _ rfl
 obtain ⟨x1,_⟩:=hX 1 _ rfl
 obtain ⟨x2,_⟩:=hX 2 _ rfl
 obtain ⟨x3,_⟩:=hX 3 _ rfl
 obtain ⟨x4,_⟩:=hX 4 _ rfl
 obtain ⟨x5,_⟩:=hX 5 _ rfl
 cases F with
 | false=>
  go_upto_region 2 with (first | (go_at_call 15;refine (hfm _ hal).mono ?_;rintro e w1 ⟨rfl,b1⟩) | fail)
  have h2':=h2.on b1
  obtain ⟨y0,f0⟩:=h2' 0 _ rfl
  obtain ⟨y1,f1⟩:=h2' 1 _ rfl
  have hz:=(h2'.set (i:=0) (by simp) (.int .i64 0)).set (i:=1) (by simp) (.int .i64 0)
  have hbz:=putL_below [.int .i64 0,.int .i64 0] w1 (w.heap.size+1) 0 (hal.trans (b1.mono hal.size)) (by omega)
  go_wp2
  exact bodyPost_ret (chk_res hz rfl rfl) rfl ⟨by rw [HCK.out];rfl,hbz⟩
 | true=>
  go_upto_region 3 with (first | (go_at_call 15;refine (hfm _ hal).mono ?_;rintro e w1 ⟨rfl,b1⟩) | fail)
  have hX1:=hX.on b1
  obtain ⟨x0,_⟩:=hX1 0 _ rfl
  obtain ⟨x1,_⟩:=hX1 1 _ rfl
  obtain ⟨x2,_⟩:=hX1 2 _ rfl
  obtain ⟨x3,_⟩:=hX1 3 _ rfl
  obtain ⟨x4,_⟩:=hX1 4 _ rfl
  obtain ⟨x5,_⟩:=hX1 5 _ rfl
  have hb1:=hal.trans (b1.mono hal.size)
  go_upto_region 4 with (first | (go_at_call 16;refine (hla _ hb1).mono ?_;rintro e w2 ⟨rfl,hLy,b2⟩) | fail)
  obtain ⟨Lb,hLb⟩:∃ Lb,w1.heap.size+1=Lb:=⟨_,rfl⟩
  rw [hLb] at hLy ⊢
  have hb2:=hb1.trans (b2.mono hb1.size)
  have h2w:=(h2.on b1).on b2
  have HLy:=mkHid hLy
  clear hLy hla hfm b1 b2 hX hX1 h2 x0 x1 x2 x3 x4 x5 hal hb1 hLb
  have hro:=rounds_any w2 Lb
  have hal2:Below w2.heap.size w2 (w2.alloc (.cells #[.int .i64 4,.func (.func 27) #[.pointer (some ⟨Lb,0,none⟩)] #[],.int .i64 14,.func (.func 28) #[.pointer (some ⟨Lb,0,none⟩)] #[],.int .i64 3,.func (.func 29) #[.pointer (some ⟨Lb,0,none⟩)] #[],.int .i64 5,.func (.func 30) #[.pointer (some ⟨Lb,0,none⟩)] #[],.int .i64 16,.func (.func 31) #[.pointer (some ⟨Lb,0,none⟩)] #[],.int .i64 15,.func (.func 32) #[.pointer (some ⟨Lb,0,none⟩)] #[],.int .i64 17,.func (.func 33) #[.pointer (some ⟨Lb,0,none⟩)] #[]] 70)):=(Below.refl _ _).alloc (Nat.le_refl _) _
  have hRo:Bn (w2.alloc (.cells #[.int .i64 4,.func (.func 27) #[.pointer (some ⟨Lb,0,none⟩)] #[],.int .i64 14,.func (.func 28) #[.pointer (some ⟨Lb,0,none⟩)] #[],.int .i64 3,.func (.func 29) #[.pointer (some ⟨Lb,0,none⟩)] #[],.int .i64 5,.func (.func 30) #[.pointer (some ⟨Lb,0,none⟩)] #[],.int .i64 16,.func (.func 31) #[.pointer (some ⟨Lb,0,none⟩)] #[],.int .i64 15,.func (.func 32) #[.pointer (some ⟨Lb,0,none⟩)] #[],.int .i64 17,.func (.func 33) #[.pointer (some ⟨Lb,0,none⟩)] #[]] 70)) w2.heap.size [.int .i64 4,.func (.func 27) #[.pointer (some ⟨Lb,0,none⟩)] #[],.int .i64 14,.func (.func 28) #[.pointer (some ⟨Lb,0,none⟩)] #[],.int .i64 3,.func (.func 29) #[.pointer (some ⟨Lb,0,none⟩)] #[],.int .i64 5,.func (.func 30) #[.pointer (some ⟨Lb,0,none⟩)] #[],.int .i64 16,.func (.func 31) #[.pointer (some ⟨Lb,0,none⟩)] #[],.int .i64 15,.func (.func 32) #[.pointer (some ⟨Lb,0,none⟩)] #[],.int .i64 17,.func (.func 33) #[.pointer (some ⟨Lb,0,none⟩)] #[]]:=Bn.new w2 [.int .i64 4,.func (.func 27) #[.pointer (some ⟨Lb,0,none⟩)] #[],.int .i64 14,.func (.func 28) #[.pointer (some ⟨Lb,0,none⟩)] #[],.int .i64 3,.func (.func 29) #[.pointer (some ⟨Lb,0,none⟩)] #[],.int .i64 5,.func (.func 30) #[.pointer (some ⟨Lb,0,none⟩)] #[],.int .i64 16,.func (.func 31) #[.pointer (some ⟨Lb,0,none⟩)] #[],.int .i64 15,.func (.func 32) #[.pointer (some ⟨Lb,0,none⟩)] #[],.int .i64 17,.func (.func 33) #[.pointer (some ⟨Lb,0,none⟩)] #[]] 70 _ rfl
  go_upto_region 5 with (first | (go_at_call 17;refine hro.mono ?_;rintro e w3 ⟨rfl,rfl⟩) | fail)
  have h2w3:=h2w.on hal2
  have HLy3:=mkHid (HLy.out.on hal2)
  have hb3:Below w.heap.size w (w2.alloc (.cells #[.int .i64 4,.func (.func 27) #[.pointer (some ⟨Lb,0,none⟩)] #[],.int .i64 14,.func (.func 28) #[.pointer (some ⟨Lb,0,none⟩)] #[],.int .i64 3,.func (.func 29) #[.pointer (some ⟨Lb,0,none⟩)] #[],.int .i64 5,.func (.func 30) #[.pointer (some ⟨Lb,0,none⟩)] #[],.int .i64 16,.func (.func 31) #[.pointer (some ⟨Lb,0,none⟩)] #[],.int .i64 15,.func (.func 32) #[.pointer (some ⟨Lb,0,none⟩)] #[],.int .i64 17,.func (.func 33) #[.pointer (some ⟨Lb,0,none⟩)] #[]] 70)):=hb2.trans (hal2.mono hb2.size)
  have hsz3:w.heap.size+1 < w2.heap.size:=h2w.lt
  generalize w2.alloc (.cells #[.int .i64 4,.func (.func 27) #[.pointer (some ⟨Lb,0,none⟩)] #[],.int .i64 14,.func (.func 28) #[.pointer (some ⟨Lb,0,none⟩)] #[],.int .i64 3,.func (.func 29) #[.pointer (some ⟨Lb,0,none⟩)] #[],.int .i64 5,.func (.func 30) #[.pointer (some ⟨Lb,0,none⟩)] #[],.int .i64 16,.func (.func 31) #[.pointer (some ⟨Lb,0,none⟩)] #[],.int .i64 15,.func (.func 32) #[.pointer (some ⟨Lb,0,none⟩)] #[],.int .i64 17,.func (.func 33) #[.pointer (some ⟨Lb,0,none⟩)] #[]] 70)=w3 at *
  obtain ⟨R,hR⟩:∃ R,w2.heap.size=R:=⟨_,rfl⟩
  rw [hR] at hRo hsz3 ⊢
  clear hR hal2 HLy h2w hb2 hro
  go_wp2
  go_loopw [18] (fun ix wr=>∃ (j:Nat) (k:Int),k=j∧j≤7∧ix=.int .i64 k∧Hid (ckL (rdsC c fs)=ckL ((rdsC c fs).drop j))∧Below w3.heap.size w3 wr) (fun ix _=>7 - (RowKit.intOf ix).toNat)
  case atStart=>exact ⟨0,0,rfl,by omega,rfl,rfl,Below.refl _ _⟩
  case round=>
   obtain ⟨j,k,hkj,hj7,rfl,HX,hb⟩:=hrel
   have hRr:=hRo.on hb
   have h2r:=h2w3.on hb
   have HLr:=mkHid (HLy3.out.on hb)
   have hbr:Below w.heap.size w wr:=hb3.trans (hb.mono hb3.size)
   have hRl:=hRr.lt
   obtain hj | hj | hj | hj | hj | hj | hj | hj:j=0∨j=1∨j=2∨j=3∨j=4∨j=5∨j=6∨j=7:=by omega
   ·obtain rfl:k=0:=by omega
    have hdr:(rdsC c fs).drop 0=(4,tmR c fs) :: (rdsC c fs).drop 1:=rfl
    have hal4:Below wr.heap.size wr (wr.alloc (.cells #[.int .i64 4,.func (.func 27) #[.pointer (some ⟨Lb,0,none⟩)] #[]] 70)):=(Below.refl _ _).alloc (Nat.le_refl _) _
    have hY:Bn (wr.alloc (.cells #[.int .i64 4,.func (.func 27) #[.pointer (some ⟨Lb,0,none⟩)] #[]] 70)) wr.heap.size [.int .i64 4,.func (.func 27) #[.pointer (some ⟨Lb,0,none⟩)] #[]]:=Bn.new wr [.int .i64 4,.func (.func 27) #[.pointer (some ⟨Lb,0,none⟩)] #[]] 70 _ rfl
    have hc:=tmR_any (HLr.out.on hal4) HF.out
    have h2y:=h2r.on hal4
    obtain ⟨e0,_⟩:=hRr 0 _ rfl
    obtain ⟨e1,_⟩:=hRr 1 _ rfl
    rw [hj,hdr] at HX
    obtain ⟨O,hO⟩:∃ O,tmR c fs=O:=⟨_,rfl⟩
    rw [hO] at hc HX
    have hbY:=hb.trans (hal4.mono hb.size)
    have hbyw:=hbr.trans (hal4.mono hbr.size)
    clear hdr hO hj hkj hj7
    go_upto_region 7 with fail
    generalize (wr.alloc (.cells #[.int .i64 4,.func (.func 27) #[.pointer (some ⟨Lb,0,none⟩)] #[]] 70))=wy at *
    obtain ⟨Y,hYY⟩:∃ Y,wr.heap.size=Y:=⟨_,rfl⟩
    rw [hYY] at hY ⊢
    have hYg:w.heap.size+1 < Y:=by rw [← hYY];exact Nat.lt_trans hsz3 hRl
    obtain ⟨y1,_⟩:=hY 1 _ rfl
    clear hYY hal4
    cases O with
    | none=>
     have HE:Hid (ckL (rdsC c fs)=ckL ((rdsC c fs).drop 1)):=HX
     rw [show anP none=.tuple #[.agg #[.int .i64 0,.int .i64 0],.bool false] from rfl] at hc
     go_wp2_with (first | (go_at_call 27;refine hc.mono ?_;rintro e w5 ⟨rfl,b5⟩) | fail)
     have hbb:Below w3.heap.size w3 (w5.alloc (.cells #[.int .i64 0,.int .i64 0] 23)):=(hbY.trans (b5.mono hbY.size)).alloc (Nat.le_trans hbY.size b5.size) _
     go_roundw
     case rel=>exact ⟨1,1,rfl,by omega,rfl,HE,hbb⟩
     case measure=>simp [RowKit.intOf]
    | some a=>
     have HE:Hid (ckC c=(a,4)):=by
      show _=_
      rw [HCK.out]
      (first | rw [if_pos rfl] | rw [if_pos trivial])
      exact HX.out
     obtain ⟨a1,a2⟩:=a
     rw [show anP (some (a1,a2))=.tuple #[.agg #[.int .i64 a1,.int .i64 a2],.bool true] from rfl] at hc
     go_upto_region 9 with (first | (go_at_call 27;refine hc.mono ?_;rintro e w5 ⟨rfl,b5⟩) | fail)
     have hal6:Below w5.heap.size w5 (w5.alloc (.cells #[.int .i64 a1,.int .i64 a2] 23)):=(Below.refl _ _).alloc (Nat.le_refl _) _
     have hP:Bn (w5.alloc (.cells #[.int .i64 a1,.int .i64 a2] 23)) w5.heap.size [.int .i64 a1,.int .i64 a2]:=Bn.new w5 [.int .i64 a1,.int .i64 a2] 23 _ rfl
     have hY6:=(hY.on b5).on hal6
     have h26:=(h2y.on b5).on hal6
     have hY5:=(hY.on b5).lt
     have hb6:Below w.heap.size w (w5.alloc (.cells #[.int .i64 a1,.int .i64 a2] 23)):=(hbyw.trans (b5.mono hbyw.size)).trans (hal6.mono (Nat.le_trans hbyw.size b5.size))
     generalize w5.alloc (.cells #[.int .i64 a1,.int .i64 a2] 23)=wz at *
     obtain ⟨Z,hZZ⟩:∃ Z,w5.heap.size=Z:=⟨_,rfl⟩
     rw [hZZ] at hP hY5 ⊢
     have n1:Z≠w.heap.size+1:=by omega
     have n2:Y≠w.heap.size+1:=by omega
     obtain ⟨p0,_⟩:=hP 0 _ rfl
     obtain ⟨p1,_⟩:=hP 1 _ rfl
     obtain ⟨q0,_⟩:=hY6 0 _ rfl
     obtain ⟨u0,f0⟩:=h26 0 _ rfl
     obtain ⟨u1,f1⟩:=h26 1 _ rfl
     go_region_held_law (fun w'=>w'.cell? ⟨Z,0,none⟩=some (.int .i64 a1)∧w'.cell? ⟨Z,1,none⟩=some (.int .i64 a2)∧w'.cell? ⟨Y,0,none⟩=some (.int .i64 4))
      ((refine ⟨?_,?_,?_⟩ <;> (repeat (first | (with_reducible exact p0) | (with_reducible exact p1) | (with_reducible exact q0) | (with_reducible refine cell_dr ?_) | (with_reducible refine cell_far4 (ne_pt n1) ?_) | (with_reducible refine cell_far4 (ne_pt n2) ?_))) <;> done))
      (fail)
     all_goals (
      have hz:=(h26.set (i:=0) (by simp) (.int .i64 a1)).set (i:=1) (by simp) (.int .i64 a2)
      have hbz:=putL_below [.int .i64 a1,.int .i64 a2] wz (w.heap.size+1) 0 hb6 (by omega)
      go_wp2
      exact bodyPost_ret (chk_res (w:=_) hz rfl rfl) rfl ⟨by rw [HE.out],hbz.drew⟩)
   ·obtain rfl:k=1:=by omega
    have hdr:(rdsC c fs).drop 1=(14,ntR c fs) :: (rdsC c fs).drop 2:=rfl
    have hal4:Below wr.heap.size wr (wr.alloc (.cells #[.int .i64 14,.func (.func 28) #[.pointer (some ⟨Lb,0,none⟩)] #[]] 70)):=(Below.refl _ _).alloc (Nat.le_refl _) _
    have hY:Bn (wr.alloc (.cells #[.int .i64 14,.func (.func 28) #[.pointer (some ⟨Lb,0,none⟩)] #[]] 70)) wr.heap.size [.int .i64 14,.func (.func 28) #[.pointer (some ⟨Lb,0,none⟩)] #[]]:=Bn.new wr [.int .i64 14,.func (.func 28) #[.pointer (some ⟨Lb,0,none⟩)] #[]] 70 _ rfl
    have hc:=ntR_any (HLr.out.on hal4) HF.out
    have h2y:=h2r.on hal4
    obtain ⟨e0,_⟩:=hRr 2 _ rfl
    obtain ⟨e1,_⟩:=hRr 3 _ rfl
    rw [hj,hdr] at HX
    obtain ⟨O,hO⟩:∃ O,ntR c fs=O:=⟨_,rfl⟩
    rw [hO] at hc HX
    have hbY:=hb.trans (hal4.mono hb.size)
    have hbyw:=hbr.trans (hal4.mono hbr.size)
    clear hdr hO hj hkj hj7
    go_upto_region 7 with fail
    generalize (wr.alloc (.cells #[.int .i64 14,.func (.func 28) #[.pointer (some ⟨Lb,0,none⟩)] #[]] 70))=wy at *
    obtain ⟨Y,hYY⟩:∃ Y,wr.heap.size=Y:=⟨_,rfl⟩
    rw [hYY] at hY ⊢
    have hYg:w.heap.size+1 < Y:=by rw [← hYY];exact Nat.lt_trans hsz3 hRl
    obtain ⟨y1,_⟩:=hY 1 _ rfl
    clear hYY hal4
    cases O with
    | none=>
     have HE:Hid (ckL (rdsC c fs)=ckL ((rdsC c fs).drop 2)):=HX
     rw [show anP none=.tuple #[.agg #[.int .i64 0,.int .i64 0],.bool false] from rfl] at hc
     go_wp2_with (first | (go_at_call 28;refine hc.mono ?_;rintro e w5 ⟨rfl,b5⟩) | fail)
     have hbb:Below w3.heap.size w3 (w5.alloc (.cells #[.int .i64 0,.int .i64 0] 23)):=(hbY.trans (b5.mono hbY.size)).alloc (Nat.le_trans hbY.size b5.size) _
     go_roundw
     case rel=>exact ⟨2,2,rfl,by omega,rfl,HE,hbb⟩
     case measure=>simp [RowKit.intOf]
    | some a=>
     have HE:Hid (ckC c=(a,14)):=by
      show _=_
      rw [HCK.out]
      (first | rw [if_pos rfl] | rw [if_pos trivial])
      exact HX.out
     obtain ⟨a1,a2⟩:=a
     rw [show anP (some (a1,a2))=.tuple #[.agg #[.int .i64 a1,.int .i64 a2],.bool true] from rfl] at hc
     go_upto_region 9 with (first | (go_at_call 28;refine hc.mono ?_;rintro e w5 ⟨rfl,b5⟩) | fail)
     have hal6:Below w5.heap.size w5 (w5.alloc (.cells #[.int .i64 a1,.int .i64 a2] 23)):=(Below.refl _ _).alloc (Nat.le_refl _) _
     have hP:Bn (w5.alloc (.cells #[.int .i64 a1,.int .i64 a2] 23)) w5.heap.size [.int .i64 a1,.int .i64 a2]:=Bn.new w5 [.int .i64 a1,.int .i64 a2] 23 _ rfl
     have hY6:=(hY.on b5).on hal6
     have h26:=(h2y.on b5).on hal6
     have hY5:=(hY.on b5).lt
     have hb6:Below w.heap.size w (w5.alloc (.cells #[.int .i64 a1,.int .i64 a2] 23)):=(hbyw.trans (b5.mono hbyw.size)).trans (hal6.mono (Nat.le_trans hbyw.size b5.size))
     generalize w5.alloc (.cells #[.int .i64 a1,.int .i64 a2] 23)=wz at *
     obtain ⟨Z,hZZ⟩:∃ Z,w5.heap.size=Z:=⟨_,rfl⟩
     rw [hZZ] at hP hY5 ⊢
     have n1:Z≠w.heap.size+1:=by omega
     have n2:Y≠w.heap.size+1:=by omega
     obtain ⟨p0,_⟩:=hP 0 _ rfl
     obtain ⟨p1,_⟩:=hP 1 _ rfl
     obtain ⟨q0,_⟩:=hY6 0 _ rfl
     obtain ⟨u0,f0⟩:=h26 0 _ rfl
     obtain ⟨u1,f1⟩:=h26 1 _ rfl
     go_region_held_law (fun w'=>w'.cell? ⟨Z,0,none⟩=some (.int .i64 a1)∧w'.cell? ⟨Z,1,none⟩=some (.int .i64 a2)∧w'.cell? ⟨Y,0,none⟩=some (.int .i64 14))
      ((refine ⟨?_,?_,?_⟩ <;> (repeat (first | (with_reducible exact p0) | (with_reducible exact p1) | (with_reducible exact q0) | (with_reducible refine cell_dr ?_) | (with_reducible refine cell_far4 (ne_pt n1) ?_) | (with_reducible refine cell_far4 (ne_pt n2) ?_))) <;> done))
      (fail)
     all_goals (
      have hz:=(h26.set (i:=0) (by simp) (.int .i64 a1)).set (i:=1) (by simp) (.int .i64 a2)
      have hbz:=putL_below [.int .i64 a1,.int .i64 a2] wz (w.heap.size+1) 0 hb6 (by omega)
      go_wp2
      exact bodyPost_ret (chk_res (w:=_) hz rfl rfl) rfl ⟨by rw [HE.out],hbz.drew⟩)
   ·obtain rfl:k=2:=by omega
    have hdr:(rdsC c fs).drop 2=(3,orR fs) :: (rdsC c fs).drop 3:=rfl
    have hal4:Below wr.heap.size wr (wr.alloc (.cells #[.int .i64 3,.func (.func 29) #[.pointer (some ⟨Lb,0,none⟩)] #[]] 70)):=(Below.refl _ _).alloc (Nat.le_refl _) _
    have hY:Bn (wr.alloc (.cells #[.int .i64 3,.func (.func 29) #[.pointer (some ⟨Lb,0,none⟩)] #[]] 70)) wr.heap.size [.int .i64 3,.func (.func 29) #[.pointer (some ⟨Lb,0,none⟩)] #[]]:=Bn.new wr [.int .i64 3,.func (.func 29) #[.pointer (some ⟨Lb,0,none⟩)] #[]] 70 _ rfl
    have hc:=orR_any (HLr.out.on hal4) HF.out
    have h2y:=h2r.on hal4
    obtain ⟨e0,_⟩:=hRr 4 _ rfl
    obtain ⟨e1,_⟩:=hRr 5 _ rfl
    rw [hj,hdr] at HX
    obtain ⟨O,hO⟩:∃ O,orR fs=O:=⟨_,rfl⟩
    rw [hO] at hc HX
    have hbY:=hb.trans (hal4.mono hb.size)
    have hbyw:=hbr.trans (hal4.mono hbr.size)
    clear hdr hO hj hkj hj7
    go_upto_region 7 with fail
    generalize (wr.alloc (.cells #[.int .i64 3,.func (.func 29) #[.pointer (some ⟨Lb,0,none⟩)] #[]] 70))=wy at *
    obtain ⟨Y,hYY⟩:∃ Y,wr.heap.size=Y:=⟨_,rfl⟩
    rw [hYY] at hY ⊢
    have hYg:w.heap.size+1 < Y:=by rw [← hYY];exact Nat.lt_trans hsz3 hRl
    obtain ⟨y1,_⟩:=hY 1 _ rfl
    clear hYY hal4
    cases O with
    | none=>
     have HE:Hid (ckL (rdsC c fs)=ckL ((rdsC c fs).drop 3)):=HX
     rw [show anP none=.tuple #[.agg #[.int .i64 0,.int .i64 0],.bool false] from rfl] at hc
     go_wp2_with (first | (go_at_call 29;refine hc.mono ?_;rintro e w5 ⟨rfl,b5⟩) | fail)
     have hbb:Below w3.heap.size w3 (w5.alloc (.cells #[.int .i64 0,.int .i64 0] 23)):=(hbY.trans (b5.mono hbY.size)).alloc (Nat.le_trans hbY.size b5.size) _
     go_roundw
     case rel=>exact ⟨3,3,rfl,by omega,rfl,HE,hbb⟩
     case measure=>simp [RowKit.intOf]
    | some a=>
     have HE:Hid (ckC c=(a,3)):=by
      show _=_
      rw [HCK.out]
      (first | rw [if_pos rfl] | rw [if_pos trivial])
      exact HX.out
     obtain ⟨a1,a2⟩:=a
     rw [show anP (some (a1,a2))=.tuple #[.agg #[.int .i64 a1,.int .i64 a2],.bool true] from rfl] at hc
     go_upto_region 9 with (first | (go_at_call 29;refine hc.mono ?_;rintro e w5 ⟨rfl,b5⟩) | fail)
     have hal6:Below w5.heap.size w5 (w5.alloc (.cells #[.int .i64 a1,.int .i64 a2] 23)):=(Below.refl _ _).alloc (Nat.le_refl _) _
     have hP:Bn (w5.alloc (.cells #[.int .i64 a1,.int .i64 a2] 23)) w5.heap.size [.int .i64 a1,.int .i64 a2]:=Bn.new w5 [.int .i64 a1,.int .i64 a2] 23 _ rfl
     have hY6:=(hY.on b5).on hal6
     have h26:=(h2y.on b5).on hal6
     have hY5:=(hY.on b5).lt
     have hb6:Below w.heap.size w (w5.alloc (.cells #[.int .i64 a1,.int .i64 a2] 23)):=(hbyw.trans (b5.mono hbyw.size)).trans (hal6.mono (Nat.le_trans hbyw.size b5.size))
     generalize w5.alloc (.cells #[.int .i64 a1,.int .i64 a2] 23)=wz at *
     obtain ⟨Z,hZZ⟩:∃ Z,w5.heap.size=Z:=⟨_,rfl⟩
     rw [hZZ] at hP hY5 ⊢
     have n1:Z≠w.heap.size+1:=by omega
     have n2:Y≠w.heap.size+1:=by omega
     obtain ⟨p0,_⟩:=hP 0 _ rfl
     obtain ⟨p1,_⟩:=hP 1 _ rfl
     obtain ⟨q0,_⟩:=hY6 0 _ rfl
     obtain ⟨u0,f0⟩:=h26 0 _ rfl
     obtain ⟨u1,f1⟩:=h26 1 _ rfl
     go_region_held_law (fun w'=>w'.cell? ⟨Z,0,none⟩=some (.int .i64 a1)∧w'.cell? ⟨Z,1,none⟩=some (.int .i64 a2)∧w'.cell? ⟨Y,0,none⟩=some (.int .i64 3))
      ((refine ⟨?_,?_,?_⟩ <;> (repeat (first | (with_reducible exact p0) | (with_reducible exact p1) | (with_reducible exact q0) | (with_reducible refine cell_dr ?_) | (with_reducible refine cell_far4 (ne_pt n1) ?_) | (with_reducible refine cell_far4 (ne_pt n2) ?_))) <;> done))
      (fail)
     all_goals (
      have hz:=(h26.set (i:=0) (by simp) (.int .i64 a1)).set (i:=1) (by simp) (.int .i64 a2)
      have hbz:=putL_below [.int .i64 a1,.int .i64 a2] wz (w.heap.size+1) 0 hb6 (by omega)
      go_wp2
      exact bodyPost_ret (chk_res (w:=_) hz rfl rfl) rfl ⟨by rw [HE.out],hbz.drew⟩)
   ·obtain rfl:k=3:=by omega
    have hdr:(rdsC c fs).drop 3=(5,unR c fs) :: (rdsC c fs).drop 4:=rfl
    have hal4:Below wr.heap.size wr (wr.alloc (.cells #[.int .i64 5,.func (.func 30) #[.pointer (some ⟨Lb,0,none⟩)] #[]] 70)):=(Below.refl _ _).alloc (Nat.le_refl _) _
    have hY:Bn (wr.alloc (.cells #[.int .i64 5,.func (.func 30) #[.pointer (some ⟨Lb,0,none⟩)] #[]] 70)) wr.heap.size [.int .i64 5,.func (.func 30) #[.pointer (some ⟨Lb,0,none⟩)] #[]]:=Bn.new wr [.int .i64 5,.func (.func 30) #[.pointer (some ⟨Lb,0,none⟩)] #[]] 70 _ rfl
    have hc:=unR_any (HLr.out.on hal4) HF.out
    have h2y:=h2r.on hal4
    obtain ⟨e0,_⟩:=hRr 6 _ rfl
    obtain ⟨e1,_⟩:=hRr 7 _ rfl
    rw [hj,hdr] at HX
    obtain ⟨O,hO⟩:∃ O,unR c fs=O:=⟨_,rfl⟩
    rw [hO] at hc HX
    have hbY:=hb.trans (hal4.mono hb.size)
    have hbyw:=hbr.trans (hal4.mono hbr.size)
    clear hdr hO hj hkj hj7
    go_upto_region 7 with fail
    generalize (wr.alloc (.cells #[.int .i64 5,.func (.func 30) #[.pointer (some ⟨Lb,0,none⟩)] #[]] 70))=wy at *
    obtain ⟨Y,hYY⟩:∃ Y,wr.heap.size=Y:=⟨_,rfl⟩
    rw [hYY] at hY ⊢
    have hYg:w.heap.size+1 < Y:=by rw [← hYY];exact Nat.lt_trans hsz3 hRl
    obtain ⟨y1,_⟩:=hY 1 _ rfl
    clear hYY hal4
    cases O with
    | none=>
     have HE:Hid (ckL (rdsC c fs)=ckL ((rdsC c fs).drop 4)):=HX
     rw [show anP none=.tuple #[.agg #[.int .i64 0,.int .i64 0],.bool false] from rfl] at hc
     go_wp2_with (first | (go_at_call 30;refine hc.mono ?_;rintro e w5 ⟨rfl,b5⟩) | fail)
     have hbb:Below w3.heap.size w3 (w5.alloc (.cells #[.int .i64 0,.int .i64 0] 23)):=(hbY.trans (b5.mono hbY.size)).alloc (Nat.le_trans hbY.size b5.size) _
     go_roundw
     case rel=>exact ⟨4,4,rfl,by omega,rfl,HE,hbb⟩
     case measure=>simp [RowKit.intOf]
    | some a=>
     have HE:Hid (ckC c=(a,5)):=by
      show _=_
      rw [HCK.out]
      (first | rw [if_pos rfl] | rw [if_pos trivial])
      exact HX.out
     obtain ⟨a1,a2⟩:=a
     rw [show anP (some (a1,a2))=.tuple #[.agg #[.int .i64 a1,.int .i64 a2],.bool true] from rfl] at hc
     go_upto_region 9 with (first | (go_at_call 30;refine hc.mono ?_;rintro e w5 ⟨rfl,b5⟩) | fail)
     have hal6:Below w5.heap.size w5 (w5.alloc (.cells #[.int .i64 a1,.int .i64 a2] 23)):=(Below.refl _ _).alloc (Nat.le_refl _) _
     have hP:Bn (w5.alloc (.cells #[.int .i64 a1,.int .i64 a2] 23)) w5.heap.size [.int .i64 a1,.int .i64 a2]:=Bn.new w5 [.int .i64 a1,.int .i64 a2] 23 _ rfl
     have hY6:=(hY.on b5).on hal6
     have h26:=(h2y.on b5).on hal6
     have hY5:=(hY.on b5).lt
     have hb6:Below w.heap.size w (w5.alloc (.cells #[.int .i64 a1,.int .i64 a2] 23)):=(hbyw.trans (b5.mono hbyw.size)).trans (hal6.mono (Nat.le_trans hbyw.size b5.size))
     generalize w5.alloc (.cells #[.int .i64 a1,.int .i64 a2] 23)=wz at *
     obtain ⟨Z,hZZ⟩:∃ Z,w5.heap.size=Z:=⟨_,rfl⟩
     rw [hZZ] at hP hY5 ⊢
     have n1:Z≠w.heap.size+1:=by omega
     have n2:Y≠w.heap.size+1:=by omega
     obtain ⟨p0,_⟩:=hP 0 _ rfl
     obtain ⟨p1,_⟩:=hP 1 _ rfl
     obtain ⟨q0,_⟩:=hY6 0 _ rfl
     obtain ⟨u0,f0⟩:=h26 0 _ rfl
     obtain ⟨u1,f1⟩:=h26 1 _ rfl
     go_region_held_law (fun w'=>w'.cell? ⟨Z,0,none⟩=some (.int .i64 a1)∧w'.cell? ⟨Z,1,none⟩=some (.int .i64 a2)∧w'.cell? ⟨Y,0,none⟩=some (.int .i64 5))
      ((refine ⟨?_,?_,?_⟩ <;> (repeat (first | (with_reducible exact p0) | (with_reducible exact p1) | (with_reducible exact q0) | (with_reducible refine cell_dr ?_) | (with_reducible refine cell_far4 (ne_pt n1) ?_) | (with_reducible refine cell_far4 (ne_pt n2) ?_))) <;> done))
      (fail)
     all_goals (
      have hz:=(h26.set (i:=0) (by simp) (.int .i64 a1)).set (i:=1) (by simp) (.int .i64 a2)
      have hbz:=putL_below [.int .i64 a1,.int .i64 a2] wz (w.heap.size+1) 0 hb6 (by omega)
      go_wp2
      exact bodyPost_ret (chk_res (w:=_) hz rfl rfl) rfl ⟨by rw [HE.out],hbz.drew⟩)
   ·obtain rfl:k=4:=by omega
    have hdr:(rdsC c fs).drop 4=(16,miR fs) :: (rdsC c fs).drop 5:=rfl
    have hal4:Below wr.heap.size wr (wr.alloc (.cells #[.int .i64 16,.func (.func 31) #[.pointer (some ⟨Lb,0,none⟩)] #[]] 70)):=(Below.refl _ _).alloc (Nat.le_refl _) _
    have hY:Bn (wr.alloc (.cells #[.int .i64 16,.func (.func 31) #[.pointer (some ⟨Lb,0,none⟩)] #[]] 70)) wr.heap.size [.int .i64 16,.func (.func 31) #[.pointer (some ⟨Lb,0,none⟩)] #[]]:=Bn.new wr [.int .i64 16,.func (.func 31) #[.pointer (some ⟨Lb,0,none⟩)] #[]] 70 _ rfl
    have hc:=miR_any (HLr.out.on hal4) HF.out
    have h2y:=h2r.on hal4
    obtain ⟨e0,_⟩:=hRr 8 _ rfl
    obtain ⟨e1,_⟩:=hRr 9 _ rfl
    rw [hj,hdr] at HX
    obtain ⟨O,hO⟩:∃ O,miR fs=O:=⟨_,rfl⟩
    rw [hO] at hc HX
    have hbY:=hb.trans (hal4.mono hb.size)
    have hbyw:=hbr.trans (hal4.mono hbr.size)
    clear hdr hO hj hkj hj7
    go_upto_region 7 with fail
    generalize (wr.alloc (.cells #[.int .i64 16,.func (.func 31) #[.pointer (some ⟨Lb,0,none⟩)] #[]] 70))=wy at *
    obtain ⟨Y,hYY⟩:∃ Y,wr.heap.size=Y:=⟨_,rfl⟩
    rw [hYY] at hY ⊢
    have hYg:w.heap.size+1 < Y:=by rw [← hYY];exact Nat.lt_trans hsz3 hRl
    obtain ⟨y1,_⟩:=hY 1 _ rfl
    clear hYY hal4
    cases O with
    | none=>
     have HE:Hid (ckL (rdsC c fs)=ckL ((rdsC c fs).drop 5)):=HX
     rw [show anP none=.tuple #[.agg #[.int .i64 0,.int .i64 0],.bool false] from rfl] at hc
     go_wp2_with (first | (go_at_call 31;refine hc.mono ?_;rintro e w5 ⟨rfl,b5⟩) | fail)
     have hbb:Below w3.heap.size w3 (w5.alloc (.cells #[.int .i64 0,.int .i64 0] 23)):=(hbY.trans (b5.mono hbY.size)).alloc (Nat.le_trans hbY.size b5.size) _
     go_roundw
     case rel=>exact ⟨5,5,rfl,by omega,rfl,HE,hbb⟩
     case measure=>simp [RowKit.intOf]
    | some a=>
     have HE:Hid (ckC c=(a,16)):=by
      show _=_
      rw [HCK.out]
      (first | rw [if_pos rfl] | rw [if_pos trivial])
      exact HX.out
     obtain ⟨a1,a2⟩:=a
     rw [show anP (some (a1,a2))=.tuple #[.agg #[.int .i64 a1,.int .i64 a2],.bool true] from rfl] at hc
     go_upto_region 9 with (first | (go_at_call 31;refine hc.mono ?_;rintro e w5 ⟨rfl,b5⟩) | fail)
     have hal6:Below w5.heap.size w5 (w5.alloc (.cells #[.int .i64 a1,.int .i64 a2] 23)):=(Below.refl _ _).alloc (Nat.le_refl _) _
     have hP:Bn (w5.alloc (.cells #[.int .i64 a1,.int .i64 a2] 23)) w5.heap.size [.int .i64 a1,.int .i64 a2]:=Bn.new w5 [.int .i64 a1,.int .i64 a2] 23 _ rfl
     have hY6:=(hY.on b5).on hal6
     have h26:=(h2y.on b5).on hal6
     have hY5:=(hY.on b5).lt
     have hb6:Below w.heap.size w (w5.alloc (.cells #[.int .i64 a1,.int .i64 a2] 23)):=(hbyw.trans (b5.mono hbyw.size)).trans (hal6.mono (Nat.le_trans hbyw.size b5.size))
     generalize w5.alloc (.cells #[.int .i64 a1,.int .i64 a2] 23)=wz at *
     obtain ⟨Z,hZZ⟩:∃ Z,w5.heap.size=Z:=⟨_,rfl⟩
     rw [hZZ] at hP hY5 ⊢
     have n1:Z≠w.heap.size+1:=by omega
     have n2:Y≠w.heap.size+1:=by omega
     obtain ⟨p0,_⟩:=hP 0 _ rfl
     obtain ⟨p1,_⟩:=hP 1 _ rfl
     obtain ⟨q0,_⟩:=hY6 0 _ rfl
     obtain ⟨u0,f0⟩:=h26 0 _ rfl
     obtain ⟨u1,f1⟩:=h26 1 _ rfl
     go_region_held_law (fun w'=>w'.cell? ⟨Z,0,none⟩=some (.int .i64 a1)∧w'.cell? ⟨Z,1,none⟩=some (.int .i64 a2)∧w'.cell? ⟨Y,0,none⟩=some (.int .i64 16))
      ((refine ⟨?_,?_,?_⟩ <;> (repeat (first | (with_reducible exact p0) | (with_reducible exact p1) | (with_reducible exact q0) | (with_reducible refine cell_dr ?_) | (with_reducible refine cell_far4 (ne_pt n1) ?_) | (with_reducible refine cell_far4 (ne_pt n2) ?_))) <;> done))
      (fail)
     all_goals (
      have hz:=(h26.set (i:=0) (by simp) (.int .i64 a1)).set (i:=1) (by simp) (.int .i64 a2)
      have hbz:=putL_below [.int .i64 a1,.int .i64 a2] wz (w.heap.size+1) 0 hb6 (by omega)
      go_wp2
      exact bodyPost_ret (chk_res (w:=_) hz rfl rfl) rfl ⟨by rw [HE.out],hbz.drew⟩)
   ·obtain rfl:k=5:=by omega
    have hdr:(rdsC c fs).drop 5=(15,asR fs) :: (rdsC c fs).drop 6:=rfl
    have hal4:Below wr.heap.size wr (wr.alloc (.cells #[.int .i64 15,.func (.func 32) #[.pointer (some ⟨Lb,0,none⟩)] #[]] 70)):=(Below.refl _ _).alloc (Nat.le_refl _) _
    have hY:Bn (wr.alloc (.cells #[.int .i64 15,.func (.func 32) #[.pointer (some ⟨Lb,0,none⟩)] #[]] 70)) wr.heap.size [.int .i64 15,.func (.func 32) #[.pointer (some ⟨Lb,0,none⟩)] #[]]:=Bn.new wr [.int .i64 15,.func (.func 32) #[.pointer (some ⟨Lb,0,none⟩)] #[]] 70 _ rfl
    have hc:=asR_any (HLr.out.on hal4) HF.out
    have h2y:=h2r.on hal4
    obtain ⟨e0,_⟩:=hRr 10 _ rfl
    obtain ⟨e1,_⟩:=hRr 11 _ rfl
    rw [hj,hdr] at HX
    obtain ⟨O,hO⟩:∃ O,asR fs=O:=⟨_,rfl⟩
    rw [hO] at hc HX
    have hbY:=hb.trans (hal4.mono hb.size)
    have hbyw:=hbr.trans (hal4.mono hbr.size)
    clear hdr hO hj hkj hj7
    go_upto_region 7 with fail
    generalize (wr.alloc (.cells #[.int .i64 15,.func (.func 32) #[.pointer (some ⟨Lb,0,none⟩)] #[]] 70))=wy at *
    obtain ⟨Y,hYY⟩:∃ Y,wr.heap.size=Y:=⟨_,rfl⟩
    rw [hYY] at hY ⊢
    have hYg:w.heap.size+1 < Y:=by rw [← hYY];exact Nat.lt_trans hsz3 hRl
    obtain ⟨y1,_⟩:=hY 1 _ rfl
    clear hYY hal4
    cases O with
    | none=>
     have HE:Hid (ckL (rdsC c fs)=ckL ((rdsC c fs).drop 6)):=HX
     rw [show anP none=.tuple #[.agg #[.int .i64 0,.int .i64 0],.bool false] from rfl] at hc
     go_wp2_with (first | (go_at_call 32;refine hc.mono ?_;rintro e w5 ⟨rfl,b5⟩) | fail)
     have hbb:Below w3.heap.size w3 (w5.alloc (.cells #[.int .i64 0,.int .i64 0] 23)):=(hbY.trans (b5.mono hbY.size)).alloc (Nat.le_trans hbY.size b5.size) _
     go_roundw
     case rel=>exact ⟨6,6,rfl,by omega,rfl,HE,hbb⟩
     case measure=>simp [RowKit.intOf]
    | some a=>
     have HE:Hid (ckC c=(a,15)):=by
      show _=_
      rw [HCK.out]
      (first | rw [if_pos rfl] | rw [if_pos trivial])
      exact HX.out
     obtain ⟨a1,a2⟩:=a
     rw [show anP (some (a1,a2))=.tuple #[.agg #[.int .i64 a1,.int .i64 a2],.bool true] from rfl] at hc
     go_upto_region 9 with (first | (go_at_call 32;refine hc.mono ?_;rintro e w5 ⟨rfl,b5⟩) | fail)
     have hal6:Below w5.heap.size w5 (w5.alloc (.cells #[.int .i64 a1,.int .i64 a2] 23)):=(Below.refl _ _).alloc (Nat.le_refl _) _
     have hP:Bn (w5.alloc (.cells #[.int .i64 a1,.int .i64 a2] 23)) w5.heap.size [.int .i64 a1,.int .i64 a2]:=Bn.new w5 [.int .i64 a1,.int .i64 a2] 23 _ rfl
     have hY6:=(hY.on b5).on hal6
     have h26:=(h2y.on b5).on hal6
     have hY5:=(hY.on b5).lt
     have hb6:Below w.heap.size w (w5.alloc (.cells #[.int .i64 a1,.int .i64 a2] 23)):=(hbyw.trans (b5.mono hbyw.size)).trans (hal6.mono (Nat.le_trans hbyw.size b5.size))
     generalize w5.alloc (.cells #[.int .i64 a1,.int .i64 a2] 23)=wz at *
     obtain ⟨Z,hZZ⟩:∃ Z,w5.heap.size=Z:=⟨_,rfl⟩
     rw [hZZ] at hP hY5 ⊢
     have n1:Z≠w.heap.size+1:=by omega
     have n2:Y≠w.heap.size+1:=by omega
     obtain ⟨p0,_⟩:=hP 0 _ rfl
     obtain ⟨p1,_⟩:=hP 1 _ rfl
     obtain ⟨q0,_⟩:=hY6 0 _ rfl
     obtain ⟨u0,f0⟩:=h26 0 _ rfl
     obtain ⟨u1,f1⟩:=h26 1 _ rfl
     go_region_held_law (fun w'=>w'.cell? ⟨Z,0,none⟩=some (.int .i64 a1)∧w'.cell? ⟨Z,1,none⟩=some (.int .i64 a2)∧w'.cell? ⟨Y,0,none⟩=some (.int .i64 15))
      ((refine ⟨?_,?_,?_⟩ <;> (repeat (first | (with_reducible exact p0) | (with_reducible exact p1) | (with_reducible exact q0) | (with_reducible refine cell_dr ?_) | (with_reducible refine cell_far4 (ne_pt n1) ?_) | (with_reducible refine cell_far4 (ne_pt n2) ?_))) <;> done))
      (fail)
     all_goals (
      have hz:=(h26.set (i:=0) (by simp) (.int .i64 a1)).set (i:=1) (by simp) (.int .i64 a2)
      have hbz:=putL_below [.int .i64 a1,.int .i64 a2] wz (w.heap.size+1) 0 hb6 (by omega)
      go_wp2
      exact bodyPost_ret (chk_res (w:=_) hz rfl rfl) rfl ⟨by rw [HE.out],hbz.drew⟩)
   ·obtain rfl:k=6:=by omega
    have hdr:(rdsC c fs).drop 6=(17,bwR fs) :: (rdsC c fs).drop 7:=rfl
    have hal4:Below wr.heap.size wr (wr.alloc (.cells #[.int .i64 17,.func (.func 33) #[.pointer (some ⟨Lb,0,none⟩)] #[]] 70)):=(Below.refl _ _).alloc (Nat.le_refl _) _
    have hY:Bn (wr.alloc (.cells #[.int .i64 17,.func (.func 33) #[.pointer (some ⟨Lb,0,none⟩)] #[]] 70)) wr.heap.size [.int .i64 17,.func (.func 33) #[.pointer (some ⟨Lb,0,none⟩)] #[]]:=Bn.new wr [.int .i64 17,.func (.func 33) #[.pointer (some ⟨Lb,0,none⟩)] #[]] 70 _ rfl
    have hc:=bwR_any (HLr.out.on hal4) HF.out
    have h2y:=h2r.on hal4
    obtain ⟨e0,_⟩:=hRr 12 _ rfl
    obtain ⟨e1,_⟩:=hRr 13 _ rfl
    rw [hj,hdr] at HX
    obtain ⟨O,hO⟩:∃ O,bwR fs=O:=⟨_,rfl⟩
    rw [hO] at hc HX
    have hbY:=hb.trans (hal4.mono hb.size)
    have hbyw:=hbr.trans (hal4.mono hbr.size)
    clear hdr hO hj hkj hj7
    go_upto_region 7 with fail
    generalize (wr.alloc (.cells #[.int .i64 17,.func (.func 33) #[.pointer (some ⟨Lb,0,none⟩)] #[]] 70))=wy at *
    obtain ⟨Y,hYY⟩:∃ Y,wr.heap.size=Y:=⟨_,rfl⟩
    rw [hYY] at hY ⊢
    have hYg:w.heap.size+1 < Y:=by rw [← hYY];exact Nat.lt_trans hsz3 hRl
    obtain ⟨y1,_⟩:=hY 1 _ rfl
    clear hYY hal4
    cases O with
    | none=>
     have HE:Hid (ckL (rdsC c fs)=ckL ((rdsC c fs).drop 7)):=HX
     rw [show anP none=.tuple #[.agg #[.int .i64 0,.int .i64 0],.bool false] from rfl] at hc
     go_wp2_with (first | (go_at_call 33;refine hc.mono ?_;rintro e w5 ⟨rfl,b5⟩) | fail)
     have hbb:Below w3.heap.size w3 (w5.alloc (.cells #[.int .i64 0,.int .i64 0] 23)):=(hbY.trans (b5.mono hbY.size)).alloc (Nat.le_trans hbY.size b5.size) _
     go_roundw
     case rel=>exact ⟨7,7,rfl,by omega,rfl,HE,hbb⟩
     case measure=>simp [RowKit.intOf]
    | some a=>
     have HE:Hid (ckC c=(a,17)):=by
      show _=_
      rw [HCK.out]
      (first | rw [if_pos rfl] | rw [if_pos trivial])
      exact HX.out
     obtain ⟨a1,a2⟩:=a
     rw [show anP (some (a1,a2))=.tuple #[.agg #[.int .i64 a1,.int .i64 a2],.bool true] from rfl] at hc
     go_upto_region 9 with (first | (go_at_call 33;refine hc.mono ?_;rintro e w5 ⟨rfl,b5⟩) | fail)
     have hal6:Below w5.heap.size w5 (w5.alloc (.cells #[.int .i64 a1,.int .i64 a2] 23)):=(Below.refl _ _).alloc (Nat.le_refl _) _
     have hP:Bn (w5.alloc (.cells #[.int .i64 a1,.int .i64 a2] 23)) w5.heap.size [.int .i64 a1,.int .i64 a2]:=Bn.new w5 [.int .i64 a1,.int .i64 a2] 23 _ rfl
     have hY6:=(hY.on b5).on hal6
     have h26:=(h2y.on b5).on hal6
     have hY5:=(hY.on b5).lt
     have hb6:Below w.heap.size w (w5.alloc (.cells #[.int .i64 a1,.int .i64 a2] 23)):=(hbyw.trans (b5.mono hbyw.size)).trans (hal6.mono (Nat.le_trans hbyw.size b5.size))
     generalize w5.alloc (.cells #[.int .i64 a1,.int .i64 a2] 23)=wz at *
     obtain ⟨Z,hZZ⟩:∃ Z,w5.heap.size=Z:=⟨_,rfl⟩
     rw [hZZ] at hP hY5 ⊢
     have n1:Z≠w.heap.size+1:=by omega
     have n2:Y≠w.heap.size+1:=by omega
     obtain ⟨p0,_⟩:=hP 0 _ rfl
     obtain ⟨p1,_⟩:=hP 1 _ rfl
     obtain ⟨q0,_⟩:=hY6 0 _ rfl
     obtain ⟨u0,f0⟩:=h26 0 _ rfl
     obtain ⟨u1,f1⟩:=h26 1 _ rfl
     go_region_held_law (fun w'=>w'.cell? ⟨Z,0,none⟩=some (.int .i64 a1)∧w'.cell? ⟨Z,1,none⟩=some (.int .i64 a2)∧w'.cell? ⟨Y,0,none⟩=some (.int .i64 17))
      ((refine ⟨?_,?_,?_⟩ <;> (repeat (first | (with_reducible exact p0) | (with_reducible exact p1) | (with_reducible exact q0) | (with_reducible refine cell_dr ?_) | (with_reducible refine cell_far4 (ne_pt n1) ?_) | (with_reducible refine cell_far4 (ne_pt n2) ?_))) <;> done))
      (fail)
     all_goals (
      have hz:=(h26.set (i:=0) (by simp) (.int .i64 a1)).set (i:=1) (by simp) (.int .i64 a2)
      have hbz:=putL_below [.int .i64 a1,.int .i64 a2] wz (w.heap.size+1) 0 hb6 (by omega)
      go_wp2
      exact bodyPost_ret (chk_res (w:=_) hz rfl rfl) rfl ⟨by rw [HE.out],hbz.drew⟩)
   ·obtain rfl:k=7:=by omega
    have HE:Hid (ckC c=((0,0),0)):=by
     show _=_
     rw [HCK.out]
     (first | rw [if_pos rfl] | rw [if_pos trivial])
     rw [HX.out,hj]
     rfl
    obtain ⟨y0,f0⟩:=h2r 0 _ rfl
    obtain ⟨y1,f1⟩:=h2r 1 _ rfl
    have hz:=(h2r.set (i:=0) (by simp) (.int .i64 0)).set (i:=1) (by simp) (.int .i64 0)
    have hbz:=putL_below [.int .i64 0,.int .i64 0] wr (w.heap.size+1) 0 hbr (by omega)
    clear hkj hj7 hj HX hRr HLr hRl hRo h2w3 HLy3 hsz3 hb HF
    have HZ:=mkHid hz
    have HB:=mkHid hbz
    clear hz hbz
    go_wp2
    exact bodyPost_ret (chk_res HZ.out rfl rfl) rfl ⟨by rw [HE.out],HB.out⟩
structure ChOk (d:Nat) (c:ChG d):Prop where
 nm:c.1.1.length≤140737488351232
 vl:c.2.2.1.length≤100000
 vn:∀ x∈c.2.2.1,x.1.length≤140737488351232
 fo:FoOk ⟨d,c.2.2.2⟩
 sz:szL d c.2.2.2≤1000000
theorem rfT_le (d:Nat) (t:T d):(rfT d t).length≤40:=by
 unfold rfT
 split
 ·rename_i hf
  have h1:=rfC_len d t []
  have h2:ndC d t≤40:=by
   unfold fmC at hf
   simp only [Bool.and_eq_true,decide_eq_true_eq] at hf
   exact hf.1.1
  have h3:cnt d t≤40:=by
   have e:=ndC_cnt d t
   omega
  simp only [List.length_nil] at h1
  omega
 ·simp
theorem flM_mem2:∀ (d k:Nat) (l:List (St d)),(∀ t∈l,StOk d t)→(∀ t∈l,StK d t)→∀ y∈flM d k l,StOk y.2.1 y.2.2∧StK y.2.1 y.2.2
 | 0,k,l,_,_,y,hy=>by simp [flM] at hy
 | d+1,k,l,h,h',y,hy=>by
  simp only [flM,List.mem_flatMap,List.mem_cons] at hy
  obtain ⟨t,ht,rfl | hy⟩:=hy
  ·exact ⟨h t ht,h' t ht⟩
  ·exact flM_mem2 d (k+1) t.2 (fun x hx=>(h t ht).2.2 x hx) (fun x hx=>(h' t ht).2 x hx) y hy
theorem flA_ahd (d:Nat) (rc:Int→Nat→List (St d)→List (Int × SgS)) (hrc:∀ (p:Int) (m:Nat) (l:List (St d)),-1≤p→p < m→∀ i (h:i < (rc p m l).length),-1≤((rc p m l)[i]).1∧((rc p m l)[i]).1 < ((m+i:Nat):Int)) (p:Int) (hp : -1≤p):∀ (l:List (St (d+1))) (m:Nat),p < m→∀ i (h:i < (flA d rc p m l).length),-1≤((flA d rc p m l)[i]).1∧((flA d rc p m l)[i]).1 < ((m+i:Nat):Int)
 | [],m,_,i,h=>by simp [flA] at h
 | t :: r,m,hpm,i,h=>by
  have e:flA d rc p m (t :: r)=(p,⟨d+1,t⟩) :: (rc m (m+1) t.2++flA d rc p (m+1+(rc m (m+1) t.2).length) r):=rfl
  have key:∀ (L:List (Int × SgS)),L=(p,(⟨d+1,t⟩:SgS)) :: (rc m (m+1) t.2++flA d rc p (m+1+(rc m (m+1) t.2).length) r)→∀ (h:i < L.length),-1≤(L[i]).1∧(L[i]).1 < ((m+i:Nat):Int):=by
   intro L hL h
   subst hL
   cases i with
   | zero=>exact ⟨hp,by simpa using hpm⟩
   | succ i=>
    simp only [List.getElem_cons_succ]
    have h':i < (rc m (m+1) t.2++flA d rc p (m+1+(rc m (m+1) t.2).length) r).length:=by simpa using h
    by_cases hi:i < (rc m (m+1) t.2).length
    ·rw [List.getElem_append_left hi]
     have:=hrc m (m+1) t.2 (by omega) (by omega) i hi
     omega
    ·rw [List.getElem_append_right (by omega)]
     have hlen:i - (rc m (m+1) t.2).length < (flA d rc p (m+1+(rc m (m+1) t.2).length) r).length:=by rw [List.length_append] at h';omega
     have:=flA_ahd d rc hrc p hp r (m+1+(rc m (m+1) t.2).length) (by omega) (i - (rc m (m+1) t.2).length) hlen
     omega
  exact key _ e h
theorem flP_ahd:∀ (d:Nat) (p:Int) (m:Nat) (l:List (St d)),-1≤p→p < m→∀ i (h:i < (flP d p m l).length),-1≤((flP d p m l)[i]).1∧((flP d p m l)[i]).1 < ((m+i:Nat):Int)
 | 0,_,_,_,_,_,i,h=>by simp [flP] at h
 | d+1,p,m,l,hp,hm,i,h=>flA_ahd d (flP d) (fun p m l h1 h2 i h=>flP_ahd d p m l h1 h2 i h) p hp l m hm i h
theorem fsOk_of {d:Nat}{c:ChG d}(h:ChOk d c) (hk:ChK d c):FsOk c (fsC c):=by
 have hmem:∀ x∈fsC c,StOk x.2.1 x.2.2∧StK x.2.1 x.2.2:=fun x hx=>by
  have h1:x∈flP d (-1) 0 c.2.2.2:=List.mem_of_mem_take hx
  have h2:x.2∈(flM d 0 c.2.2.2).map (fun x=>x.2):=by rw [← flP_st d 0 (-1) 0];exact List.mem_map.2 ⟨x,h1,rfl⟩
  obtain ⟨y,hy,he⟩:=List.mem_map.1 h2
  have:=flM_mem2 d 0 c.2.2.2 h.fo.2 hk.2.2 y hy
  rw [he] at this
  exact this
 refine ⟨by unfold fsC;rw [List.length_take];omega,fun x hx=>?_,by have:=h.vl;omega,fun x hx=>(hmem x hx).1,fun x hx o ho=>?_,fun i hi=>?_⟩
 ·have hs:=(hmem x hx).1
  obtain ⟨k,e,t⟩:=x
  cases e with
  | zero=>exact Empty.elim t
  | succ e=>
   have h1:t.1.2.2.2.2.length≤100000:=hs.1.2.2.2.1
   show t.1.2.2.2.2.length≤_
   omega
 ·obtain ⟨hs,hsk⟩:=hmem x hx
  obtain ⟨k,e,t⟩:=x
  cases e with
  | zero=>exact Empty.elim t
  | succ e=>
   have ho':o∈t.1.2.2.2.2:=ho
   have hok:OnK o:=hsk.1.2.2.2 o ho'
   have hoo:OnOk o:=hs.1.2.2.2.2 o ho'
   refine ⟨exK_g hok,by have:=rfT_le (gX o.2.1).1 (gX o.2.1).2;unfold rfX;omega,fun s hs'=>⟨⟨(hok.2.2.2 s hs').1.2,(hok.2.2.2 s hs').2⟩,by have:=rfT_le s.2.1 s.2.2;unfold rfX;omega⟩,by have:=hoo.2.2.2.2;omega⟩
 ·have hi':i < (flP d (-1) 0 c.2.2.2).length:=by unfold fsC at hi;rw [List.length_take] at hi;omega
  have:=flP_ahd d (-1) 0 c.2.2.2 (by omega) (by omega) i hi'
  unfold paF
  rw [List.getElem?_eq_getElem hi]
  have e:(fsC c)[i]=(flP d (-1) 0 c.2.2.2)[i]:=by simp only [fsC,List.getElem_take]
  simp only [e]
  omega
set_option maxRecDepth 100000 in
set_option maxHeartbeats 4000000 in
theorem rightC_any {ok:Nat→Prop}{w:World}{d:Nat}{c:ChG d}{v:Value}(h:RdC ok w d c v) (hok:∀ b,ok b→b < w.heap.size) (hc:ChOk d c) (hk:ChK d c) (hp:Pow w) :
  Calls Tryz.prog 7 #[v] w fun e w'=>e=.returned (.bool ((ckC c).2 == 0))∧Below w.heap.size w w':=by
 have hck:=fun w1 (b:Below w.heap.size w w1)=>check_any (h.keep (ok':=ok) (w':=w1) (fun b' hb hl=>⟨hb,b.block b' hl⟩)) (fun b' hb=>Nat.lt_of_lt_of_le (hok b' hb) b.size) hc.fo hk (hp.below b) (fsOk_of hc hk)
 obtain ⟨sv,ss,rfl,hv,hs⟩:=h
 obtain ⟨va,vc,rfl,_⟩:=hv.form
 obtain ⟨sa,sc,rfl,_⟩:=hs.form
 obtain ⟨nm,hnm⟩:∃ nm:ByteArray,sV c.1.1=.string nm:=⟨_,rfl⟩
 obtain ⟨nv,hnv⟩:∃ n,c.2.2.1.length=n:=⟨_,rfl⟩
 obtain ⟨ns,hns⟩:∃ n,c.2.2.2.length=n:=⟨_,rfl⟩
 obtain ⟨vn,hvn⟩:∃ x,c.2.1=x:=⟨_,rfl⟩
 obtain ⟨ln,hln⟩:∃ x,c.1.2.1=x:=⟨_,rfl⟩
 obtain ⟨co,hco⟩:∃ x,c.1.2.2=x:=⟨_,rfl⟩
 rw [hnm,hvn,hln,hco,hnv,hns] at hck ⊢
 obtain ⟨a1,ha1⟩:∃ x,(ckC c).1.1=x:=⟨_,rfl⟩
 obtain ⟨a2,ha2⟩:∃ x,(ckC c).1.2=x:=⟨_,rfl⟩
 obtain ⟨a3,ha3⟩:∃ x,(ckC c).2=x:=⟨_,rfl⟩
 rw [ha1,ha2,ha3] at hck
 rw [ha3]
 clear hv hs hnm hnv hns hvn hln hco ha1 ha2 ha3 hc hk
 have hal:Below w.heap.size w (w.alloc (.cells #[.string nm,.int .i64 vn,.int .i64 ln,.int .i64 co,.slice va nv vc,.slice sa ns sc] 34)):=(Below.refl _ _).alloc (Nat.le_refl _) _
 go_enter Tryz.func7,Tryz.ntmps7
 go_wp2_with (first | (go_at_call 10;refine (hck _ hal).mono ?_;rintro e w1 ⟨rfl,b1⟩) | fail)
 go_ret
 have hb1:=hal.trans (b1.mono hal.size)
 exact ⟨rfl,hb1.alloc hb1.size _⟩
/-- The reader in block X stands where r does. -/
def Pr (w:World) (X:Nat) (a:Option Addr) (cap:Nat) (ws:List Wd) (fin:Pl) (r:RsC):Prop:=
 ∃ n,Rr w X a cap ws n r.2.2∧r.1=ws.drop n∧n≤ws.length∧(r.2.2≠0→r.2.1=hereR fin r)
theorem Pr.lt {w:World}{X:Nat}{a:Option Addr}{cap:Nat}{ws:List Wd}{fin:Pl}{r:RsC}(h:Pr w X a cap ws fin r):X < w.heap.size:=by
 obtain ⟨n,h,_⟩:=h
 exact h.lt
theorem Pr.on {w w':World}{X:Nat}{a:Option Addr}{cap:Nat}{ws:List Wd}{fin:Pl}{r:RsC}(h:Pr w X a cap ws fin r) (hb:Below w.heap.size w w'):Pr w' X a cap ws fin r:=by
 obtain ⟨n,h1,h2,h3,h4⟩:=h
 exact ⟨n,h1.on hb,h2,h3,h4⟩
theorem Pr.far {w:World}{X Y i:Nat}{a:Option Addr}{cap:Nat}{ws:List Wd}{fin:Pl}{r:RsC}(h:Pr w X a cap ws fin r) (hY:X < Y) (u:Value):Pr (w.setCell ⟨Y,i,none⟩ u) X a cap ws fin r:=by
 obtain ⟨n,h1,h2,h3,h4⟩:=h
 exact ⟨n,h1.far hY u,h2,h3,h4⟩
theorem drop_cons {ws:List Wd}{n:Nat}{x:Wd}{l:List Wd}(h:x :: l=ws.drop n):n < ws.length∧l=ws.drop (n+1)∧∀ hn:n < ws.length,ws[n]=x:=by
 have hn:n < ws.length:=by
  rcases Nat.lt_or_ge n ws.length with h' | h'
  ·exact h'
  ·rw [List.drop_eq_nil_of_le h'] at h;cases h
 rw [List.drop_eq_getElem_cons hn] at h
 injection h with h1 h2
 exact ⟨hn,h2,fun _=>h1.symm⟩
theorem drop_nil {ws:List Wd}{n:Nat}(h:[]=ws.drop n) (hn:n≤ws.length):n=ws.length:=by
 have:=congrArg List.length h
 rw [List.length_drop] at this
 simp at this
 omega
/-- A fault is kept. -/
theorem Pr.bad {w:World}{X n:Nat}{a:Option Addr}{cap:Nat}{ws:List Wd}{fin:Pl}{r:RsC}{e:Int}(h:Rr w X a cap ws n (if r.2.2=0 then e else r.2.2)) (h1:r.1=ws.drop n) (h2:n≤ws.length) (h3:r.2.2≠0→r.2.1=hereR fin r):Pr w X a cap ws fin (failC e (hereR fin r) r):=by
 unfold failC
 by_cases h0:r.2.2=0
 ·rw [if_pos h0] at h ⊢
  exact ⟨n,h,h1,h2,fun _=>rfl⟩
 ·rw [if_neg h0] at h ⊢
  exact ⟨n,h,h1,h2,h3⟩
/-- A word is taken. -/
theorem Pr.step {w:World}{X n:Nat}{a:Option Addr}{cap:Nat}{ws:List Wd}{fin:Pl}{r:RsC}{x:Wd}{l:List Wd}(h:Rr w X a cap ws (n+1) r.2.2) (h1:x :: l=ws.drop n) (h0:r.2.2=0):Pr w X a cap ws fin (l,r.2):=by
 obtain ⟨hn,hl,_⟩:=drop_cons h1
 exact ⟨n+1,h,hl,hn,fun e=>absurd h0 e⟩
set_option maxRecDepth 100000 in
set_option maxHeartbeats 4000000 in
theorem pfail_any {w:World}{X:Nat}{a:Option Addr}{cap:Nat}{ws:List Wd}{n:Nat}{b:Int}(h:Rr w X a cap ws n b) (e:Int) :
  Calls Tryz.prog 78 #[.pointer (some ⟨X,0,none⟩),.int .i64 e] w fun x w'=>(∃ u,x=.returned u)∧Rr w' X a cap ws n (if b=0 then e else b)∧Fx X w w':=by
 have hS:=h.set2 e
 obtain ⟨c0,c1,c2,f1,f2,hL⟩:=id h
 by_cases hb:b=0
 ·rw [if_pos hb]
  have i1:(b == 0)=true:=by simpa using hb
  clear hL hb
  go_enter Tryz.func78,Tryz.ntmps78
  go_wp2
  go_end0
  exact ⟨⟨_,rfl⟩,hS,(Fx.refl X w).setX _⟩
 ·rw [if_neg hb]
  have i1:(b == 0)=false:=by simpa using hb
  clear hL hb hS
  go_enter Tryz.func78,Tryz.ntmps78
  go_wp2
  go_end0
  exact ⟨⟨_,rfl⟩,h,Fx.refl X w⟩
set_option maxRecDepth 100000 in
set_option maxHeartbeats 4000000 in
theorem sees_any {w:World}{X:Nat}{a:Option Addr}{cap:Nat}{ws:List Wd}{fin:Pl}{r:RsC}(h:Pr w X a cap ws fin r) (hk:Wk ws cap) (t:List UInt8) :
  Calls Tryz.prog 76 #[.pointer (some ⟨X,0,none⟩),.string ⟨t.toArray⟩] w fun e w'=>e=.returned (.bool (isC t r))∧∃ m,w'=w.drewN m:=by
 obtain ⟨n,⟨c0,c1,c2,f1,f2,hL⟩,h1,h2,h3⟩:=h
 have hcap:=hk.c
 have hlen:=hk.l
 obtain ⟨b,hb⟩:∃ b,r.2.2=b:=⟨_,rfl⟩
 unfold isC
 rw [hb] at c2 ⊢
 have i2:(0:Int)≤(n:Int):=by omega
 by_cases hz:b=0
 ·subst hz
  cases hr:r.1 with
  | cons x l=>
   rw [hr] at h1
   obtain ⟨hn,_,hx⟩:=drop_cons h1
   obtain ⟨g,off,rfl,hgX,d0,d1,d2,d3⟩:=hL n hn
   have i1:(n:Int) < (ws.length:Int):=by omega
   have hd1:w.cell? ⟨g,off+n*4+1,none⟩=some (.string ⟨(tkW x).2.toArray⟩):=by rw [hx hn] at d1;exact d1
   obtain ⟨bs,hbs⟩:∃ bs,(tkW x).2=bs:=⟨_,rfl⟩
   simp only [hbs] at hd1 ⊢
   clear d0 d1 d2 d3 hL hbs h1 hx hr h2 h3
   by_cases hq:bs=t
   ·have i3:(bs == t)=true:=by rw [hq];simp
    rw [decide_eq_true hq]
    clear hq
    go_enter Tryz.func76,Tryz.ntmps76
    go_wp2
    go_quiet (fail)
    go_wp2
    go_ret
    exact ⟨rfl,_,rfl⟩
   ·have i3:(bs == t)=false:=beq_eq_false_iff_ne.2 hq
    rw [decide_eq_false hq]
    clear hq
    go_enter Tryz.func76,Tryz.ntmps76
    go_wp2
    go_quiet (fail)
    go_wp2
    go_ret
    exact ⟨rfl,_,rfl⟩
  | nil=>
   rw [hr] at h1
   have hn:=drop_nil h1 h2
   have i1:decide (n < ws.length)=false:=decide_eq_false (by omega)
   have i3:¬ n < ws.length:=by omega
   simp only [Bool.and_false]
   clear hL h1 h2 h3 hr hn
   go_enter Tryz.func76,Tryz.ntmps76
   go_wp2
   go_quiet (fail)
   go_wp2
   go_ret
   exact ⟨rfl,_,rfl⟩
 ·have i1:(b == 0)=false:=by simpa using hz
  rw [decide_eq_false hz]
  simp only [Bool.false_and]
  clear hL hz h1 h3
  go_enter Tryz.func76,Tryz.ntmps76
  go_wp2
  go_quiet (fail)
  go_wp2
  go_ret
  exact ⟨rfl,_,rfl⟩
/-- The word is taken, if it is the next one. -/
def skR (fin:Pl) (t:List UInt8) (r:RsC):RsC:=if isC t r=true then takeR fin t r else r
theorem skR_yes {fin:Pl}{t:List UInt8}{r:RsC}(h:isC t r=true):skR fin t r=takeR fin t r:=if_pos h
theorem skR_no {fin:Pl}{t:List UInt8}{r:RsC}(h:isC t r=false):skR fin t r=r:=if_neg (by rw [h];decide)
theorem isC_cons {t:List UInt8}{r:RsC}(h:isC t r=true):r.2.2=0∧∃ x l,r.1=x :: l:=by
 refine ⟨isC_ok h,?_⟩
 unfold isC at h
 cases hr:r.1 with
 | nil=>rw [hr] at h;simp at h
 | cons x l=>exact ⟨x,l,rfl⟩
set_option maxRecDepth 100000 in
set_option maxHeartbeats 4000000 in
theorem skips_any {w:World}{X:Nat}{a:Option Addr}{cap:Nat}{ws:List Wd}{fin:Pl}{r:RsC}(h:Pr w X a cap ws fin r) (hk:Wk ws cap) (t:List UInt8) :
  Calls Tryz.prog 74 #[.pointer (some ⟨X,0,none⟩),.string ⟨t.toArray⟩] w fun e w'=>e=.returned (.bool (isC t r))∧Pr w' X a cap ws fin (skR fin t r)∧Fx X w w':=by
 have hS:=sees_any h hk t
 cases hi:isC t r with
 | true=>
  rw [hi] at hS
  rw [skR_yes hi]
  obtain ⟨h0,x,l,hr⟩:=isC_cons hi
  have e:takeR fin t r=(l,r.2):=by unfold takeR;rw [if_pos hi,hr];rfl
  rw [e]
  obtain ⟨n,h1,h2,h3,h4⟩:=id h
  rw [hr] at h2
  have hlen:=hk.l
  have i5:IntKind.i64.wrap ((n:Int)+1)=(n:Int)+1:=by rw [IntKind.wrap_i64];omega
  go_enter Tryz.func74,Tryz.ntmps74
  go_upto_region 3 with (first
   | (go_at_call 76;refine hS.mono ?_;rintro e w1 ⟨rfl,m,rfl⟩))
  have hR1:=h1.on (draws w m)
  have hR2:=hR1.set1 (n+1)
  have hF:Fx X w ((w.drewN m).setCell ⟨X,1,none⟩ (.int .i64 ((n+1:Nat):Int))):=((Fx.refl X w).drewN m).setX _
  obtain ⟨c0,c1,c2,f1,f2,hL⟩:=id hR1
  clear hL hS h h1 h4 hi e
  generalize w.drewN m=w1 at *
  go_wp2
  go_ret
  refine ⟨rfl,?_,?_⟩
  ·exact Pr.step hR2 h2 h0
  ·exact hF
 | false=>
  rw [hi] at hS
  rw [skR_no hi]
  go_enter Tryz.func74,Tryz.ntmps74
  go_wp2_with (first
   | (go_at_call 76;refine hS.mono ?_;rintro e w1 ⟨rfl,m,rfl⟩))
  go_ret
  exact ⟨rfl,h.on (draws w m),(Fx.refl X w).drewN m⟩
set_option maxRecDepth 100000 in
set_option maxHeartbeats 4000000 in
theorem must_any {w:World}{X:Nat}{a:Option Addr}{cap:Nat}{ws:List Wd}{fin:Pl}{r:RsC}(h:Pr w X a cap ws fin r) (hk:Wk ws cap) (t:List UInt8) :
  Calls Tryz.prog 71 #[.pointer (some ⟨X,0,none⟩),.string ⟨t.toArray⟩] w fun e w'=>(∃ u,e=.returned u)∧Pr w' X a cap ws fin (takeR fin t r)∧Fx X w w':=by
 have hS:=skips_any h hk t
 cases hi:isC t r with
 | true=>
  rw [hi,skR_yes hi] at hS
  go_enter Tryz.func71,Tryz.ntmps71
  go_wp2_with (first
   | (go_at_call 74;refine hS.mono ?_;rintro e w1 ⟨rfl,hp,hf⟩))
  go_end0
  exact ⟨⟨_,rfl⟩,hp,hf⟩
 | false=>
  rw [hi,skR_no hi] at hS
  rw [take_not hi]
  have hF:=fun w1 n (hr:Rr w1 X a cap ws n r.2.2)=>pfail_any hr 12
  go_enter Tryz.func71,Tryz.ntmps71
  go_wp2_with (first
   | (go_at_call 74;refine hS.mono ?_;rintro e w1 ⟨rfl,⟨n,hr,h1,h2,h3⟩,hf⟩)
   | (go_at_call 78;refine (hF _ _ hr).mono ?_;rintro e w2 ⟨⟨u,rfl⟩,hr2,hf2⟩))
  go_end0
  exact ⟨⟨_,rfl⟩,Pr.bad hr2 h1 h2 h3,hf.trans hf2⟩
set_option maxRecDepth 100000 in
set_option maxHeartbeats 4000000 in
theorem last_p {w:World}{X:Nat}{a:Option Addr}{cap:Nat}{ws:List Wd}{fin:Pl}{r:RsC}(h:Pr w X a cap ws fin r) (hk:Wk ws cap) :
  Calls Tryz.prog 36 #[.pointer (some ⟨X,0,none⟩)] w fun e w'=>(∃ u,e=.returned u)∧Pr w' X a cap ws fin (lastR fin r)∧Fx X w w':=by
 obtain ⟨n,h1,h2,h3,h4⟩:=id h
 have hcap:=hk.c
 have hF:=fun w1 (hr:Rr w1 X a cap ws n r.2.2)=>pfail_any hr 12
 obtain ⟨c0,c1,c2,f1,f2,hL⟩:=id h1
 clear hL
 have hlast:∀ w',Rr w' X a cap ws n (if r.2.2=0 then 12 else r.2.2)→n < ws.length→Pr w' X a cap ws fin (lastR fin r):=fun w' hr hn=>by
  have hne:r.1≠[]:=by
   rw [h2]
   intro e
   have:=congrArg List.length e
   rw [List.length_drop] at this
   simp at this
   omega
  unfold lastR
  by_cases h0:r.2.2=0
  ·rw [if_pos ⟨h0,hne⟩];exact Pr.bad hr h2 h3 h4
  ·rw [if_neg (fun e=>h0 e.1)]
   rw [if_neg h0] at hr
   exact ⟨n,hr,h2,h3,h4⟩
 by_cases hn:n < ws.length
 ·have i1:decide ((n:Int) < (ws.length:Int))=true:=decide_eq_true (by omega)
  have HL:Hid (∀ w',Rr w' X a cap ws n (if r.2.2=0 then 12 else r.2.2)→n < ws.length→Pr w' X a cap ws fin (lastR fin r)):=hlast
  obtain ⟨b,hb⟩:∃ b,r.2.2=b:=⟨_,rfl⟩
  clear hlast h2 h4
  go_enter Tryz.func36,Tryz.ntmps36
  go_wp2
  go_quiet (fail)
  have hr1:=h1.on (draws w nq)
  go_wp2_with (first
   | (go_at_call 78;refine (hF _ hr1).mono ?_;rintro e w2 ⟨⟨u,rfl⟩,hr2,hf2⟩))
  go_end0
  exact ⟨⟨_,rfl⟩,HL.out _ hr2 hn,((Fx.refl X w).drewN _).trans hf2⟩
 ·have i1:decide (n < ws.length)=false:=decide_eq_false hn
  have e:lastR fin r=r:=by
   unfold lastR
   rw [if_neg]
   rintro ⟨_,q⟩
   exact q (by rw [h2];exact List.drop_eq_nil_of_le (by omega))
  rw [e]
  clear hlast h2 h4 e
  go_enter Tryz.func36,Tryz.ntmps36
  go_wp2
  go_quiet (fail)
  go_wp2
  go_end0
  exact ⟨⟨_,rfl⟩,h.on (draws w _),(Fx.refl X w).drewN _⟩
end Go.Proofs.YtlgnahpfggagoaaGreatDoor
/- The number that digits spell, as strconv.ParseInt tells it. Math alone. -/
namespace Go.Proofs.YtlgnahpfggagoaaGreatDoor
open Go.RowKit Go.Lib
set_option linter.unusedSimpArgs false
set_option linter.unusedVariables false
theorem valB_ge:∀ (l:List UInt8) (n:Int),0≤n→l.all dB=true→n≤valB n l
 | [],n,_,_=>Int.le_refl _
 | c :: r,n,hn,h=>by
  simp only [List.all_cons,Bool.and_eq_true] at h
  have hd:48≤c.toNat∧c.toNat≤57:=of_decide_eq_true h.1
  have:=valB_ge r (10*n+((c.toNat:Int) - 48)) (by omega) h.2
  show n≤valB (10*n+((c.toNat:Int) - 48)) r
  omega
theorem parseM:∀ (l:List UInt8) (acc:Nat),l.all dB=true→valB (acc:Int) l≤1000000000→parseUintM (2 ^ 64 - 1) acc l=.ok (valB (acc:Int) l).toNat
 | [],acc,_,_=>by
  show NumEnd.ok acc=.ok ((acc:Int)).toNat
  rw [Int.toNat_natCast]
 | c :: r,acc,h,hb=>by
  simp only [List.all_cons,Bool.and_eq_true] at h
  have hd:48≤c.toNat∧c.toNat≤57:=of_decide_eq_true h.1
  have e:valB (acc:Int) (c :: r)=valB ((acc*10+(c.toNat - 48):Nat):Int) r:=by
   show valB (10*(acc:Int)+((c.toNat:Int) - 48)) r=_
   congr 1
   omega
  rw [e] at hb ⊢
  have hg:=valB_ge r ((acc*10+(c.toNat - 48):Nat):Int) (by omega) h.2
  rw [parseUintM,if_pos hd,if_neg (by omega),if_neg (by omega)]
  exact parseM r _ h.2 hb
theorem parse_num {b:List UInt8}(h:numB b=true):parseIntB 64 b=.ok (valB 0 b):=by
 obtain ⟨h1,h2,h3⟩:=num_len h
 have hall:b.all dB=true:=by
  unfold numB at h
  simp only [Bool.and_eq_true] at h
  simp_all
 cases b with
 | nil=>revert h;decide
 | cons c r=>
  have hc:=hall
  simp only [List.all_cons,Bool.and_eq_true] at hc
  have hd:48≤c.toNat∧c.toNat≤57:=of_decide_eq_true hc.1
  have hp:=parseM (c :: r) 0 hall h3
  rw [parseIntB_plain 64 c r (by omega) (by omega)]
  unfold parseUintB
  rw [if_neg (by simp),hp]
  show signlessC (2 ^ (64 - 1)) (.ok (valB 0 (c :: r)).toNat)=_
  unfold signlessC
  simp only
  rw [if_neg (by omega),Int.toNat_of_nonneg h2]
theorem atoiM:∀ (l:List UInt8) (acc:Nat),l.all dB=true→valB (acc:Int) l≤1000000000→parseUint10 acc l=.ok (valB (acc:Int) l).toNat
 | [],acc,_,_=>by
  show NumEnd.ok acc=.ok ((acc:Int)).toNat
  rw [Int.toNat_natCast]
 | c :: r,acc,h,hb=>by
  simp only [List.all_cons,Bool.and_eq_true] at h
  have hd:48≤c.toNat∧c.toNat≤57:=of_decide_eq_true h.1
  have e:valB (acc:Int) (c :: r)=valB ((acc*10+(c.toNat - 48):Nat):Int) r:=by
   show valB (10*(acc:Int)+((c.toNat:Int) - 48)) r=_
   congr 1
   omega
  rw [e] at hb ⊢
  have hg:=valB_ge r ((acc*10+(c.toNat - 48):Nat):Int) (by omega) h.2
  rw [parseUint10,if_pos hd,if_neg (by omega),if_neg (by omega)]
  exact atoiM r _ h.2 hb
theorem atoi_num {b:List UInt8}(h:numB b=true):atoiAll b=.ok (valB 0 b):=by
 obtain ⟨h1,h2,h3⟩:=num_len h
 have hall:b.all dB=true:=by
  unfold numB at h
  simp only [Bool.and_eq_true] at h
  simp_all
 have hle:valB 0 b≤1000000000:=by
  unfold numB at h
  simp only [Bool.and_eq_true,decide_eq_true_eq] at h
  exact h.2
 cases b with
 | nil=>revert h;decide
 | cons c r=>
  have hd:48≤c.toNat∧c.toNat≤57:=by
   simp only [List.all_cons,Bool.and_eq_true] at hall
   exact of_decide_eq_true hall.1
  have hm:parseMag (c :: r)=.ok (valB 0 (c :: r)).toNat:=by
   unfold parseMag
   rw [if_neg (by simp)]
   exact atoiM (c :: r) 0 hall hle
  have hg:=valB_ge (c :: r) 0 (by omega) hall
  unfold atoiAll
  simp only
  rw [if_neg (show ¬ (c.toNat=43∨c.toNat=45) by omega),hm]
  simp only
  rw [if_neg (by omega),if_neg (by omega),if_neg (by omega)]
  congr 1
  omega
theorem num_small {b:List UInt8}(h:numB b=true):0≤valB 0 b∧valB 0 b≤1000000000:=by
 have hall:b.all dB=true:=by
  unfold numB at h
  simp only [Bool.and_eq_true] at h
  simp_all
 refine ⟨valB_ge b 0 (by omega) hall,?_⟩
 unfold numB at h
 simp only [Bool.and_eq_true,decide_eq_true_eq] at h
 exact h.2
theorem nx_dig {c:UInt8}{r:List UInt8}(h:48≤c.toNat∧c.toNat≤57):(nx (c :: r)).1=(c.toNat:Int):=by
 obtain ⟨t,_,h2,_⟩:=head_small c r
 exact (h2 (by omega)).2
/-- A name is no number, and no sign. -/
theorem name_num {b:List UInt8}(h:nameS b=true):numB b=false:=by
 cases b with
 | nil=>rfl
 | cons c r=>
  unfold nameS at h
  simp only [Bool.and_eq_true] at h
  have hl:=h.1.1
  cases hn:numB (c :: r) with
  | false=>rfl
  | true=>
   have hall:(c :: r).all dB=true:=by
    unfold numB at hn
    simp only [Bool.and_eq_true] at hn
    simp_all
   simp only [List.all_cons,Bool.and_eq_true] at hall
   have hd:48≤c.toNat∧c.toNat≤57:=of_decide_eq_true hall.1
   rw [nx_dig hd,letter_eq] at hl
   simp only [Bool.or_eq_true,Bool.and_eq_true,decide_eq_true_eq] at hl
   omega
theorem seg_head {K:Nat}{seg:List Ru}(h:OneW K seg) {v:Ru}{t:List Ru}(e:seg=v :: t):(nx (byt seg)).1=v.1:=by
 have hr:=h.runes
 have hb:byt seg≠[]:=by
  intro e2
  rw [e2] at hr
  rw [← hr] at e
  cases e
 have:=runes_cons hb
 rw [hr] at this
 have h2:=e.symm.trans this
 injection h2 with h3 h4
 exact (congrArg Prod.fst h3).symm
/-- A word is of kind 1 just if it is a name. -/
theorem kind_name {K:Nat}{seg:List Ru}(h:OneW K seg):K=1↔nameS (byt seg)=true:=by
 rcases h.kind with ⟨k,n⟩ | ⟨k,n⟩ | ⟨k,v,t,e,l,d⟩
 ·exact ⟨fun _=>n,fun _=>k⟩
 ·constructor
  ·intro h1;omega
  ·intro h1;rw [name_num h1] at n;cases n
 ·constructor
  ·intro h1;omega
  ·intro h1
   unfold nameS at h1
   simp only [Bool.and_eq_true] at h1
   rw [seg_head h e,l] at h1
   exact absurd h1.1.1 (by decide)
/-- A number is not reserved. -/
theorem rsv_num {b:List UInt8}(h:numB b=true):rsvB b=false:=by
 cases hr:rsvB b with
 | false=>rfl
 | true=>
  have hall:rsv13.all (fun x=>!numB x)=true:=by decide
  unfold rsvB at hr
  obtain ⟨x,hx,hb⟩:=List.any_eq_true.1 hr
  have h1:=List.all_eq_true.1 hall x hx
  have h2:b=x:=by simpa using hb
  subst h2
  rw [h] at h1
  exact absurd h1 (by decide)
end Go.Proofs.YtlgnahpfggagoaaGreatDoor
