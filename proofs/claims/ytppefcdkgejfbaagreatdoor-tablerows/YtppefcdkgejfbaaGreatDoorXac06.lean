import Derived.Test.YtppefcdkgejfbaaGreatDoorXac04
import Derived.Test.YtppefcdkgejfbaaGreatDoorXac05
import Derived.Test.YtppefcdkgejfbaaGreatDoorXac01
import Derived.Test.YtppefcdkgejfbaaGreatDoorRows
import Derived.WalkSmall
import Derived.BigQuiet
import Derived.Deep.QuietTactic
import Derived.Test.YtppefcdkgejfbaaGreatDoorXac02
import Derived.RangeFuncNested
import Derived.RangeFuncBound
import Derived.RangeFuncCalls
import Derived.RangeFuncLeaves
set_option maxRecDepth 100000
set_option maxHeartbeats 32000000
namespace Go.Proofs.YtppefcdkgejfbaaGreatDoor
open Go.RowKit Go.Lib
set_option linter.unusedSimpArgs false
set_option linter.unusedVariables false
attribute [local go_sem ↓] Go.wp_at_zero Go.wp_at_succ
theorem as_nil_lit (w:World):(Instr.typeAssert .nilIface 85 67 true).run Tryz.prog w=.ok (.tuple #[.agg #[.int .i64 0],.bool false]) w:=by kernel_rfl
theorem as_nil_ref (w:World):(Instr.typeAssert .nilIface 85 133 true).run Tryz.prog w=.ok (.tuple #[.agg #[.string ⟨#[]⟩],.bool false]) w:=by kernel_rfl
theorem as_nil_not (w:World):(Instr.typeAssert .nilIface 85 135 true).run Tryz.prog w=.ok (.tuple #[.agg #[.nilIface],.bool false]) w:=by kernel_rfl
theorem as_nil_neg (w:World):(Instr.typeAssert .nilIface 85 136 true).run Tryz.prog w=.ok (.tuple #[.agg #[.nilIface],.bool false]) w:=by kernel_rfl
theorem as_nil_bin (w:World):(Instr.typeAssert .nilIface 85 138 true).run Tryz.prog w=.ok (.tuple #[.agg #[.string ⟨#[]⟩,.nilIface,.nilIface],.bool false]) w:=by kernel_rfl
attribute [local go_sem] as_nil_lit as_nil_ref as_nil_not as_nil_neg as_nil_bin as_lit_lit as_ref_lit as_ref_ref as_not_lit as_not_ref as_not_not as_neg_lit as_neg_ref as_neg_not as_neg_neg as_bin_lit as_bin_ref as_bin_not as_bin_neg as_bin_bin
def CdP (d:Nat):Prop:=∀ (vs:List Vr) (t:T d) (vv:Value) (w:World),Cl d t->shrt 1000 d t=true->cnt d t<=10000->RdV w vv vs->vs.length<=10000->
 Calls Tryz.prog 26 #[exV d t,vv] w fun e w'=>∃ a n c,e=.returned (.slice a n c)/\OwnI w' w.heap.size 69 (.slice a n c) (cdC vs d t)/\Below w.heap.size w w'
theorem exV_ifc (d:Nat) (t:T d) (h:Cl d t):Ifc (exV d t):=by
 cases d with
 | zero=>exact Empty.elim t
 | succ d=>
  rcases h.cases with ⟨n,rfl⟩|⟨s,rfl⟩|⟨k,p,hk,rfl,hp⟩|⟨s,p,q,rfl,hp,hq⟩|rfl
  ·exact .inr ⟨_,_,rfl⟩
  ·exact .inr ⟨_,_,rfl⟩
  ·rcases hk with rfl|rfl
   ·exact .inr ⟨_,_,rfl⟩
   ·exact .inr ⟨_,_,rfl⟩
  ·exact .inr ⟨_,_,rfl⟩
  ·exact .inl rfl
theorem cd_lit (n:Int) (vv:Value) (hv:∃ a n c,vv=.slice a n c) (w:World):Calls Tryz.prog 26 #[.iface 67 (.agg #[.int .i64 n]),vv] w fun e w'=>∃ a k c,e=.returned (.slice a k c)/\OwnI w' w.heap.size 69 (.slice a k c) [(wPush,n)]/\Below w.heap.size w w':=by
 obtain ⟨va,vn,vc,rfl⟩:=hv
 have hal:Below w.heap.size w (w.alloc (.cells #[.int .i64 n] 67)):=(Below.refl _ _).alloc Nat.le.refl _
 have hN:=ownI_new (w.alloc (.cells #[.int .i64 n] 67)) 69 ⟨#[112,117,115,104]⟩ n w.heap.size hal.size
 go_enter Tryz.func26,Tryz.ntmps26
 go_wp2
 go_ret
 exact ⟨_,_,_,rfl,by simpa [wPush] using hN,hal.alloc hal.size _⟩
theorem cd_ref (s:ByteArray) {vs:List Vr}{vv:Value}{w:World}(hv:RdV w vv vs) (hl:vs.length<=10000):Calls Tryz.prog 26 #[.iface 133 (.agg #[.string s]),vv] w fun e w'=>∃ a k c,e=.returned (.slice a k c)/\OwnI w' w.heap.size 69 (.slice a k c) [(wLoad,vix s vs 0)]/\Below w.heap.size w w':=by
 have hal:Below w.heap.size w (w.alloc (.cells #[.string s] 133)):=(Below.refl _ _).alloc Nat.le.refl _
 have hc:=numberOf_any (hv.below hal Nat.le.refl) hl s
 obtain ⟨a,cap,rfl,hlc,hcm,_⟩:=hv.form
 obtain ⟨V,hV⟩:∃ V,vix s vs 0=V:=⟨_,rfl⟩
 have hV1:=vix_ge s vs 0
 have hV2:=vix_lt s vs 0
 rw [hV] at hc hV1 hV2 ⊢
 clear hV hv
 have hN:=fun w1 (b:w.heap.size<=w1.heap.size)=>ownI_new w1 69 ⟨#[108,111,97,100]⟩ V w.heap.size b
 go_enter Tryz.func26,Tryz.ntmps26
 go_wp2_with (first
  | (go_at_call 25;refine hc.mono ?_;rintro e w1 ⟨rfl,b1⟩)
  | fail)
 go_ret
 have hb1:=hal.trans (b1.mono hal.size)
 exact ⟨_,_,_,rfl,hN _ hb1.size,hb1.alloc hb1.size _⟩
theorem cd_one (k:Int) (hk:k=3∨k=4) {x:Value}(hx:Ifc x) {vv:Value}(hvv:∃ a n c,vv=.slice a n c) {w:World}{l:List Ins}(hle:l.length<=50000)
  (hc:∀ w1,Below w.heap.size w w1->Calls Tryz.prog 26 #[x,vv] w1 fun e w'=>∃ a n c,e=.returned (.slice a n c)/\OwnI w' w1.heap.size 69 (.slice a n c) l/\Below w1.heap.size w1 w') :
  Calls Tryz.prog 26 #[.iface (if k=3 then 135 else 136) (.agg #[x]),vv] w fun e w'=>∃ a n c,e=.returned (.slice a n c)/\OwnI w' w.heap.size 69 (.slice a n c) (l++[(if k=3 then wNot else wNeg,0)])/\Below w.heap.size w w':=by
 obtain ⟨va,vn,vc,rfl⟩:=hvv
 have hsn:=fun w1 s=>srcI_new (tx:=51) Tryz.underlying51 w1 s 0
 rcases hk with rfl|rfl
 ·simp only [if_true]
  have hal:Below w.heap.size w (w.alloc (.cells #[x] 135)):=(Below.refl _ _).alloc Nat.le.refl _
  have hc1:=hc _ hal
  rcases hx with rfl|⟨u,y,rfl⟩
  all_goals (
   go_enter Tryz.func26,Tryz.ntmps26
   go_wp2_with (first
    | (go_at_call 26;refine hc1.mono ?_;rintro e w1 ⟨ra,rn,rc,rfl,ho,b1⟩;have hb1:=hal.trans (b1.mono hal.size);have hal2:Below w1.heap.size w1 (w1.alloc (.cells #[.string ⟨#[110,111,116]⟩,.int .i64 0] 69)):=(Below.refl _ _).alloc Nat.le.refl _;have ho2:=(ho.low hal.size).on hal2;have hb2:=hb1.trans (hal2.mono hb1.size);have s2:=hsn w1 ⟨#[110,111,116]⟩)
    | (at_builtin;refine appI rfl _ _ rfl w.heap.size _ l rfl ho2 _ [((⟨#[110,111,116]⟩:ByteArray),(0:Int))] rfl s2 (by simp;omega) hb2.size ?_;intro vf mf vg w5 HMF ho6 hg6 hat6)
    | fail)
   go_ret
   exact ⟨_,_,_,rfl,ho6,hb2.grown hg6 hb2.size (fun k hk=>(ho2.lt k hk).1)⟩)
 ·rw [if_neg (by decide),if_neg (by decide)]
  have hal:Below w.heap.size w (w.alloc (.cells #[x] 136)):=(Below.refl _ _).alloc Nat.le.refl _
  have hc1:=hc _ hal
  rcases hx with rfl|⟨u,y,rfl⟩
  all_goals (
   go_enter Tryz.func26,Tryz.ntmps26
   go_wp2_with (first
    | (go_at_call 26;refine hc1.mono ?_;rintro e w1 ⟨ra,rn,rc,rfl,ho,b1⟩;have hb1:=hal.trans (b1.mono hal.size);have hal2:Below w1.heap.size w1 (w1.alloc (.cells #[.string ⟨#[110,101,103]⟩,.int .i64 0] 69)):=(Below.refl _ _).alloc Nat.le.refl _;have ho2:=(ho.low hal.size).on hal2;have hb2:=hb1.trans (hal2.mono hb1.size);have s2:=hsn w1 ⟨#[110,101,103]⟩)
    | (at_builtin;refine appI rfl _ _ rfl w.heap.size _ l rfl ho2 _ [((⟨#[110,101,103]⟩:ByteArray),(0:Int))] rfl s2 (by simp;omega) hb2.size ?_;intro vf mf vg w5 HMF ho6 hg6 hat6)
    | fail)
   go_ret
   exact ⟨_,_,_,rfl,ho6,hb2.grown hg6 hb2.size (fun k hk=>(ho2.lt k hk).1)⟩)
theorem two_apart {w3 w4:World}{b1 b2:Nat}{e:TypeId}{v u:Value}{l r:List Ins}(h1:OwnI w3 b1 e v l) (h2:OwnI w4 b2 e u r) (hle:w3.heap.size<=b2):Apart v u:=fun g hg hu=>by
 have h3:=(h1.lt g hg).2
 have h4:=(h2.lt g hu).1
 omega
theorem cellI_dr {w:World}{p:Addr}{v:Value}(h:w.cell? p=some v):w.drew.cell? p=some v:=h
theorem Below.nxI {w wc w1:World}(h:Below w.heap.size w wc) (b:Below wc.heap.size wc w1):Below w.heap.size w w1:=h.trans (b.mono h.size)
theorem Below.nxdI {w wc w1:World}(h:Below w.heap.size w wc) (b:Below wc.drew.heap.size wc.drew w1):Below w.heap.size w w1:=(h.drew).trans (b.mono h.size)
theorem cd_bin (s:ByteArray) (hsz:s.size<=1000) {x y:Value}(hx:Ifc x) (hy:Ifc y) {vv:Value}(hvv:∃ a n c,vv=.slice a n c) {w:World}{l r:List Ins}(hle:l.length+r.length<=50000)
  (hc:∀ w1,Below w.heap.size w w1->Calls Tryz.prog 26 #[x,vv] w1 fun e w'=>∃ a n c,e=.returned (.slice a n c)/\OwnI w' w1.heap.size 69 (.slice a n c) l/\Below w1.heap.size w1 w')
  (hd:∀ w1,Below w.heap.size w w1->Calls Tryz.prog 26 #[y,vv] w1 fun e w'=>∃ a n c,e=.returned (.slice a n c)/\OwnI w' w1.heap.size 69 (.slice a n c) r/\Below w1.heap.size w1 w') :
  Calls Tryz.prog 26 #[.iface 138 (.agg #[.string s,x,y]),vv] w fun e w'=>∃ a n c,e=.returned (.slice a n c)/\OwnI w' w.heap.size 69 (.slice a n c) (binI s l r)/\Below w.heap.size w w':=by
 obtain ⟨va,vn,vc,rfl⟩:=hvv
 have hal:Below w.heap.size w (w.alloc (.cells #[.string s,x,y] 138)):=(Below.refl _ _).alloc Nat.le.refl _
 have hX:Bn (w.alloc (.cells #[.string s,x,y] 138)) w.heap.size [.string s,x,y]:=Bn.new w [.string s,x,y] 138 _ rfl
 rcases hx with rfl|⟨u,x,rfl⟩
 ·rcases hy with rfl|⟨u',y,rfl⟩
  ·go_enter Tryz.func26,Tryz.ntmps26
   go_upto_region 16 with fail
   generalize (w.alloc (.cells #[.string s,.nilIface,.nilIface] 138))=wx at *
   have z0:=(hX 0 _ rfl).1
   have z1:=(hX 1 _ rfl).1
   have z2:=(hX 2 _ rfl).1
   have hXl:=hX.lt
   have hcx:∀ w1,Below wx.heap.size wx w1->Calls Tryz.prog 26 #[.nilIface,.slice va vn vc] w1 fun e w'=>∃ a n c,e=.returned (.slice a n c)/\OwnI w' w1.heap.size 69 (.slice a n c) l/\Below w1.heap.size w1 w':=fun w1 b=>hc w1 (hal.trans (b.mono hal.size))
   have hdx:∀ w1,Below wx.heap.size wx w1->Calls Tryz.prog 26 #[.nilIface,.slice va vn vc] w1 fun e w'=>∃ a n c,e=.returned (.slice a n c)/\OwnI w' w1.heap.size 69 (.slice a n c) r/\Below w1.heap.size w1 w':=fun w1 b=>hd w1 (hal.trans (b.mono hal.size))
   have hwl:w.heap.size<=wx.heap.size:=hal.size
   have hb:∀ w1 la ln lc ra rn rc,OwnI w1 wx.heap.size 69 (.slice la ln lc) l->OwnI w1 wx.heap.size 69 (.slice ra rn rc) r->Apart (.slice la ln lc) (.slice ra rn rc)->wx.heap.size<=w1.heap.size->Calls Tryz.prog 50 #[.string s,.slice la ln lc,.slice ra rn rc] w1 fun e w'=>∃ a n c,e=.returned (.slice a n c)/\OwnI w' wx.heap.size 69 (.slice a n c) (binI s l r)/\Below wx.heap.size w1 w':=fun w1 la ln lc ra rn rc h1 h2 h3 h4=>binCode_any wx.heap.size s h1 h2 h3 hle h4 (by omega)
   clear hc hd hX
   obtain ⟨Xb,hXb⟩:∃ Xb,w.heap.size=Xb:=⟨_,rfl⟩
   rw [hXb] at z0 z1 z2 hXl hwl ⊢
   have HXB:=hidI hXb
   have HAL:=hidI hal
   clear hXb hal
   have hB:=Below.refl wx.heap.size wx
   have y0:=z0
   have y1:=z1
   have y2:=z2
   go_region_held_law (fun w'=>w'.cell? ⟨Xb,0,none⟩=some (.string s)/\w'.cell? ⟨Xb,1,none⟩=some (.nilIface)/\w'.cell? ⟨Xb,2,none⟩=some (.nilIface))
    ((refine ⟨?_,?_,?_⟩<;>(repeat (with_reducible first|exact y0|exact y1|exact y2|refine cellI_dr ?_))<;>done))
    (first
     | (go_at_call 50;(with_reducible first|refine (hb _ _ _ _ _ _ _ hoL hoR hap hszB).mono ?_|refine (hb _ _ _ _ _ _ _ hoL.dr hoR.dr hap hszB).mono ?_);rintro e w7 ⟨ta,tn,tc,rfl,hoT,bT⟩;(first|have hB:=hB.trans bT|have hB:=hB.drew.trans bT);have y0:=(hB.cell (p:=⟨Xb,0,none⟩) hXl).trans z0;have y1:=(hB.cell (p:=⟨Xb,1,none⟩) hXl).trans z1;have y2:=(hB.cell (p:=⟨Xb,2,none⟩) hXl).trans z2)
     | (go_at_call 26;(with_reducible first|refine (hdx _ hB1).mono ?_|refine (hdx _ hB1.drew).mono ?_);rintro e w4 ⟨ra,rn,rc,rfl,hoR,bR⟩;have hap:=two_apart hoL hoR (by simp);have hoR:=hoR.low (lo:=wx.heap.size) (by have h9:=hB1.size;(try simp only [World.drew] at h9 ⊢);omega);have hoL:=hoL.on (w':=w4) (by first|exact bR|exact ((Below.refl _ _).drew).trans bR);(first|have hB:=Below.nxI hB1 bR|have hB:=Below.nxdI hB1 bR);have y0:=(hB.cell (p:=⟨Xb,0,none⟩) hXl).trans z0;have y1:=(hB.cell (p:=⟨Xb,1,none⟩) hXl).trans z1;have y2:=(hB.cell (p:=⟨Xb,2,none⟩) hXl).trans z2;have hszB:wx.heap.size<=w4.heap.size:=by have h9:=hB.size;omega)
     | (go_at_call 26;(with_reducible first|refine (hcx _ hB).mono ?_|refine (hcx _ hB.drew).mono ?_);rintro e w3 ⟨la,ln,lc,rfl,hoL,bL⟩;have hoL:=hoL.low (lo:=wx.heap.size) (by have h9:=hB.size;(try simp only [World.drew] at h9 ⊢);omega);(first|have hB:=Below.nxI hB bL|have hB:=Below.nxdI hB bL);have hB1:=hB;have y0:=(hB.cell (p:=⟨Xb,0,none⟩) hXl).trans z0;have y1:=(hB.cell (p:=⟨Xb,1,none⟩) hXl).trans z1;have y2:=(hB.cell (p:=⟨Xb,2,none⟩) hXl).trans z2)
     | fail)
   all_goals (
    go_wp2
    go_ret
    exact ⟨_,_,_,rfl,hoT.low HAL.out.size,HAL.out.trans (hB.mono HAL.out.size)⟩)
  ·go_enter Tryz.func26,Tryz.ntmps26
   go_upto_region 16 with fail
   generalize (w.alloc (.cells #[.string s,.nilIface,.iface u' y] 138))=wx at *
   have z0:=(hX 0 _ rfl).1
   have z1:=(hX 1 _ rfl).1
   have z2:=(hX 2 _ rfl).1
   have hXl:=hX.lt
   have hcx:∀ w1,Below wx.heap.size wx w1->Calls Tryz.prog 26 #[.nilIface,.slice va vn vc] w1 fun e w'=>∃ a n c,e=.returned (.slice a n c)/\OwnI w' w1.heap.size 69 (.slice a n c) l/\Below w1.heap.size w1 w':=fun w1 b=>hc w1 (hal.trans (b.mono hal.size))
   have hdx:∀ w1,Below wx.heap.size wx w1->Calls Tryz.prog 26 #[.iface u' y,.slice va vn vc] w1 fun e w'=>∃ a n c,e=.returned (.slice a n c)/\OwnI w' w1.heap.size 69 (.slice a n c) r/\Below w1.heap.size w1 w':=fun w1 b=>hd w1 (hal.trans (b.mono hal.size))
   have hwl:w.heap.size<=wx.heap.size:=hal.size
   have hb:∀ w1 la ln lc ra rn rc,OwnI w1 wx.heap.size 69 (.slice la ln lc) l->OwnI w1 wx.heap.size 69 (.slice ra rn rc) r->Apart (.slice la ln lc) (.slice ra rn rc)->wx.heap.size<=w1.heap.size->Calls Tryz.prog 50 #[.string s,.slice la ln lc,.slice ra rn rc] w1 fun e w'=>∃ a n c,e=.returned (.slice a n c)/\OwnI w' wx.heap.size 69 (.slice a n c) (binI s l r)/\Below wx.heap.size w1 w':=fun w1 la ln lc ra rn rc h1 h2 h3 h4=>binCode_any wx.heap.size s h1 h2 h3 hle h4 (by omega)
   clear hc hd hX
   obtain ⟨Xb,hXb⟩:∃ Xb,w.heap.size=Xb:=⟨_,rfl⟩
   rw [hXb] at z0 z1 z2 hXl hwl ⊢
   have HXB:=hidI hXb
   have HAL:=hidI hal
   clear hXb hal
   have hB:=Below.refl wx.heap.size wx
   have y0:=z0
   have y1:=z1
   have y2:=z2
   go_region_held_law (fun w'=>w'.cell? ⟨Xb,0,none⟩=some (.string s)/\w'.cell? ⟨Xb,1,none⟩=some (.nilIface)/\w'.cell? ⟨Xb,2,none⟩=some (.iface u' y))
    ((refine ⟨?_,?_,?_⟩<;>(repeat (with_reducible first|exact y0|exact y1|exact y2|refine cellI_dr ?_))<;>done))
    (first
     | (go_at_call 50;(with_reducible first|refine (hb _ _ _ _ _ _ _ hoL hoR hap hszB).mono ?_|refine (hb _ _ _ _ _ _ _ hoL.dr hoR.dr hap hszB).mono ?_);rintro e w7 ⟨ta,tn,tc,rfl,hoT,bT⟩;(first|have hB:=hB.trans bT|have hB:=hB.drew.trans bT);have y0:=(hB.cell (p:=⟨Xb,0,none⟩) hXl).trans z0;have y1:=(hB.cell (p:=⟨Xb,1,none⟩) hXl).trans z1;have y2:=(hB.cell (p:=⟨Xb,2,none⟩) hXl).trans z2)
     | (go_at_call 26;(with_reducible first|refine (hdx _ hB1).mono ?_|refine (hdx _ hB1.drew).mono ?_);rintro e w4 ⟨ra,rn,rc,rfl,hoR,bR⟩;have hap:=two_apart hoL hoR (by simp);have hoR:=hoR.low (lo:=wx.heap.size) (by have h9:=hB1.size;(try simp only [World.drew] at h9 ⊢);omega);have hoL:=hoL.on (w':=w4) (by first|exact bR|exact ((Below.refl _ _).drew).trans bR);(first|have hB:=Below.nxI hB1 bR|have hB:=Below.nxdI hB1 bR);have y0:=(hB.cell (p:=⟨Xb,0,none⟩) hXl).trans z0;have y1:=(hB.cell (p:=⟨Xb,1,none⟩) hXl).trans z1;have y2:=(hB.cell (p:=⟨Xb,2,none⟩) hXl).trans z2;have hszB:wx.heap.size<=w4.heap.size:=by have h9:=hB.size;omega)
     | (go_at_call 26;(with_reducible first|refine (hcx _ hB).mono ?_|refine (hcx _ hB.drew).mono ?_);rintro e w3 ⟨la,ln,lc,rfl,hoL,bL⟩;have hoL:=hoL.low (lo:=wx.heap.size) (by have h9:=hB.size;(try simp only [World.drew] at h9 ⊢);omega);(first|have hB:=Below.nxI hB bL|have hB:=Below.nxdI hB bL);have hB1:=hB;have y0:=(hB.cell (p:=⟨Xb,0,none⟩) hXl).trans z0;have y1:=(hB.cell (p:=⟨Xb,1,none⟩) hXl).trans z1;have y2:=(hB.cell (p:=⟨Xb,2,none⟩) hXl).trans z2)
     | fail)
   all_goals (
    go_wp2
    go_ret
    exact ⟨_,_,_,rfl,hoT.low HAL.out.size,HAL.out.trans (hB.mono HAL.out.size)⟩)
 ·rcases hy with rfl|⟨u',y,rfl⟩
  ·go_enter Tryz.func26,Tryz.ntmps26
   go_upto_region 16 with fail
   generalize (w.alloc (.cells #[.string s,.iface u x,.nilIface] 138))=wx at *
   have z0:=(hX 0 _ rfl).1
   have z1:=(hX 1 _ rfl).1
   have z2:=(hX 2 _ rfl).1
   have hXl:=hX.lt
   have hcx:∀ w1,Below wx.heap.size wx w1->Calls Tryz.prog 26 #[.iface u x,.slice va vn vc] w1 fun e w'=>∃ a n c,e=.returned (.slice a n c)/\OwnI w' w1.heap.size 69 (.slice a n c) l/\Below w1.heap.size w1 w':=fun w1 b=>hc w1 (hal.trans (b.mono hal.size))
   have hdx:∀ w1,Below wx.heap.size wx w1->Calls Tryz.prog 26 #[.nilIface,.slice va vn vc] w1 fun e w'=>∃ a n c,e=.returned (.slice a n c)/\OwnI w' w1.heap.size 69 (.slice a n c) r/\Below w1.heap.size w1 w':=fun w1 b=>hd w1 (hal.trans (b.mono hal.size))
   have hwl:w.heap.size<=wx.heap.size:=hal.size
   have hb:∀ w1 la ln lc ra rn rc,OwnI w1 wx.heap.size 69 (.slice la ln lc) l->OwnI w1 wx.heap.size 69 (.slice ra rn rc) r->Apart (.slice la ln lc) (.slice ra rn rc)->wx.heap.size<=w1.heap.size->Calls Tryz.prog 50 #[.string s,.slice la ln lc,.slice ra rn rc] w1 fun e w'=>∃ a n c,e=.returned (.slice a n c)/\OwnI w' wx.heap.size 69 (.slice a n c) (binI s l r)/\Below wx.heap.size w1 w':=fun w1 la ln lc ra rn rc h1 h2 h3 h4=>binCode_any wx.heap.size s h1 h2 h3 hle h4 (by omega)
   clear hc hd hX
   obtain ⟨Xb,hXb⟩:∃ Xb,w.heap.size=Xb:=⟨_,rfl⟩
   rw [hXb] at z0 z1 z2 hXl hwl ⊢
   have HXB:=hidI hXb
   have HAL:=hidI hal
   clear hXb hal
   have hB:=Below.refl wx.heap.size wx
   have y0:=z0
   have y1:=z1
   have y2:=z2
   go_region_held_law (fun w'=>w'.cell? ⟨Xb,0,none⟩=some (.string s)/\w'.cell? ⟨Xb,1,none⟩=some (.iface u x)/\w'.cell? ⟨Xb,2,none⟩=some (.nilIface))
    ((refine ⟨?_,?_,?_⟩<;>(repeat (with_reducible first|exact y0|exact y1|exact y2|refine cellI_dr ?_))<;>done))
    (first
     | (go_at_call 50;(with_reducible first|refine (hb _ _ _ _ _ _ _ hoL hoR hap hszB).mono ?_|refine (hb _ _ _ _ _ _ _ hoL.dr hoR.dr hap hszB).mono ?_);rintro e w7 ⟨ta,tn,tc,rfl,hoT,bT⟩;(first|have hB:=hB.trans bT|have hB:=hB.drew.trans bT);have y0:=(hB.cell (p:=⟨Xb,0,none⟩) hXl).trans z0;have y1:=(hB.cell (p:=⟨Xb,1,none⟩) hXl).trans z1;have y2:=(hB.cell (p:=⟨Xb,2,none⟩) hXl).trans z2)
     | (go_at_call 26;(with_reducible first|refine (hdx _ hB1).mono ?_|refine (hdx _ hB1.drew).mono ?_);rintro e w4 ⟨ra,rn,rc,rfl,hoR,bR⟩;have hap:=two_apart hoL hoR (by simp);have hoR:=hoR.low (lo:=wx.heap.size) (by have h9:=hB1.size;(try simp only [World.drew] at h9 ⊢);omega);have hoL:=hoL.on (w':=w4) (by first|exact bR|exact ((Below.refl _ _).drew).trans bR);(first|have hB:=Below.nxI hB1 bR|have hB:=Below.nxdI hB1 bR);have y0:=(hB.cell (p:=⟨Xb,0,none⟩) hXl).trans z0;have y1:=(hB.cell (p:=⟨Xb,1,none⟩) hXl).trans z1;have y2:=(hB.cell (p:=⟨Xb,2,none⟩) hXl).trans z2;have hszB:wx.heap.size<=w4.heap.size:=by have h9:=hB.size;omega)
     | (go_at_call 26;(with_reducible first|refine (hcx _ hB).mono ?_|refine (hcx _ hB.drew).mono ?_);rintro e w3 ⟨la,ln,lc,rfl,hoL,bL⟩;have hoL:=hoL.low (lo:=wx.heap.size) (by have h9:=hB.size;(try simp only [World.drew] at h9 ⊢);omega);(first|have hB:=Below.nxI hB bL|have hB:=Below.nxdI hB bL);have hB1:=hB;have y0:=(hB.cell (p:=⟨Xb,0,none⟩) hXl).trans z0;have y1:=(hB.cell (p:=⟨Xb,1,none⟩) hXl).trans z1;have y2:=(hB.cell (p:=⟨Xb,2,none⟩) hXl).trans z2)
     | fail)
   all_goals (
    go_wp2
    go_ret
    exact ⟨_,_,_,rfl,hoT.low HAL.out.size,HAL.out.trans (hB.mono HAL.out.size)⟩)
  ·go_enter Tryz.func26,Tryz.ntmps26
   go_upto_region 16 with fail
   generalize (w.alloc (.cells #[.string s,.iface u x,.iface u' y] 138))=wx at *
   have z0:=(hX 0 _ rfl).1
   have z1:=(hX 1 _ rfl).1
   have z2:=(hX 2 _ rfl).1
   have hXl:=hX.lt
   have hcx:∀ w1,Below wx.heap.size wx w1->Calls Tryz.prog 26 #[.iface u x,.slice va vn vc] w1 fun e w'=>∃ a n c,e=.returned (.slice a n c)/\OwnI w' w1.heap.size 69 (.slice a n c) l/\Below w1.heap.size w1 w':=fun w1 b=>hc w1 (hal.trans (b.mono hal.size))
   have hdx:∀ w1,Below wx.heap.size wx w1->Calls Tryz.prog 26 #[.iface u' y,.slice va vn vc] w1 fun e w'=>∃ a n c,e=.returned (.slice a n c)/\OwnI w' w1.heap.size 69 (.slice a n c) r/\Below w1.heap.size w1 w':=fun w1 b=>hd w1 (hal.trans (b.mono hal.size))
   have hwl:w.heap.size<=wx.heap.size:=hal.size
   have hb:∀ w1 la ln lc ra rn rc,OwnI w1 wx.heap.size 69 (.slice la ln lc) l->OwnI w1 wx.heap.size 69 (.slice ra rn rc) r->Apart (.slice la ln lc) (.slice ra rn rc)->wx.heap.size<=w1.heap.size->Calls Tryz.prog 50 #[.string s,.slice la ln lc,.slice ra rn rc] w1 fun e w'=>∃ a n c,e=.returned (.slice a n c)/\OwnI w' wx.heap.size 69 (.slice a n c) (binI s l r)/\Below wx.heap.size w1 w':=fun w1 la ln lc ra rn rc h1 h2 h3 h4=>binCode_any wx.heap.size s h1 h2 h3 hle h4 (by omega)
   clear hc hd hX
   obtain ⟨Xb,hXb⟩:∃ Xb,w.heap.size=Xb:=⟨_,rfl⟩
   rw [hXb] at z0 z1 z2 hXl hwl ⊢
   have HXB:=hidI hXb
   have HAL:=hidI hal
   clear hXb hal
   have hB:=Below.refl wx.heap.size wx
   have y0:=z0
   have y1:=z1
   have y2:=z2
   go_region_held_law (fun w'=>w'.cell? ⟨Xb,0,none⟩=some (.string s)/\w'.cell? ⟨Xb,1,none⟩=some (.iface u x)/\w'.cell? ⟨Xb,2,none⟩=some (.iface u' y))
    ((refine ⟨?_,?_,?_⟩<;>(repeat (with_reducible first|exact y0|exact y1|exact y2|refine cellI_dr ?_))<;>done))
    (first
     | (go_at_call 50;(with_reducible first|refine (hb _ _ _ _ _ _ _ hoL hoR hap hszB).mono ?_|refine (hb _ _ _ _ _ _ _ hoL.dr hoR.dr hap hszB).mono ?_);rintro e w7 ⟨ta,tn,tc,rfl,hoT,bT⟩;(first|have hB:=hB.trans bT|have hB:=hB.drew.trans bT);have y0:=(hB.cell (p:=⟨Xb,0,none⟩) hXl).trans z0;have y1:=(hB.cell (p:=⟨Xb,1,none⟩) hXl).trans z1;have y2:=(hB.cell (p:=⟨Xb,2,none⟩) hXl).trans z2)
     | (go_at_call 26;(with_reducible first|refine (hdx _ hB1).mono ?_|refine (hdx _ hB1.drew).mono ?_);rintro e w4 ⟨ra,rn,rc,rfl,hoR,bR⟩;have hap:=two_apart hoL hoR (by simp);have hoR:=hoR.low (lo:=wx.heap.size) (by have h9:=hB1.size;(try simp only [World.drew] at h9 ⊢);omega);have hoL:=hoL.on (w':=w4) (by first|exact bR|exact ((Below.refl _ _).drew).trans bR);(first|have hB:=Below.nxI hB1 bR|have hB:=Below.nxdI hB1 bR);have y0:=(hB.cell (p:=⟨Xb,0,none⟩) hXl).trans z0;have y1:=(hB.cell (p:=⟨Xb,1,none⟩) hXl).trans z1;have y2:=(hB.cell (p:=⟨Xb,2,none⟩) hXl).trans z2;have hszB:wx.heap.size<=w4.heap.size:=by have h9:=hB.size;omega)
     | (go_at_call 26;(with_reducible first|refine (hcx _ hB).mono ?_|refine (hcx _ hB.drew).mono ?_);rintro e w3 ⟨la,ln,lc,rfl,hoL,bL⟩;have hoL:=hoL.low (lo:=wx.heap.size) (by have h9:=hB.size;(try simp only [World.drew] at h9 ⊢);omega);(first|have hB:=Below.nxI hB bL|have hB:=Below.nxdI hB bL);have hB1:=hB;have y0:=(hB.cell (p:=⟨Xb,0,none⟩) hXl).trans z0;have y1:=(hB.cell (p:=⟨Xb,1,none⟩) hXl).trans z1;have y2:=(hB.cell (p:=⟨Xb,2,none⟩) hXl).trans z2)
     | fail)
   all_goals (
    go_wp2
    go_ret
    exact ⟨_,_,_,rfl,hoT.low HAL.out.size,HAL.out.trans (hB.mono HAL.out.size)⟩)
theorem shrt_one {m d:Nat}{k n:Int}{s:ByteArray}{ps:List (T d)}(h:shrt m (d+1) (mkT k n s ps)=true):s.size<=m/\∀ p∈ps,shrt m d p=true:=by
 rw [shrt_mk] at h
 simp only [Bool.and_eq_true,decide_eq_true_eq,List.all_eq_true] at h
 exact h
theorem cd_nil (vv:Value) (hv:∃ a n c,vv=.slice a n c) (w:World):Calls Tryz.prog 26 #[.nilIface,vv] w fun e w'=>∃ a k c,e=.returned (.slice a k c)/\OwnI w' w.heap.size 69 (.slice a k c) []/\Below w.heap.size w w':=by
 obtain ⟨va,vn,vc,rfl⟩:=hv
 go_enter Tryz.func26,Tryz.ntmps26
 go_wp2
 go_ret
 exact ⟨_,_,_,rfl,ownI_nil _ _ _,Below.refl _ _⟩
theorem codeOf_any:∀ d,CdP d
 | 0=>fun _ t=>Empty.elim t
 | d+1=>by
  intro vs t vv w hcl hsh hcn hv hl
  have IH:=codeOf_any d
  have hvv:∃ a n c,vv=.slice a n c:=by obtain ⟨a,c,rfl,_⟩:=hv.form;exact ⟨_,_,_,rfl⟩
  have hlen:=cdC_len vs (d+1) t hcl
  rcases hcl.cases with ⟨n,rfl⟩|⟨s,rfl⟩|⟨k,p,hk,rfl,hp⟩|⟨s,p,q,rfl,hp,hq⟩|rfl
  ·rw [cdC_lit]
   exact cd_lit n vv hvv w
  ·rw [cdC_ref]
   exact cd_ref s hv hl
  ·have h1:=(shrt_one hsh).2 p (by simp)
   rw [cnt_mk] at hcn hlen
   simp only [List.map_cons,List.map_nil,List.sum_cons,List.sum_nil] at hcn hlen
   have hc:=fun w1 (b:Below w.heap.size w w1)=>IH vs p vv w1 hp h1 (by omega) (hv.below b Nat.le.refl) hl
   have hlp:=cdC_len vs d p hp
   have:=cd_one k hk (exV_ifc d p hp) hvv (by omega) hc
   rcases hk with rfl|rfl
   ·rw [cdC_not]
    exact this
   ·rw [cdC_neg]
    exact this
  ·have h0:=(shrt_one hsh).1
   have h1:=(shrt_one hsh).2 p (by simp)
   have h2:=(shrt_one hsh).2 q (by simp)
   rw [cnt_mk] at hcn
   simp only [List.map_cons,List.map_nil,List.sum_cons,List.sum_nil] at hcn
   have hc:=fun w1 (b:Below w.heap.size w w1)=>IH vs p vv w1 hp h1 (by omega) (hv.below b Nat.le.refl) hl
   have hd:=fun w1 (b:Below w.heap.size w w1)=>IH vs q vv w1 hq h2 (by omega) (hv.below b Nat.le.refl) hl
   have hlp:=cdC_len vs d p hp
   have hlq:=cdC_len vs d q hq
   rw [cdC_bin]
   exact cd_bin s h0 (exV_ifc d p hp) (exV_ifc d q hq) hvv (by omega) hc hd
  ·rw [cdC_none]
   exact cd_nil vv hvv w
def cdE (vs:List Vr) (d:Nat) (t:T d):List Ins × Int:=if fmC d t=true then (if (rfT d t).all (fun s=>decide (0<=vix s vs 0))=true then (cdC vs d t,0) else ([],5)) else ([],1)
theorem rdS_at {w:World}{v:Value}{ls:List ByteArray}(h:RdS w v ls):∃ a cap,v=.slice a ls.length cap/\ls.length<=cap/\cap<=9223372036854775807/\∀ (i:Nat) (hi:i < ls.length),∃ g,a=some ⟨g,0,none⟩/\g < w.heap.size/\w.cell? ⟨g,i,none⟩=some (.string ls[i]):=by
 rcases h.form with ⟨rfl,rfl⟩|⟨g,cap,rfl,h1,h2,hc⟩
 ·exact ⟨_,_,rfl,by simp,by simp,fun i hi=>by simp at hi⟩
 ·exact ⟨_,_,rfl,h1,by unfold maxLen at h2;omega,fun i hi=>⟨g,rfl,World.block_lt_of_cell? w _ (hc i hi),hc i hi⟩⟩
theorem codeP_any {w:World}{d:Nat}{t:T d}{vs:List Vr}{vv:Value}(hcl:Cl d t) (hcn:cnt d t<=1000) (hsh:shrt 1000 d t=true) (hv:RdV w vv vs) (hl:vs.length<=10000) :
  Calls Tryz.prog 10 #[exV d t,vv] w fun e w'=>∃ a n c,e=.returned (.tuple #[.slice a n c,.int .i64 (cdE vs d t).2])/\OwnI w' w.heap.size 69 (.slice a n c) (cdE vs d t).1/\Below w.heap.size w w':=by
 have h1:=formedP d t w hcl (by omega) hsh
 have h2:=fun w1=>refs_anyP (d:=d) (t:=t) w1 hcl hcn hsh
 have h3:=fun w1 (b:Below w.heap.size w w1) s=>numberOf_any (hv.below b Nat.le.refl) hl s
 have h4:=fun w1 (b:Below w.heap.size w w1)=>codeOf_any d vs t vv w1 hcl hsh (by omega) (hv.below b Nat.le.refl) hl
 obtain ⟨va,vc,rfl,_⟩:=hv.form
 unfold cdE
 obtain ⟨C,hC⟩:∃ C,cdC vs d t=C:=⟨_,rfl⟩
 obtain ⟨R,hR⟩:∃ R,rfT d t=R:=⟨_,rfl⟩
 obtain ⟨vn,hvn⟩:∃ n,vs.length=n:=⟨_,rfl⟩
 simp only [hC,hR,hvn] at h2 h3 h4 ⊢
 rcases exV_ifc d t hcl with hx|⟨u,x,hx⟩
 all_goals (
  rw [hx] at h1 h4 ⊢
  simp only [hx] at h2
  clear hx hC hR hvn hv hl hcl hcn hsh
  cases hf:fmC d t with
  | false=>
   rw [hf] at h1
   rw [if_neg (by decide)]
   clear h2 h3 h4 hf
   go_enter Tryz.func10,Tryz.ntmps10
   go_wp2_with (first
    | (go_at_call 23;refine h1.mono ?_;rintro e w1 ⟨rfl,b1⟩)
    | fail)
   go_ret2
   exact ⟨_,_,_,rfl,ownI_nil _ _ _,b1⟩
  | true=>
   rw [hf] at h1
   rw [if_pos rfl]
   clear hf
   obtain ⟨E,hE⟩:∃ E,(if R.all (fun s=>decide (0<=vix s vs 0))=true then (C,(0:Int)) else ([],5))=E:=⟨_,rfl⟩
   rw [hE]
   have HE:=hidI hE
   clear hE
   go_enter Tryz.func10,Tryz.ntmps10
   go_upto_region 4 with (first
    | (go_at_call 23;refine h1.mono ?_;rintro e w1 ⟨rfl,b1⟩)
    | (go_at_call 24;refine (h2 _).mono ?_;rintro e w2 ⟨rv,rfl,hrv,b2⟩;obtain ⟨ra,rc,rfl,hrl,hrm,hcell⟩:=rdS_at hrv)
    | fail)
   have hb2:=b1.trans (b2.mono b1.size)
   have HC:=hidI hcell
   obtain ⟨rn,hrn⟩:∃ n,R.length=n:=⟨_,rfl⟩
   rw [hrn] at hrl ⊢
   have HN:=hidI hrn
   clear hcell h1 h2 hrv b1 b2 hrn
   go_loopw [14] (fun ix wr=>∃ (j:Nat),j<=rn/\ix=.int .i64 (j:Int)/\Hid ((R.take j).all (fun s=>decide (0<=vix s vs 0))=true)/\Below w2.heap.size w2 wr) (fun ix _=>rn - (RowKit.intOf ix).toNat)
   case atStart=>exact ⟨0,Nat.zero_le _,rfl,rfl,Below.refl _ _⟩
   case round=>
    obtain ⟨j,hj,rfl,HA,hb⟩:=hrel
    have hbw:=hb2.trans (hb.mono hb2.size)
    by_cases hlt:j < rn
    ·have hjl:j < R.length:=by rw [HN.out];exact hlt
     obtain ⟨g,rfl,hgl,c0⟩:=HC.out j hjl
     have C0:=(hb.cell (p:=⟨g,j,none⟩) hgl).trans c0
     have hmem:R[j]∈R:=List.getElem_mem hjl
     have hAE:R.take (j+1)=R.take j++[R[j]]:=List.take_succ_eq_append_getElem hjl
     obtain ⟨x,hx⟩:∃ x,R[j]=x:=⟨_,rfl⟩
     rw [hx] at C0 hmem hAE
     have hcall:=h3 _ hbw x
     obtain ⟨V,hV⟩:∃ V,vix x vs 0=V:=⟨_,rfl⟩
     rw [hV] at hcall
     have i1:(j:Int) < (rn:Int):=by omega
     have i2:(0:Int)<=(j:Int):=by omega
     clear c0 hx
     by_cases hneg:V < 0
     ·have HQ:Hid (R.all (fun s=>decide (0<=vix s vs 0))=false):=by
       show _=_
       rw [List.all_eq_false]
       exact ⟨x,hmem,by rw [hV];simp;omega⟩
      clear hmem hAE
      go_wp2_with (first
       | (go_at_call 25;refine hcall.mono ?_;rintro e w3 ⟨rfl,b3⟩)
       | fail)
      go_ret2
      have hE:E=([],5):=by rw [<- HE.out,HQ.out];rfl
      subst hE
      exact ⟨_,_,_,rfl,ownI_nil _ _ _,hbw.trans (b3.mono hbw.size)⟩
     ·have HA2:Hid ((R.take (j+1)).all (fun s=>decide (0<=vix s vs 0))=true):=by
       show _=_
       rw [hAE,List.all_append,HA.out]
       simp [hV]
       omega
      have i3:¬ V < 0:=hneg
      clear hmem hAE HA
      go_wp2_with (first
       | (go_at_call 25;refine hcall.mono ?_;rintro e w3 ⟨rfl,b3⟩)
       | fail)
      go_roundw
      case rel=>exact ⟨j+1,hlt,by go_num,HA2,hb.trans (b3.mono hb.size)⟩
      case measure=>simp [RowKit.intOf];omega
    ·have i1:¬ (j:Int) < (rn:Int):=by omega
     have HQ:Hid (R.all (fun s=>decide (0<=vix s vs 0))=true):=by
      have:=HA.out
      rw [List.take_of_length_le (by rw [HN.out];omega)] at this
      exact this
     have hcall:=h4 _ hbw
     clear HA h3 h4
     go_wp2_with (first
      | (go_at_call 26;refine hcall.mono ?_;rintro e w3 ⟨ta,tn,tc,rfl,hoT,b3⟩)
      | fail)
     go_ret2
     have hE:E=(C,0):=by rw [<- HE.out,if_pos HQ.out]
     subst hE
     exact ⟨_,_,_,rfl,hoT.low hbw.size,hbw.trans (b3.mono hbw.size)⟩)
section
variable {nb:List UInt8->Int}{rsv:List UInt8->Bool}{l:List Tk}
end
def fmX (x:Sx):Bool:=fmC x.1 x.2
theorem aroP_len (c:Nat × List Pc) (m:Nat):(txP (aroP c m)).length<=(txP c.2).length+2:=by
 unfold aroP;split
 ·rw [txP_cons,txP_app,List.length_append,List.length_append]
  show 1+(_+1)<=_
  omega
 ·omega
theorem op_len {s:List UInt8}(h:opB s):s.length<=2:=by
 rcases h with rfl|rfl|rfl|rfl|rfl|rfl|rfl|rfl|rfl<;>decide
theorem pcs_len:∀ (d:Nat) (t:T d),Cl d t->rtT dcN d t->(txP (pcs dcN d t).2).length<=100*cnt d t
 | 0,t,_,_=>Empty.elim t
 | d+1,t,hc,hr=>by
  rcases hc.cases with ⟨n,rfl⟩|⟨s,rfl⟩|⟨k,p,hk,rfl,hp⟩|⟨s,p,q,rfl,hp,hq⟩|rfl
  ·have hn:numB (dcN n)=true:=hr.1 rfl
   have:=(num_len hn).1
   show (dcN n++[]).length<=100*1
   rw [List.append_nil];omega
  ·have hn:nameS s.data.toList=true:=hr.2.1 rfl
   have:=name_len hn
   show (s.data.toList++[]).length<=100*1
   rw [List.append_nil];omega
  ·have hrp:rtT dcN d p:=by
    have h2:∀ z∈[fold (rtF dcN) d p],z:=hr.2.2.2.2
    exact h2 (fold (rtF dcN) d p) List.mem_cons_self
   have ih:=pcs_len d p hp hrp
   have ha:=aroP_len (pcs dcN d p) 6
   have e:(txP (pcs dcN (d+1) (mkT k 0 ⟨#[]⟩ [p]:T (d+1))).2).length=(txP (aroP (pcs dcN d p) 6)).length+1:=by rcases hk with rfl|rfl<;>rfl
   rw [e,cnt_mk]
   show _<=100*(cnt d p+0+1)
   omega
  ·have h2:∀ z∈[fold (rtF dcN) d p,fold (rtF dcN) d q],z:=hr.2.2.2.2
   have ho:s.data.toList.length<=2:=op_len (hr.2.2.1 rfl:opB s.data.toList)
   have i1:=pcs_len d p hp (h2 (fold (rtF dcN) d p) List.mem_cons_self)
   have i2:=pcs_len d q hq (h2 (fold (rtF dcN) d q) (List.mem_cons_of_mem _ List.mem_cons_self))
   have a1:=aroP_len (pcs dcN d p) (if lv s.data.toList=3 then 4 else lv s.data.toList)
   have a2:=aroP_len (pcs dcN d q) (lv s.data.toList+1)
   have e:(pcs dcN (d+1) (mkT 5 0 s [p,q]:T (d+1))).2=aroP (pcs dcN d p) (if lv s.data.toList=3 then 4 else lv s.data.toList)++none :: some (3,s.data.toList) :: none :: aroP (pcs dcN d q) (lv s.data.toList+1):=rfl
   rw [e,cnt_mk,txP_app,txP_cons,txP_cons,txP_cons,List.length_append,List.length_append,List.length_append,List.length_append]
   show _+(1+(s.data.toList.length+(1+_)))<=100*(cnt d p+(cnt d q+0)+1)
   omega
  ·have:(1:Int)<=0/\(0:Int)<=5:=hr.2.2.2.1
   omega
theorem nd_cnt:∀ (d:Nat) (t:T d),ndC d t=min (cnt d t) 41
 | 0,t=>Empty.elim t
 | d+1,t=>by
  obtain ⟨k,n,s,ps,rfl⟩:=T.open t
  rw [ndC_mk,cnt_mk]
  have:∀ l:List (T d),min ((l.map (ndC d)).sum+1) 41=min ((l.map (cnt d)).sum+1) 41:=fun l=>by
   induction l with
   | nil=>rfl
   | cons p r ih=>
    have:=nd_cnt d p
    simp only [List.map_cons,List.sum_cons]
    omega
  exact this ps
theorem fm_parts {d:Nat}{t:T d}(h:fmC d t=true):cnt d t<=40/\sdC d t=true:=by
 unfold fmC at h
 simp only [Bool.and_eq_true,decide_eq_true_eq] at h
 have:=nd_cnt d t
 exact ⟨by omega,h.2⟩
def txtC (d:Nat) (t:T d):List UInt8:=txP (pcs dcN d t).2
abbrev Pl:=Int × Int
abbrev OnC:=List UInt8 × (Bool × Sx) × List UInt8 × List (List UInt8 × Sx) × Pl
abbrev HdC:=(List UInt8 × Pl) × (Bool × Bool) × (List UInt8 × List UInt8) × (Int × Int) × List OnC
def St:Nat->Type
 | 0=>Empty
 | d+1=>HdC × List (St d)
section
variable (fin:Pl)
def plainB (s:List UInt8):Bool:=nameS s && !rsvB s
end
section
variable (fin:Pl)
end
theorem pLevel_any (s:ByteArray) (w:World):Calls Tryz.prog 179 #[.string s] w fun e w'=>e=.returned (.int .i64 (lv (bl s):Int))/\w=w':=by
 have hS:∀ x,(s.toList == x)=(bl s == x):=fun x=>by rw [ByteArray.toList_eq]
 obtain ⟨l,hl⟩:∃ l,bl s=l:=⟨_,rfl⟩
 rw [hl]
 simp only [hl] at hS
 clear hl
 have q0:(s.toList == [124,124])=(l == [124,124]):=hS _
 have q1:(s.toList == [38,38])=(l == [38,38]):=hS _
 have q2:(s.toList == [60])=(l == [60]):=hS _
 have q3:(s.toList == [60,61])=(l == [60,61]):=hS _
 have q4:(s.toList == [61,61])=(l == [61,61]):=hS _
 have q5:(s.toList == [33,61])=(l == [33,61]):=hS _
 have q6:(s.toList == [43])=(l == [43]):=hS _
 have q7:(s.toList == [45])=(l == [45]):=hS _
 have q8:(s.toList == [42])=(l == [42]):=hS _
 clear hS
 cases r0:(l == [124,124])
 case true=>rw [r0] at q0;clear q1 q2 q3 q4 q5 q6 q7 q8;go_enter Tryz.func179,Tryz.ntmps179;go_wp2;go_ret;exact ⟨by rw [eq_of_beq r0];rfl,rfl⟩
 rw [r0] at q0
 cases r1:(l == [38,38])
 case true=>rw [r1] at q1;clear q2 q3 q4 q5 q6 q7 q8;go_enter Tryz.func179,Tryz.ntmps179;go_wp2;go_ret;exact ⟨by rw [eq_of_beq r1];rfl,rfl⟩
 rw [r1] at q1
 cases r2:(l == [60])
 case true=>rw [r2] at q2;clear q3 q4 q5 q6 q7 q8;go_enter Tryz.func179,Tryz.ntmps179;go_wp2;go_ret;exact ⟨by rw [eq_of_beq r2];rfl,rfl⟩
 rw [r2] at q2
 cases r3:(l == [60,61])
 case true=>rw [r3] at q3;clear q4 q5 q6 q7 q8;go_enter Tryz.func179,Tryz.ntmps179;go_wp2;go_ret;exact ⟨by rw [eq_of_beq r3];rfl,rfl⟩
 rw [r3] at q3
 cases r4:(l == [61,61])
 case true=>rw [r4] at q4;clear q5 q6 q7 q8;go_enter Tryz.func179,Tryz.ntmps179;go_wp2;go_ret;exact ⟨by rw [eq_of_beq r4];rfl,rfl⟩
 rw [r4] at q4
 cases r5:(l == [33,61])
 case true=>rw [r5] at q5;clear q6 q7 q8;go_enter Tryz.func179,Tryz.ntmps179;go_wp2;go_ret;exact ⟨by rw [eq_of_beq r5];rfl,rfl⟩
 rw [r5] at q5
 cases r6:(l == [43])
 case true=>rw [r6] at q6;clear q7 q8;go_enter Tryz.func179,Tryz.ntmps179;go_wp2;go_ret;exact ⟨by rw [eq_of_beq r6];rfl,rfl⟩
 rw [r6] at q6
 cases r7:(l == [45])
 case true=>rw [r7] at q7;clear q8;go_enter Tryz.func179,Tryz.ntmps179;go_wp2;go_ret;exact ⟨by rw [eq_of_beq r7];rfl,rfl⟩
 rw [r7] at q7
 cases r8:(l == [42])
 case true=>rw [r8] at q8;go_enter Tryz.func179,Tryz.ntmps179;go_wp2;go_ret;exact ⟨by rw [eq_of_beq r8];rfl,rfl⟩
 rw [r8] at q8
 go_enter Tryz.func179,Tryz.ntmps179
 go_wp2
 go_ret
 have e:lv l=0:=by simp [lv,beq_eq_false_iff_ne.1 r0,beq_eq_false_iff_ne.1 r1,beq_eq_false_iff_ne.1 r2,beq_eq_false_iff_ne.1 r3,beq_eq_false_iff_ne.1 r4,beq_eq_false_iff_ne.1 r5,beq_eq_false_iff_ne.1 r6,beq_eq_false_iff_ne.1 r7,beq_eq_false_iff_ne.1 r8]
 exact ⟨by rw [e];rfl,rfl⟩
theorem pReserved_any (s:ByteArray) (w:World):Calls Tryz.prog 121 #[.string s] w fun e w'=>e=.returned (.bool (rsvB (bl s)))/\w=w':=by
 have hS:∀ x,(s.toList == x)=(bl s == x):=fun x=>by rw [ByteArray.toList_eq]
 obtain ⟨l,hl⟩:∃ l,bl s=l:=⟨_,rfl⟩
 rw [hl]
 simp only [hl] at hS
 clear hl
 have q0:(s.toList == [99,104,97,114,116])=(l == [99,104,97,114,116]):=hS _
 have q1:(s.toList == [118,97,114])=(l == [118,97,114]):=hS _
 have q2:(s.toList == [115,116,97,116,101])=(l == [115,116,97,116,101]):=hS _
 have q3:(s.toList == [97,108,108])=(l == [97,108,108]):=hS _
 have q4:(s.toList == [101,110,100])=(l == [101,110,100]):=hS _
 have q5:(s.toList == [100,111])=(l == [100,111]):=hS _
 have q6:(s.toList == [117,110,100,111])=(l == [117,110,100,111]):=hS _
 have q7:(s.toList == [97,116])=(l == [97,116]):=hS _
 have q8:(s.toList == [114,101,116,114,105,101,115])=(l == [114,101,116,114,105,101,115]):=hS _
 have q9:(s.toList == [111,110])=(l == [111,110]):=hS _
 have q10:(s.toList == [105,102])=(l == [105,102]):=hS _
 have q11:(s.toList == [103,111])=(l == [103,111]):=hS _
 have q12:(s.toList == [115,101,116])=(l == [115,101,116]):=hS _
 clear hS
 cases r0:(l == [99,104,97,114,116])
 case true=>rw [r0] at q0;clear q1 q2 q3 q4 q5 q6 q7 q8 q9 q10 q11 q12;go_enter Tryz.func121,Tryz.ntmps121;go_wp2;go_ret;exact ⟨by rw [eq_of_beq r0];rfl,rfl⟩
 rw [r0] at q0
 cases r1:(l == [118,97,114])
 case true=>rw [r1] at q1;clear q2 q3 q4 q5 q6 q7 q8 q9 q10 q11 q12;go_enter Tryz.func121,Tryz.ntmps121;go_wp2;go_ret;exact ⟨by rw [eq_of_beq r1];rfl,rfl⟩
 rw [r1] at q1
 cases r2:(l == [115,116,97,116,101])
 case true=>rw [r2] at q2;clear q3 q4 q5 q6 q7 q8 q9 q10 q11 q12;go_enter Tryz.func121,Tryz.ntmps121;go_wp2;go_ret;exact ⟨by rw [eq_of_beq r2];rfl,rfl⟩
 rw [r2] at q2
 cases r3:(l == [97,108,108])
 case true=>rw [r3] at q3;clear q4 q5 q6 q7 q8 q9 q10 q11 q12;go_enter Tryz.func121,Tryz.ntmps121;go_wp2;go_ret;exact ⟨by rw [eq_of_beq r3];rfl,rfl⟩
 rw [r3] at q3
 cases r4:(l == [101,110,100])
 case true=>rw [r4] at q4;clear q5 q6 q7 q8 q9 q10 q11 q12;go_enter Tryz.func121,Tryz.ntmps121;go_wp2;go_ret;exact ⟨by rw [eq_of_beq r4];rfl,rfl⟩
 rw [r4] at q4
 cases r5:(l == [100,111])
 case true=>rw [r5] at q5;clear q6 q7 q8 q9 q10 q11 q12;go_enter Tryz.func121,Tryz.ntmps121;go_wp2;go_ret;exact ⟨by rw [eq_of_beq r5];rfl,rfl⟩
 rw [r5] at q5
 cases r6:(l == [117,110,100,111])
 case true=>rw [r6] at q6;clear q7 q8 q9 q10 q11 q12;go_enter Tryz.func121,Tryz.ntmps121;go_wp2;go_ret;exact ⟨by rw [eq_of_beq r6];rfl,rfl⟩
 rw [r6] at q6
 cases r7:(l == [97,116])
 case true=>rw [r7] at q7;clear q8 q9 q10 q11 q12;go_enter Tryz.func121,Tryz.ntmps121;go_wp2;go_ret;exact ⟨by rw [eq_of_beq r7];rfl,rfl⟩
 rw [r7] at q7
 cases r8:(l == [114,101,116,114,105,101,115])
 case true=>rw [r8] at q8;clear q9 q10 q11 q12;go_enter Tryz.func121,Tryz.ntmps121;go_wp2;go_ret;exact ⟨by rw [eq_of_beq r8];rfl,rfl⟩
 rw [r8] at q8
 cases r9:(l == [111,110])
 case true=>rw [r9] at q9;clear q10 q11 q12;go_enter Tryz.func121,Tryz.ntmps121;go_wp2;go_ret;exact ⟨by rw [eq_of_beq r9];rfl,rfl⟩
 rw [r9] at q9
 cases r10:(l == [105,102])
 case true=>rw [r10] at q10;clear q11 q12;go_enter Tryz.func121,Tryz.ntmps121;go_wp2;go_ret;exact ⟨by rw [eq_of_beq r10];rfl,rfl⟩
 rw [r10] at q10
 cases r11:(l == [103,111])
 case true=>rw [r11] at q11;clear q12;go_enter Tryz.func121,Tryz.ntmps121;go_wp2;go_ret;exact ⟨by rw [eq_of_beq r11];rfl,rfl⟩
 rw [r11] at q11
 cases r12:(l == [115,101,116])
 case true=>rw [r12] at q12;go_enter Tryz.func121,Tryz.ntmps121;go_wp2;go_ret;exact ⟨by rw [eq_of_beq r12];rfl,rfl⟩
 rw [r12] at q12
 go_enter Tryz.func121,Tryz.ntmps121
 go_wp2
 go_ret
 have e:rsvB l=false:=by simp [rsvB,rsv13,beq_eq_false_iff_ne.1 r0,beq_eq_false_iff_ne.1 r1,beq_eq_false_iff_ne.1 r2,beq_eq_false_iff_ne.1 r3,beq_eq_false_iff_ne.1 r4,beq_eq_false_iff_ne.1 r5,beq_eq_false_iff_ne.1 r6,beq_eq_false_iff_ne.1 r7,beq_eq_false_iff_ne.1 r8,beq_eq_false_iff_ne.1 r9,beq_eq_false_iff_ne.1 r10,beq_eq_false_iff_ne.1 r11,beq_eq_false_iff_ne.1 r12]
 exact ⟨by rw [e];rfl,rfl⟩
def exX (x:Sx):Value:=exV x.1 x.2
theorem exX_form (x:Sx):exX x=.nilIface∨∃ u y,exX x=.iface u y:=exV_form x.1 x.2
theorem exX_no:exX noX=.nilIface:=rfl
def sV (l:List UInt8):Value:=.string ⟨l.toArray⟩
def rSet (ok:Nat->Prop) (w:World) (x:List UInt8 × Sx) (cs:List Value):Prop:=cs=[sV x.1,exX x.2]
theorem kp_set:Kp rSet:=fun _ _ _ _ _ _ h _=>h
def gdV (g:Bool × Sx):Value:=if g.1=true then exX g.2 else .nilIface
theorem gdV_form (g:Bool × Sx):gdV g=.nilIface∨∃ u y,gdV g=.iface u y:=by
 unfold gdV
 split
 ·exact exX_form _
 ·exact .inl rfl
def onV (o:OnC) (sl:Value):List Value:=[sV o.1,gdV o.2.1,sV o.2.2.1,sl,.int .i64 o.2.2.2.2.1,.int .i64 o.2.2.2.2.2]
def rOn (ok:Nat->Prop) (w:World) (o:OnC) (cs:List Value):Prop:=∃ sl,cs=onV o sl/\RdK ok w 2 (rSet ok w) o.2.2.2.1 sl
theorem kp_on:Kp rOn:=fun _ _ _ _ _ _ ⟨sl,h,hr⟩ hk=>⟨sl,h,hr.stay kp_set hk⟩
def hdV (h:HdC) (so si:Value):List Value:=[sV h.1.1,.int .i64 h.1.2.1,.int .i64 h.1.2.2,.bool h.2.1.1,.bool h.2.1.2,sV h.2.2.1.1,sV h.2.2.1.2,.int .i64 h.2.2.2.1.1,.int .i64 h.2.2.2.1.2,so,si]
def rSt:(d:Nat)->(Nat->Prop)->World->St d->List Value->Prop
 | 0,_,_,t,_=>Empty.elim t
 | d+1,ok,w,t,cs=>∃ so si,cs=hdV t.1 so si/\RdK ok w 6 (rOn ok w) t.1.2.2.2.2 so/\RdK ok w 11 (rSt d ok w) t.2 si
theorem kp_st:∀ d,Kp (rSt d)
 | 0=>fun _ _ _ _ x _ _ _=>Empty.elim x
 | d+1=>fun _ _ _ _ _ _ ⟨so,si,h,h1,h2⟩ hk=>⟨so,si,h,h1.stay kp_on hk,h2.stay (kp_st d) hk⟩
def varV (x:List UInt8 × Int × Pl):List Value:=[sV x.1,.int .i64 x.2.1,.int .i64 x.2.2.1,.int .i64 x.2.2.2]
def rVar (ok:Nat->Prop) (w:World) (x:List UInt8 × Int × Pl) (cs:List Value):Prop:=cs=varV x
theorem kp_var:Kp rVar:=fun _ _ _ _ _ _ h _=>h
abbrev ChG (d:Nat):=(List UInt8 × Pl) × Int × List (List UInt8 × Int × Pl) × List (St d)
def RdC (ok:Nat->Prop) (w:World) (d:Nat) (c:ChG d) (v:Value):Prop:=
 ∃ sv ss,v=.agg #[sV c.1.1,.int .i64 c.2.1,.int .i64 c.1.2.1,.int .i64 c.1.2.2,sv,ss]/\RdK ok w 4 (rVar ok w) c.2.2.1 sv/\RdK ok w 11 (rSt d ok w) c.2.2.2 ss
theorem RdC.keep {ok ok':Nat->Prop}{w w':World}{d:Nat}{c:ChG d}{v:Value}(h:RdC ok w d c v) (hk:∀ b,ok b->b < w.heap.size->ok' b/\w'.heap[b]?=w.heap[b]?):RdC ok' w' d c v:=by
 obtain ⟨sv,ss,h1,h2,h3⟩:=h
 exact ⟨sv,ss,h1,h2.stay kp_var hk,h3.stay (kp_st d) hk⟩
abbrev SgS:=(d:Nat) × St d
abbrev Fx3:=Nat × SgS × List Value
def rdc (w:World) (b off:Nat):List Value:=(List.range 11).map (fun j=>(w.cell? ⟨b,off+j,none⟩).getD .nilIface)
def vB:Value->Nat
 | .slice (some a) _ _=>a.block
 | _=>0
def vO:Value->Nat
 | .slice (some a) _ _=>a.off
 | _=>0
def flN (w:World) (d k b:Nat) (rc:List (St d)->Value->List Fx3):List (St (d+1))->Nat->List Fx3
 | [],_=>[]
 | t :: r,off=>(k,⟨d+1,t⟩,rdc w b off) :: (rc t.2 ((rdc w b off).getD 10 .nilIface)++flN w d k b rc r (off+11))
def flX (w:World):(d:Nat)->Nat->List (St d)->Value->List Fx3
 | 0,_,_,_=>[]
 | d+1,k,l,v=>flN w d k (vB v) (flX w d (k+1)) l (vO v)
theorem flX_nil (w:World) (d k:Nat) (v:Value):flX w d k [] v=[]:=by cases d<;>rfl
def flM:(d:Nat)->Nat->List (St d)->List (Nat × SgS)
 | 0,_,_=>[]
 | d+1,k,l=>l.flatMap (fun t=>(k,⟨d+1,t⟩) :: flM d (k+1) t.2)
theorem flN_map (w:World) (d k b:Nat) (rc:List (St d)->Value->List Fx3) (h:∀ l v,(rc l v).map (fun x=>(x.1,x.2.1))=flM d (k+1) l):∀ (l:List (St (d+1))) (off:Nat),(flN w d k b rc l off).map (fun x=>(x.1,x.2.1))=flM (d+1) k l
 | [],_=>rfl
 | t :: r,off=>by
  have h2:=flN_map w d k b rc h r (off+11)
  simp only [flN,List.map_cons,List.map_append,h,h2]
  simp [flM]
theorem flX_map (w:World):∀ (d k:Nat) (l:List (St d)) (v:Value),(flX w d k l v).map (fun x=>(x.1,x.2.1))=flM d k l
 | 0,_,_,_=>rfl
 | d+1,k,l,v=>flN_map w d k _ _ (flX_map w d (k+1)) l _
theorem rdK_head {ok:Nat->Prop}{w:World}{d:Nat}{t:St (d+1)}{r:List (St (d+1))}{v:Value}(h:RdK ok w 11 (rSt (d+1) ok w) (t :: r) v):∃ b off cap,v=.slice (some ⟨b,off,none⟩) (r.length+1) cap/\r.length+1<=cap/\cap<=maxLen/\ok b/\b < w.heap.size/\
  (∃ so si,rdc w b off=hdV t.1 so si/\RdK ok w 6 (rOn ok w) t.1.2.2.2.2 so/\RdK ok w 11 (rSt d ok w) t.2 si)/\(∀ j u,(rdc w b off)[j]?=some u->w.cell? ⟨b,off+j,none⟩=some u)/\
  (∀ a',(r≠[]->a'=some ⟨b,off+11,none⟩)->RdK ok w 11 (rSt (d+1) ok w) r (.slice a' r.length (cap - 1))):=by
 obtain ⟨a,cap,rfl,hc,hm,hcell⟩:=h
 obtain ⟨b,off,cs,rfl,hob,hb,hl,hr,hcs⟩:=hcell 0 (by simp)
 have e:rdc w b off=cs:=by
  apply List.ext_getElem?
  intro j
  by_cases hj:j < 11
  ·have hj':j < cs.length:=by omega
   have h1:=hcs j _ (List.getElem?_eq_getElem hj')
   simp only [Nat.zero_mul,Nat.add_zero] at h1
   rw [List.getElem?_eq_getElem hj']
   simp only [rdc,List.getElem?_map]
   rw [List.getElem?_range hj]
   simp [h1]
  ·rw [List.getElem?_eq_none (show (rdc w b off).length<=j by simp [rdc];omega),List.getElem?_eq_none (show cs.length<=j by omega)]
 refine ⟨b,off,cap,by simp,by simpa using hc,hm,hob,hb,?_,?_,?_⟩
 ·obtain ⟨so,si,h1,h2,h3⟩:=hr
  exact ⟨so,si,e.trans h1,h2,h3⟩
 ·intro j u hu
  rw [e] at hu
  have:=hcs j u hu
  simpa using this
 ·intro a' ha'
  simp only [List.length_cons] at hc
  refine ⟨a',cap - 1,rfl,by omega,by omega,fun i hi=>?_⟩
  obtain ⟨b',off',cs',h1,h2,h3,h4,h5,h6⟩:=hcell (i+1) (by simpa using hi)
  simp only [Option.some.injEq,Addr.mk.injEq,and_true] at h1
  obtain ⟨rfl,rfl⟩:=h1
  refine ⟨b,off+11,cs',ha' (fun e=>by subst e;simp at hi),h2,h3,h4,by simpa using h5,fun j u hu=>?_⟩
  have:=h6 j u hu
  rw [show off+11+i*11+j=off+(i+1)*11+j by omega]
  exact this
theorem flX_rd {ok:Nat->Prop}{w:World}:∀ (d k:Nat) (l:List (St d)) (v:Value),RdK ok w 11 (rSt d ok w) l v->∀ x∈flX w d k l v,rSt x.2.1.1 ok w x.2.1.2 x.2.2
 | 0,_,_,_,_=>fun x hx=>by simp [flX] at hx
 | d+1,k,l,v,h=>by
  have key:∀ (l:List (St (d+1))) (v:Value) (b off:Nat),RdK ok w 11 (rSt (d+1) ok w) l v->(l≠[]->vB v=b/\vO v=off)->∀ x∈flN w d k b (flX w d (k+1)) l off,rSt x.2.1.1 ok w x.2.1.2 x.2.2:=by
   intro l
   induction l with
   | nil=>intro v b off _ _ x hx;simp [flN] at hx
   | cons t r ih=>
    intro v b off h hv x hx
    obtain ⟨b',off',cap,rfl,_,_,_,_,⟨so,si,e1,h1,h2⟩,_,ht⟩:=rdK_head h
    obtain ⟨rfl,rfl⟩:=hv (by simp)
    simp only [vB,vO] at hx
    simp only [flN,List.mem_cons,List.mem_append] at hx
    rcases hx with rfl|hx|hx
    ·exact ⟨so,si,e1,h1,h2⟩
    ·rw [e1] at hx
     exact flX_rd d (k+1) t.2 si h2 x hx
    ·exact ih (.slice (some ⟨b',off'+11,none⟩) r.length (cap - 1)) b' (off'+11) (ht _ (fun _=>rfl)) (fun _=>⟨rfl,rfl⟩) x hx
  exact key l v _ _ h (fun _=>⟨rfl,rfl⟩)
abbrev Ent:=(d:Nat) × List (St d) × Value
def remT (w:World):List Ent->List Fx3
 | []=>[]
 | e :: r=>flX w e.1 r.length e.2.1 e.2.2++remT w r
def EntOk (ok:Nat->Prop) (w:World) (e:Ent):Prop:=RdK ok w 11 (rSt e.1 ok w) e.2.1 e.2.2
theorem remT_nil (w:World) (d:Nat) (v:Value) (r:List Ent):remT w (⟨d,[],v⟩ :: r)=remT w r:=by simp [remT,flX_nil]
theorem remT_cons {ok:Nat->Prop}{w:World}{d:Nat}{t:St (d+1)}{l:List (St (d+1))}{b off n cap:Nat}{a':Option Addr}{n' c':Nat}(r:List Ent) (ha:l≠[]->a'=some ⟨b,off+11,none⟩) :
  remT w (⟨d+1,t :: l,.slice (some ⟨b,off,none⟩) n cap⟩ :: r)=(r.length,⟨d+1,t⟩,rdc w b off) :: remT w (⟨d,t.2,(rdc w b off).getD 10 .nilIface⟩ :: ⟨d+1,l,.slice a' n' c'⟩ :: r):=by
 simp only [remT,flX,vB,vO,flN,List.length_cons,List.cons_append,List.append_assoc]
 cases l with
 | nil=>simp [flN]
 | cons x l=>rw [ha (by simp)]
end Go.Proofs.YtppefcdkgejfbaaGreatDoor
namespace Go.Proofs.YtppefcdkgejfbaaGreatDoor
open Go.RowKit
set_option linter.unusedSimpArgs false
set_option linter.unusedVariables false
structure Sm (K:Nat->Prop) (A B:World):Prop where
 os:B.os=A.os
 tape:B.tape=A.tape
 output:B.output=A.output
 size:A.heap.size<=B.heap.size
 block:∀ k,k < A.heap.size->K k->B.heap[k]?=A.heap[k]?
theorem Sm.refl (K:Nat->Prop) (A:World):Sm K A A:=⟨rfl,rfl,rfl,Nat.le_refl _,fun _ _ _=>rfl⟩
theorem Sm.trans {K K':Nat->Prop}{A B C:World}(h:Sm K A B) (k:Sm K' B C) (hk:∀ i,i < A.heap.size->K i->K' i):Sm K A C:=
 ⟨k.os.trans h.os,k.tape.trans h.tape,k.output.trans h.output,Nat.le_trans h.size k.size,fun i hi hK=>(k.block i (Nat.lt_of_lt_of_le hi h.size) (hk i hi hK)).trans (h.block i hi hK)⟩
theorem Sm.mono {K K':Nat->Prop}{A B:World}(h:Sm K A B) (hk:∀ i,i < A.heap.size->K' i->K i):Sm K' A B:=
 ⟨h.os,h.tape,h.output,h.size,fun i hi hK=>h.block i hi (hk i hi hK)⟩
theorem Sm.below {K:Nat->Prop}{A B:World}{n:Nat}(h:Sm K A B) (hn:n<=A.heap.size) (hk:∀ i,i < n->K i):Below n A B:=
 ⟨h.os,h.tape,h.output,h.size,fun i hi=>h.block i (by omega) (hk i hi)⟩
theorem Sm.of_below {K:Nat->Prop}{A B:World}{n:Nat}(h:Below n A B) (hk:∀ i,i < A.heap.size->K i->i < n):Sm K A B:=
 ⟨h.os,h.tape,h.output,h.size,fun i hi hK=>h.block i (hk i hi hK)⟩
theorem Sm.of_grown {K:Nat->Prop}{A B:World}{row:Option Nat}(h:A.grownBy B row) (hk:∀ i,i < A.heap.size->K i->some i≠row):Sm K A B:=
 ⟨h.os,h.tape,h.output,h.size,fun i hi hK=>h.block i hi (hk i hi hK)⟩
theorem Sm.putObj (K:Nat->Prop) (A:World) (l:Nat) (o:Obj) (hl:¬ K l):Sm K A (A.putObj l o):=
 Sm.of_grown (grownBy_putObj' A l o) (fun i _ hK e=>hl (by cases e;exact hK))
theorem Sm.alloc (K:Nat->Prop) (A:World) (o:Obj):Sm K A (A.alloc o):=Sm.of_grown (World.grownBy_alloc A o none) (fun i _ _ e=>by cases e)
theorem Sm.setCell (K:Nat->Prop) (A:World) (p:Addr) (u:Value) (hl:¬ K p.block):Sm K A (A.setCell p u):=
 ⟨rfl,rfl,rfl,by simp [World.setCell],fun k _ hk=>Below.heap_setCell _ _ _ _ (fun e=>hl (e ▸ hk))⟩
def Stb {β:Type}(m:Nat) (I:β->(Nat->Prop)->World->Prop):Prop:=∀ s o A B,I s o A->Sm (fun k=>k < m∨o k) A B->I s o B
def Fp (m:Nat) (o o':Nat->Prop) (W W':World):Prop:=Sm (fun k=>k < m∨¬ o k) W W'/\∀ k,o' k->o k∨W.heap.size<=k
def SeqOwns {α:Type}(F:Fence) (n:Nat) (P:Program) (g:Nat) (lb:Array Value) (encs:α->Array Value) (m:Nat) (xs:List α) (w:World):Prop:=
 ∀ (l:Nat) (J Jx:List α->(Nat->Prop)->World->Prop) (o:Nat->Prop) (W:World),Below w.heap.size w W->
  (∀ s o A,J s o A->∀ k,o k->k < A.heap.size/\m<=k)->Stb m J->Stb m Jx->
  (∀ pre x rest o W1,xs=pre++x :: rest->J pre o W1->YieldAt F (n - 1) P l (encs x) W1 fun e W'=>
   (e=.returned (.bool true)/\∃ o',J (pre++[x]) o' W'/\Fp m o o' W1 W')∨(e=.returned (.bool false)/\∃ o',Jx (pre++[x]) o' W'))->
  J [] o W->
  CallsIn F n P g (#[.func (.yield l) #[] #[]]++lb) W fun e W'=>(∃ v,e=.returned v)/\((∃ o,J xs o W')∨(∃ pre o,pre <+: xs/\Jx pre o W'))
def stPost {α:Type}(m:Nat) (I:List α->(Nat->Prop)->World->Prop) (Ix:Code->List α->(Nat->Prop)->World->Prop) (xs:List α) (o:Nat->Prop) (W:World):Exit->Act->World->Prop
 | .normal,_,W'=>∃ o',Fp m o o' W W'/\I xs o' W'
 | .ret,_,W'=>∃ o',Fp m o o' W W'/\Ix .ret xs o' W'
 | .exit id,_,W'=>∃ o',Fp m o o' W W'/\Ix (.exit id) xs o' W'
 | .goto t,_,W'=>∃ o',Fp m o o' W W'/\Ix (.goto t) xs o' W'
 | .panic _,_,_=>False
 | .outgrown,_,_=>False
theorem wpIn_rangeFunc_st {F:Fence}{n:Nat}{P:Program}{α:Type}{g:Operand}{ps:Array Tmp}{assign body:Code}{Q:Exit->Act->World->Prop}{a:Act}{w:World}
  (hro:F.round=none) (h1:1<=n) {gf:Nat}{lb:Array Value}(hg:a.eval g=.func (.func gf) #[] lb) (hFg:F.fn gf) (eg:∀ args w,(callFunc gf args).run P w=.ok (.enter gf args) w)
  {encs:α->Array Value}{m:Nat}{xs:List α}{w0:World}(hseq:SeqOwns F (n - 1) P gf lb encs m xs w0) (hb0:Below w0.heap.size w0 w) (hm:m<=w.heap.size) (hps:∀ x,(encs x).size=ps.size)
  (I:List α->(Nat->Prop)->World->Prop) (IA:List α->α->Act->(Nat->Prop)->World->Prop) (Ix:Code->List α->(Nat->Prop)->World->Prop)
  (hIl:∀ s o A,I s o A->∀ k,o k->k < A.heap.size/\m<=k) (hI:Stb m I) (hIA:∀ pre x a',Stb m (fun (_:Unit)=>IA pre x a')) (hIx:∀ c,Stb m (Ix c)) (o0:Nat->Prop) (h0:I [] o0 w)
  (hassign:∀ (l:Nat) (pre:List α) (x:α) (rest:List α) (o:Nat->Prop) (W:World) (K:Act->World->Prop),xs=pre++x :: rest->I pre o W->(∀ a' o' W',Fp m o o' W W'->IA pre x a' o' W'->K a' W')->
   assign.wpIn (F.inRound l) (n - 1 - 1) P (Exit.then K (fun _ _ _=>False)) { tmps:=(ps.zip (encs x)).foldl (fun t (p,v)=>t.setIfInBounds p v) a.tmps,defers:=[] } W)
  (hbody:∀ (l:Nat) (pre:List α) (x:α) (rest:List α) (a':Act) (o:Nat->Prop) (W:World),xs=pre++x :: rest->IA pre x a' o W->body.wpIn (F.inRound l) (n - 1 - 1) P (stPost m I Ix (pre++[x]) o W) a' W)
  (hdone:∀ (D:Nat) (o:Nat->Prop) (W:World),w.heap.size<=D->I xs o W->¬ o D->W.heap[D]?=some (.deferred (some []))->Q .normal { a with defers:={ target:=.collected D,args:=#[] } :: a.defers } W)
  (hstop:∀ (D:Nat) (c:Code) (pre:List α) (o:Nat->Prop) (W:World),w.heap.size<=D->pre <+: xs->Ix c pre o W->¬ o D->W.heap[D]?=some (.deferred (some []))->c.wpIn F n P Q { a with defers:={ target:=.collected D,args:=#[] } :: a.defers } W) :
  (Code.rangeFunc g ps assign body).wpIn F n P Q a w:=by
 refine wpIn_rangeFunc ?_
 intro fn hfn
 rw [hro]
 obtain ⟨rec,hrec⟩:∃ rec:LoopState->Option Code->Loop,rec=fun st pe=>{ state:=st,pending:=pe,fn,tmps:=a.tmps,params:=ps,assign,body,defers:=w.heap.size }:=⟨_,rfl⟩
 obtain ⟨W1,hW1⟩:∃ W1,(w.alloc (.deferred (some []))).alloc (.loop (rec .ready none))=W1:=⟨_,rfl⟩
 have hL1:W1.heap[w.heap.size+1]?=some (.loop (rec .ready none)):=by
  rw [<- hW1];have:=World.alloc_heap_new (w.alloc (.deferred (some []))) (.loop (rec .ready none));rwa [World.size_alloc] at this
 have hK1:W1.heap[w.heap.size]?=some (.deferred (some [])):=by
  rw [<- hW1];exact (Below.heap_alloc _ _ _ (by simp)).trans (World.alloc_heap_new w _)
 have hI1:I [] o0 W1:=by rw [<- hW1];exact hI _ _ _ _ (hI _ _ _ _ h0 (Sm.alloc _ _ _)) (Sm.alloc _ _ _)
 have hb1:Below w0.heap.size w0 W1:=by
  rw [<- hW1];exact hb0.trans ((((Below.refl _ w).alloc Nat.le.refl _).alloc (by simp) _).mono hb0.size)
 refine ⟨w.heap.size+1,[{ target:=.collected w.heap.size,args:=#[] }],W1,{ target:=.fn (.func gf) lb,args:=#[.func (.yield (w.heap.size+1)) #[] #[]] },W1,gf,
  #[.func (.yield (w.heap.size+1)) #[] #[]]++lb,W1,?_,?_,?_,?_,fun _=>h1,?_⟩
 ·rw [<- hW1,hrec];exact run_enterLoop_outer _ _ _ _ _
 ·simp only [resolve,hg]
  simp [go_sem]
 ·intro f' hf';simp [Target.leads] at hf';subst hf';exact hFg
 ·simp [invoke,go_sem,eg]
 ·obtain ⟨D,hD⟩:∃ D,w.heap.size=D:=⟨_,rfl⟩
  rw [hD] at hL1 hK1 hm hdone hstop ⊢
  have hsz:D+2=W1.heap.size:=by rw [<- hW1,<- hD];simp
  have hno:∀ k,o0 k->k < D:=fun k hk=>by have:=(hIl _ _ _ h0 k hk).1;omega
  clear hW1
  refine (hseq (D+1)
   (fun pre oj W=>∃ o,I pre o W/\(∀ k,oj k↔(o k∨k=D∨k=D+1))/\¬ o D/\¬ o (D+1)/\W.heap[D+1]?=some (.loop (rec .ready none))/\W.heap[D]?=some (.deferred (some [])))
   (fun pre oj W=>∃ c o,Ix c pre o W/\(∀ k,oj k↔(o k∨k=D∨k=D+1))/\¬ o D/\¬ o (D+1)/\W.heap[D+1]?=some (.loop (rec .done (some c)))/\W.heap[D]?=some (.deferred (some [])))
   (fun k=>o0 k∨k=D∨k=D+1) W1 hb1 ?hl ?hJ ?hJx ?hY ⟨o0,hI1,fun _=>Iff.rfl,fun h=>by have:=hno _ h;omega,fun h=>by have:=hno _ h;omega,hL1,hK1⟩).mono ?_
  case hl=>
   rintro s oj A ⟨o,hi,hoj,_,_,hl,hk⟩ k hk'
   rcases (hoj k).1 hk' with h|rfl|rfl
   ·exact hIl _ _ _ hi k h
   ·exact ⟨(Array.getElem?_eq_some_iff.1 hk).1,hm⟩
   ·exact ⟨(Array.getElem?_eq_some_iff.1 hl).1,by omega⟩
  case hJ=>
   rintro s oj A B ⟨o,hi,hoj,n1,n2,hl,hk⟩ hs
   refine ⟨o,hI _ _ _ _ hi (hs.mono (fun i _ h=>h.imp id (fun h=>(hoj i).2 (.inl h)))),hoj,n1,n2,?_,?_⟩
   ·exact (hs.block _ (Array.getElem?_eq_some_iff.1 hl).1 (.inr ((hoj _).2 (.inr (.inr rfl))))).trans hl
   ·exact (hs.block _ (Array.getElem?_eq_some_iff.1 hk).1 (.inr ((hoj _).2 (.inr (.inl rfl))))).trans hk
  case hJx=>
   rintro s oj A B ⟨c,o,hi,hoj,n1,n2,hl,hk⟩ hs
   refine ⟨c,o,hIx c _ _ _ _ hi (hs.mono (fun i _ h=>h.imp id (fun h=>(hoj i).2 (.inl h)))),hoj,n1,n2,?_,?_⟩
   ·exact (hs.block _ (Array.getElem?_eq_some_iff.1 hl).1 (.inr ((hoj _).2 (.inr (.inr rfl))))).trans hl
   ·exact (hs.block _ (Array.getElem?_eq_some_iff.1 hk).1 (.inr ((hoj _).2 (.inr (.inl rfl))))).trans hk
  case hY=>
   rintro pre x rest oj W hx ⟨o,hi,hoj,n1,n2,hl,hk⟩
   have hlt:D+1 < W.heap.size:=(Array.getElem?_eq_some_iff.1 hl).1
   have hy:=run_yield (P:=P) (args:=encs x) hl (by rw [hrec];exact hps x)
   rw [hrec] at hy
   refine ⟨fn,_,assign,body,hy,roundIn_of_wpIn hfn (hassign _ pre x rest o W _ hx hi ?_)⟩
   clear hy
   intro a' oa Wa hfa hia
   have nD:∀ {o o':Nat->Prop}{A B:World},Fp m o o' A B->D+1 < A.heap.size->¬ o D->¬ o (D+1)->B.heap[D+1]?=A.heap[D+1]?/\B.heap[D]?=A.heap[D]?/\¬ o' D/\¬ o' (D+1):=fun hf hs h1 h2=>
    ⟨hf.1.block _ hs (.inr h2),hf.1.block _ (by omega) (.inr h1),fun h=>by rcases hf.2 _ h with h|h;exact h1 h;omega,fun h=>by rcases hf.2 _ h with h|h;exact h2 h;omega⟩
   obtain ⟨e1,e2,m1,m2⟩:=nD hfa hlt n1 n2
   have hla:=e1.trans hl
   have hka:=e2.trans hk
   have hlta:D+1 < Wa.heap.size:=(Array.getElem?_eq_some_iff.1 hla).1
   refine ⟨_,run_beginRound hla (by rw [hrec]),?_⟩
   obtain ⟨Wb,hWb⟩:∃ Wb,Wa.putObj (D+1) (.loop { rec .ready none with state:=.busy })=Wb:=⟨_,rfl⟩
   have hlb:Wb.heap[D+1]?=some (.loop { rec .ready none with state:=.busy }):=by rw [<- hWb];exact World.putObj_heap_same hlta
   have hkb:Wb.heap[D]?=some (.deferred (some [])):=by rw [<- hWb];exact (World.putObj_heap_other (by omega)).trans hka
   have hsb:Sm (fun k=>k < m∨k≠D+1) Wa Wb:=by rw [<- hWb];exact Sm.putObj _ _ _ _ (fun h=>by rcases h with h|h;omega;exact h rfl)
   have hib:IA pre x a' oa Wb:=hIA pre x a' () _ _ _ hia (hsb.mono (fun i _ h=>h.imp id (fun h e=>m2 (e ▸ h))))
   rw [hWb]
   have hltb:D+1 < Wb.heap.size:=(Array.getElem?_eq_some_iff.1 hlb).1
   refine wpIn_mono (hbody _ pre x rest a' oa _ hx hib) ?_
   have fin:∀ (jump:Option Code) (W3:World) (o3:Nat->Prop),Fp m oa o3 Wb W3->
     (Instr.endRound (D+1) jump).run P W3=.ok (.bool jump.isNone) (W3.putObj (D+1) (.loop (rec (if jump.isNone then .ready else .done) jump)))/\
     (W3.putObj (D+1) (.loop (rec (if jump.isNone then .ready else .done) jump))).heap[D+1]?=some (.loop (rec (if jump.isNone then .ready else .done) jump))/\
     (W3.putObj (D+1) (.loop (rec (if jump.isNone then .ready else .done) jump))).heap[D]?=some (.deferred (some []))/\¬ o3 D/\¬ o3 (D+1)/\
     Sm (fun k=>k < m∨o3 k) W3 (W3.putObj (D+1) (.loop (rec (if jump.isNone then .ready else .done) jump)))/\
     Fp m oj (fun k=>o3 k∨k=D∨k=D+1) W (W3.putObj (D+1) (.loop (rec (if jump.isNone then .ready else .done) jump))):=fun jump W3 o3 hk3=>by
    obtain ⟨e3,e4,m3,m4⟩:=nD hk3 hltb m1 m2
    have hl3:=e3.trans hlb
    have hkk3:=e4.trans hkb
    have hr:=run_endRound (P:=P) jump hl3
    have hlt3:D+1 < W3.heap.size:=(Array.getElem?_eq_some_iff.1 hl3).1
    have hsm:∀ K:Nat->Prop,¬ K (D+1)->Sm K W3 (W3.putObj (D+1) (.loop (rec (if jump.isNone then .ready else .done) jump))):=fun K hK=>Sm.putObj _ _ _ _ hK
    refine ⟨by rw [hrec] at hr ⊢;exact hr,World.putObj_heap_same hlt3,(World.putObj_heap_other (by omega)).trans hkk3,m3,m4,hsm _ (fun h=>by rcases h with h|h;omega;exact m4 h),?_,?_⟩
    ·have hoa:∀ i,i < W.heap.size->¬ oj i->¬ oa i:=fun i hi h e=>by rcases hfa.2 i e with h' | h';exact h ((hoj i).2 (.inl h'));omega
     refine ((hfa.1.mono (K':=fun k=>k < m∨¬ oj k) (fun i _ h=>h.imp id (fun h e=>h ((hoj i).2 (.inl e))))).trans hsb (fun i _ h=>h.imp id (fun h e=>h ((hoj i).2 (.inr (.inr e)))))).trans hk3.1 (fun i hi h=>h.imp id (hoa i hi)) |>.trans (hsm (fun k=>k≠D+1) (fun h=>h rfl)) (fun i _ h e=>?_)
     rcases h with h|h
     ·omega
     ·exact h ((hoj i).2 (.inr (.inr e)))
    ·rintro k (h|rfl|rfl)
     ·rcases hk3.2 k h with h' | h'
      ·rcases hfa.2 k h' with h'' | h''
       ·exact .inl ((hoj k).2 (.inl h''))
       ·exact .inr h''
      ·exact .inr (Nat.le_trans hfa.1.size (Nat.le_trans hsb.size h'))
     ·exact .inl ((hoj _).2 (.inr (.inl rfl)))
     ·exact .inl ((hoj _).2 (.inr (.inr rfl)))
   rintro e a3 W3 hp
   cases e with
   | normal=>
    obtain ⟨o3,hf3,hi3⟩:=hp
    obtain ⟨hr,hl4,hk4,q1,q2,hs,hff⟩:=fin none W3 o3 hf3
    exact ⟨_,_,hr,.inl ⟨rfl,_,⟨o3,hI _ _ _ _ hi3 hs,fun _=>Iff.rfl,q1,q2,hl4,hk4⟩,hff⟩⟩
   | ret=>
    obtain ⟨o3,hf3,hi3⟩:=hp
    obtain ⟨hr,hl4,hk4,q1,q2,hs,hff⟩:=fin (some .ret) W3 o3 hf3
    exact ⟨_,_,hr,.inr ⟨rfl,_,.ret,o3,hIx _ _ _ _ _ hi3 hs,fun _=>Iff.rfl,q1,q2,hl4,hk4⟩⟩
   | exit id=>
    obtain ⟨o3,hf3,hi3⟩:=hp
    obtain ⟨hr,hl4,hk4,q1,q2,hs,hff⟩:=fin (some (.exit id)) W3 o3 hf3
    exact ⟨_,_,hr,.inr ⟨rfl,_,.exit id,o3,hIx _ _ _ _ _ hi3 hs,fun _=>Iff.rfl,q1,q2,hl4,hk4⟩⟩
   | goto t=>
    obtain ⟨o3,hf3,hi3⟩:=hp
    obtain ⟨hr,hl4,hk4,q1,q2,hs,hff⟩:=fin (some (.goto t)) W3 o3 hf3
    exact ⟨_,_,hr,.inr ⟨rfl,_,.goto t,o3,hIx _ _ _ _ _ hi3 hs,fun _=>Iff.rfl,q1,q2,hl4,hk4⟩⟩
   | panic ch=>exact hp.elim
   | outgrown=>exact hp.elim
  ·rintro e W2 ⟨⟨v,rfl⟩,(⟨oj,o,hi,hoj,n1,n2,hl,hk⟩|⟨pre,oj,hSp,c,o,hi,hoj,n1,n2,hl,hk⟩)⟩
   ·exact ⟨none,_,by have:=run_endLoop (P:=P) hl (by rw [hrec];simp);rw [hrec] at this;exact this,hdone _ o _ Nat.le.refl (hI _ _ _ _ hi (Sm.putObj _ _ _ _ (fun h=>by rcases h with h|h;omega;exact n2 h))) n1 ((World.putObj_heap_other (by omega)).trans hk)⟩
   ·exact ⟨some c,_,by have:=run_endLoop (P:=P) hl (by rw [hrec];simp);rw [hrec] at this;exact this,hstop _ c pre o _ Nat.le.refl hSp (hIx c _ _ _ _ hi (Sm.putObj _ _ _ _ (fun h=>by rcases h with h|h;omega;exact n2 h))) n1 ((World.putObj_heap_other (by omega)).trans hk)⟩
