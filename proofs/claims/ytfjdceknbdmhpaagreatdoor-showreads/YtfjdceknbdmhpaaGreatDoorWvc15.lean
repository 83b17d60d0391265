import Derived.Test.YtfjdceknbdmhpaaGreatDoorWvc14
import Derived.Shelf.LaysM
import Derived.Shelf.Strconv.Itoa4
import Derived.Test.YtfjdceknbdmhpaaGreatDoorRows
import Derived.Test.YtfjdceknbdmhpaaGreatDoorWvc11
import Derived.Test.YtfjdceknbdmhpaaGreatDoorWvc09
import Derived.Deep.RegionHeldLaw
/- Package show's writer: begin, line. -/
namespace Go.Proofs.YtfjdceknbdmhpaaGreatDoor
open Go.RowKit Go.Lib
set_option linter.unusedSimpArgs false
set_option linter.unusedVariables false
attribute [local go_sem ↓] Go.wp_at_zero Go.wp_at_succ
theorem extraR:Builder.Extra Tryz.prog renR:={ sizeBuilder:=by kernel_rfl,liesBuilder:=by kernel_rfl,t5:=Tryz.underlying5,a5:=Tryz.isAgg5,z5:=Tryz.sizeOf5,v5:=Tryz.zeroValue5,infoByte:=by kernel_rfl,cellsByte:=by kernel_rfl,sizeByte:=by kernel_rfl,neB5:=by decide }
theorem others_below {e:TypeId} {bo:Option Nat} {w w':World} (hb:Below w.heap.size w w'):Lib.OthersKept e bo w w':=fun i o hi _ _=>by
 have hl:i < w.heap.size:=by
  apply Decidable.byContradiction
  intro hn
  rw [Array.getElem?_eq_none (by omega)] at hi
  cases hi
 exact (hb.block i hl).trans hi
theorem Wr.below {B b:Nat} {l:List UInt8} {w w':World} (h:Wr B b l w) (hb:Below w.heap.size w w'):Wr B b l w':=by
 have keep:∀ (i:Nat) (o:Obj),w.heap[i]?=some o→w'.heap[i]?=some o:=fun i o hi=>by
  have hl:i < w.heap.size:=by
   apply Decidable.byContradiction
   intro hn
   rw [Array.getElem?_eq_none (by omega)] at hi
   cases hi
  exact (hb.block i hl).trans hi
 have key:∀ p,Lib.BuilderAtF 80 5 B b p (Lib.byteCells l) w→Lib.BuilderAtF 80 5 B b p (Lib.byteCells l) w':=by
  rintro p ⟨h1,v,h2,⟨h3,h4⟩,h5⟩
  refine ⟨h1,v,keep _ _ h2,⟨h3,?_⟩,h5⟩
  rcases h4 with h4 | ⟨g,cap,cur,fz,a1,a2,a3,a4⟩
  ·exact .inl h4
  ·exact .inr ⟨g,cap,cur,fz,a1,a2,keep _ _ a3,a4⟩
 exact h.imp (key _) (key _)
theorem tabs_any (n:Nat) (hn:n≤1000) (w:World):Calls Tryz.prog 196 #[.string ⟨#[9]⟩,.int .i64 (n:Int)] w fun e w'=>e=.returned (.string ⟨(List.replicate n (9:UInt8)).toArray⟩)∧Below w.heap.size w w':=by
 have hs:(⟨#[9]⟩:ByteArray).size=1:=rfl
 have h:=Any.strings_Repeat laysR extraR ⟨#[9]⟩ n w (by omega) (by rw [hs];omega)
 have e:Lib.repeatL (⟨#[9]⟩:ByteArray).data.toList n=List.replicate n (9:UInt8):=by
  show Lib.repeatL [9] n=_
  clear h hn
  induction n with
  | zero=>rfl
  | succ n ih=>rw [List.replicate_succ,← ih];rfl
 rw [e] at h
 exact h
set_option maxHeartbeats 2000000 in
set_option maxRecDepth 100000 in
theorem begin_any {B b:Nat} {l:List UInt8} {w:World} (n:Nat) (h:Wr B b l w) (hn:n≤1000) (hB:B≤w.heap.size) :
  Calls Tryz.prog 137 #[.pointer (some ⟨b,0,none⟩),.int .i64 (n:Int)] w fun e w'=>e=.returned (.tuple #[])∧Wx B b (wpL l (List.replicate n 9)) w w':=by
 have ht:=tabs_any n hn w
 have hp:∀ w1,Below w.heap.size w w1→Calls Tryz.prog 138 #[.pointer (some ⟨b,0,none⟩),.string ⟨(List.replicate n (9:UInt8)).toArray⟩] w1 fun e w'=>e=.returned (.tuple #[])∧Wx B b (wpL l (List.replicate n 9)) w w':=fun w1 b1=>by
  have h1:Wr B b l w1:=Wr.below h b1
  refine (put_any (l:=l) ⟨(List.replicate n (9:UInt8)).toArray⟩ h1 (by show (List.replicate n (9:UInt8)).toArray.size≤_;simp;omega) (Nat.le_trans hB b1.size)).mono ?_
  rintro e w' ⟨he,hw⟩
  refine ⟨he,?_,(b1.mono hB).trans hw.2.1,(others_below b1).trans hw.2.2⟩
  have e:bl (⟨(List.replicate n (9:UInt8)).toArray⟩:ByteArray)=List.replicate n 9:=by unfold bl;simp
  rw [e] at hw
  exact hw.1
 generalize (⟨(List.replicate n (9:UInt8)).toArray⟩:ByteArray)=t at *
 clear h
 go_enter Tryz.func137,Tryz.ntmps137
 go_wp2_with (first
  | (go_at_call 196;refine ht.mono ?_;rintro e w1 ⟨rfl,b1⟩)
  | (go_at_call 138;refine (hp _ b1).mono ?_;rintro e w2 ⟨rfl,hr⟩)
  | fail)
 go_end0
 exact ⟨rfl,hr⟩
/-- One more put, behind what was written since w. -/
theorem putX {B b:Nat} {w:World} (hB:B≤w.heap.size) (t:ByteArray) (l:List UInt8) (w1:World) (k:Wx B b l w w1) (ht:t.size≤140737488340000):Calls Tryz.prog 138 #[.pointer (some ⟨b,0,none⟩),.string t] w1 fun e w'=>e=.returned (.tuple #[])∧Wx B b (wpL l (bl t)) w w':=by
 refine (put_any t k.1 ht (Nat.le_trans hB k.2.1.size)).mono ?_
 rintro e w' ⟨he,hw⟩
 exact ⟨he,k.trans hw⟩
/-- A line. -/
def wlL (l:List UInt8) (n:Nat) (s:List UInt8):List UInt8:=wpL (wpL (wpL l (List.replicate n 9)) s) [10]
set_option maxHeartbeats 2000000 in
set_option maxRecDepth 100000 in
theorem line_any {B b:Nat} {l:List UInt8} {w:World} (n:Nat) (s:ByteArray) (h:Wr B b l w) (hn:n≤1000) (hs:s.size≤140737488340000) (hB:B≤w.heap.size) :
  Calls Tryz.prog 79 #[.pointer (some ⟨b,0,none⟩),.int .i64 (n:Int),.string s] w fun e w'=>e=.returned (.tuple #[])∧Wx B b (wlL l n (bl s)) w w':=by
 have h1:=begin_any n h hn hB
 have hp:=fun t l' w1 k ht=>putX (B:=B) (b:=b) (w:=w) hB t l' w1 k ht
 have hd:(⟨#[10]⟩:ByteArray).size≤140737488340000:=by decide
 clear h
 go_enter Tryz.func79,Tryz.ntmps79
 go_wp2_with (first
  | (go_at_call 137;refine h1.mono ?_;rintro e w1 ⟨rfl,k⟩)
  | (go_at_call 138;refine (hp _ _ _ k (by assumption)).mono ?_;clear k;rintro e w2 ⟨rfl,k⟩)
  | fail)
 go_end0
 exact ⟨rfl,k⟩
theorem textO_any {x:Sx} (h:ExOk x) (hn:cntX x≤1000) (w:World) (hw:Pow w):Calls Tryz.prog 199 #[exX x] w fun e w'=>e=.returned (.string ⟨(prC x.1 x.2).1.toArray⟩)∧Below w.heap.size w w':=by
 have h1:=printP w h.1 (by unfold cntX at hn;exact hn) h.2.2 hw
 have h2:Calls Tryz.prog 208 #[exX x] w fun e w'=>e=.returned (.tuple #[.string ⟨(prC x.1 x.2).1.toArray⟩,.int .i64 (prC x.1 x.2).2])∧Below w.heap.size w w':=h1
 clear h1
 generalize exX x=v at *
 generalize (⟨(prC x.1 x.2).1.toArray⟩:ByteArray)=t at *
 generalize (prC x.1 x.2).2=n at *
 go_enter Tryz.func199,Tryz.ntmps199
 go_wp2_with (first
  | (go_at_call 208;refine h2.mono ?_;rintro e w1 ⟨rfl,b1⟩)
  | fail)
 go_ret
 exact ⟨rfl,b1⟩
/-- One more line, behind what was written since w. -/
theorem lineX {B b:Nat} {w:World} (hB:B≤w.heap.size) (n:Nat) (t:ByteArray) (l:List UInt8) (w1:World) (k:Wx B b l w w1) (hn:n≤1000) (ht:t.size≤140737488340000):Calls Tryz.prog 79 #[.pointer (some ⟨b,0,none⟩),.int .i64 (n:Int),.string t] w1 fun e w'=>e=.returned (.tuple #[])∧Wx B b (wlL l n (bl t)) w w':=by
 refine (line_any n t k.1 hn ht (Nat.le_trans hB k.2.1.size)).mono ?_
 rintro e w' ⟨he,hw⟩
 exact ⟨he,k.trans hw⟩
theorem beginX {B b:Nat} {w:World} (hB:B≤w.heap.size) (n:Nat) (l:List UInt8) (w1:World) (k:Wx B b l w w1) (hn:n≤1000):Calls Tryz.prog 137 #[.pointer (some ⟨b,0,none⟩),.int .i64 (n:Int)] w1 fun e w'=>e=.returned (.tuple #[])∧Wx B b (wpL l (List.replicate n 9)) w w':=by
 refine (begin_any n k.1 hn (Nat.le_trans hB k.2.1.size)).mono ?_
 rintro e w' ⟨he,hw⟩
 exact ⟨he,k.trans hw⟩
/-- What touches nothing that was keeps the writer. -/
theorem Wx.on {B b:Nat} {l:List UInt8} {w w1 w2:World} (k:Wx B b l w w1) (hB:B≤w.heap.size) (h:Below w1.heap.size w1 w2):Wx B b l w w2:=⟨Wr.below k.1 h,k.2.1.trans (h.mono (Nat.le_trans hB k.2.1.size)),k.2.2.trans (others_below h)⟩
end Go.Proofs.YtfjdceknbdmhpaaGreatDoor
/- Contracts of the library at this program. -/
namespace Go.Proofs.YtfjdceknbdmhpaaGreatDoor
open Go.Shelf
set_option linter.unusedVariables false
def renI:Ren:={ f:=fun x=>match x with | 171=>47 | 243=>84 | 246=>85 | 283=>147 | 284=>148 | 285=>149 | 286=>150 | 129=>201 | 317=>200 | 318=>202 | 319=>203 | 320=>204 | 337=>236 | 338=>237 | n=>n,t:=fun x=>match x with | 3=>3 | 9=>9 | 2=>2 | 4=>4 | 171=>211 | 0=>0 | 53=>212 | 37=>76 | 5=>5 | 173=>215 | 212=>252 | 51=>253 | 20=>20 | 213=>254 | 46=>255 | 232=>307 | 233=>308 | n=>n,g:=fun x=>match x with | 17=>0 | 18=>3 | 19=>4 | n=>n }
theorem laysI:LaysM.n171 Tryz.prog renI:=
 {mixed:=by kernel_rfl,f129:=Tryz.func201.trans (congrArg some (by kernel_rfl)),f171:=Tryz.func47.trans (congrArg some (by kernel_rfl)),f243:=Tryz.func84.trans (congrArg some (by kernel_rfl)),f246:=Tryz.func85.trans (congrArg some (by kernel_rfl)),f283:=Tryz.func147.trans (congrArg some (by kernel_rfl)),f284:=Tryz.func148.trans (congrArg some (by kernel_rfl)),f285:=Tryz.func149.trans (congrArg some (by kernel_rfl)),f286:=Tryz.func150.trans (congrArg some (by kernel_rfl)),f317:=Tryz.func200.trans (congrArg some (by kernel_rfl)),f318:=Tryz.func202.trans (congrArg some (by kernel_rfl)),f319:=Tryz.func203.trans (congrArg some (by kernel_rfl)),f320:=Tryz.func204.trans (congrArg some (by kernel_rfl)),f337:=Tryz.func236.trans (congrArg some (by kernel_rfl)),f338:=Tryz.func237.trans (congrArg some (by kernel_rfl)),t0:=Tryz.underlying0,a0:=Tryz.isAgg0,z0:=Tryz.sizeOf0,v0:=Tryz.zeroValue0,t2:=Tryz.underlying2,a2:=Tryz.isAgg2,z2:=Tryz.sizeOf2,v2:=Tryz.zeroValue2,t3:=Tryz.underlying3,a3:=Tryz.isAgg3,z3:=Tryz.sizeOf3,v3:=Tryz.zeroValue3,t4:=Tryz.underlying4,a4:=Tryz.isAgg4,z4:=Tryz.sizeOf4,v4:=Tryz.zeroValue4,t5:=Tryz.underlying5,a5:=Tryz.isAgg5,z5:=Tryz.sizeOf5,v5:=Tryz.zeroValue5,t9:=Tryz.underlying9,a9:=Tryz.isAgg9,z9:=Tryz.sizeOf9,v9:=Tryz.zeroValue9,t20:=Tryz.underlying20,a20:=Tryz.isAgg20,z20:=Tryz.sizeOf20,v20:=Tryz.zeroValue20,t37:=Tryz.underlying76,a37:=Tryz.isAgg76,z37:=Tryz.sizeOf76,v37:=Tryz.zeroValue76,t46:=Tryz.underlying255,a46:=Tryz.isAgg255,z46:=Tryz.sizeOf255,v46:=Tryz.zeroValue255,t51:=Tryz.underlying253,a51:=Tryz.isAgg253,z51:=Tryz.sizeOf253,v51:=Tryz.zeroValue253,t53:=Tryz.underlying212,a53:=Tryz.isAgg212,z53:=Tryz.sizeOf212,v53:=Tryz.zeroValue212,t171:=Tryz.underlying211,a171:=Tryz.isAgg211,z171:=Tryz.sizeOf211,v171:=Tryz.zeroValue211,t173:=Tryz.underlying215,a173:=Tryz.isAgg215,z173:=Tryz.sizeOf215,v173:=Tryz.zeroValue215,t212:=Tryz.underlying252,a212:=Tryz.isAgg252,z212:=Tryz.sizeOf252,v212:=Tryz.zeroValue252,t213:=Tryz.underlying254,a213:=Tryz.isAgg254,z213:=Tryz.sizeOf254,t232:=Tryz.underlying307,a232:=Tryz.isAgg307,z232:=Tryz.sizeOf307,v232:=Tryz.zeroValue307,t233:=Tryz.underlying308,a233:=Tryz.isAgg308,z233:=Tryz.sizeOf308,v233:=Tryz.zeroValue308,g17:=by kernel_rfl,g18:=by kernel_rfl,g19:=by kernel_rfl,i0:=by kernel_rfl,i2:=by kernel_rfl,i3:=by kernel_rfl,i4:=by kernel_rfl,i5:=by kernel_rfl,i9:=by kernel_rfl,i20:=by kernel_rfl,i37:=by kernel_rfl,i46:=by kernel_rfl,i51:=by kernel_rfl,i53:=by kernel_rfl,i171:=by kernel_rfl,i173:=by kernel_rfl,i212:=by kernel_rfl,i232:=by kernel_rfl,i233:=by kernel_rfl,m17:=by kernel_rfl,m18:=by kernel_rfl,m19:=by kernel_rfl }
end Go.Proofs.YtfjdceknbdmhpaaGreatDoor
/- Package show's writer: Itoa; sums of texts. -/
namespace Go.Proofs.YtfjdceknbdmhpaaGreatDoor
open Go.RowKit Go.Lib
set_option linter.unusedSimpArgs false
set_option linter.unusedVariables false
theorem itoa_any {n:Int} (h0:0≤n) (h1:n≤1000000000) (w:World) (hp:Pow w) :
  Calls Tryz.prog 47 #[.int .i64 n] w fun e w'=>e=.returned (.string ⟨(dcN n).toArray⟩)∧Below w.heap.size w w':=by
 refine (Go.Proofs.Any.strconv_Itoa laysI n (by omega) (by omega) w hp).mono ?_
 rintro e w' ⟨rfl,k,os,rfl⟩
 refine ⟨?_,below_grow _ w (Nat.le_refl _) k os⟩
 unfold Lib.itoa dcN
 rw [if_neg (by omega)]
/-- A variable's value, which may be less than nothing. -/
theorem fmtZ_any {n:Int} (h0 : -1000000000≤n) (h1:n≤1000000000) (w:World) (hp:Pow w) :
  Calls Tryz.prog 48 #[.int .i64 n,.int .i64 10] w fun e w'=>e=.returned (.string ⟨(if n < 0 then 45 :: dcN (-n) else dcN n).toArray⟩)∧Below w.heap.size w w':=by
 refine (Go.Proofs.Any.strconv_FormatInt_10 laysF n (by omega) (by omega) w hp).mono ?_
 rintro e w' ⟨rfl,k,os,rfl⟩
 refine ⟨?_,below_grow _ w (Nat.le_refl _) k os⟩
 unfold Lib.itoa dcN
 by_cases h:n < 0
 ·rw [if_pos h,if_pos h,show n.natAbs=(-n).toNat from by omega]
 ·rw [if_neg h,if_neg h]
end Go.Proofs.YtfjdceknbdmhpaaGreatDoor
/- Package show's writer: kind, but for a step's. -/
namespace Go.Proofs.YtfjdceknbdmhpaaGreatDoor
open Go.RowKit Go.Lib
set_option linter.unusedSimpArgs false
set_option linter.unusedVariables false
attribute [local go_sem ↓] Go.wp_at_zero Go.wp_at_succ
set_option maxRecDepth 100000 in
set_option maxHeartbeats 8000000 in
theorem kind_all {B b:Nat} {l:List UInt8} {w:World} (n:Nat) (sn:ByteArray) (sl sc:Int) (se:Bool) (sd su:ByteArray) (sw sr:Int) (p1:Option Addr) (m p3:Nat) (p4:Option Addr) (ni p6:Nat) (h:Wr B b l w) (hB:B≤w.heap.size) (hn:n≤1000)  : Calls Tryz.prog 139 #[.pointer (some ⟨b,0,none⟩),.int .i64 (n:Int),.agg #[.string sn,.int .i64 sl,.int .i64 sc,.bool true,.bool se,.string sd,.string su,.int .i64 sw,.int .i64 sr,.slice p1 m p3,.slice p4 ni p6]] w fun e w'=>e=.returned (.tuple #[])∧Wx B b (wlL l n [97,108,108]) w w':=by
 have hal:Below w.heap.size w (w.alloc (.cells #[.string sn,.int .i64 sl,.int .i64 sc,.bool true,.bool se,.string sd,.string su,.int .i64 sw,.int .i64 sr,.slice p1 m p3,.slice p4 ni p6] 55)):=(Below.refl w.heap.size w).alloc (Nat.le_refl _) _
 have hX:Bn (w.alloc (.cells #[.string sn,.int .i64 sl,.int .i64 sc,.bool true,.bool se,.string sd,.string su,.int .i64 sw,.int .i64 sr,.slice p1 m p3,.slice p4 ni p6] 55)) w.heap.size [.string sn,.int .i64 sl,.int .i64 sc,.bool true,.bool se,.string sd,.string su,.int .i64 sw,.int .i64 sr,.slice p1 m p3,.slice p4 ni p6]:=Bn.new w [.string sn,.int .i64 sl,.int .i64 sc,.bool true,.bool se,.string sd,.string su,.int .i64 sw,.int .i64 sr,.slice p1 m p3,.slice p4 ni p6] 55 _ rfl
 have k0:Wx B b l w (w.alloc (.cells #[.string sn,.int .i64 sl,.int .i64 sc,.bool true,.bool se,.string sd,.string su,.int .i64 sw,.int .i64 sr,.slice p1 m p3,.slice p4 ni p6] 55)):=⟨Wr.below h hal,hal.mono hB,others_below hal⟩
 have hl:=lineX hB n ⟨#[97,108,108]⟩ l _ k0 hn (by decide)
 clear k0
 go_enter Tryz.func139,Tryz.ntmps139
 go_upto_region 1 with fail
 generalize (w.alloc (.cells #[.string sn,.int .i64 sl,.int .i64 sc,.bool true,.bool se,.string sd,.string su,.int .i64 sw,.int .i64 sr,.slice p1 m p3,.slice p4 ni p6] 55))=wx at *
 clear h
 obtain ⟨x3,_⟩:=hX 3 _ rfl
 go_wp2_with (first
  | (go_at_call 79;refine hl.mono ?_;rintro e w2 ⟨rfl,k⟩)
  | fail)
 go_end0
 exact ⟨rfl,k⟩
set_option maxRecDepth 100000 in
set_option maxHeartbeats 8000000 in
theorem kind_end {B b:Nat} {l:List UInt8} {w:World} (n:Nat) (sn:ByteArray) (sl sc:Int) (sd su:ByteArray) (sw sr:Int) (p1:Option Addr) (m p3:Nat) (p4:Option Addr) (ni p6:Nat) (h:Wr B b l w) (hB:B≤w.heap.size) (hn:n≤1000)  : Calls Tryz.prog 139 #[.pointer (some ⟨b,0,none⟩),.int .i64 (n:Int),.agg #[.string sn,.int .i64 sl,.int .i64 sc,.bool false,.bool true,.string sd,.string su,.int .i64 sw,.int .i64 sr,.slice p1 m p3,.slice p4 ni p6]] w fun e w'=>e=.returned (.tuple #[])∧Wx B b (wlL l n [101,110,100]) w w':=by
 have hal:Below w.heap.size w (w.alloc (.cells #[.string sn,.int .i64 sl,.int .i64 sc,.bool false,.bool true,.string sd,.string su,.int .i64 sw,.int .i64 sr,.slice p1 m p3,.slice p4 ni p6] 55)):=(Below.refl w.heap.size w).alloc (Nat.le_refl _) _
 have hX:Bn (w.alloc (.cells #[.string sn,.int .i64 sl,.int .i64 sc,.bool false,.bool true,.string sd,.string su,.int .i64 sw,.int .i64 sr,.slice p1 m p3,.slice p4 ni p6] 55)) w.heap.size [.string sn,.int .i64 sl,.int .i64 sc,.bool false,.bool true,.string sd,.string su,.int .i64 sw,.int .i64 sr,.slice p1 m p3,.slice p4 ni p6]:=Bn.new w [.string sn,.int .i64 sl,.int .i64 sc,.bool false,.bool true,.string sd,.string su,.int .i64 sw,.int .i64 sr,.slice p1 m p3,.slice p4 ni p6] 55 _ rfl
 have k0:Wx B b l w (w.alloc (.cells #[.string sn,.int .i64 sl,.int .i64 sc,.bool false,.bool true,.string sd,.string su,.int .i64 sw,.int .i64 sr,.slice p1 m p3,.slice p4 ni p6] 55)):=⟨Wr.below h hal,hal.mono hB,others_below hal⟩
 have hl:=lineX hB n ⟨#[101,110,100]⟩ l _ k0 hn (by decide)
 clear k0
 go_enter Tryz.func139,Tryz.ntmps139
 go_upto_region 1 with fail
 generalize (w.alloc (.cells #[.string sn,.int .i64 sl,.int .i64 sc,.bool false,.bool true,.string sd,.string su,.int .i64 sw,.int .i64 sr,.slice p1 m p3,.slice p4 ni p6] 55))=wx at *
 clear h
 obtain ⟨x3,_⟩:=hX 3 _ rfl
 obtain ⟨x4,_⟩:=hX 4 _ rfl
 go_wp2_with (first
  | (go_at_call 79;refine hl.mono ?_;rintro e w2 ⟨rfl,k⟩)
  | fail)
 go_end0
 exact ⟨rfl,k⟩
set_option maxRecDepth 100000 in
set_option maxHeartbeats 8000000 in
theorem kind_no {B b:Nat} {l:List UInt8} {w:World} (n:Nat) (sn:ByteArray) (sl sc:Int) (sd su:ByteArray) (sw sr:Int) (p1:Option Addr) (m p3:Nat) (p4:Option Addr) (ni p6:Nat) (h:Wr B b l w) (hB:B≤w.heap.size) (hn:n≤1000) (hd:sd.toList=[]):Calls Tryz.prog 139 #[.pointer (some ⟨b,0,none⟩),.int .i64 (n:Int),.agg #[.string sn,.int .i64 sl,.int .i64 sc,.bool false,.bool false,.string sd,.string su,.int .i64 sw,.int .i64 sr,.slice p1 m p3,.slice p4 ni p6]] w fun e w'=>e=.returned (.tuple #[])∧Wx B b (l) w w':=by
 have hal:Below w.heap.size w (w.alloc (.cells #[.string sn,.int .i64 sl,.int .i64 sc,.bool false,.bool false,.string sd,.string su,.int .i64 sw,.int .i64 sr,.slice p1 m p3,.slice p4 ni p6] 55)):=(Below.refl w.heap.size w).alloc (Nat.le_refl _) _
 have hX:Bn (w.alloc (.cells #[.string sn,.int .i64 sl,.int .i64 sc,.bool false,.bool false,.string sd,.string su,.int .i64 sw,.int .i64 sr,.slice p1 m p3,.slice p4 ni p6] 55)) w.heap.size [.string sn,.int .i64 sl,.int .i64 sc,.bool false,.bool false,.string sd,.string su,.int .i64 sw,.int .i64 sr,.slice p1 m p3,.slice p4 ni p6]:=Bn.new w [.string sn,.int .i64 sl,.int .i64 sc,.bool false,.bool false,.string sd,.string su,.int .i64 sw,.int .i64 sr,.slice p1 m p3,.slice p4 ni p6] 55 _ rfl
 have k0:Wx B b l w (w.alloc (.cells #[.string sn,.int .i64 sl,.int .i64 sc,.bool false,.bool false,.string sd,.string su,.int .i64 sw,.int .i64 sr,.slice p1 m p3,.slice p4 ni p6] 55)):=⟨Wr.below h hal,hal.mono hB,others_below hal⟩
 go_enter Tryz.func139,Tryz.ntmps139
 go_upto_region 1 with fail
 generalize (w.alloc (.cells #[.string sn,.int .i64 sl,.int .i64 sc,.bool false,.bool false,.string sd,.string su,.int .i64 sw,.int .i64 sr,.slice p1 m p3,.slice p4 ni p6] 55))=wx at *
 clear h
 obtain ⟨x3,_⟩:=hX 3 _ rfl
 obtain ⟨x4,_⟩:=hX 4 _ rfl
 obtain ⟨x5,_⟩:=hX 5 _ rfl
 go_wp2
 go_end0
 exact ⟨rfl,k0⟩
end Go.Proofs.YtfjdceknbdmhpaaGreatDoor
/- What is put, part by part: all of it, or more than 12000 bytes. -/
namespace Go.Proofs.YtfjdceknbdmhpaaGreatDoor
open Go.RowKit Go.Lib
theorem wpL_stop:∀ (cs:List (List UInt8)) (l:List UInt8),12000 < l.length→cs.foldl wpL l=l
 | [],_,_=>rfl
 | c :: cs,l,h=>by
  have e:wpL l c=l:=if_neg (by omega)
  rw [List.foldl_cons,e]
  exact wpL_stop cs l h
theorem wpL_all:∀ (cs:List (List UInt8)) (l:List UInt8),(l++cs.flatten).length≤12000→cs.foldl wpL l=l++cs.flatten
 | [],l,_=>by simp
 | c :: cs,l,h=>by
  rw [List.flatten_cons,← List.append_assoc] at h ⊢
  have h1:l.length≤12000:=by rw [List.length_append,List.length_append] at h;omega
  have e:wpL l c=l++c:=if_pos h1
  rw [List.foldl_cons,e]
  exact wpL_all cs (l++c) h
theorem wpL_long:∀ (cs:List (List UInt8)) (l:List UInt8),12000 < (l++cs.flatten).length→12000 < (cs.foldl wpL l).length
 | [],l,h=>by simpa using h
 | c :: cs,l,h=>by
  by_cases h1:l.length≤12000
  ·have e:wpL l c=l++c:=if_pos h1
   rw [List.foldl_cons,e]
   refine wpL_long cs (l++c) ?_
   rw [List.flatten_cons,← List.append_assoc] at h
   exact h
  ·rw [wpL_stop (c :: cs) l (by omega)]
   omega
end Go.Proofs.YtfjdceknbdmhpaaGreatDoor
/- A formed chart's pieces fit. Math alone. -/
namespace Go.Proofs.YtfjdceknbdmhpaaGreatDoor
open Go.RowKit Go.Lib
set_option linter.unusedSimpArgs false
set_option linter.unusedVariables false
theorem kw_sp {s:List UInt8} (h:nameS s=true) {r:List Pq} {post:List UInt8} (hr:FitQ r post):FitQ (kwQ s :: spQ :: r) post:=
 ⟨show Fits (1,s) (32 :: (txQ r++post)) from fits_name h (post_blank _),.inl rfl,hr⟩
theorem kw_nl {s:List UInt8} (h:nameS s=true) {r:List Pq} {post:List UInt8} (hr:FitQ r post):FitQ (kwQ s :: nlQ :: r) post:=
 ⟨show Fits (1,s) (10 :: (txQ r++post)) from fits_name h (post_line _),.inr (.inr rfl),hr⟩
theorem nu_sp {n:Int} (h:nbB n=true) {r:List Pq} {post:List UInt8} (hr:FitQ r post):FitQ (nuQ n :: spQ :: r) post:=by
 unfold nbB at h
 rw [decide_eq_true_eq] at h
 exact ⟨show Fits (2,dcN n) (32 :: (txQ r++post)) from (fits_num (num_dc h.1 h.2) (post_blank _)).1,.inl rfl,hr⟩
theorem nu_nl {n:Int} (h:0≤n∧n≤1000000000) {r:List Pq} {post:List UInt8} (hr:FitQ r post):FitQ (nuQ n :: nlQ :: r) post:=
 ⟨show Fits (2,dcN n) (10 :: (txQ r++post)) from (fits_num (num_dc h.1 h.2) (post_line _)).1,.inr (.inr rfl),hr⟩
theorem br_nl {c:UInt8} (h:c=123∨c=125) {r:List Pq} {post:List UInt8} (hr:FitQ r post):FitQ (sgQ c :: nlQ :: r) post:=
 ⟨fits_brace h _,.inr (.inr rfl),hr⟩
theorem eq_sp {r:List Pq} {post:List UInt8} (hr:FitQ r post):FitQ (sgQ 61 :: spQ :: r) post:=
 ⟨show Fits (3,[61]) (32 :: (txQ r++post)) from fits_eq _,.inl rfl,hr⟩
theorem post_sets (l:List (List UInt8 × Sx)) {post:List UInt8} (h:Post post):Post (txQ ((l.map setQ).flatten)++post):=by
 cases l with
 | nil=>exact h
 | cons s r=>
  rw [List.map_cons,List.flatten_cons,txQ_app,List.append_assoc]
  exact post_blank _
theorem fitQ_set {s:List UInt8 × Sx} (hf:setF s=true) (hc:ClX s.2) {post:List UInt8} (h:Post post):FitQ (setQ s) post:=by
 unfold setF at hf
 rw [Bool.and_eq_true] at hf
 exact ⟨.inl rfl,kw_sp (by decide) (kw_sp (plain_name hf.1) (eq_sp (fitQ_ex hc hf.2 h)))⟩
theorem fitQ_sets:∀ (l:List (List UInt8 × Sx)),l.all setF=true→(∀ s∈l,ClX s.2)→∀ {post:List UInt8},Post post→FitQ ((l.map setQ).flatten) post
 | [],_,_,_,_=>trivial
 | s :: r,hf,hc,post,h=>by
  rw [List.all_cons,Bool.and_eq_true] at hf
  rw [List.map_cons,List.flatten_cons]
  exact fitQ_app _ _ _ (fitQ_set hf.1 (hc s List.mem_cons_self) (post_sets r h)) (fitQ_sets r hf.2 (fun x hx=>hc x (List.mem_cons_of_mem _ hx)) h)
theorem onF_parts {o:OnC} (h:onF o=true):plainB o.1=true∧(o.2.1.1=true→exF o.2.1.2=true)∧plainB o.2.2.1=true∧o.2.2.2.1.all setF=true:=by
 unfold onF at h
 simp only [Bool.and_eq_true,Bool.or_eq_true,Bool.not_eq_true'] at h
 exact ⟨h.1,fun e=>h.2.1.elim (fun q=>by rw [e] at q;cases q) id,h.2.2.1,h.2.2.2⟩
theorem fitQ_on {o:OnC} (n:Nat) (hf:onF o=true) (hc:OnCl o) (post:List UInt8):FitQ (onQ n o) post:=by
 obtain ⟨h1,h2,h3,h4⟩:=onF_parts hf
 have e1:FitQ ((o.2.2.2.1.map setQ).flatten++[nlQ]) post:=fitQ_app _ _ _ (fitQ_sets _ h4 hc.2 (post_line _)) ⟨.inr (.inr rfl),trivial⟩
 have hp:Post (txQ ((o.2.2.2.1.map setQ).flatten++[nlQ])++post):=by
  rw [txQ_app,List.append_assoc]
  exact post_sets _ (post_line _)
 have e2:FitQ ([spQ,kwQ wGo,spQ,kwQ o.2.2.1]++((o.2.2.2.1.map setQ).flatten++[nlQ])) post:=⟨.inl rfl,kw_sp (by decide) ⟨fits_name (plain_name h3) hp,e1⟩⟩
 have hp2:Post (txQ ([spQ,kwQ wGo,spQ,kwQ o.2.2.1]++((o.2.2.2.1.map setQ).flatten++[nlQ]))++post):=by
  rw [txQ_app,List.append_assoc]
  exact post_blank _
 have e3:FitQ (grdQ o.2.1++([spQ,kwQ wGo,spQ,kwQ o.2.2.1]++((o.2.2.2.1.map setQ).flatten++[nlQ]))) post:=by
  unfold grdQ
  split
  ·next hb=>exact fitQ_app _ _ _ ⟨.inl rfl,kw_sp (by decide) (fitQ_ex (hc.1 hb) (h2 hb) hp2)⟩ e2
  ·exact e2
 have hp3:Post (txQ (grdQ o.2.1++([spQ,kwQ wGo,spQ,kwQ o.2.2.1]++((o.2.2.2.1.map setQ).flatten++[nlQ])))++post):=by
  unfold grdQ
  split
  ·rw [txQ_app,List.append_assoc]
   exact post_blank _
  ·exact hp2
 exact fitQ_app _ _ _ (fitQ_tb n _) (kw_sp (by decide) ⟨fits_name (plain_name h1) hp3,e3⟩)
theorem fitQ_all {α:Type} {f:α→List Pq}:∀ (l:List α),(∀ x∈l,∀ post,FitQ (f x) post)→∀ post,FitQ ((l.map f).flatten) post
 | [],_,_=>trivial
 | x :: r,h,post=>by
  rw [List.map_cons,List.flatten_cons]
  exact fitQ_app _ _ _ (h x List.mem_cons_self _) (fitQ_all r (fun y hy=>h y (List.mem_cons_of_mem _ hy)) post)
theorem kndF_step {h:HdC} (hf:kndF h=true) (hs:stepB h=true):h.2.1.1=false∧h.2.1.2=false∧plainB h.2.2.1.1=true∧plainB h.2.2.1.2=true∧nbB h.2.2.2.1.1=true∧nbB h.2.2.2.1.2=true:=by
 unfold kndF at hf
 rw [if_pos hs] at hf
 simp only [Bool.and_eq_true,Bool.not_eq_true'] at hf
 exact ⟨hf.1.1.1.1.1,hf.1.1.1.1.2,hf.1.1.1.2,hf.1.1.2,hf.1.2,hf.2⟩
theorem step_do {h:HdC} (hd:h.2.2.1.1≠[]):stepB h=true:=by
 unfold stepB
 rw [decide_eq_false hd];rfl
theorem nb_of {n:Int} (h:nbB n=true):0≤n∧n≤1000000000:=by
 unfold nbB at h
 rwa [decide_eq_true_eq] at h
theorem fitQ_knd {h:HdC} (n:Nat) (hf:kndF h=true) (post:List UInt8):FitQ (kndQ n h) post:=by
 unfold kndQ
 split
 ·exact fitQ_app _ _ _ (fitQ_tb n _) (kw_nl (by decide) trivial)
 ·split
  ·exact fitQ_app _ _ _ (fitQ_tb n _) (kw_nl (by decide) trivial)
  ·split
   ·next hd=>
    obtain ⟨_,_,h3,h4,h5,h6⟩:=kndF_step hf (step_do hd)
    exact fitQ_app _ _ _ (fitQ_tb n _) (kw_sp (by decide) (kw_sp (plain_name h3) (kw_sp (by decide) (kw_sp (plain_name h4) (kw_sp (by decide) (nu_sp h5 (kw_sp (by decide) (nu_nl (nb_of h6) trivial))))))))
   ·trivial
theorem stF_parts {d:Nat} {n:Nat} {t:St (d+1)} (h:stF (d+1) n t=true):n≤6∧plainB t.1.1.1=true∧kndF t.1=true∧t.1.2.2.2.2.all onF=true∧t.2.all (stF d (n+1))=true:=by
 have h':(decide (n≤6) && plainB t.1.1.1 && kndF t.1 && t.1.2.2.2.2.all onF && t.2.all (stF d (n+1)))=true:=h
 simp only [Bool.and_eq_true,decide_eq_true_eq] at h'
 exact ⟨h'.1.1.1.1,h'.1.1.1.2,h'.1.1.2,h'.1.2,h'.2⟩
theorem fitQ_st:∀ (d n:Nat) (t:St d),stF d n t=true→StCl d t→∀ post,FitQ (stQ d n t) post
 | 0,_,t,_,_=>Empty.elim t
 | d+1,n,t,hf,hc=>fun post=>by
  obtain ⟨h1,h2,h3,h4,h5⟩:=stF_parts hf
  rw [List.all_eq_true] at h4 h5
  have e1:FitQ (tbQ n++[sgQ 125,nlQ]) post:=fitQ_app _ _ _ (fitQ_tb n _) (br_nl (.inr rfl) trivial)
  have e2:FitQ ((t.2.map (stQ d (n+1))).flatten++(tbQ n++[sgQ 125,nlQ])) post:=fitQ_app _ _ _ (fitQ_all _ (fun x hx=>fitQ_st d (n+1) x (h5 x hx) (hc.2 x hx)) _) e1
  have e3:FitQ ((t.1.2.2.2.2.map (onQ (n+1))).flatten++((t.2.map (stQ d (n+1))).flatten++(tbQ n++[sgQ 125,nlQ]))) post:=fitQ_app _ _ _ (fitQ_all _ (fun x hx=>fitQ_on (n+1) (h4 x hx) (hc.1 x hx)) _) e2
  have e4:=fitQ_app _ _ _ (fitQ_knd (n+1) h3 _) e3
  exact fitQ_app _ _ _ (fitQ_tb n _) (kw_sp (by decide) (kw_sp (plain_name h2) (br_nl (.inl rfl) e4)))
theorem fitQ_var {v:List UInt8 × Int × Pl} (hf:varF v=true) (post:List UInt8):FitQ (varQ v) post:=by
 unfold varF at hf
 rw [Bool.and_eq_true,decide_eq_true_eq] at hf
 have e1:FitQ (nmQ v.2.1++[nlQ]) post:=by
  unfold nmQ
  split
  ·exact ⟨fits_neg _,nu_nl (by omega) trivial⟩
  ·exact nu_nl (by omega) trivial
 exact fitQ_app _ _ _ (fitQ_tb 1 _) (kw_sp (by decide) (kw_sp (plain_name hf.1) (eq_sp e1)))
theorem chF_parts {d:Nat} {c:ChX d} (h:chF d c=true):plainB c.1.1=true∧nbB c.2.1=true∧c.2.2.1.all varF=true∧c.2.2.2.all (stF d 1)=true:=by
 unfold chF at h
 simp only [Bool.and_eq_true] at h
 exact ⟨h.1.1.1,h.1.1.2,h.1.2,h.2⟩
theorem fitQ_ch {d:Nat} {c:ChX d} (hf:chF d c=true) (hc:∀ t∈c.2.2.2,StCl d t):FitQ (chQ d c) []:=by
 obtain ⟨h1,h2,h3,h4⟩:=chF_parts hf
 rw [List.all_eq_true] at h3 h4
 have e1:FitQ [sgQ 125,nlQ] []:=br_nl (.inr rfl) trivial
 have e2:=fitQ_app _ _ _ (fitQ_all _ (fun x hx=>fitQ_st d 1 x (h4 x hx) (hc x hx)) _) e1
 have e3:=fitQ_app _ _ _ (fitQ_all _ (fun x hx=>fitQ_var (h3 x hx)) _) e2
 exact kw_sp (by decide) (kw_sp (plain_name h1) (nu_sp h2 (br_nl (.inl rfl) e3)))
def lnW (n:Nat) (s:List UInt8):List (List UInt8):=[List.replicate n 9,s,[10]]
def exW (x:Sx):List UInt8:=(prC x.1 x.2).1
def doW (h:HdC):List UInt8:=[100,111,32]++h.2.2.1.1++[32,117,110,100,111,32]++h.2.2.1.2++[32,97,116,32]++dcN h.2.2.2.1.1++[32,114,101,116,114,105,101,115,32]++dcN h.2.2.2.1.2
def kndW (n:Nat) (h:HdC):List (List UInt8):=
 if h.2.1.1=true then lnW n [97,108,108] else if h.2.1.2=true then lnW n [101,110,100] else if h.2.2.1.1≠[] then lnW n (doW h) else []
def setW (s:List UInt8 × Sx):List UInt8:=[32,115,101,116,32]++s.1++[32,61,32]++exW s.2
def grdW (g:Bool × Sx):List (List UInt8):=if g.1=true then [[32,105,102,32]++exW g.2] else []
def onW (n:Nat) (o:OnC):List (List UInt8):=[List.replicate n 9,[111,110,32]++o.1]++(grdW o.2.1++([[32,103,111,32]++o.2.2.1]++(o.2.2.2.1.map setW++[[10]])))
def stnW (s:List UInt8):List UInt8:=[115,116,97,116,101,32]++s++[32,123]
def stW:(d:Nat)→Nat→St d→List (List UInt8)
 | 0,_,t=>Empty.elim t
 | d+1,n,t=>lnW n (stnW t.1.1.1)++(kndW (n+1) t.1++((t.1.2.2.2.2.map (onW (n+1))).flatten++((t.2.map (stW d (n+1))).flatten++lnW n [125])))
def znW (n:Int):List UInt8:=if n < 0 then 45 :: dcN (-n) else dcN n
def varW (v:List UInt8 × Int × Pl):List (List UInt8):=lnW 1 ([118,97,114,32]++v.1++[32,61,32]++znW v.2.1)
def chnW (s:List UInt8) (n:Int):List UInt8:=[99,104,97,114,116,32]++s++[32]++dcN n++[32,123]
def chW (d:Nat) (c:ChX d):List (List UInt8):=lnW 0 (chnW c.1.1 c.2.1)++((c.2.2.1.map varW).flatten++((c.2.2.2.map (stW d 1)).flatten++lnW 0 [125]))
theorem exW_tx {x:Sx} (h:exF x=true):exW x=txQ (exQ x):=by
 have h2:fmX x=true∧plX x=true:=by unfold exF at h;rwa [Bool.and_eq_true] at h
 have e:prC x.1 x.2=(txtC x.1 x.2,0):=if_pos h2
 unfold exW exQ
 rw [e,txQ_qE];rfl
theorem txQ_tb (n:Nat):txQ (tbQ n)=List.replicate n 9:=by
 induction n with
 | zero=>rfl
 | succ n ih=>rw [List.replicate_succ,← ih];rfl
theorem lnW_fl (n:Nat) (s:List UInt8):(lnW n s).flatten=List.replicate n 9++(s++[10]):=by simp [lnW]
theorem setW_tx {s:List UInt8 × Sx} (h:setF s=true):setW s=txQ (setQ s):=by
 unfold setF at h
 rw [Bool.and_eq_true] at h
 unfold setW setQ
 rw [txQ_app,exW_tx h.2]
 simp [txQ,pieQ,spQ,kwQ,sgQ,wSet]
theorem grdW_tx {g:Bool × Sx} (h:g.1=true→exF g.2=true):(grdW g).flatten=txQ (grdQ g):=by
 unfold grdW grdQ
 by_cases hg:g.1=true
 ·rw [if_pos hg,if_pos hg,txQ_app,exW_tx (h hg)]
  simp [txQ,pieQ,spQ,kwQ,wIf]
 ·rw [if_neg hg,if_neg hg];rfl
theorem flat_tx {α:Type} {f:α→List (List UInt8)} {g:α→List Pq}:∀ (l:List α),(∀ x∈l,(f x).flatten=txQ (g x))→(l.map f).flatten.flatten=txQ (l.map g).flatten
 | [],_=>rfl
 | x :: r,h=>by
  rw [List.map_cons,List.map_cons,List.flatten_cons,List.flatten_cons,List.flatten_append,txQ_app,h x (by simp),flat_tx r (fun y hy=>h y (by simp [hy]))]
theorem sets_tx:∀ (l:List (List UInt8 × Sx)),l.all setF=true→(l.map setW).flatten=txQ (l.map setQ).flatten
 | [],_=>rfl
 | x :: r,h=>by
  rw [List.all_cons,Bool.and_eq_true] at h
  rw [List.map_cons,List.map_cons,List.flatten_cons,List.flatten_cons,txQ_app,setW_tx h.1,sets_tx r h.2]
theorem onW_tx (n:Nat) {o:OnC} (h:onF o=true):(onW n o).flatten=txQ (onQ n o):=by
 obtain ⟨h1,h2,h3,h4⟩:=onF_parts h
 unfold onW onQ
 rw [List.flatten_append,List.flatten_append,List.flatten_append,List.flatten_append,grdW_tx h2,sets_tx _ h4]
 simp only [txQ_app,txQ_tb]
 simp [txQ,pieQ,spQ,kwQ,nlQ,wOn,wGo]
theorem kndW_tx (n:Nat) (h:HdC):(kndW n h).flatten=txQ (kndQ n h):=by
 unfold kndW kndQ
 by_cases h1:h.2.1.1=true
 ·rw [if_pos h1,if_pos h1,lnW_fl,txQ_app,txQ_tb];rfl
 ·rw [if_neg h1,if_neg h1]
  by_cases h2:h.2.1.2=true
  ·rw [if_pos h2,if_pos h2,lnW_fl,txQ_app,txQ_tb];rfl
  ·rw [if_neg h2,if_neg h2]
   by_cases h3:h.2.2.1.1≠[]
   ·rw [if_pos h3,if_pos h3,lnW_fl,txQ_app,txQ_tb]
    simp [txQ,pieQ,spQ,kwQ,nuQ,nlQ,doW,wDo,wUndo,wAt,wRetries]
   ·rw [if_neg h3,if_neg h3];rfl
theorem stW_tx:∀ (d n:Nat) (t:St d),stF d n t=true→(stW d n t).flatten=txQ (stQ d n t)
 | 0,_,t,_=>Empty.elim t
 | d+1,n,t,h=>by
  obtain ⟨h1,h2,h3,h4,h5⟩:=stF_parts h
  show (lnW n (stnW t.1.1.1)++(kndW (n+1) t.1++((t.1.2.2.2.2.map (onW (n+1))).flatten++((t.2.map (stW d (n+1))).flatten++lnW n [125])))).flatten=txQ (tbQ n++([kwQ wState,spQ,kwQ t.1.1.1,spQ,sgQ 123,nlQ]++(kndQ (n+1) t.1++((t.1.2.2.2.2.map (onQ (n+1))).flatten++((t.2.map (stQ d (n+1))).flatten++(tbQ n++[sgQ 125,nlQ]))))))
  rw [List.flatten_append,List.flatten_append,List.flatten_append,List.flatten_append,kndW_tx,lnW_fl,lnW_fl,
   flat_tx (g:=onQ (n+1)) _ (fun o ho=>onW_tx _ (List.all_eq_true.1 h4 o ho)),flat_tx (g:=stQ d (n+1)) _ (fun x hx=>stW_tx d (n+1) x (List.all_eq_true.1 h5 x hx))]
  simp only [txQ_app,txQ_tb]
  simp [txQ,pieQ,spQ,kwQ,sgQ,nlQ,wState,stnW]
theorem varW_tx (v:List UInt8 × Int × Pl):(varW v).flatten=txQ (varQ v):=by
 unfold varW varQ znW nmQ
 rw [lnW_fl]
 simp only [txQ_app,txQ_tb]
 by_cases h:v.2.1 < 0
 ·simp [h,txQ,pieQ,spQ,kwQ,sgQ,nuQ,nlQ,wVar]
 ·simp [h,txQ,pieQ,spQ,kwQ,sgQ,nuQ,nlQ,wVar]
theorem chW_tx {d:Nat} {c:ChX d} (h:chF d c=true):(chW d c).flatten=txQ (chQ d c):=by
 obtain ⟨h1,h2,h3,h4⟩:=chF_parts h
 unfold chW chQ
 rw [List.flatten_append,List.flatten_append,List.flatten_append,lnW_fl,lnW_fl,flat_tx (g:=varQ) _ (fun v _=>varW_tx v),flat_tx (g:=stQ d 1) _ (fun x hx=>stW_tx d 1 x (List.all_eq_true.1 h4 x hx))]
 simp only [txQ_app]
 simp [txQ,pieQ,spQ,kwQ,sgQ,nuQ,nlQ,wChart,chnW]
/-- What is written: the chart's text, or more than 12000 bytes. -/
theorem wr_short {d:Nat} {c:ChX d} (h:chF d c=true) (hl:(txQ (chQ d c)).length≤12000):(chW d c).foldl wpL []=txQ (chQ d c):=by
 rw [← chW_tx h] at hl ⊢
 rw [wpL_all _ _ (by simpa using hl)];rfl
theorem wr_long {d:Nat} {c:ChX d} (h:chF d c=true) (hl:¬ (txQ (chQ d c)).length≤12000):12000 < ((chW d c).foldl wpL []).length:=by
 rw [← chW_tx h] at hl
 refine wpL_long _ _ ?_
 rw [List.nil_append];omega
end Go.Proofs.YtfjdceknbdmhpaaGreatDoor
/- Package show's writer: helps. -/
namespace Go.Proofs.YtfjdceknbdmhpaaGreatDoor
open Go.RowKit Go.Lib
set_option linter.unusedSimpArgs false
set_option linter.unusedVariables false
attribute [local go_sem ↓] Go.wp_at_zero Go.wp_at_succ
theorem add_ex (a b:ByteArray) (h:a.size+b.size≤2000000):∃ c:ByteArray,bl c=bl a++bl b∧c.size=a.size+b.size∧∀ W,(Op.stringOp .add a b).run Tryz.prog W=.ok (.string c) W:=by
 have e:bl (a++b)=bl a++bl b:=by unfold bl;rw [ByteArray.data_append,Array.toList_append]
 refine ⟨a++b,e,by simp,fun W=>add_ok a b _ ?_ e W⟩
 unfold bl
 rw [Array.length_toList,Array.length_toList]
 exact h
theorem blk_new (w:World) (o:Obj):(w.alloc o).heap[w.heap.size]?=some o:=by
 show (w.heap.push o)[w.heap.size]?=some o
 simp
theorem Wr.lt {B b:Nat} {l:List UInt8} {w:World} (h:Wr B b l w):b < w.heap.size:=by
 have key:∀ p,Lib.BuilderAtF 80 5 B b p (Lib.byteCells l) w→b < w.heap.size:=by
  rintro p ⟨h1,v,h2,_⟩
  exact (Array.getElem?_eq_some_iff.1 h2).1
 exact h.elim (key _) (key _)
/-- A block that is neither the writer nor a row of bytes stays. -/
theorem keepX {b X T:Nat} {cs:Array Value} {fz:Nat × Nat} {w w':World} (k:Lib.OthersKept 5 (some b) w w') (hO:w.heap[X]?=some (.cells cs T fz)) (hb:b≠X) (hT:T≠5):w'.heap[X]?=w.heap[X]?:=by
 rw [hO]
 refine k X _ hO (fun e=>hb (Option.some.inj e).symm) (fun c f e=>?_)
 injection e with _ e2 _
 exact hT e2
theorem dc_len {n:Int} (h:0≤n∧n≤1000000000):(dcN n).length≤10:=by
 have:=num_dc h.1 h.2
 unfold numB at this
 simp only [Bool.and_eq_true,decide_eq_true_eq] at this
 omega
theorem bl_mk (l:List UInt8):bl (⟨l.toArray⟩:ByteArray)=l:=by unfold bl;simp
theorem size_mk (l:List UInt8):(⟨l.toArray⟩:ByteArray).size=l.length:=by show l.toArray.size=_;simp
/-- A text that is a letter. -/
theorem letter_of (l:List UInt8):∃ t:ByteArray,(⟨l.toArray⟩:ByteArray)=t∧bl t=l∧t.size=l.length:=⟨_,rfl,bl_mk l,size_mk l⟩
def doB (d u:List UInt8) (a r:Int):List UInt8:=[100,111,32]++d++[32,117,110,100,111,32]++u++[32,97,116,32]++dcN a++[32,114,101,116,114,105,101,115,32]++dcN r
set_option maxRecDepth 100000 in
set_option maxHeartbeats 8000000 in
theorem kind_step {B b:Nat} {l:List UInt8} {w:World} (n:Nat) (sn:ByteArray) (sl sc:Int) (sd su:ByteArray) (sw sr:Int) (p1:Option Addr) (m p3:Nat) (p4:Option Addr) (ni p6:Nat) (h:Wr B b l w) (hB:B≤w.heap.size) (hn:n≤1000) (hd:(!sd.toList.isEmpty)=true) (hds:sd.size≤1000) (hus:su.size≤1000) (h1:0≤sw∧sw≤1000000000) (h2:0≤sr∧sr≤1000000000) (hp:Pow w):Calls Tryz.prog 139 #[.pointer (some ⟨b,0,none⟩),.int .i64 (n:Int),.agg #[.string sn,.int .i64 sl,.int .i64 sc,.bool false,.bool false,.string sd,.string su,.int .i64 sw,.int .i64 sr,.slice p1 m p3,.slice p4 ni p6]] w fun e w'=>e=.returned (.tuple #[])∧Wx B b (wlL l n (doB (bl sd) (bl su) sw sr)) w w':=by
 have hal:Below w.heap.size w (w.alloc (.cells #[.string sn,.int .i64 sl,.int .i64 sc,.bool false,.bool false,.string sd,.string su,.int .i64 sw,.int .i64 sr,.slice p1 m p3,.slice p4 ni p6] 55)):=(Below.refl w.heap.size w).alloc (Nat.le_refl _) _
 have hX:Bn (w.alloc (.cells #[.string sn,.int .i64 sl,.int .i64 sc,.bool false,.bool false,.string sd,.string su,.int .i64 sw,.int .i64 sr,.slice p1 m p3,.slice p4 ni p6] 55)) w.heap.size [.string sn,.int .i64 sl,.int .i64 sc,.bool false,.bool false,.string sd,.string su,.int .i64 sw,.int .i64 sr,.slice p1 m p3,.slice p4 ni p6]:=Bn.new w [.string sn,.int .i64 sl,.int .i64 sc,.bool false,.bool false,.string sd,.string su,.int .i64 sw,.int .i64 sr,.slice p1 m p3,.slice p4 ni p6] 55 _ rfl
 have hO:(w.alloc (.cells #[.string sn,.int .i64 sl,.int .i64 sc,.bool false,.bool false,.string sd,.string su,.int .i64 sw,.int .i64 sr,.slice p1 m p3,.slice p4 ni p6] 55)).heap[w.heap.size]?=some (.cells #[.string sn,.int .i64 sl,.int .i64 sc,.bool false,.bool false,.string sd,.string su,.int .i64 sw,.int .i64 sr,.slice p1 m p3,.slice p4 ni p6] 55 (0,0)):=blk_new _ _
 have k0:Wx B b l w (w.alloc (.cells #[.string sn,.int .i64 sl,.int .i64 sc,.bool false,.bool false,.string sd,.string su,.int .i64 sw,.int .i64 sr,.slice p1 m p3,.slice p4 ni p6] 55)):=⟨Wr.below h hal,hal.mono hB,others_below hal⟩
 have hbl:=h.lt
 have hp1:=hp.below hal
 obtain ⟨t1,ht1,e1,z1⟩:=letter_of (dcN sw)
 obtain ⟨t2,ht2,e2,z2⟩:=letter_of (dcN sr)
 have zz1:=dc_len h1
 have zz2:=dc_len h2
 obtain ⟨x1,q1,s1,a1⟩:=add_ex ⟨#[100,111,32]⟩ sd (by show 3+_≤_;omega)
 have g1:(⟨#[100,111,32]⟩:ByteArray).size=3:=rfl
 obtain ⟨x2,q2,s2,a2⟩:=add_ex x1 ⟨#[32,117,110,100,111,32]⟩ (by show _+6≤_;omega)
 have g2:(⟨#[32,117,110,100,111,32]⟩:ByteArray).size=6:=rfl
 obtain ⟨x3,q3,s3,a3⟩:=add_ex x2 su (by omega)
 obtain ⟨x4,q4,s4,a4⟩:=add_ex x3 ⟨#[32,97,116,32]⟩ (by show _+4≤_;omega)
 have g4:(⟨#[32,97,116,32]⟩:ByteArray).size=4:=rfl
 obtain ⟨x5,q5,s5,a5⟩:=add_ex x4 t1 (by omega)
 obtain ⟨x6,q6,s6,a6⟩:=add_ex x5 ⟨#[32,114,101,116,114,105,101,115,32]⟩ (by show _+9≤_;omega)
 have g6:(⟨#[32,114,101,116,114,105,101,115,32]⟩:ByteArray).size=9:=rfl
 obtain ⟨x7,q7,s7,a7⟩:=add_ex x6 t2 (by omega)
 have ql:bl x7=doB (bl sd) (bl su) sw sr:=by
  rw [q7,q6,q5,q4,q3,q2,q1,e1,e2];rfl
 have zl:x7.size≤140737488340000:=by omega
 clear q1 q2 q3 q4 q5 q6 q7 s1 s2 s3 s4 s5 s6 s7 g1 g2 g4 g6 z1 z2 zz1 zz2 e1 e2
 go_enter Tryz.func139,Tryz.ntmps139
 go_upto_region 1 with fail
 generalize (w.alloc (.cells #[.string sn,.int .i64 sl,.int .i64 sc,.bool false,.bool false,.string sd,.string su,.int .i64 sw,.int .i64 sr,.slice p1 m p3,.slice p4 ni p6] 55))=wx at *
 have i1:∀ w1,Below wx.heap.size wx w1→Calls Tryz.prog 47 #[.int .i64 sw] w1 fun e w'=>e=.returned (.string t1)∧Below w1.heap.size w1 w':=fun w1 bb=>by
  rw [← ht1];exact itoa_any h1.1 h1.2 w1 (hp1.below bb)
 have i2:∀ w1,Below wx.heap.size wx w1→Calls Tryz.prog 47 #[.int .i64 sr] w1 fun e w'=>e=.returned (.string t2)∧Below w1.heap.size w1 w':=fun w1 bb=>by
  rw [← ht2];exact itoa_any h2.1 h2.2 w1 (hp1.below bb)
 have hl:∀ w1,Below wx.heap.size wx w1→Calls Tryz.prog 79 #[.pointer (some ⟨b,0,none⟩),.int .i64 (n:Int),.string x7] w1 fun e w'=>e=.returned (.tuple #[])∧Wx B b (wlL l n (doB (bl sd) (bl su) sw sr)) w w'∧w'.heap[w.heap.size]?=wx.heap[w.heap.size]?:=fun w1 bb=>by
  have hk:=k0.on hB bb
  refine (line_any n x7 hk.1 hn zl (Nat.le_trans hB hk.2.1.size)).mono ?_
  rintro e w' ⟨he,hw⟩
  rw [ql] at hw
  refine ⟨he,hk.trans hw,?_⟩
  have h3:=bb.block w.heap.size hX.lt
  exact (keepX hw.2.2 (h3.trans hO) (by omega) (by decide)).trans h3
 clear k0 ht1 ht2 ql zl
 have hB:Below wx.heap.size wx wx:=Below.refl _ _
 obtain ⟨c3,_⟩:=hX 3 _ rfl
 obtain ⟨c4,_⟩:=hX 4 _ rfl
 obtain ⟨c5,_⟩:=hX 5 _ rfl
 obtain ⟨c6,_⟩:=hX 6 _ rfl
 obtain ⟨c7,_⟩:=hX 7 _ rfl
 obtain ⟨c8,_⟩:=hX 8 _ rfl
 have hlt:=hX.lt
 clear h hO hX hp hp1
 obtain ⟨S,hS⟩:∃ S,w.heap.size=S:=⟨_,rfl⟩
 rw [hS] at c3 c4 c5 c6 c7 c8 hlt ⊢
 simp only [hS] at hl
 have HS:Hid (w.heap.size=S):=hS
 clear hS hal
 go_upto_region 6 with fail
 have y5:=c5
 have y6:=c6
 have y7:=c7
 have y8:=c8
 go_region_held_law (fun w'=>w'.cell? ⟨S,5,none⟩=some (.string sd)∧w'.cell? ⟨S,6,none⟩=some (.string su)∧w'.cell? ⟨S,7,none⟩=some (.int .i64 sw)∧w'.cell? ⟨S,8,none⟩=some (.int .i64 sr))
  ((refine ⟨?_,?_,?_,?_⟩ <;> (repeat (first | (with_reducible exact y5) | (with_reducible exact y6) | (with_reducible exact y7) | (with_reducible exact y8) | (with_reducible refine cell_dr ?_))) <;> done))
  (first
   | (go_at_call 47;(first | (with_reducible refine (i1 _ hB).mono ?_) | (with_reducible refine (i1 _ hB.drew).mono ?_));rintro e w1 ⟨rfl,b1⟩;(first | have hB:=Below.nxd hB b1 | have hB:=Below.nx hB b1);have y5:=(hB.cell (p:=⟨S,5,none⟩) hlt).trans c5;have y6:=(hB.cell (p:=⟨S,6,none⟩) hlt).trans c6;have y7:=(hB.cell (p:=⟨S,7,none⟩) hlt).trans c7;have y8:=(hB.cell (p:=⟨S,8,none⟩) hlt).trans c8)
   | (go_at_call 47;(first | (with_reducible refine (i2 _ hB).mono ?_) | (with_reducible refine (i2 _ hB.drew).mono ?_));rintro e w1 ⟨rfl,b1⟩;(first | have hB:=Below.nxd hB b1 | have hB:=Below.nx hB b1);have y5:=(hB.cell (p:=⟨S,5,none⟩) hlt).trans c5;have y6:=(hB.cell (p:=⟨S,6,none⟩) hlt).trans c6;have y7:=(hB.cell (p:=⟨S,7,none⟩) hlt).trans c7;have y8:=(hB.cell (p:=⟨S,8,none⟩) hlt).trans c8)
   | (go_at_call 79;(first | (with_reducible refine (hl _ hB).mono ?_) | (with_reducible refine (hl _ hB.drew).mono ?_));rintro e w1 ⟨rfl,k,kb⟩;have y5:=keep_cell (p:=⟨S,5,none⟩) kb c5;have y6:=keep_cell (p:=⟨S,6,none⟩) kb c6;have y7:=keep_cell (p:=⟨S,7,none⟩) kb c7;have y8:=keep_cell (p:=⟨S,8,none⟩) kb c8)
   | fail)
 all_goals (
  go_wp2
  go_end0
  exact ⟨rfl,k⟩)
end Go.Proofs.YtfjdceknbdmhpaaGreatDoor
