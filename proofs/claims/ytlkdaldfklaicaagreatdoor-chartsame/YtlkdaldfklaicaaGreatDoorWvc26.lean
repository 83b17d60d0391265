import Derived.Test.YtlkdaldfklaicaaGreatDoorWvc01
import Derived.Test.YtlkdaldfklaicaaGreatDoorWvc25
set_option maxRecDepth 100000
set_option maxHeartbeats 32000000
namespace Go.Proofs.YtlkdaldfklaicaaGreatDoor
open Go.RowKit Go.Lib
set_option linter.unusedSimpArgs false
set_option linter.unusedVariables false
attribute [local go_sem ↓] Go.wp_at_zero Go.wp_at_succ
theorem zm6 {o o':OnC}(h:zeO o) (h':zeO o') (w:World):Calls Tryz.prog 55 #[gdV o.2.1,gdV o'.2.1] w fun e w'=>e=.returned (.bool (zbR (gX o.2.1) (gX o'.2.1)))/\Below w.heap.size w w':=by
 rw [gdX,gdX]
 refine zka ?_ ?_ w
 ·unfold gX
  split
  ·next hb=>exact h.2.2.1 hb
  ·exact zfB
 ·unfold gX
  split
  ·next hb=>exact h'.2.2.1 hb
  ·exact zfB
theorem zm9 (ev tg fv th:ByteArray) (ol oc pl pc:Int) (s1 t1:Option Addr) (ns s3 nt t3:Nat) (w:World) {e0 e1 e2 e3 e4 e5:Bool}(he0:(ev.toList == fv.toList)=e0) (he1:(tg.toList == th.toList)=e1) (he2:(ol == pl)=e2) (he3:(oc == pc)=e3) (hs:∀ w1,Below w.heap.size w w1->Calls Tryz.prog 55 #[.nilIface,.nilIface] w1 fun e w'=>e=.returned (.bool e4)/\Below w1.heap.size w1 w') (hq:∀ w1,Below w.heap.size w w1->Calls Tryz.prog 56 #[.slice s1 ns s3,.slice t1 nt t3,.func (.func 57) #[] #[]] w1 fun e w'=>e=.returned (.bool e5)/\Below w1.heap.size w1 w'):Calls Tryz.prog 35 #[.agg #[.string ev,.nilIface,.string tg,.slice s1 ns s3,.int .i64 ol,.int .i64 oc],.agg #[.string fv,.nilIface,.string th,.slice t1 nt t3,.int .i64 pl,.int .i64 pc]] w fun e w'=>e=.returned (.bool (e0 && (e1 && ((e2 && e3) && (e4 && e5)))))/\Below w.heap.size w w':=by
 have hal:Below w.heap.size w ((w.alloc (.cells #[.string ev,.nilIface,.string tg,.slice s1 ns s3,.int .i64 ol,.int .i64 oc] 90)).alloc (.cells #[.string fv,.nilIface,.string th,.slice t1 nt t3,.int .i64 pl,.int .i64 pc] 90)):=((Below.refl w.heap.size w).alloc zn2 _).alloc (by simp) _
 have hX:Bn ((w.alloc (.cells #[.string ev,.nilIface,.string tg,.slice s1 ns s3,.int .i64 ol,.int .i64 oc] 90)).alloc (.cells #[.string fv,.nilIface,.string th,.slice t1 nt t3,.int .i64 pl,.int .i64 pc] 90)) w.heap.size [.string ev,.nilIface,.string tg,.slice s1 ns s3,.int .i64 ol,.int .i64 oc]:=(Bn.new w [.string ev,.nilIface,.string tg,.slice s1 ns s3,.int .i64 ol,.int .i64 oc] 90 _ rfl).on (zn3.alloc zn2 _)
 have hY:Bn ((w.alloc (.cells #[.string ev,.nilIface,.string tg,.slice s1 ns s3,.int .i64 ol,.int .i64 oc] 90)).alloc (.cells #[.string fv,.nilIface,.string th,.slice t1 nt t3,.int .i64 pl,.int .i64 pc] 90)) (w.heap.size+1) [.string fv,.nilIface,.string th,.slice t1 nt t3,.int .i64 pl,.int .i64 pc]:=Bn.new (w.alloc (.cells #[.string ev,.nilIface,.string tg,.slice s1 ns s3,.int .i64 ol,.int .i64 oc] 90)) [.string fv,.nilIface,.string th,.slice t1 nt t3,.int .i64 pl,.int .i64 pc] 90 _ (by simp)
 go_enter Tryz.func35,Tryz.ntmps35
 go_upto_region 1 with fail
 generalize ((w.alloc (.cells #[.string ev,.nilIface,.string tg,.slice s1 ns s3,.int .i64 ol,.int .i64 oc] 90)).alloc (.cells #[.string fv,.nilIface,.string th,.slice t1 nt t3,.int .i64 pl,.int .i64 pc] 90))=wx at *
 have hB:Below wx.heap.size wx wx:=Below.refl _ _
 have x0:=(hX 0 _ rfl).1
 have y0:=(hY 0 _ rfl).1
 have x1:=(hX 1 _ rfl).1
 have y1:=(hY 1 _ rfl).1
 have x2:=(hX 2 _ rfl).1
 have y2:=(hY 2 _ rfl).1
 have x3:=(hX 3 _ rfl).1
 have y3:=(hY 3 _ rfl).1
 have x4:=(hX 4 _ rfl).1
 have y4:=(hY 4 _ rfl).1
 have x5:=(hX 5 _ rfl).1
 have y5:=(hY 5 _ rfl).1
 cases e0 with
 | false=>
  go_wp2_with (first
   | (go_at_call 55;refine (hs _ (hal.trans (hB.mono hal.size))).mono ?_;rintro e w1 ⟨rfl,b1⟩;have hB:=Below.nx hB b1;obtain ⟨x3,_⟩:=(hX.on hB) 3 _ rfl;obtain ⟨y3,_⟩:=(hY.on hB) 3 _ rfl)
   | (go_at_call 56;refine (hq _ (hal.trans (hB.mono hal.size))).mono ?_;rintro e w1 ⟨rfl,b1⟩;have hB:=Below.nx hB b1;skip)
   | fail)
  go_ret
  exact ⟨by first|rfl|simp,hal.trans (hB.mono hal.size)⟩
 | true=>
  cases e1 with
  | false=>
   go_wp2_with (first
    | (go_at_call 55;refine (hs _ (hal.trans (hB.mono hal.size))).mono ?_;rintro e w1 ⟨rfl,b1⟩;have hB:=Below.nx hB b1;obtain ⟨x3,_⟩:=(hX.on hB) 3 _ rfl;obtain ⟨y3,_⟩:=(hY.on hB) 3 _ rfl)
    | (go_at_call 56;refine (hq _ (hal.trans (hB.mono hal.size))).mono ?_;rintro e w1 ⟨rfl,b1⟩;have hB:=Below.nx hB b1;skip)
    | fail)
   go_ret
   exact ⟨by first|rfl|simp,hal.trans (hB.mono hal.size)⟩
  | true=>
   cases e2 with
   | false=>
    go_wp2_with (first
     | (go_at_call 55;refine (hs _ (hal.trans (hB.mono hal.size))).mono ?_;rintro e w1 ⟨rfl,b1⟩;have hB:=Below.nx hB b1;obtain ⟨x3,_⟩:=(hX.on hB) 3 _ rfl;obtain ⟨y3,_⟩:=(hY.on hB) 3 _ rfl)
     | (go_at_call 56;refine (hq _ (hal.trans (hB.mono hal.size))).mono ?_;rintro e w1 ⟨rfl,b1⟩;have hB:=Below.nx hB b1;skip)
     | fail)
    go_ret
    exact ⟨by first|rfl|simp,hal.trans (hB.mono hal.size)⟩
   | true=>
    cases e3 with
    | false=>
     go_wp2_with (first
      | (go_at_call 55;refine (hs _ (hal.trans (hB.mono hal.size))).mono ?_;rintro e w1 ⟨rfl,b1⟩;have hB:=Below.nx hB b1;obtain ⟨x3,_⟩:=(hX.on hB) 3 _ rfl;obtain ⟨y3,_⟩:=(hY.on hB) 3 _ rfl)
      | (go_at_call 56;refine (hq _ (hal.trans (hB.mono hal.size))).mono ?_;rintro e w1 ⟨rfl,b1⟩;have hB:=Below.nx hB b1;skip)
      | fail)
     go_ret
     exact ⟨by first|rfl|simp,hal.trans (hB.mono hal.size)⟩
    | true=>
     cases e4 with
     | false=>
      go_wp2_with (first
       | (go_at_call 55;refine (hs _ (hal.trans (hB.mono hal.size))).mono ?_;rintro e w1 ⟨rfl,b1⟩;have hB:=Below.nx hB b1;obtain ⟨x3,_⟩:=(hX.on hB) 3 _ rfl;obtain ⟨y3,_⟩:=(hY.on hB) 3 _ rfl)
       | (go_at_call 56;refine (hq _ (hal.trans (hB.mono hal.size))).mono ?_;rintro e w1 ⟨rfl,b1⟩;have hB:=Below.nx hB b1;skip)
       | fail)
      go_ret
      exact ⟨by first|rfl|simp,hal.trans (hB.mono hal.size)⟩
     | true=>
      go_wp2_with (first
       | (go_at_call 55;refine (hs _ (hal.trans (hB.mono hal.size))).mono ?_;rintro e w1 ⟨rfl,b1⟩;have hB:=Below.nx hB b1;obtain ⟨x3,_⟩:=(hX.on hB) 3 _ rfl;obtain ⟨y3,_⟩:=(hY.on hB) 3 _ rfl)
       | (go_at_call 56;refine (hq _ (hal.trans (hB.mono hal.size))).mono ?_;rintro e w1 ⟨rfl,b1⟩;have hB:=Below.nx hB b1;skip)
       | fail)
      go_ret
      exact ⟨by first|rfl|simp,hal.trans (hB.mono hal.size)⟩
theorem zmR (ev tg fv th:ByteArray) (ku:TypeId) (ky:Value) (ol oc pl pc:Int) (s1 t1:Option Addr) (ns s3 nt t3:Nat) (w:World) {e0 e1 e2 e3 e4 e5:Bool}(he0:(ev.toList == fv.toList)=e0) (he1:(tg.toList == th.toList)=e1) (he2:(ol == pl)=e2) (he3:(oc == pc)=e3) (hs:∀ w1,Below w.heap.size w w1->Calls Tryz.prog 55 #[.nilIface,.iface ku ky] w1 fun e w'=>e=.returned (.bool e4)/\Below w1.heap.size w1 w') (hq:∀ w1,Below w.heap.size w w1->Calls Tryz.prog 56 #[.slice s1 ns s3,.slice t1 nt t3,.func (.func 57) #[] #[]] w1 fun e w'=>e=.returned (.bool e5)/\Below w1.heap.size w1 w'):Calls Tryz.prog 35 #[.agg #[.string ev,.nilIface,.string tg,.slice s1 ns s3,.int .i64 ol,.int .i64 oc],.agg #[.string fv,.iface ku ky,.string th,.slice t1 nt t3,.int .i64 pl,.int .i64 pc]] w fun e w'=>e=.returned (.bool (e0 && (e1 && ((e2 && e3) && (e4 && e5)))))/\Below w.heap.size w w':=by
 have hal:Below w.heap.size w ((w.alloc (.cells #[.string ev,.nilIface,.string tg,.slice s1 ns s3,.int .i64 ol,.int .i64 oc] 90)).alloc (.cells #[.string fv,.iface ku ky,.string th,.slice t1 nt t3,.int .i64 pl,.int .i64 pc] 90)):=((Below.refl w.heap.size w).alloc zn2 _).alloc (by simp) _
 have hX:Bn ((w.alloc (.cells #[.string ev,.nilIface,.string tg,.slice s1 ns s3,.int .i64 ol,.int .i64 oc] 90)).alloc (.cells #[.string fv,.iface ku ky,.string th,.slice t1 nt t3,.int .i64 pl,.int .i64 pc] 90)) w.heap.size [.string ev,.nilIface,.string tg,.slice s1 ns s3,.int .i64 ol,.int .i64 oc]:=(Bn.new w [.string ev,.nilIface,.string tg,.slice s1 ns s3,.int .i64 ol,.int .i64 oc] 90 _ rfl).on (zn3.alloc zn2 _)
 have hY:Bn ((w.alloc (.cells #[.string ev,.nilIface,.string tg,.slice s1 ns s3,.int .i64 ol,.int .i64 oc] 90)).alloc (.cells #[.string fv,.iface ku ky,.string th,.slice t1 nt t3,.int .i64 pl,.int .i64 pc] 90)) (w.heap.size+1) [.string fv,.iface ku ky,.string th,.slice t1 nt t3,.int .i64 pl,.int .i64 pc]:=Bn.new (w.alloc (.cells #[.string ev,.nilIface,.string tg,.slice s1 ns s3,.int .i64 ol,.int .i64 oc] 90)) [.string fv,.iface ku ky,.string th,.slice t1 nt t3,.int .i64 pl,.int .i64 pc] 90 _ (by simp)
 go_enter Tryz.func35,Tryz.ntmps35
 go_upto_region 1 with fail
 generalize ((w.alloc (.cells #[.string ev,.nilIface,.string tg,.slice s1 ns s3,.int .i64 ol,.int .i64 oc] 90)).alloc (.cells #[.string fv,.iface ku ky,.string th,.slice t1 nt t3,.int .i64 pl,.int .i64 pc] 90))=wx at *
 have hB:Below wx.heap.size wx wx:=Below.refl _ _
 have x0:=(hX 0 _ rfl).1
 have y0:=(hY 0 _ rfl).1
 have x1:=(hX 1 _ rfl).1
 have y1:=(hY 1 _ rfl).1
 have x2:=(hX 2 _ rfl).1
 have y2:=(hY 2 _ rfl).1
 have x3:=(hX 3 _ rfl).1
 have y3:=(hY 3 _ rfl).1
 have x4:=(hX 4 _ rfl).1
 have y4:=(hY 4 _ rfl).1
 have x5:=(hX 5 _ rfl).1
 have y5:=(hY 5 _ rfl).1
 cases e0 with
 | false=>
  go_wp2_with (first
   | (go_at_call 55;refine (hs _ (hal.trans (hB.mono hal.size))).mono ?_;rintro e w1 ⟨rfl,b1⟩;have hB:=Below.nx hB b1;obtain ⟨x3,_⟩:=(hX.on hB) 3 _ rfl;obtain ⟨y3,_⟩:=(hY.on hB) 3 _ rfl)
   | (go_at_call 56;refine (hq _ (hal.trans (hB.mono hal.size))).mono ?_;rintro e w1 ⟨rfl,b1⟩;have hB:=Below.nx hB b1;skip)
   | fail)
  go_ret
  exact ⟨by first|rfl|simp,hal.trans (hB.mono hal.size)⟩
 | true=>
  cases e1 with
  | false=>
   go_wp2_with (first
    | (go_at_call 55;refine (hs _ (hal.trans (hB.mono hal.size))).mono ?_;rintro e w1 ⟨rfl,b1⟩;have hB:=Below.nx hB b1;obtain ⟨x3,_⟩:=(hX.on hB) 3 _ rfl;obtain ⟨y3,_⟩:=(hY.on hB) 3 _ rfl)
    | (go_at_call 56;refine (hq _ (hal.trans (hB.mono hal.size))).mono ?_;rintro e w1 ⟨rfl,b1⟩;have hB:=Below.nx hB b1;skip)
    | fail)
   go_ret
   exact ⟨by first|rfl|simp,hal.trans (hB.mono hal.size)⟩
  | true=>
   cases e2 with
   | false=>
    go_wp2_with (first
     | (go_at_call 55;refine (hs _ (hal.trans (hB.mono hal.size))).mono ?_;rintro e w1 ⟨rfl,b1⟩;have hB:=Below.nx hB b1;obtain ⟨x3,_⟩:=(hX.on hB) 3 _ rfl;obtain ⟨y3,_⟩:=(hY.on hB) 3 _ rfl)
     | (go_at_call 56;refine (hq _ (hal.trans (hB.mono hal.size))).mono ?_;rintro e w1 ⟨rfl,b1⟩;have hB:=Below.nx hB b1;skip)
     | fail)
    go_ret
    exact ⟨by first|rfl|simp,hal.trans (hB.mono hal.size)⟩
   | true=>
    cases e3 with
    | false=>
     go_wp2_with (first
      | (go_at_call 55;refine (hs _ (hal.trans (hB.mono hal.size))).mono ?_;rintro e w1 ⟨rfl,b1⟩;have hB:=Below.nx hB b1;obtain ⟨x3,_⟩:=(hX.on hB) 3 _ rfl;obtain ⟨y3,_⟩:=(hY.on hB) 3 _ rfl)
      | (go_at_call 56;refine (hq _ (hal.trans (hB.mono hal.size))).mono ?_;rintro e w1 ⟨rfl,b1⟩;have hB:=Below.nx hB b1;skip)
      | fail)
     go_ret
     exact ⟨by first|rfl|simp,hal.trans (hB.mono hal.size)⟩
    | true=>
     cases e4 with
     | false=>
      go_wp2_with (first
       | (go_at_call 55;refine (hs _ (hal.trans (hB.mono hal.size))).mono ?_;rintro e w1 ⟨rfl,b1⟩;have hB:=Below.nx hB b1;obtain ⟨x3,_⟩:=(hX.on hB) 3 _ rfl;obtain ⟨y3,_⟩:=(hY.on hB) 3 _ rfl)
       | (go_at_call 56;refine (hq _ (hal.trans (hB.mono hal.size))).mono ?_;rintro e w1 ⟨rfl,b1⟩;have hB:=Below.nx hB b1;skip)
       | fail)
      go_ret
      exact ⟨by first|rfl|simp,hal.trans (hB.mono hal.size)⟩
     | true=>
      go_wp2_with (first
       | (go_at_call 55;refine (hs _ (hal.trans (hB.mono hal.size))).mono ?_;rintro e w1 ⟨rfl,b1⟩;have hB:=Below.nx hB b1;obtain ⟨x3,_⟩:=(hX.on hB) 3 _ rfl;obtain ⟨y3,_⟩:=(hY.on hB) 3 _ rfl)
       | (go_at_call 56;refine (hq _ (hal.trans (hB.mono hal.size))).mono ?_;rintro e w1 ⟨rfl,b1⟩;have hB:=Below.nx hB b1;skip)
       | fail)
      go_ret
      exact ⟨by first|rfl|simp,hal.trans (hB.mono hal.size)⟩
theorem znl (ev tg fv th:ByteArray) (gu:TypeId) (gy:Value) (ol oc pl pc:Int) (s1 t1:Option Addr) (ns s3 nt t3:Nat) (w:World) {e0 e1 e2 e3 e4 e5:Bool}(he0:(ev.toList == fv.toList)=e0) (he1:(tg.toList == th.toList)=e1) (he2:(ol == pl)=e2) (he3:(oc == pc)=e3) (hs:∀ w1,Below w.heap.size w w1->Calls Tryz.prog 55 #[.iface gu gy,.nilIface] w1 fun e w'=>e=.returned (.bool e4)/\Below w1.heap.size w1 w') (hq:∀ w1,Below w.heap.size w w1->Calls Tryz.prog 56 #[.slice s1 ns s3,.slice t1 nt t3,.func (.func 57) #[] #[]] w1 fun e w'=>e=.returned (.bool e5)/\Below w1.heap.size w1 w'):Calls Tryz.prog 35 #[.agg #[.string ev,.iface gu gy,.string tg,.slice s1 ns s3,.int .i64 ol,.int .i64 oc],.agg #[.string fv,.nilIface,.string th,.slice t1 nt t3,.int .i64 pl,.int .i64 pc]] w fun e w'=>e=.returned (.bool (e0 && (e1 && ((e2 && e3) && (e4 && e5)))))/\Below w.heap.size w w':=by
 have hal:Below w.heap.size w ((w.alloc (.cells #[.string ev,.iface gu gy,.string tg,.slice s1 ns s3,.int .i64 ol,.int .i64 oc] 90)).alloc (.cells #[.string fv,.nilIface,.string th,.slice t1 nt t3,.int .i64 pl,.int .i64 pc] 90)):=((Below.refl w.heap.size w).alloc zn2 _).alloc (by simp) _
 have hX:Bn ((w.alloc (.cells #[.string ev,.iface gu gy,.string tg,.slice s1 ns s3,.int .i64 ol,.int .i64 oc] 90)).alloc (.cells #[.string fv,.nilIface,.string th,.slice t1 nt t3,.int .i64 pl,.int .i64 pc] 90)) w.heap.size [.string ev,.iface gu gy,.string tg,.slice s1 ns s3,.int .i64 ol,.int .i64 oc]:=(Bn.new w [.string ev,.iface gu gy,.string tg,.slice s1 ns s3,.int .i64 ol,.int .i64 oc] 90 _ rfl).on (zn3.alloc zn2 _)
 have hY:Bn ((w.alloc (.cells #[.string ev,.iface gu gy,.string tg,.slice s1 ns s3,.int .i64 ol,.int .i64 oc] 90)).alloc (.cells #[.string fv,.nilIface,.string th,.slice t1 nt t3,.int .i64 pl,.int .i64 pc] 90)) (w.heap.size+1) [.string fv,.nilIface,.string th,.slice t1 nt t3,.int .i64 pl,.int .i64 pc]:=Bn.new (w.alloc (.cells #[.string ev,.iface gu gy,.string tg,.slice s1 ns s3,.int .i64 ol,.int .i64 oc] 90)) [.string fv,.nilIface,.string th,.slice t1 nt t3,.int .i64 pl,.int .i64 pc] 90 _ (by simp)
 go_enter Tryz.func35,Tryz.ntmps35
 go_upto_region 1 with fail
 generalize ((w.alloc (.cells #[.string ev,.iface gu gy,.string tg,.slice s1 ns s3,.int .i64 ol,.int .i64 oc] 90)).alloc (.cells #[.string fv,.nilIface,.string th,.slice t1 nt t3,.int .i64 pl,.int .i64 pc] 90))=wx at *
 have hB:Below wx.heap.size wx wx:=Below.refl _ _
 have x0:=(hX 0 _ rfl).1
 have y0:=(hY 0 _ rfl).1
 have x1:=(hX 1 _ rfl).1
 have y1:=(hY 1 _ rfl).1
 have x2:=(hX 2 _ rfl).1
 have y2:=(hY 2 _ rfl).1
 have x3:=(hX 3 _ rfl).1
 have y3:=(hY 3 _ rfl).1
 have x4:=(hX 4 _ rfl).1
 have y4:=(hY 4 _ rfl).1
 have x5:=(hX 5 _ rfl).1
 have y5:=(hY 5 _ rfl).1
 cases e0 with
 | false=>
  go_wp2_with (first
   | (go_at_call 55;refine (hs _ (hal.trans (hB.mono hal.size))).mono ?_;rintro e w1 ⟨rfl,b1⟩;have hB:=Below.nx hB b1;obtain ⟨x3,_⟩:=(hX.on hB) 3 _ rfl;obtain ⟨y3,_⟩:=(hY.on hB) 3 _ rfl)
   | (go_at_call 56;refine (hq _ (hal.trans (hB.mono hal.size))).mono ?_;rintro e w1 ⟨rfl,b1⟩;have hB:=Below.nx hB b1;skip)
   | fail)
  go_ret
  exact ⟨by first|rfl|simp,hal.trans (hB.mono hal.size)⟩
 | true=>
  cases e1 with
  | false=>
   go_wp2_with (first
    | (go_at_call 55;refine (hs _ (hal.trans (hB.mono hal.size))).mono ?_;rintro e w1 ⟨rfl,b1⟩;have hB:=Below.nx hB b1;obtain ⟨x3,_⟩:=(hX.on hB) 3 _ rfl;obtain ⟨y3,_⟩:=(hY.on hB) 3 _ rfl)
    | (go_at_call 56;refine (hq _ (hal.trans (hB.mono hal.size))).mono ?_;rintro e w1 ⟨rfl,b1⟩;have hB:=Below.nx hB b1;skip)
    | fail)
   go_ret
   exact ⟨by first|rfl|simp,hal.trans (hB.mono hal.size)⟩
  | true=>
   cases e2 with
   | false=>
    go_wp2_with (first
     | (go_at_call 55;refine (hs _ (hal.trans (hB.mono hal.size))).mono ?_;rintro e w1 ⟨rfl,b1⟩;have hB:=Below.nx hB b1;obtain ⟨x3,_⟩:=(hX.on hB) 3 _ rfl;obtain ⟨y3,_⟩:=(hY.on hB) 3 _ rfl)
     | (go_at_call 56;refine (hq _ (hal.trans (hB.mono hal.size))).mono ?_;rintro e w1 ⟨rfl,b1⟩;have hB:=Below.nx hB b1;skip)
     | fail)
    go_ret
    exact ⟨by first|rfl|simp,hal.trans (hB.mono hal.size)⟩
   | true=>
    cases e3 with
    | false=>
     go_wp2_with (first
      | (go_at_call 55;refine (hs _ (hal.trans (hB.mono hal.size))).mono ?_;rintro e w1 ⟨rfl,b1⟩;have hB:=Below.nx hB b1;obtain ⟨x3,_⟩:=(hX.on hB) 3 _ rfl;obtain ⟨y3,_⟩:=(hY.on hB) 3 _ rfl)
      | (go_at_call 56;refine (hq _ (hal.trans (hB.mono hal.size))).mono ?_;rintro e w1 ⟨rfl,b1⟩;have hB:=Below.nx hB b1;skip)
      | fail)
     go_ret
     exact ⟨by first|rfl|simp,hal.trans (hB.mono hal.size)⟩
    | true=>
     cases e4 with
     | false=>
      go_wp2_with (first
       | (go_at_call 55;refine (hs _ (hal.trans (hB.mono hal.size))).mono ?_;rintro e w1 ⟨rfl,b1⟩;have hB:=Below.nx hB b1;obtain ⟨x3,_⟩:=(hX.on hB) 3 _ rfl;obtain ⟨y3,_⟩:=(hY.on hB) 3 _ rfl)
       | (go_at_call 56;refine (hq _ (hal.trans (hB.mono hal.size))).mono ?_;rintro e w1 ⟨rfl,b1⟩;have hB:=Below.nx hB b1;skip)
       | fail)
      go_ret
      exact ⟨by first|rfl|simp,hal.trans (hB.mono hal.size)⟩
     | true=>
      go_wp2_with (first
       | (go_at_call 55;refine (hs _ (hal.trans (hB.mono hal.size))).mono ?_;rintro e w1 ⟨rfl,b1⟩;have hB:=Below.nx hB b1;obtain ⟨x3,_⟩:=(hX.on hB) 3 _ rfl;obtain ⟨y3,_⟩:=(hY.on hB) 3 _ rfl)
       | (go_at_call 56;refine (hq _ (hal.trans (hB.mono hal.size))).mono ?_;rintro e w1 ⟨rfl,b1⟩;have hB:=Below.nx hB b1;skip)
       | fail)
      go_ret
      exact ⟨by first|rfl|simp,hal.trans (hB.mono hal.size)⟩
theorem zmI (ev tg fv th:ByteArray) (gu:TypeId) (gy:Value) (ku:TypeId) (ky:Value) (ol oc pl pc:Int) (s1 t1:Option Addr) (ns s3 nt t3:Nat) (w:World) {e0 e1 e2 e3 e4 e5:Bool}(he0:(ev.toList == fv.toList)=e0) (he1:(tg.toList == th.toList)=e1) (he2:(ol == pl)=e2) (he3:(oc == pc)=e3) (hs:∀ w1,Below w.heap.size w w1->Calls Tryz.prog 55 #[.iface gu gy,.iface ku ky] w1 fun e w'=>e=.returned (.bool e4)/\Below w1.heap.size w1 w') (hq:∀ w1,Below w.heap.size w w1->Calls Tryz.prog 56 #[.slice s1 ns s3,.slice t1 nt t3,.func (.func 57) #[] #[]] w1 fun e w'=>e=.returned (.bool e5)/\Below w1.heap.size w1 w'):Calls Tryz.prog 35 #[.agg #[.string ev,.iface gu gy,.string tg,.slice s1 ns s3,.int .i64 ol,.int .i64 oc],.agg #[.string fv,.iface ku ky,.string th,.slice t1 nt t3,.int .i64 pl,.int .i64 pc]] w fun e w'=>e=.returned (.bool (e0 && (e1 && ((e2 && e3) && (e4 && e5)))))/\Below w.heap.size w w':=by
 have hal:Below w.heap.size w ((w.alloc (.cells #[.string ev,.iface gu gy,.string tg,.slice s1 ns s3,.int .i64 ol,.int .i64 oc] 90)).alloc (.cells #[.string fv,.iface ku ky,.string th,.slice t1 nt t3,.int .i64 pl,.int .i64 pc] 90)):=((Below.refl w.heap.size w).alloc zn2 _).alloc (by simp) _
 have hX:Bn ((w.alloc (.cells #[.string ev,.iface gu gy,.string tg,.slice s1 ns s3,.int .i64 ol,.int .i64 oc] 90)).alloc (.cells #[.string fv,.iface ku ky,.string th,.slice t1 nt t3,.int .i64 pl,.int .i64 pc] 90)) w.heap.size [.string ev,.iface gu gy,.string tg,.slice s1 ns s3,.int .i64 ol,.int .i64 oc]:=(Bn.new w [.string ev,.iface gu gy,.string tg,.slice s1 ns s3,.int .i64 ol,.int .i64 oc] 90 _ rfl).on (zn3.alloc zn2 _)
 have hY:Bn ((w.alloc (.cells #[.string ev,.iface gu gy,.string tg,.slice s1 ns s3,.int .i64 ol,.int .i64 oc] 90)).alloc (.cells #[.string fv,.iface ku ky,.string th,.slice t1 nt t3,.int .i64 pl,.int .i64 pc] 90)) (w.heap.size+1) [.string fv,.iface ku ky,.string th,.slice t1 nt t3,.int .i64 pl,.int .i64 pc]:=Bn.new (w.alloc (.cells #[.string ev,.iface gu gy,.string tg,.slice s1 ns s3,.int .i64 ol,.int .i64 oc] 90)) [.string fv,.iface ku ky,.string th,.slice t1 nt t3,.int .i64 pl,.int .i64 pc] 90 _ (by simp)
 go_enter Tryz.func35,Tryz.ntmps35
 go_upto_region 1 with fail
 generalize ((w.alloc (.cells #[.string ev,.iface gu gy,.string tg,.slice s1 ns s3,.int .i64 ol,.int .i64 oc] 90)).alloc (.cells #[.string fv,.iface ku ky,.string th,.slice t1 nt t3,.int .i64 pl,.int .i64 pc] 90))=wx at *
 have hB:Below wx.heap.size wx wx:=Below.refl _ _
 have x0:=(hX 0 _ rfl).1
 have y0:=(hY 0 _ rfl).1
 have x1:=(hX 1 _ rfl).1
 have y1:=(hY 1 _ rfl).1
 have x2:=(hX 2 _ rfl).1
 have y2:=(hY 2 _ rfl).1
 have x3:=(hX 3 _ rfl).1
 have y3:=(hY 3 _ rfl).1
 have x4:=(hX 4 _ rfl).1
 have y4:=(hY 4 _ rfl).1
 have x5:=(hX 5 _ rfl).1
 have y5:=(hY 5 _ rfl).1
 cases e0 with
 | false=>
  go_wp2_with (first
   | (go_at_call 55;refine (hs _ (hal.trans (hB.mono hal.size))).mono ?_;rintro e w1 ⟨rfl,b1⟩;have hB:=Below.nx hB b1;obtain ⟨x3,_⟩:=(hX.on hB) 3 _ rfl;obtain ⟨y3,_⟩:=(hY.on hB) 3 _ rfl)
   | (go_at_call 56;refine (hq _ (hal.trans (hB.mono hal.size))).mono ?_;rintro e w1 ⟨rfl,b1⟩;have hB:=Below.nx hB b1;skip)
   | fail)
  go_ret
  exact ⟨by first|rfl|simp,hal.trans (hB.mono hal.size)⟩
 | true=>
  cases e1 with
  | false=>
   go_wp2_with (first
    | (go_at_call 55;refine (hs _ (hal.trans (hB.mono hal.size))).mono ?_;rintro e w1 ⟨rfl,b1⟩;have hB:=Below.nx hB b1;obtain ⟨x3,_⟩:=(hX.on hB) 3 _ rfl;obtain ⟨y3,_⟩:=(hY.on hB) 3 _ rfl)
    | (go_at_call 56;refine (hq _ (hal.trans (hB.mono hal.size))).mono ?_;rintro e w1 ⟨rfl,b1⟩;have hB:=Below.nx hB b1;skip)
    | fail)
   go_ret
   exact ⟨by first|rfl|simp,hal.trans (hB.mono hal.size)⟩
  | true=>
   cases e2 with
   | false=>
    go_wp2_with (first
     | (go_at_call 55;refine (hs _ (hal.trans (hB.mono hal.size))).mono ?_;rintro e w1 ⟨rfl,b1⟩;have hB:=Below.nx hB b1;obtain ⟨x3,_⟩:=(hX.on hB) 3 _ rfl;obtain ⟨y3,_⟩:=(hY.on hB) 3 _ rfl)
     | (go_at_call 56;refine (hq _ (hal.trans (hB.mono hal.size))).mono ?_;rintro e w1 ⟨rfl,b1⟩;have hB:=Below.nx hB b1;skip)
     | fail)
    go_ret
    exact ⟨by first|rfl|simp,hal.trans (hB.mono hal.size)⟩
   | true=>
    cases e3 with
    | false=>
     go_wp2_with (first
      | (go_at_call 55;refine (hs _ (hal.trans (hB.mono hal.size))).mono ?_;rintro e w1 ⟨rfl,b1⟩;have hB:=Below.nx hB b1;obtain ⟨x3,_⟩:=(hX.on hB) 3 _ rfl;obtain ⟨y3,_⟩:=(hY.on hB) 3 _ rfl)
      | (go_at_call 56;refine (hq _ (hal.trans (hB.mono hal.size))).mono ?_;rintro e w1 ⟨rfl,b1⟩;have hB:=Below.nx hB b1;skip)
      | fail)
     go_ret
     exact ⟨by first|rfl|simp,hal.trans (hB.mono hal.size)⟩
    | true=>
     cases e4 with
     | false=>
      go_wp2_with (first
       | (go_at_call 55;refine (hs _ (hal.trans (hB.mono hal.size))).mono ?_;rintro e w1 ⟨rfl,b1⟩;have hB:=Below.nx hB b1;obtain ⟨x3,_⟩:=(hX.on hB) 3 _ rfl;obtain ⟨y3,_⟩:=(hY.on hB) 3 _ rfl)
       | (go_at_call 56;refine (hq _ (hal.trans (hB.mono hal.size))).mono ?_;rintro e w1 ⟨rfl,b1⟩;have hB:=Below.nx hB b1;skip)
       | fail)
      go_ret
      exact ⟨by first|rfl|simp,hal.trans (hB.mono hal.size)⟩
     | true=>
      go_wp2_with (first
       | (go_at_call 55;refine (hs _ (hal.trans (hB.mono hal.size))).mono ?_;rintro e w1 ⟨rfl,b1⟩;have hB:=Below.nx hB b1;obtain ⟨x3,_⟩:=(hX.on hB) 3 _ rfl;obtain ⟨y3,_⟩:=(hY.on hB) 3 _ rfl)
       | (go_at_call 56;refine (hq _ (hal.trans (hB.mono hal.size))).mono ?_;rintro e w1 ⟨rfl,b1⟩;have hB:=Below.nx hB b1;skip)
       | fail)
      go_ret
      exact ⟨by first|rfl|simp,hal.trans (hB.mono hal.size)⟩
theorem zj0  {ok ok':Nat->Prop}{w:World}{l:List (OnC)}{l':List (OnC)}{v v':Value}(h:RdK ok w 6 (rOn ok w) l v) (h':RdK ok' w 6 (rOn ok' w) l' v') (hok:∀ s∈l,zeO s) (hok':∀ s∈l',zeO s) :
  Calls Tryz.prog 34 #[v,v',.func (.func 35) #[] #[]] w fun e w'=>e=.returned (.bool (eqL sqO l l'))/\Below w.heap.size w w':=by
 obtain ⟨a,cap,rfl,hlc,hcm⟩:=h.form
 obtain ⟨a',cap',rfl,hlc',hcm'⟩:=h'.form
 unfold maxLen at hcm hcm'
 have HC:=zm h
 have HC':=zm h'
 have HK:=zm hok
 have HK':=zm hok'
 obtain ⟨V,hV⟩:∃ V,eqL sqO l l'=V:=⟨_,rfl⟩
 rw [hV]
 by_cases hne:l.length=l'.length
 ·have hV0:Hid (eqL sqO (l.drop 0) (l'.drop 0)=V):=hV
  rw [<- hne] at hlc' ⊢
  have HNE:=zm hne
  obtain ⟨n,hn⟩:∃ n,l.length=n:=⟨_,rfl⟩
  rw [hn] at hlc hlc' HNE ⊢
  have HN:Hid (l.length=n):=hn
  clear h h' hok hok' hn hV hne
  go_enter Tryz.func34,Tryz.ntmps34
  go_wp2
  go_loopw [17] (fun ix wr=>∃ (i:Nat),i<=n/\ix=.int .i64 (i:Int)/\Hid (eqL sqO (l.drop i) (l'.drop i)=V)/\Below w.heap.size w wr) (fun ix _=>n - (RowKit.intOf ix).toNat)
  case atStart=>exact ⟨0,Nat.zero_le _,rfl,hV0,Below.refl _ _⟩
  case round=>
   clear hV0
   obtain ⟨i,hi,rfl,HI,hb⟩:=hrel
   by_cases hlt:i < n
   ·have hil:i < l.length:=by rw [HN.out];exact hlt
    have hil':i < l'.length:=by rw [<- HNE.out];exact hlt
    have HI2:Hid ((sqO l[i] l'[i] && eqL sqO (l.drop (i+1)) (l'.drop (i+1)))=V):=by
     show _=_
     rw [<- zcB sqO hil hil'];exact HI.out
    clear HI
    obtain ⟨b,off,s1,s3,rfl,hbl,hSe,hc⟩:=zhQ HC.out i hil
    obtain ⟨b',off',t1,t3,rfl,hbl',hSe',hc'⟩:=zhQ HC'.out i hil'
    have hko:=HK.out _ (List.getElem_mem hil)
    have hko':=HK'.out _ (List.getElem_mem hil')
    obtain ⟨o,ho⟩:∃ o,l[i]=o:=⟨_,rfl⟩
    obtain ⟨p,hp⟩:∃ o,l'[i]=o:=⟨_,rfl⟩
    rw [ho] at hSe hc hko HI2
    rw [hp] at hSe' hc' hko' HI2
    obtain ⟨ns,hns⟩:∃ m,o.2.2.2.1.length=m:=⟨_,rfl⟩
    obtain ⟨nt,hnt⟩:∃ m,p.2.2.2.1.length=m:=⟨_,rfl⟩
    rw [hns] at hSe hc
    rw [hnt] at hSe' hc'
    have hform:=zc6 o.2.1
    have hform':=zc6 p.2.1
    have hsm:=zm6 hko hko'
    obtain ⟨gv,hgv⟩:∃ gv,gdV o.2.1=gv:=⟨_,rfl⟩
    obtain ⟨kv,hkv⟩:∃ gv,gdV p.2.1=gv:=⟨_,rfl⟩
    obtain ⟨ev,hev,eb0,_⟩:=zal o.1
    obtain ⟨tg,htg,eb1,_⟩:=zal o.2.2.1
    obtain ⟨fv,hfv,eb2,_⟩:=zal p.1
    obtain ⟨th,hth,eb3,_⟩:=zal p.2.2.1
    obtain ⟨ol,hol⟩:∃ x,o.2.2.2.2.1=x:=⟨_,rfl⟩
    obtain ⟨oc,hoc⟩:∃ x,o.2.2.2.2.2=x:=⟨_,rfl⟩
    obtain ⟨pl,hpl⟩:∃ x,p.2.2.2.2.1=x:=⟨_,rfl⟩
    obtain ⟨pc,hpc⟩:∃ x,p.2.2.2.2.2=x:=⟨_,rfl⟩
    have hov:onV o=fun sl=>[.string ev,gdV o.2.1,.string tg,sl,.int .i64 ol,.int .i64 oc]:=by unfold onV;rw [hev,htg,hol,hoc]
    have hpv:onV p=fun sl=>[.string fv,gdV p.2.1,.string th,sl,.int .i64 pl,.int .i64 pc]:=by unfold onV;rw [hfv,hth,hpl,hpc]
    obtain ⟨R,hR⟩:∃ R,sqO o p=R:=⟨_,rfl⟩
    obtain ⟨E4,hE4⟩:∃ R,zbR (gX o.2.1) (gX p.2.1)=R:=⟨_,rfl⟩
    obtain ⟨E5,hE5⟩:∃ R,eqL sqS o.2.2.2.1 p.2.2.2.1=R:=⟨_,rfl⟩
    have hRR:(ev.toList == fv.toList && (tg.toList == th.toList && (((ol == pl) && (oc == pc)) && (E4 && E5))))=R:=by
     rw [zaK,zaK,eb0,eb1,eb2,eb3,<- hol,<- hoc,<- hpl,<- hpc,<- zer,<- hE4,<- hE5];exact hR
    rw [hR] at HI2
    rw [hE4] at hsm
    rw [hov] at hc
    rw [hpv] at hc'
    rw [hgv] at hform hsm hc
    rw [hkv] at hform' hsm hc'
    have hst:=fun w2 (b2:Below w.heap.size w w2)=>zjB (hSe.stay zk (ok':=ok) (w':=w2) (fun b hb hl=>⟨hb,b2.block b hl⟩)) (hSe'.stay zk (ok':=ok') (w':=w2) (fun b hb hl=>⟨hb,b2.block b hl⟩)) hko.2.2.2.1 hko'.2.2.2.1
    rw [hE5] at hst
    have HST:=zm hst
    have HRR:=zm hRR
    clear ho hp hns hnt hgv hkv hev htg hfv hth hol hoc hpl hpc hov hpv hSe hSe' hko hko' eb0 eb1 eb2 eb3 hR hRR hE4 hE5 hst
    have i1:(i:Int) < (n:Int):=by omega
    have i2:(0:Int)<=(i:Int):=by omega
    have C0:=(hb.cell (p:=⟨b,off+i*6+0,none⟩) hbl).trans (hc 0 _ rfl)
    have D0:=(hb.cell (p:=⟨b',off'+i*6+0,none⟩) hbl').trans (hc' 0 _ rfl)
    have C1:=(hb.cell (p:=⟨b,off+i*6+1,none⟩) hbl).trans (hc 1 _ rfl)
    have D1:=(hb.cell (p:=⟨b',off'+i*6+1,none⟩) hbl').trans (hc' 1 _ rfl)
    have C2:=(hb.cell (p:=⟨b,off+i*6+2,none⟩) hbl).trans (hc 2 _ rfl)
    have D2:=(hb.cell (p:=⟨b',off'+i*6+2,none⟩) hbl').trans (hc' 2 _ rfl)
    have C3:=(hb.cell (p:=⟨b,off+i*6+3,none⟩) hbl).trans (hc 3 _ rfl)
    have D3:=(hb.cell (p:=⟨b',off'+i*6+3,none⟩) hbl').trans (hc' 3 _ rfl)
    have C4:=(hb.cell (p:=⟨b,off+i*6+4,none⟩) hbl).trans (hc 4 _ rfl)
    have D4:=(hb.cell (p:=⟨b',off'+i*6+4,none⟩) hbl').trans (hc' 4 _ rfl)
    have C5:=(hb.cell (p:=⟨b,off+i*6+5,none⟩) hbl).trans (hc 5 _ rfl)
    have D5:=(hb.cell (p:=⟨b',off'+i*6+5,none⟩) hbl').trans (hc' 5 _ rfl)
    clear hc hc'
    rcases hform with rfl|⟨gu,gy,rfl⟩<;>rcases hform' with rfl|⟨ku,ky,rfl⟩
    ·have hal:Below wr.heap.size wr ((wr.alloc (.cells #[.string ev,.nilIface,.string tg,.slice s1 ns s3,.int .i64 ol,.int .i64 oc] 90)).alloc (.cells #[.string fv,.nilIface,.string th,.slice t1 nt t3,.int .i64 pl,.int .i64 pc] 90)):=(zn3.alloc zn2 _).alloc (by simp) _
     have hX:Bn ((wr.alloc (.cells #[.string ev,.nilIface,.string tg,.slice s1 ns s3,.int .i64 ol,.int .i64 oc] 90)).alloc (.cells #[.string fv,.nilIface,.string th,.slice t1 nt t3,.int .i64 pl,.int .i64 pc] 90)) wr.heap.size [.string ev,.nilIface,.string tg,.slice s1 ns s3,.int .i64 ol,.int .i64 oc]:=(Bn.new wr [.string ev,.nilIface,.string tg,.slice s1 ns s3,.int .i64 ol,.int .i64 oc] 90 _ rfl).on (zn3.alloc zn2 _)
     have hY:Bn ((wr.alloc (.cells #[.string ev,.nilIface,.string tg,.slice s1 ns s3,.int .i64 ol,.int .i64 oc] 90)).alloc (.cells #[.string fv,.nilIface,.string th,.slice t1 nt t3,.int .i64 pl,.int .i64 pc] 90)) (wr.heap.size+1) [.string fv,.nilIface,.string th,.slice t1 nt t3,.int .i64 pl,.int .i64 pc]:=Bn.new (wr.alloc (.cells #[.string ev,.nilIface,.string tg,.slice s1 ns s3,.int .i64 ol,.int .i64 oc] 90)) [.string fv,.nilIface,.string th,.slice t1 nt t3,.int .i64 pl,.int .i64 pc] 90 _ (by simp)
     have hal1:=(Below.refl wr.heap.size wr).alloc zn2 (.cells #[.string ev,.nilIface,.string tg,.slice s1 ns s3,.int .i64 ol,.int .i64 oc] 90)
     have E0:=(hal1.cell (p:=⟨b',off'+i*6+0,none⟩) (zn4 hbl' hb.size)).trans D0
     have E1:=(hal1.cell (p:=⟨b',off'+i*6+1,none⟩) (zn4 hbl' hb.size)).trans D1
     have E2:=(hal1.cell (p:=⟨b',off'+i*6+2,none⟩) (zn4 hbl' hb.size)).trans D2
     have E3:=(hal1.cell (p:=⟨b',off'+i*6+3,none⟩) (zn4 hbl' hb.size)).trans D3
     have E4:=(hal1.cell (p:=⟨b',off'+i*6+4,none⟩) (zn4 hbl' hb.size)).trans D4
     have E5:=(hal1.cell (p:=⟨b',off'+i*6+5,none⟩) (zn4 hbl' hb.size)).trans D5
     rw [Nat.add_zero] at E0 C0
     have hbx:=hb.trans (hal.mono hb.size)
     have hcall:∀ w1,Below w.heap.size w w1->Calls Tryz.prog 35 #[.agg #[.string ev,.nilIface,.string tg,.slice s1 ns s3,.int .i64 ol,.int .i64 oc],.agg #[.string fv,.nilIface,.string th,.slice t1 nt t3,.int .i64 pl,.int .i64 pc]] w1 fun e w'=>e=.returned (.bool R)/\Below w1.heap.size w1 w':=fun w1 b1=>by rw [<- HRR.out];exact zm9 ev tg fv th ol oc pl pc s1 t1 ns s3 nt t3 w1 rfl rfl rfl rfl (fun w2 _=>hsm w2) (fun w2 b2=>HST.out w2 (b1.trans (b2.mono b1.size)))
     go_upto_region 7 with fail
     clear C0 D0 E0 C1 D1 E1 C2 D2 E2 C3 D3 E3 C4 D4 E4 C5 D5 E5 hal1
     generalize ((wr.alloc (.cells #[.string ev,.nilIface,.string tg,.slice s1 ns s3,.int .i64 ol,.int .i64 oc] 90)).alloc (.cells #[.string fv,.nilIface,.string th,.slice t1 nt t3,.int .i64 pl,.int .i64 pc] 90))=wx at *
     have x0:=(hX 0 _ rfl).1
     have y0:=(hY 0 _ rfl).1
     have x1:=(hX 1 _ rfl).1
     have y1:=(hY 1 _ rfl).1
     have x2:=(hX 2 _ rfl).1
     have y2:=(hY 2 _ rfl).1
     have x3:=(hX 3 _ rfl).1
     have y3:=(hY 3 _ rfl).1
     have x4:=(hX 4 _ rfl).1
     have y4:=(hY 4 _ rfl).1
     have x5:=(hX 5 _ rfl).1
     have y5:=(hY 5 _ rfl).1
     cases R with
     | false=>
      have hV:V=false:=by rw [<- HI2.out];rfl
      subst hV
      go_wp2_with (first
       | (go_at_call 35;refine (hcall _ hbx).mono ?_;rintro e w1 ⟨rfl,b1⟩)
       | fail)
      go_ret
      exact ⟨rfl,hbx.trans (b1.mono hbx.size)⟩
     | true=>
      go_wp2_with (first
       | (go_at_call 35;refine (hcall _ hbx).mono ?_;rintro e w1 ⟨rfl,b1⟩)
       | fail)
      have hb2:=hbx.trans (b1.mono hbx.size)
      go_wp2
      go_roundw
      case rel=>exact ⟨i+1,hlt,by go_num,HI2,hb2⟩
      case measure=>simp [RowKit.intOf];omega
    ·have hal:Below wr.heap.size wr ((wr.alloc (.cells #[.string ev,.nilIface,.string tg,.slice s1 ns s3,.int .i64 ol,.int .i64 oc] 90)).alloc (.cells #[.string fv,.iface ku ky,.string th,.slice t1 nt t3,.int .i64 pl,.int .i64 pc] 90)):=(zn3.alloc zn2 _).alloc (by simp) _
     have hX:Bn ((wr.alloc (.cells #[.string ev,.nilIface,.string tg,.slice s1 ns s3,.int .i64 ol,.int .i64 oc] 90)).alloc (.cells #[.string fv,.iface ku ky,.string th,.slice t1 nt t3,.int .i64 pl,.int .i64 pc] 90)) wr.heap.size [.string ev,.nilIface,.string tg,.slice s1 ns s3,.int .i64 ol,.int .i64 oc]:=(Bn.new wr [.string ev,.nilIface,.string tg,.slice s1 ns s3,.int .i64 ol,.int .i64 oc] 90 _ rfl).on (zn3.alloc zn2 _)
     have hY:Bn ((wr.alloc (.cells #[.string ev,.nilIface,.string tg,.slice s1 ns s3,.int .i64 ol,.int .i64 oc] 90)).alloc (.cells #[.string fv,.iface ku ky,.string th,.slice t1 nt t3,.int .i64 pl,.int .i64 pc] 90)) (wr.heap.size+1) [.string fv,.iface ku ky,.string th,.slice t1 nt t3,.int .i64 pl,.int .i64 pc]:=Bn.new (wr.alloc (.cells #[.string ev,.nilIface,.string tg,.slice s1 ns s3,.int .i64 ol,.int .i64 oc] 90)) [.string fv,.iface ku ky,.string th,.slice t1 nt t3,.int .i64 pl,.int .i64 pc] 90 _ (by simp)
     have hal1:=(Below.refl wr.heap.size wr).alloc zn2 (.cells #[.string ev,.nilIface,.string tg,.slice s1 ns s3,.int .i64 ol,.int .i64 oc] 90)
     have E0:=(hal1.cell (p:=⟨b',off'+i*6+0,none⟩) (zn4 hbl' hb.size)).trans D0
     have E1:=(hal1.cell (p:=⟨b',off'+i*6+1,none⟩) (zn4 hbl' hb.size)).trans D1
     have E2:=(hal1.cell (p:=⟨b',off'+i*6+2,none⟩) (zn4 hbl' hb.size)).trans D2
     have E3:=(hal1.cell (p:=⟨b',off'+i*6+3,none⟩) (zn4 hbl' hb.size)).trans D3
     have E4:=(hal1.cell (p:=⟨b',off'+i*6+4,none⟩) (zn4 hbl' hb.size)).trans D4
     have E5:=(hal1.cell (p:=⟨b',off'+i*6+5,none⟩) (zn4 hbl' hb.size)).trans D5
     rw [Nat.add_zero] at E0 C0
     have hbx:=hb.trans (hal.mono hb.size)
     have hcall:∀ w1,Below w.heap.size w w1->Calls Tryz.prog 35 #[.agg #[.string ev,.nilIface,.string tg,.slice s1 ns s3,.int .i64 ol,.int .i64 oc],.agg #[.string fv,.iface ku ky,.string th,.slice t1 nt t3,.int .i64 pl,.int .i64 pc]] w1 fun e w'=>e=.returned (.bool R)/\Below w1.heap.size w1 w':=fun w1 b1=>by rw [<- HRR.out];exact zmR ev tg fv th ku ky ol oc pl pc s1 t1 ns s3 nt t3 w1 rfl rfl rfl rfl (fun w2 _=>hsm w2) (fun w2 b2=>HST.out w2 (b1.trans (b2.mono b1.size)))
     go_upto_region 7 with fail
     clear C0 D0 E0 C1 D1 E1 C2 D2 E2 C3 D3 E3 C4 D4 E4 C5 D5 E5 hal1
     generalize ((wr.alloc (.cells #[.string ev,.nilIface,.string tg,.slice s1 ns s3,.int .i64 ol,.int .i64 oc] 90)).alloc (.cells #[.string fv,.iface ku ky,.string th,.slice t1 nt t3,.int .i64 pl,.int .i64 pc] 90))=wx at *
     have x0:=(hX 0 _ rfl).1
     have y0:=(hY 0 _ rfl).1
     have x1:=(hX 1 _ rfl).1
     have y1:=(hY 1 _ rfl).1
     have x2:=(hX 2 _ rfl).1
     have y2:=(hY 2 _ rfl).1
     have x3:=(hX 3 _ rfl).1
     have y3:=(hY 3 _ rfl).1
     have x4:=(hX 4 _ rfl).1
     have y4:=(hY 4 _ rfl).1
     have x5:=(hX 5 _ rfl).1
     have y5:=(hY 5 _ rfl).1
     cases R with
     | false=>
      have hV:V=false:=by rw [<- HI2.out];rfl
      subst hV
      go_wp2_with (first
       | (go_at_call 35;refine (hcall _ hbx).mono ?_;rintro e w1 ⟨rfl,b1⟩)
       | fail)
      go_ret
      exact ⟨rfl,hbx.trans (b1.mono hbx.size)⟩
     | true=>
      go_wp2_with (first
       | (go_at_call 35;refine (hcall _ hbx).mono ?_;rintro e w1 ⟨rfl,b1⟩)
       | fail)
      have hb2:=hbx.trans (b1.mono hbx.size)
      go_wp2
      go_roundw
      case rel=>exact ⟨i+1,hlt,by go_num,HI2,hb2⟩
      case measure=>simp [RowKit.intOf];omega
    ·have hal:Below wr.heap.size wr ((wr.alloc (.cells #[.string ev,.iface gu gy,.string tg,.slice s1 ns s3,.int .i64 ol,.int .i64 oc] 90)).alloc (.cells #[.string fv,.nilIface,.string th,.slice t1 nt t3,.int .i64 pl,.int .i64 pc] 90)):=(zn3.alloc zn2 _).alloc (by simp) _
     have hX:Bn ((wr.alloc (.cells #[.string ev,.iface gu gy,.string tg,.slice s1 ns s3,.int .i64 ol,.int .i64 oc] 90)).alloc (.cells #[.string fv,.nilIface,.string th,.slice t1 nt t3,.int .i64 pl,.int .i64 pc] 90)) wr.heap.size [.string ev,.iface gu gy,.string tg,.slice s1 ns s3,.int .i64 ol,.int .i64 oc]:=(Bn.new wr [.string ev,.iface gu gy,.string tg,.slice s1 ns s3,.int .i64 ol,.int .i64 oc] 90 _ rfl).on (zn3.alloc zn2 _)
     have hY:Bn ((wr.alloc (.cells #[.string ev,.iface gu gy,.string tg,.slice s1 ns s3,.int .i64 ol,.int .i64 oc] 90)).alloc (.cells #[.string fv,.nilIface,.string th,.slice t1 nt t3,.int .i64 pl,.int .i64 pc] 90)) (wr.heap.size+1) [.string fv,.nilIface,.string th,.slice t1 nt t3,.int .i64 pl,.int .i64 pc]:=Bn.new (wr.alloc (.cells #[.string ev,.iface gu gy,.string tg,.slice s1 ns s3,.int .i64 ol,.int .i64 oc] 90)) [.string fv,.nilIface,.string th,.slice t1 nt t3,.int .i64 pl,.int .i64 pc] 90 _ (by simp)
     have hal1:=(Below.refl wr.heap.size wr).alloc zn2 (.cells #[.string ev,.iface gu gy,.string tg,.slice s1 ns s3,.int .i64 ol,.int .i64 oc] 90)
     have E0:=(hal1.cell (p:=⟨b',off'+i*6+0,none⟩) (zn4 hbl' hb.size)).trans D0
     have E1:=(hal1.cell (p:=⟨b',off'+i*6+1,none⟩) (zn4 hbl' hb.size)).trans D1
     have E2:=(hal1.cell (p:=⟨b',off'+i*6+2,none⟩) (zn4 hbl' hb.size)).trans D2
     have E3:=(hal1.cell (p:=⟨b',off'+i*6+3,none⟩) (zn4 hbl' hb.size)).trans D3
     have E4:=(hal1.cell (p:=⟨b',off'+i*6+4,none⟩) (zn4 hbl' hb.size)).trans D4
     have E5:=(hal1.cell (p:=⟨b',off'+i*6+5,none⟩) (zn4 hbl' hb.size)).trans D5
     rw [Nat.add_zero] at E0 C0
     have hbx:=hb.trans (hal.mono hb.size)
     have hcall:∀ w1,Below w.heap.size w w1->Calls Tryz.prog 35 #[.agg #[.string ev,.iface gu gy,.string tg,.slice s1 ns s3,.int .i64 ol,.int .i64 oc],.agg #[.string fv,.nilIface,.string th,.slice t1 nt t3,.int .i64 pl,.int .i64 pc]] w1 fun e w'=>e=.returned (.bool R)/\Below w1.heap.size w1 w':=fun w1 b1=>by rw [<- HRR.out];exact znl ev tg fv th gu gy ol oc pl pc s1 t1 ns s3 nt t3 w1 rfl rfl rfl rfl (fun w2 _=>hsm w2) (fun w2 b2=>HST.out w2 (b1.trans (b2.mono b1.size)))
     go_upto_region 7 with fail
     clear C0 D0 E0 C1 D1 E1 C2 D2 E2 C3 D3 E3 C4 D4 E4 C5 D5 E5 hal1
     generalize ((wr.alloc (.cells #[.string ev,.iface gu gy,.string tg,.slice s1 ns s3,.int .i64 ol,.int .i64 oc] 90)).alloc (.cells #[.string fv,.nilIface,.string th,.slice t1 nt t3,.int .i64 pl,.int .i64 pc] 90))=wx at *
     have x0:=(hX 0 _ rfl).1
     have y0:=(hY 0 _ rfl).1
     have x1:=(hX 1 _ rfl).1
     have y1:=(hY 1 _ rfl).1
     have x2:=(hX 2 _ rfl).1
     have y2:=(hY 2 _ rfl).1
     have x3:=(hX 3 _ rfl).1
     have y3:=(hY 3 _ rfl).1
     have x4:=(hX 4 _ rfl).1
     have y4:=(hY 4 _ rfl).1
     have x5:=(hX 5 _ rfl).1
     have y5:=(hY 5 _ rfl).1
     cases R with
     | false=>
      have hV:V=false:=by rw [<- HI2.out];rfl
      subst hV
      go_wp2_with (first
       | (go_at_call 35;refine (hcall _ hbx).mono ?_;rintro e w1 ⟨rfl,b1⟩)
       | fail)
      go_ret
      exact ⟨rfl,hbx.trans (b1.mono hbx.size)⟩
     | true=>
      go_wp2_with (first
       | (go_at_call 35;refine (hcall _ hbx).mono ?_;rintro e w1 ⟨rfl,b1⟩)
       | fail)
      have hb2:=hbx.trans (b1.mono hbx.size)
      go_wp2
      go_roundw
      case rel=>exact ⟨i+1,hlt,by go_num,HI2,hb2⟩
      case measure=>simp [RowKit.intOf];omega
    ·have hal:Below wr.heap.size wr ((wr.alloc (.cells #[.string ev,.iface gu gy,.string tg,.slice s1 ns s3,.int .i64 ol,.int .i64 oc] 90)).alloc (.cells #[.string fv,.iface ku ky,.string th,.slice t1 nt t3,.int .i64 pl,.int .i64 pc] 90)):=(zn3.alloc zn2 _).alloc (by simp) _
     have hX:Bn ((wr.alloc (.cells #[.string ev,.iface gu gy,.string tg,.slice s1 ns s3,.int .i64 ol,.int .i64 oc] 90)).alloc (.cells #[.string fv,.iface ku ky,.string th,.slice t1 nt t3,.int .i64 pl,.int .i64 pc] 90)) wr.heap.size [.string ev,.iface gu gy,.string tg,.slice s1 ns s3,.int .i64 ol,.int .i64 oc]:=(Bn.new wr [.string ev,.iface gu gy,.string tg,.slice s1 ns s3,.int .i64 ol,.int .i64 oc] 90 _ rfl).on (zn3.alloc zn2 _)
     have hY:Bn ((wr.alloc (.cells #[.string ev,.iface gu gy,.string tg,.slice s1 ns s3,.int .i64 ol,.int .i64 oc] 90)).alloc (.cells #[.string fv,.iface ku ky,.string th,.slice t1 nt t3,.int .i64 pl,.int .i64 pc] 90)) (wr.heap.size+1) [.string fv,.iface ku ky,.string th,.slice t1 nt t3,.int .i64 pl,.int .i64 pc]:=Bn.new (wr.alloc (.cells #[.string ev,.iface gu gy,.string tg,.slice s1 ns s3,.int .i64 ol,.int .i64 oc] 90)) [.string fv,.iface ku ky,.string th,.slice t1 nt t3,.int .i64 pl,.int .i64 pc] 90 _ (by simp)
     have hal1:=(Below.refl wr.heap.size wr).alloc zn2 (.cells #[.string ev,.iface gu gy,.string tg,.slice s1 ns s3,.int .i64 ol,.int .i64 oc] 90)
     have E0:=(hal1.cell (p:=⟨b',off'+i*6+0,none⟩) (zn4 hbl' hb.size)).trans D0
     have E1:=(hal1.cell (p:=⟨b',off'+i*6+1,none⟩) (zn4 hbl' hb.size)).trans D1
     have E2:=(hal1.cell (p:=⟨b',off'+i*6+2,none⟩) (zn4 hbl' hb.size)).trans D2
     have E3:=(hal1.cell (p:=⟨b',off'+i*6+3,none⟩) (zn4 hbl' hb.size)).trans D3
     have E4:=(hal1.cell (p:=⟨b',off'+i*6+4,none⟩) (zn4 hbl' hb.size)).trans D4
     have E5:=(hal1.cell (p:=⟨b',off'+i*6+5,none⟩) (zn4 hbl' hb.size)).trans D5
     rw [Nat.add_zero] at E0 C0
     have hbx:=hb.trans (hal.mono hb.size)
     have hcall:∀ w1,Below w.heap.size w w1->Calls Tryz.prog 35 #[.agg #[.string ev,.iface gu gy,.string tg,.slice s1 ns s3,.int .i64 ol,.int .i64 oc],.agg #[.string fv,.iface ku ky,.string th,.slice t1 nt t3,.int .i64 pl,.int .i64 pc]] w1 fun e w'=>e=.returned (.bool R)/\Below w1.heap.size w1 w':=fun w1 b1=>by rw [<- HRR.out];exact zmI ev tg fv th gu gy ku ky ol oc pl pc s1 t1 ns s3 nt t3 w1 rfl rfl rfl rfl (fun w2 _=>hsm w2) (fun w2 b2=>HST.out w2 (b1.trans (b2.mono b1.size)))
     go_upto_region 7 with fail
     clear C0 D0 E0 C1 D1 E1 C2 D2 E2 C3 D3 E3 C4 D4 E4 C5 D5 E5 hal1
     generalize ((wr.alloc (.cells #[.string ev,.iface gu gy,.string tg,.slice s1 ns s3,.int .i64 ol,.int .i64 oc] 90)).alloc (.cells #[.string fv,.iface ku ky,.string th,.slice t1 nt t3,.int .i64 pl,.int .i64 pc] 90))=wx at *
     have x0:=(hX 0 _ rfl).1
     have y0:=(hY 0 _ rfl).1
     have x1:=(hX 1 _ rfl).1
     have y1:=(hY 1 _ rfl).1
     have x2:=(hX 2 _ rfl).1
     have y2:=(hY 2 _ rfl).1
     have x3:=(hX 3 _ rfl).1
     have y3:=(hY 3 _ rfl).1
     have x4:=(hX 4 _ rfl).1
     have y4:=(hY 4 _ rfl).1
     have x5:=(hX 5 _ rfl).1
     have y5:=(hY 5 _ rfl).1
     cases R with
     | false=>
      have hV:V=false:=by rw [<- HI2.out];rfl
      subst hV
      go_wp2_with (first
       | (go_at_call 35;refine (hcall _ hbx).mono ?_;rintro e w1 ⟨rfl,b1⟩)
       | fail)
      go_ret
      exact ⟨rfl,hbx.trans (b1.mono hbx.size)⟩
     | true=>
      go_wp2_with (first
       | (go_at_call 35;refine (hcall _ hbx).mono ?_;rintro e w1 ⟨rfl,b1⟩)
       | fail)
      have hb2:=hbx.trans (b1.mono hbx.size)
      go_wp2
      go_roundw
      case rel=>exact ⟨i+1,hlt,by go_num,HI2,hb2⟩
      case measure=>simp [RowKit.intOf];omega
   ·have i1:¬ (i:Int) < (n:Int):=by omega
    have hV:V=true:=by
     rw [<- HI.out]
     exact zbO sqO (by rw [HN.out];omega) (by rw [<- HNE.out];omega)
    subst hV
    go_wp2
    go_ret
    exact ⟨rfl,hb⟩
 ·have hV2:V=false:=by rw [<- hV];exact zci sqO l l' hne
  subst hV2
  have hne2:((l.length:Int) == (l'.length:Int))=false:=by rw [beq_eq_false_iff_ne];omega
  have hne3:((l.length:Int) != (l'.length:Int))=true:=by simp only [bne,hne2];rfl
  generalize l.length=n at *
  generalize l'.length=n' at *
  clear HC HC' HK HK' hV h h' hok hok' hne
  go_enter Tryz.func34,Tryz.ntmps34
  go_wp2
  go_ret
  exact ⟨rfl,Below.refl _ _⟩
theorem znY (sn:ByteArray) (sl sc:Int) (sb se:Bool) (sd su:ByteArray) (sw sr:Int) (zn:ByteArray) (zl zc:Int) (zb ze:Bool) (zd zu:ByteArray) (zw zr:Int) (p1 q1:Option Addr) (m p3 mm q3:Nat) (p4:Option Addr) (ni p6:Nat) (q4:Option Addr) (nj q6:Nat) (w:World) {e0 e1 e2 e3 e4 e5 e6 e7 e8 e9:Bool}(he0:(sn.toList == zn.toList)=e0) (he1:(sl == zl)=e1) (he2:(sc == zc)=e2) (he3:(sb == zb)=e3) (he4:(se == ze)=e4) (he5:(sd.toList == zd.toList)=e5) (he6:(su.toList == zu.toList)=e6) (he7:(sw == zw)=e7) (he8:(sr == zr)=e8) (hq:∀ w1,Below w.heap.size w w1->Calls Tryz.prog 34 #[.slice p1 m p3,.slice q1 mm q3,.func (.func 35) #[] #[]] w1 fun e w'=>e=.returned (.bool e9)/\Below w1.heap.size w1 w'):Calls Tryz.prog 18 #[.agg #[.string sn,.int .i64 sl,.int .i64 sc,.bool sb,.bool se,.string sd,.string su,.int .i64 sw,.int .i64 sr,.slice p1 m p3,.slice p4 ni p6],.agg #[.string zn,.int .i64 zl,.int .i64 zc,.bool zb,.bool ze,.string zd,.string zu,.int .i64 zw,.int .i64 zr,.slice q1 mm q3,.slice q4 nj q6]] w fun e w'=>e=.returned (.bool (e0 && ((e1 && e2) && (e3 && (e4 && (e5 && (e6 && (e7 && (e8 && e9)))))))))/\Below w.heap.size w w':=by
 have hal:Below w.heap.size w ((w.alloc (.cells #[.string sn,.int .i64 sl,.int .i64 sc,.bool sb,.bool se,.string sd,.string su,.int .i64 sw,.int .i64 sr,.slice p1 m p3,.slice p4 ni p6] 45)).alloc (.cells #[.string zn,.int .i64 zl,.int .i64 zc,.bool zb,.bool ze,.string zd,.string zu,.int .i64 zw,.int .i64 zr,.slice q1 mm q3,.slice q4 nj q6] 45)):=((Below.refl w.heap.size w).alloc zn2 _).alloc (by simp) _
 have hX:Bn ((w.alloc (.cells #[.string sn,.int .i64 sl,.int .i64 sc,.bool sb,.bool se,.string sd,.string su,.int .i64 sw,.int .i64 sr,.slice p1 m p3,.slice p4 ni p6] 45)).alloc (.cells #[.string zn,.int .i64 zl,.int .i64 zc,.bool zb,.bool ze,.string zd,.string zu,.int .i64 zw,.int .i64 zr,.slice q1 mm q3,.slice q4 nj q6] 45)) w.heap.size [.string sn,.int .i64 sl,.int .i64 sc,.bool sb,.bool se,.string sd,.string su,.int .i64 sw,.int .i64 sr,.slice p1 m p3,.slice p4 ni p6]:=(Bn.new w [.string sn,.int .i64 sl,.int .i64 sc,.bool sb,.bool se,.string sd,.string su,.int .i64 sw,.int .i64 sr,.slice p1 m p3,.slice p4 ni p6] 45 _ rfl).on (zn3.alloc zn2 _)
 have hY:Bn ((w.alloc (.cells #[.string sn,.int .i64 sl,.int .i64 sc,.bool sb,.bool se,.string sd,.string su,.int .i64 sw,.int .i64 sr,.slice p1 m p3,.slice p4 ni p6] 45)).alloc (.cells #[.string zn,.int .i64 zl,.int .i64 zc,.bool zb,.bool ze,.string zd,.string zu,.int .i64 zw,.int .i64 zr,.slice q1 mm q3,.slice q4 nj q6] 45)) (w.heap.size+1) [.string zn,.int .i64 zl,.int .i64 zc,.bool zb,.bool ze,.string zd,.string zu,.int .i64 zw,.int .i64 zr,.slice q1 mm q3,.slice q4 nj q6]:=Bn.new (w.alloc (.cells #[.string sn,.int .i64 sl,.int .i64 sc,.bool sb,.bool se,.string sd,.string su,.int .i64 sw,.int .i64 sr,.slice p1 m p3,.slice p4 ni p6] 45)) [.string zn,.int .i64 zl,.int .i64 zc,.bool zb,.bool ze,.string zd,.string zu,.int .i64 zw,.int .i64 zr,.slice q1 mm q3,.slice q4 nj q6] 45 _ (by simp)
 go_enter Tryz.func18,Tryz.ntmps18
 go_upto_region 1 with fail
 generalize ((w.alloc (.cells #[.string sn,.int .i64 sl,.int .i64 sc,.bool sb,.bool se,.string sd,.string su,.int .i64 sw,.int .i64 sr,.slice p1 m p3,.slice p4 ni p6] 45)).alloc (.cells #[.string zn,.int .i64 zl,.int .i64 zc,.bool zb,.bool ze,.string zd,.string zu,.int .i64 zw,.int .i64 zr,.slice q1 mm q3,.slice q4 nj q6] 45))=wx at *
 have hB:Below wx.heap.size wx wx:=Below.refl _ _
 have x0:=(hX 0 _ rfl).1
 have y0:=(hY 0 _ rfl).1
 have x1:=(hX 1 _ rfl).1
 have y1:=(hY 1 _ rfl).1
 have x2:=(hX 2 _ rfl).1
 have y2:=(hY 2 _ rfl).1
 have x3:=(hX 3 _ rfl).1
 have y3:=(hY 3 _ rfl).1
 have x4:=(hX 4 _ rfl).1
 have y4:=(hY 4 _ rfl).1
 have x5:=(hX 5 _ rfl).1
 have y5:=(hY 5 _ rfl).1
 have x6:=(hX 6 _ rfl).1
 have y6:=(hY 6 _ rfl).1
 have x7:=(hX 7 _ rfl).1
 have y7:=(hY 7 _ rfl).1
 have x8:=(hX 8 _ rfl).1
 have y8:=(hY 8 _ rfl).1
 have x9:=(hX 9 _ rfl).1
 have y9:=(hY 9 _ rfl).1
 have x10:=(hX 10 _ rfl).1
 have y10:=(hY 10 _ rfl).1
 cases e0 with
 | false=>
  go_wp2_with (first
   | (go_at_call 34;refine (hq _ (hal.trans (hB.mono hal.size))).mono ?_;rintro e w1 ⟨rfl,b1⟩;have hB:=Below.nx hB b1;skip)
   | fail)
  go_ret
  exact ⟨by first|rfl|simp,hal.trans (hB.mono hal.size)⟩
 | true=>
  cases e1 with
  | false=>
   go_wp2_with (first
    | (go_at_call 34;refine (hq _ (hal.trans (hB.mono hal.size))).mono ?_;rintro e w1 ⟨rfl,b1⟩;have hB:=Below.nx hB b1;skip)
    | fail)
   go_ret
   exact ⟨by first|rfl|simp,hal.trans (hB.mono hal.size)⟩
  | true=>
   cases e2 with
   | false=>
    go_wp2_with (first
     | (go_at_call 34;refine (hq _ (hal.trans (hB.mono hal.size))).mono ?_;rintro e w1 ⟨rfl,b1⟩;have hB:=Below.nx hB b1;skip)
     | fail)
    go_ret
    exact ⟨by first|rfl|simp,hal.trans (hB.mono hal.size)⟩
   | true=>
    cases e3 with
    | false=>
     go_wp2_with (first
      | (go_at_call 34;refine (hq _ (hal.trans (hB.mono hal.size))).mono ?_;rintro e w1 ⟨rfl,b1⟩;have hB:=Below.nx hB b1;skip)
      | fail)
     go_ret
     exact ⟨by first|rfl|simp,hal.trans (hB.mono hal.size)⟩
    | true=>
     cases e4 with
     | false=>
      go_wp2_with (first
       | (go_at_call 34;refine (hq _ (hal.trans (hB.mono hal.size))).mono ?_;rintro e w1 ⟨rfl,b1⟩;have hB:=Below.nx hB b1;skip)
       | fail)
      go_ret
      exact ⟨by first|rfl|simp,hal.trans (hB.mono hal.size)⟩
     | true=>
      cases e5 with
      | false=>
       go_wp2_with (first
        | (go_at_call 34;refine (hq _ (hal.trans (hB.mono hal.size))).mono ?_;rintro e w1 ⟨rfl,b1⟩;have hB:=Below.nx hB b1;skip)
        | fail)
       go_ret
       exact ⟨by first|rfl|simp,hal.trans (hB.mono hal.size)⟩
      | true=>
       cases e6 with
       | false=>
        go_wp2_with (first
         | (go_at_call 34;refine (hq _ (hal.trans (hB.mono hal.size))).mono ?_;rintro e w1 ⟨rfl,b1⟩;have hB:=Below.nx hB b1;skip)
         | fail)
        go_ret
        exact ⟨by first|rfl|simp,hal.trans (hB.mono hal.size)⟩
       | true=>
        cases e7 with
        | false=>
         go_wp2_with (first
          | (go_at_call 34;refine (hq _ (hal.trans (hB.mono hal.size))).mono ?_;rintro e w1 ⟨rfl,b1⟩;have hB:=Below.nx hB b1;skip)
          | fail)
         go_ret
         exact ⟨by first|rfl|simp,hal.trans (hB.mono hal.size)⟩
        | true=>
         cases e8 with
         | false=>
          go_wp2_with (first
           | (go_at_call 34;refine (hq _ (hal.trans (hB.mono hal.size))).mono ?_;rintro e w1 ⟨rfl,b1⟩;have hB:=Below.nx hB b1;skip)
           | fail)
          go_ret
          exact ⟨by first|rfl|simp,hal.trans (hB.mono hal.size)⟩
         | true=>
          go_wp2_with (first
           | (go_at_call 34;refine (hq _ (hal.trans (hB.mono hal.size))).mono ?_;rintro e w1 ⟨rfl,b1⟩;have hB:=Below.nx hB b1;skip)
           | fail)
          go_ret
          exact ⟨by first|rfl|simp,hal.trans (hB.mono hal.size)⟩
theorem zkb {d d':Nat}{ok ok':Nat->Prop}{w:World}{l:List (St (d+1))}{l':List (St (d'+1))}{v v':Value}(h:RdK ok w 11 (rSt (d+1) ok w) l v) (h':RdK ok' w 11 (rSt (d'+1) ok' w) l' v') (hok:∀ s∈l,(fun s:St (d+1)=>zjY s.1) s) (hok':∀ s∈l',(fun s:St (d'+1)=>zjY s.1) s) :
  Calls Tryz.prog 17 #[v,v',.func (.func 18) #[] #[]] w fun e w'=>e=.returned (.bool (eqL (sqA d d') l l'))/\Below w.heap.size w w':=by
 obtain ⟨a,cap,rfl,hlc,hcm⟩:=h.form
 obtain ⟨a',cap',rfl,hlc',hcm'⟩:=h'.form
 unfold maxLen at hcm hcm'
 have HC:=zm h
 have HC':=zm h'
 have HK:=zm hok
 have HK':=zm hok'
 obtain ⟨V,hV⟩:∃ V,eqL (sqA d d') l l'=V:=⟨_,rfl⟩
 rw [hV]
 by_cases hne:l.length=l'.length
 ·have hV0:Hid (eqL (sqA d d') (l.drop 0) (l'.drop 0)=V):=hV
  rw [<- hne] at hlc' ⊢
  have HNE:=zm hne
  obtain ⟨n,hn⟩:∃ n,l.length=n:=⟨_,rfl⟩
  rw [hn] at hlc hlc' HNE ⊢
  have HN:Hid (l.length=n):=hn
  clear h h' hok hok' hn hV hne
  go_enter Tryz.func17,Tryz.ntmps17
  go_wp2
  go_loopw [17] (fun ix wr=>∃ (i:Nat),i<=n/\ix=.int .i64 (i:Int)/\Hid (eqL (sqA d d') (l.drop i) (l'.drop i)=V)/\Below w.heap.size w wr) (fun ix _=>n - (RowKit.intOf ix).toNat)
  case atStart=>exact ⟨0,Nat.zero_le _,rfl,hV0,Below.refl _ _⟩
  case round=>
   clear hV0
   obtain ⟨i,hi,rfl,HI,hb⟩:=hrel
   by_cases hlt:i < n
   ·have hil:i < l.length:=by rw [HN.out];exact hlt
    have hil':i < l'.length:=by rw [<- HNE.out];exact hlt
    have HI2:Hid (((sqA d d') l[i] l'[i] && eqL (sqA d d') (l.drop (i+1)) (l'.drop (i+1)))=V):=by
     show _=_
     rw [<- zcB (sqA d d') hil hil'];exact HI.out
    clear HI
    obtain ⟨b,off,p1,p3,p4,p6,rfl,hbl,hOn,hIn,hc⟩:=zeu HC.out i hil
    obtain ⟨b',off',q1,q3,q4,q6,rfl,hbl',hOn',hIn',hc'⟩:=zeu HC'.out i hil'
    have hko:=HK.out _ (List.getElem_mem hil)
    have hko':=HK'.out _ (List.getElem_mem hil')
    obtain ⟨t,ht⟩:∃ t,l[i]=t:=⟨_,rfl⟩
    obtain ⟨z,hz⟩:∃ t,l'[i]=t:=⟨_,rfl⟩
    rw [ht] at hOn hIn hc hko HI2
    rw [hz] at hOn' hIn' hc' hko' HI2
    obtain ⟨m,hm⟩:∃ m,t.1.2.2.2.2.length=m:=⟨_,rfl⟩
    obtain ⟨ni,hni⟩:∃ m,t.2.length=m:=⟨_,rfl⟩
    obtain ⟨mm,hmm⟩:∃ m,z.1.2.2.2.2.length=m:=⟨_,rfl⟩
    obtain ⟨nj,hnj⟩:∃ m,z.2.length=m:=⟨_,rfl⟩
    rw [hm] at hOn hc
    rw [hmm] at hOn' hc'
    rw [hni] at hIn hc
    rw [hnj] at hIn' hc'
    obtain ⟨sn,hsn,esn,_⟩:=zal t.1.1.1
    obtain ⟨sd,hsd,esd,_⟩:=zal t.1.2.2.1.1
    obtain ⟨su,hsu,esu,_⟩:=zal t.1.2.2.1.2
    obtain ⟨sl,hsl⟩:∃ x,t.1.1.2.1=x:=⟨_,rfl⟩
    obtain ⟨sc,hsc⟩:∃ x,t.1.1.2.2=x:=⟨_,rfl⟩
    obtain ⟨sb,hsb⟩:∃ x,t.1.2.1.1=x:=⟨_,rfl⟩
    obtain ⟨se,hse⟩:∃ x,t.1.2.1.2=x:=⟨_,rfl⟩
    obtain ⟨sw,hsw⟩:∃ x,t.1.2.2.2.1.1=x:=⟨_,rfl⟩
    obtain ⟨sr,hsr⟩:∃ x,t.1.2.2.2.1.2=x:=⟨_,rfl⟩
    have hvs:hdV t.1=fun so si=>[.string sn,.int .i64 sl,.int .i64 sc,.bool sb,.bool se,.string sd,.string su,.int .i64 sw,.int .i64 sr,so,si]:=by unfold hdV;rw [hsn,hsd,hsu,hsl,hsc,hsb,hse,hsw,hsr]
    obtain ⟨zn,hzn,ezn,_⟩:=zal z.1.1.1
    obtain ⟨zd,hzd,ezd,_⟩:=zal z.1.2.2.1.1
    obtain ⟨zu,hzu,ezu,_⟩:=zal z.1.2.2.1.2
    obtain ⟨zl,hzl⟩:∃ x,z.1.1.2.1=x:=⟨_,rfl⟩
    obtain ⟨zc,hzc⟩:∃ x,z.1.1.2.2=x:=⟨_,rfl⟩
    obtain ⟨zb,hzb⟩:∃ x,z.1.2.1.1=x:=⟨_,rfl⟩
    obtain ⟨ze,hze⟩:∃ x,z.1.2.1.2=x:=⟨_,rfl⟩
    obtain ⟨zw,hzw⟩:∃ x,z.1.2.2.2.1.1=x:=⟨_,rfl⟩
    obtain ⟨zr,hzr⟩:∃ x,z.1.2.2.2.1.2=x:=⟨_,rfl⟩
    have hvz:hdV z.1=fun so si=>[.string zn,.int .i64 zl,.int .i64 zc,.bool zb,.bool ze,.string zd,.string zu,.int .i64 zw,.int .i64 zr,so,si]:=by unfold hdV;rw [hzn,hzd,hzu,hzl,hzc,hzb,hze,hzw,hzr]
    obtain ⟨R,hR⟩:∃ R,sqH t.1 z.1=R:=⟨_,rfl⟩
    obtain ⟨E9,hE9⟩:∃ R,eqL sqO t.1.2.2.2.2 z.1.2.2.2.2=R:=⟨_,rfl⟩
    have hRR:(sn.toList == zn.toList && (((sl == zl) && (sc == zc)) && ((sb == zb) && ((se == ze) && (sd.toList == zd.toList && (su.toList == zu.toList && ((sw == zw) && ((sr == zr) && E9))))))))=R:=by
     rw [zaK,zaK,zaK,esn,ezn,esd,ezd,esu,ezu,<- hsl,<- hzl,<- hsc,<- hzc,<- zer,zgL,zgL,zen,zen,<- hsb,<- hzb,<- hse,<- hze,<- hsw,<- hzw,<- hsr,<- hzr,<- hE9];exact hR
    have HI3:Hid ((R && eqL (sqA d d') (l.drop (i+1)) (l'.drop (i+1)))=V):=by rw [<- hR];exact HI2
    replace HI2:=HI3
    clear HI3
    have hst:=fun w2 (b2:Below w.heap.size w w2)=>zj0 (hOn.stay zB (ok':=ok) (w':=w2) (fun b hb hl=>⟨hb,b2.block b hl⟩)) (hOn'.stay zB (ok':=ok') (w':=w2) (fun b hb hl=>⟨hb,b2.block b hl⟩)) hko.2.2.2.2 hko'.2.2.2.2
    rw [hE9] at hst
    rw [hvs] at hc
    rw [hvz] at hc'
    have HST:=zm hst
    have HRR:=zm hRR
    clear ht hz hm hmm hni hnj hOn hIn hOn' hIn' hko hko' hR hRR hE9 hst hvs hvz hsn hsd hsu hsc hsb hsl hse hsw hsr hzn hzd hzu hzc hzb hzl hze hzw hzr esn ezn esd ezd esu ezu
    have i1:(i:Int) < (n:Int):=by omega
    have i2:(0:Int)<=(i:Int):=by omega
    have C0:=(hb.cell (p:=⟨b,off+i*11+0,none⟩) hbl).trans (hc 0 _ rfl)
    have D0:=(hb.cell (p:=⟨b',off'+i*11+0,none⟩) hbl').trans (hc' 0 _ rfl)
    have C1:=(hb.cell (p:=⟨b,off+i*11+1,none⟩) hbl).trans (hc 1 _ rfl)
    have D1:=(hb.cell (p:=⟨b',off'+i*11+1,none⟩) hbl').trans (hc' 1 _ rfl)
    have C2:=(hb.cell (p:=⟨b,off+i*11+2,none⟩) hbl).trans (hc 2 _ rfl)
    have D2:=(hb.cell (p:=⟨b',off'+i*11+2,none⟩) hbl').trans (hc' 2 _ rfl)
    have C3:=(hb.cell (p:=⟨b,off+i*11+3,none⟩) hbl).trans (hc 3 _ rfl)
    have D3:=(hb.cell (p:=⟨b',off'+i*11+3,none⟩) hbl').trans (hc' 3 _ rfl)
    have C4:=(hb.cell (p:=⟨b,off+i*11+4,none⟩) hbl).trans (hc 4 _ rfl)
    have D4:=(hb.cell (p:=⟨b',off'+i*11+4,none⟩) hbl').trans (hc' 4 _ rfl)
    have C5:=(hb.cell (p:=⟨b,off+i*11+5,none⟩) hbl).trans (hc 5 _ rfl)
    have D5:=(hb.cell (p:=⟨b',off'+i*11+5,none⟩) hbl').trans (hc' 5 _ rfl)
    have C6:=(hb.cell (p:=⟨b,off+i*11+6,none⟩) hbl).trans (hc 6 _ rfl)
    have D6:=(hb.cell (p:=⟨b',off'+i*11+6,none⟩) hbl').trans (hc' 6 _ rfl)
    have C7:=(hb.cell (p:=⟨b,off+i*11+7,none⟩) hbl).trans (hc 7 _ rfl)
    have D7:=(hb.cell (p:=⟨b',off'+i*11+7,none⟩) hbl').trans (hc' 7 _ rfl)
    have C8:=(hb.cell (p:=⟨b,off+i*11+8,none⟩) hbl).trans (hc 8 _ rfl)
    have D8:=(hb.cell (p:=⟨b',off'+i*11+8,none⟩) hbl').trans (hc' 8 _ rfl)
    have C9:=(hb.cell (p:=⟨b,off+i*11+9,none⟩) hbl).trans (hc 9 _ rfl)
    have D9:=(hb.cell (p:=⟨b',off'+i*11+9,none⟩) hbl').trans (hc' 9 _ rfl)
    have C10:=(hb.cell (p:=⟨b,off+i*11+10,none⟩) hbl).trans (hc 10 _ rfl)
    have D10:=(hb.cell (p:=⟨b',off'+i*11+10,none⟩) hbl').trans (hc' 10 _ rfl)
    clear hc hc'
    have hal:Below wr.heap.size wr ((wr.alloc (.cells #[.string sn,.int .i64 sl,.int .i64 sc,.bool sb,.bool se,.string sd,.string su,.int .i64 sw,.int .i64 sr,.slice p1 m p3,.slice p4 ni p6] 45)).alloc (.cells #[.string zn,.int .i64 zl,.int .i64 zc,.bool zb,.bool ze,.string zd,.string zu,.int .i64 zw,.int .i64 zr,.slice q1 mm q3,.slice q4 nj q6] 45)):=(zn3.alloc zn2 _).alloc (by simp) _
    have hX:Bn ((wr.alloc (.cells #[.string sn,.int .i64 sl,.int .i64 sc,.bool sb,.bool se,.string sd,.string su,.int .i64 sw,.int .i64 sr,.slice p1 m p3,.slice p4 ni p6] 45)).alloc (.cells #[.string zn,.int .i64 zl,.int .i64 zc,.bool zb,.bool ze,.string zd,.string zu,.int .i64 zw,.int .i64 zr,.slice q1 mm q3,.slice q4 nj q6] 45)) wr.heap.size [.string sn,.int .i64 sl,.int .i64 sc,.bool sb,.bool se,.string sd,.string su,.int .i64 sw,.int .i64 sr,.slice p1 m p3,.slice p4 ni p6]:=(Bn.new wr [.string sn,.int .i64 sl,.int .i64 sc,.bool sb,.bool se,.string sd,.string su,.int .i64 sw,.int .i64 sr,.slice p1 m p3,.slice p4 ni p6] 45 _ rfl).on (zn3.alloc zn2 _)
    have hY:Bn ((wr.alloc (.cells #[.string sn,.int .i64 sl,.int .i64 sc,.bool sb,.bool se,.string sd,.string su,.int .i64 sw,.int .i64 sr,.slice p1 m p3,.slice p4 ni p6] 45)).alloc (.cells #[.string zn,.int .i64 zl,.int .i64 zc,.bool zb,.bool ze,.string zd,.string zu,.int .i64 zw,.int .i64 zr,.slice q1 mm q3,.slice q4 nj q6] 45)) (wr.heap.size+1) [.string zn,.int .i64 zl,.int .i64 zc,.bool zb,.bool ze,.string zd,.string zu,.int .i64 zw,.int .i64 zr,.slice q1 mm q3,.slice q4 nj q6]:=Bn.new (wr.alloc (.cells #[.string sn,.int .i64 sl,.int .i64 sc,.bool sb,.bool se,.string sd,.string su,.int .i64 sw,.int .i64 sr,.slice p1 m p3,.slice p4 ni p6] 45)) [.string zn,.int .i64 zl,.int .i64 zc,.bool zb,.bool ze,.string zd,.string zu,.int .i64 zw,.int .i64 zr,.slice q1 mm q3,.slice q4 nj q6] 45 _ (by simp)
    have hal1:=(Below.refl wr.heap.size wr).alloc zn2 (.cells #[.string sn,.int .i64 sl,.int .i64 sc,.bool sb,.bool se,.string sd,.string su,.int .i64 sw,.int .i64 sr,.slice p1 m p3,.slice p4 ni p6] 45)
    have E0:=(hal1.cell (p:=⟨b',off'+i*11+0,none⟩) (zn4 hbl' hb.size)).trans D0
    have E1:=(hal1.cell (p:=⟨b',off'+i*11+1,none⟩) (zn4 hbl' hb.size)).trans D1
    have E2:=(hal1.cell (p:=⟨b',off'+i*11+2,none⟩) (zn4 hbl' hb.size)).trans D2
    have E3:=(hal1.cell (p:=⟨b',off'+i*11+3,none⟩) (zn4 hbl' hb.size)).trans D3
    have E4:=(hal1.cell (p:=⟨b',off'+i*11+4,none⟩) (zn4 hbl' hb.size)).trans D4
    have E5:=(hal1.cell (p:=⟨b',off'+i*11+5,none⟩) (zn4 hbl' hb.size)).trans D5
    have E6:=(hal1.cell (p:=⟨b',off'+i*11+6,none⟩) (zn4 hbl' hb.size)).trans D6
    have E7:=(hal1.cell (p:=⟨b',off'+i*11+7,none⟩) (zn4 hbl' hb.size)).trans D7
    have E8:=(hal1.cell (p:=⟨b',off'+i*11+8,none⟩) (zn4 hbl' hb.size)).trans D8
    have E9:=(hal1.cell (p:=⟨b',off'+i*11+9,none⟩) (zn4 hbl' hb.size)).trans D9
    have E10:=(hal1.cell (p:=⟨b',off'+i*11+10,none⟩) (zn4 hbl' hb.size)).trans D10
    rw [Nat.add_zero] at E0 C0
    have hbx:=hb.trans (hal.mono hb.size)
    have hcall:∀ w1,Below w.heap.size w w1->Calls Tryz.prog 18 #[.agg #[.string sn,.int .i64 sl,.int .i64 sc,.bool sb,.bool se,.string sd,.string su,.int .i64 sw,.int .i64 sr,.slice p1 m p3,.slice p4 ni p6],.agg #[.string zn,.int .i64 zl,.int .i64 zc,.bool zb,.bool ze,.string zd,.string zu,.int .i64 zw,.int .i64 zr,.slice q1 mm q3,.slice q4 nj q6]] w1 fun e w'=>e=.returned (.bool R)/\Below w1.heap.size w1 w':=fun w1 b1=>by rw [<- HRR.out];exact znY sn sl sc sb se sd su sw sr zn zl zc zb ze zd zu zw zr p1 q1 m p3 mm q3 p4 ni p6 q4 nj q6 w1 rfl rfl rfl rfl rfl rfl rfl rfl rfl (fun w2 b2=>HST.out w2 (b1.trans (b2.mono b1.size)))
    go_upto_region 7 with fail
    clear C0 D0 E0 C1 D1 E1 C2 D2 E2 C3 D3 E3 C4 D4 E4 C5 D5 E5 C6 D6 E6 C7 D7 E7 C8 D8 E8 C9 D9 E9 C10 D10 E10 hal1
    generalize ((wr.alloc (.cells #[.string sn,.int .i64 sl,.int .i64 sc,.bool sb,.bool se,.string sd,.string su,.int .i64 sw,.int .i64 sr,.slice p1 m p3,.slice p4 ni p6] 45)).alloc (.cells #[.string zn,.int .i64 zl,.int .i64 zc,.bool zb,.bool ze,.string zd,.string zu,.int .i64 zw,.int .i64 zr,.slice q1 mm q3,.slice q4 nj q6] 45))=wx at *
    have x0:=(hX 0 _ rfl).1
    have y0:=(hY 0 _ rfl).1
    have x1:=(hX 1 _ rfl).1
    have y1:=(hY 1 _ rfl).1
    have x2:=(hX 2 _ rfl).1
    have y2:=(hY 2 _ rfl).1
    have x3:=(hX 3 _ rfl).1
    have y3:=(hY 3 _ rfl).1
    have x4:=(hX 4 _ rfl).1
    have y4:=(hY 4 _ rfl).1
    have x5:=(hX 5 _ rfl).1
    have y5:=(hY 5 _ rfl).1
    have x6:=(hX 6 _ rfl).1
    have y6:=(hY 6 _ rfl).1
    have x7:=(hX 7 _ rfl).1
    have y7:=(hY 7 _ rfl).1
    have x8:=(hX 8 _ rfl).1
    have y8:=(hY 8 _ rfl).1
    have x9:=(hX 9 _ rfl).1
    have y9:=(hY 9 _ rfl).1
    have x10:=(hX 10 _ rfl).1
    have y10:=(hY 10 _ rfl).1
    cases R with
    | false=>
     have hV:V=false:=by rw [<- HI2.out];rfl
     subst hV
     go_wp2_with (first
      | (go_at_call 18;refine (hcall _ hbx).mono ?_;rintro e w1 ⟨rfl,b1⟩)
      | fail)
     go_ret
     exact ⟨rfl,hbx.trans (b1.mono hbx.size)⟩
    | true=>
     go_wp2_with (first
      | (go_at_call 18;refine (hcall _ hbx).mono ?_;rintro e w1 ⟨rfl,b1⟩)
      | fail)
     have hb2:=hbx.trans (b1.mono hbx.size)
     go_wp2
     go_roundw
     case rel=>exact ⟨i+1,hlt,by go_num,HI2,hb2⟩
     case measure=>simp [RowKit.intOf];omega
   ·have i1:¬ (i:Int) < (n:Int):=by omega
    have hV:V=true:=by
     rw [<- HI.out]
     exact zbO (sqA d d') (by rw [HN.out];omega) (by rw [<- HNE.out];omega)
    subst hV
    go_wp2
    go_ret
    exact ⟨rfl,hb⟩
 ·have hV2:V=false:=by rw [<- hV];exact zci (sqA d d') l l' hne
  subst hV2
  have hne2:((l.length:Int) == (l'.length:Int))=false:=by rw [beq_eq_false_iff_ne];omega
  have hne3:((l.length:Int) != (l'.length:Int))=true:=by simp only [bne,hne2];rfl
  generalize l.length=n at *
  generalize l'.length=n' at *
  clear HC HC' HK HK' hV h h' hok hok' hne
  go_enter Tryz.func17,Tryz.ntmps17
  go_wp2
  go_ret
  exact ⟨rfl,Below.refl _ _⟩
