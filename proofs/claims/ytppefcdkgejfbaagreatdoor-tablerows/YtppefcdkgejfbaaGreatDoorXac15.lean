import Derived.Test.YtppefcdkgejfbaaGreatDoorXac14
import Derived.Test.YtppefcdkgejfbaaGreatDoorXac05
import Derived.Test.YtppefcdkgejfbaaGreatDoorXac06
import Derived.Deep.LoopGhost
import Derived.Shelf.LaysM
import Derived.Shelf.Strconv.Itoa4
import Derived.Test.YtppefcdkgejfbaaGreatDoorRows
import Derived.Test.YtppefcdkgejfbaaGreatDoorXac04
import Derived.Deep.RegionHeldLaw
import Derived.Lib.AppendIntMem
import Derived.Test.YtppefcdkgejfbaaGreatDoorXac12
import Derived.Test.YtppefcdkgejfbaaGreatDoorXac10
set_option maxRecDepth 100000
set_option maxHeartbeats 32000000
namespace Go.Proofs.YtppefcdkgejfbaaGreatDoor
open Go.RowKit Go.Lib
set_option linter.unusedSimpArgs false
set_option linter.unusedVariables false
attribute [local go_sem ↓] Go.wp_at_zero Go.wp_at_succ
def hoA:(d:Nat)->List (St d)->Bool
 | 0,_=>false
 | d+1,l=>decide (0<=ixF (atB l (fun t:St (d+1)=>t.1.2.1.1 || hoA d t.2)) l.length 0)
def sgHo:SgS->Bool
 | ⟨0,t⟩=>Empty.elim t
 | ⟨e+1,t⟩=>hoA e t.2
def asSg {d:Nat}(l:List (St d)):List (Int × SgS):=l.map (fun t=>((0:Int),(⟨d,t⟩:SgS)))
theorem rdK_sg {ok:Nat->Prop}{w:World}{d:Nat}{l:List (St d)}{v:Value}(h:RdK ok w 11 (rSt d ok w) l v):RdK ok w 11 (rSg ok w) (asSg l) v:=by
 obtain ⟨a,cap,rfl,hc,hm,hcell⟩:=h
 refine ⟨a,cap,by simp [asSg],by simpa [asSg] using hc,hm,fun i hi=>?_⟩
 have hi':i < l.length:=by simpa [asSg] using hi
 obtain ⟨b,off,cs,ha,hok,hb,hl,hr,hcs⟩:=hcell i hi'
 refine ⟨b,off,cs,ha,hok,hb,hl,?_,hcs⟩
 have:(asSg l)[i]=((0:Int),(⟨d,l[i]⟩:SgS)):=by simp [asSg]
 rw [this]
 exact hr
theorem sg_in {ok:Nat->Prop}{w:World}{e:Nat}{t:St (e+1)}{k:Int}{cs:List Value}(h:rSg ok w (k,⟨e+1,t⟩) cs):∃ (sn:ByteArray) (sl sc:Int) (sb se:Bool) (sd su:ByteArray) (sw sr:Int) (p1:Option Addr) (p3:Nat) (p4:Option Addr) (p6:Nat),cs=[.string sn,.int .i64 sl,.int .i64 sc,.bool sb,.bool se,.string sd,.string su,.int .i64 sw,.int .i64 sr,.slice p1 t.1.2.2.2.2.length p3,.slice p4 t.2.length p6]/\Hid (sb=t.1.2.1.1/\se=t.1.2.1.2/\sd=⟨t.1.2.2.1.1.toArray⟩)/\RdK ok w 11 (rSt e ok w) t.2 (.slice p4 t.2.length p6):=by
 obtain ⟨so,si,rfl,h1,h2⟩:=h
 obtain ⟨p1,p3,rfl,_⟩:=h1.form
 obtain ⟨p4,p6,rfl,_⟩:=h2.form
 exact ⟨_,_,_,_,_,_,_,_,_,p1,p3,p4,p6,rfl,⟨rfl,rfl,rfl⟩,h2⟩
def HoC (d:Nat):Prop:=∀ (ok:Nat->Prop) (W:World) (l:List (St d)) (v:Value),RdK ok W 11 (rSt d ok W) l v->FoOk ⟨d,l⟩->Calls Tryz.prog 167 #[v] W fun e w'=>e=.returned (.bool (hoA d l))/\Below W.heap.size W w'
theorem ho1_any {e:Nat}(IH:HoC e) {ok:Nat->Prop}{w W:World}{t:St (e+1)}{k:Int}{cs:List Value}(hr:rSg ok w (k,⟨e+1,t⟩) cs) (hst:StOk (e+1) t) (hw:Below w.heap.size w W) :
  Calls Tryz.prog 173 #[.agg cs.toArray] W fun e' w'=>e'=.returned (.bool (t.1.2.1.1 || hoA e t.2))/\Below W.heap.size W w':=by
 obtain ⟨sn,sl,sc,sb,se,sd,su,sw,sr,p1,p3,p4,p6,rfl,HS,hin⟩:=sg_in hr
 rw [<- HS.out.1]
 have hc:=fun W1 (b:Below W.heap.size W W1)=>IH ok W1 t.2 _ (hin.stay (kp_st e) (fun b' hb hl=>⟨hb,(hw.trans (b.mono hw.size)).block b' hl⟩)) ⟨hst.2.1,hst.2.2⟩
 obtain ⟨no,hno⟩:∃ no,t.1.2.2.2.2.length=no:=⟨_,rfl⟩
 obtain ⟨ni,hni⟩:∃ ni,t.2.length=ni:=⟨_,rfl⟩
 rw [hni] at hc
 rw [hno,hni]
 obtain ⟨B,hB⟩:∃ B,hoA e t.2=B:=⟨_,rfl⟩
 rw [hB] at hc ⊢
 clear hr hin HS hno hni hB hst
 have hal:Below W.heap.size W (W.alloc (.cells #[.string sn,.int .i64 sl,.int .i64 sc,.bool sb,.bool se,.string sd,.string su,.int .i64 sw,.int .i64 sr,.slice p1 no p3,.slice p4 ni p6] 79)):=(Below.refl _ _).alloc Nat.le.refl _
 go_enter Tryz.func173,Tryz.ntmps173
 cases sb with
 | true=>
  go_wp2
  go_ret
  exact ⟨rfl,hal⟩
 | false=>
  go_wp2_with (first|(go_at_call 167;refine (hc _ hal).mono ?_;rintro e w1 ⟨rfl,b1⟩)|fail)
  go_ret
  exact ⟨rfl,hal.trans (b1.mono hal.size)⟩
theorem ho_walk {W:World}{a:Option Addr}{n cap:Nat}{B:Bool}(hc:Calls Tryz.prog 172 #[.slice a n cap,.func (.func 173) #[] #[]] W fun e w'=>e=.returned (.bool B)/\Below W.heap.size W w') :
  Calls Tryz.prog 167 #[.slice a n cap] W fun e w'=>e=.returned (.bool B)/\Below W.heap.size W w':=by
 go_enter Tryz.func167,Tryz.ntmps167
 go_wp2_with (first|(go_at_call 172;refine hc.mono ?_;rintro e w1 ⟨rfl,b1⟩)|fail)
 go_ret
 exact ⟨rfl,b1⟩
theorem ho_zero:HoC 0:=fun ok W l v h hf=>by
 cases l with
 | cons x _=>exact Empty.elim x
 | nil=>
  have hc:=cfS_any (rdK_sg h) (by simp [asSg]) 173 #[] #[] (fun _=>false) (enters_of Tryz.func173 (by kernel_rfl) rfl) (fun i hi=>by simp [asSg] at hi)
  obtain ⟨a,cap,rfl,_⟩:=h.form
  exact ho_walk hc
theorem ho_step (d:Nat) (IH:HoC d):HoC (d+1):=fun ok W l v h hf=>by
 have hc:=cfS_any (rdK_sg h) (by have:=hf.1;simp [asSg] at this ⊢;omega) 173 #[] #[] (atB l (fun t:St (d+1)=>t.1.2.1.1 || hoA d t.2)) (enters_of Tryz.func173 (by kernel_rfl) rfl) (fun i hi cs W' hr hb=>by
  have hi':i < l.length:=by simpa [asSg] using hi
  have e1:(asSg l)[i]=((0:Int),(⟨d+1,l[i]⟩:SgS)):=by simp [asSg]
  rw [e1] at hr
  have:=ho1_any IH hr (hf.2 _ (List.getElem_mem hi')) hb
  rw [atB_of hi']
  exact this)
 have e2:(asSg l).length=l.length:=by simp [asSg]
 rw [e2] at hc
 obtain ⟨a,cap,rfl,_⟩:=h.form
 exact ho_walk hc
theorem ho_all:∀ d,HoC d
 | 0=>ho_zero
 | d+1=>ho_step d (ho_all d)
def miK (x:SgS):Bool:=(decide (sgI x=0) != (stpB (sgD x) || (sgH x).2.1.2)) || ((sgH x).2.1.1 && (decide (sgI x < 2) || sgHo x)) || ((sgH x).2.1.2 && decide (0 < (sgO x).length))
def miV (ni no:Nat) (A sb se ho:Bool):Bool:=(decide (ni=0) != (A || se)) || (sb && (decide (ni < 2) || ho)) || (se && decide (0 < no))
theorem mi_walk {W:World}(sn:ByteArray) (sl sc:Int) (sb se:Bool) (sd su:ByteArray) (sw sr:Int) (p1:Option Addr) (no p3:Nat) (p4:Option Addr) (ni p6:Nat) (A ho:Bool)
  (hs:∀ W1,Below W.heap.size W W1->Calls Tryz.prog 143 #[.agg #[.string sn,.int .i64 sl,.int .i64 sc,.bool sb,.bool se,.string sd,.string su,.int .i64 sw,.int .i64 sr,.slice p1 no p3,.slice p4 ni p6]] W1 fun e w'=>e=.returned (.bool A)/\Below W1.heap.size W1 w') (hh:∀ W1,Below W.heap.size W W1->Calls Tryz.prog 167 #[.slice p4 ni p6] W1 fun e w'=>e=.returned (.bool ho)/\Below W1.heap.size W1 w') :
  Calls Tryz.prog 141 #[.agg #[.string sn,.int .i64 sl,.int .i64 sc,.bool sb,.bool se,.string sd,.string su,.int .i64 sw,.int .i64 sr,.slice p1 no p3,.slice p4 ni p6]] W fun e w'=>e=.returned (.bool (miV ni no A sb se ho))/\Below W.heap.size W w':=by
 have hal:Below W.heap.size W (W.alloc (.cells #[.string sn,.int .i64 sl,.int .i64 sc,.bool sb,.bool se,.string sd,.string su,.int .i64 sw,.int .i64 sr,.slice p1 no p3,.slice p4 ni p6] 79)):=(Below.refl _ _).alloc Nat.le.refl _
 have hX:Bn (W.alloc (.cells #[.string sn,.int .i64 sl,.int .i64 sc,.bool sb,.bool se,.string sd,.string su,.int .i64 sw,.int .i64 sr,.slice p1 no p3,.slice p4 ni p6] 79)) W.heap.size [.string sn,.int .i64 sl,.int .i64 sc,.bool sb,.bool se,.string sd,.string su,.int .i64 sw,.int .i64 sr,.slice p1 no p3,.slice p4 ni p6]:=Bn.new W [.string sn,.int .i64 sl,.int .i64 sc,.bool sb,.bool se,.string sd,.string su,.int .i64 sw,.int .i64 sr,.slice p1 no p3,.slice p4 ni p6] 79 _ rfl
 by_cases hz:ni=0
 ·subst hz
  cases A
  ·skip
   cases se
   ·skip
    ·rw [show miV _ no _ _ _ _=true by simp [miV,Bool.or]]
     go_enter Tryz.func141,Tryz.ntmps141
     go_wp2_with (first
    | (go_at_call 143;refine (hs _ hal).mono ?_;rintro e w1 ⟨rfl,b1⟩;have bw:=hal.trans (b1.mono hal.size);have hX1:=hX.on b1;have y3:=(hX1 3 _ rfl).1;have y4:=(hX1 4 _ rfl).1;have y9:=(hX1 9 _ rfl).1;have y10:=(hX1 10 _ rfl).1)
    | (go_at_call 167;refine (hh _ bw).mono ?_;rintro e w2 ⟨rfl,b2⟩;have bw:=bw.trans (b2.mono bw.size);have hX2:=hX1.on b2;have y4:=(hX2 4 _ rfl).1;have y9:=(hX2 9 _ rfl).1)
    | fail)
     go_ret
     exact ⟨by first|rfl|(simp;omega),bw⟩
   ·skip
    cases sb
    ·skip
     by_cases h0:0 < no
     ·have h0':(no:Int) > 0:=by omega
      ·rw [show miV _ no _ _ _ _=true by simp [miV,h0]]
       go_enter Tryz.func141,Tryz.ntmps141
       go_wp2_with (first
    | (go_at_call 143;refine (hs _ hal).mono ?_;rintro e w1 ⟨rfl,b1⟩;have bw:=hal.trans (b1.mono hal.size);have hX1:=hX.on b1;have y3:=(hX1 3 _ rfl).1;have y4:=(hX1 4 _ rfl).1;have y9:=(hX1 9 _ rfl).1;have y10:=(hX1 10 _ rfl).1)
    | (go_at_call 167;refine (hh _ bw).mono ?_;rintro e w2 ⟨rfl,b2⟩;have bw:=bw.trans (b2.mono bw.size);have hX2:=hX1.on b2;have y4:=(hX2 4 _ rfl).1;have y9:=(hX2 9 _ rfl).1)
    | fail)
       go_ret
       exact ⟨by first|rfl|(simp;omega),bw⟩
     ·have h0':¬ (no:Int) > 0:=by omega
      ·rw [show miV _ no _ _ _ _=false by simp [miV,h0]]
       go_enter Tryz.func141,Tryz.ntmps141
       go_wp2_with (first
    | (go_at_call 143;refine (hs _ hal).mono ?_;rintro e w1 ⟨rfl,b1⟩;have bw:=hal.trans (b1.mono hal.size);have hX1:=hX.on b1;have y3:=(hX1 3 _ rfl).1;have y4:=(hX1 4 _ rfl).1;have y9:=(hX1 9 _ rfl).1;have y10:=(hX1 10 _ rfl).1)
    | (go_at_call 167;refine (hh _ bw).mono ?_;rintro e w2 ⟨rfl,b2⟩;have bw:=bw.trans (b2.mono bw.size);have hX2:=hX1.on b2;have y4:=(hX2 4 _ rfl).1;have y9:=(hX2 9 _ rfl).1)
    | fail)
       go_ret
       exact ⟨by first|rfl|(simp;omega),bw⟩
    ·skip
     ·rw [show miV _ no _ _ _ _=true by simp [miV,Bool.or]]
      go_enter Tryz.func141,Tryz.ntmps141
      go_wp2_with (first
    | (go_at_call 143;refine (hs _ hal).mono ?_;rintro e w1 ⟨rfl,b1⟩;have bw:=hal.trans (b1.mono hal.size);have hX1:=hX.on b1;have y3:=(hX1 3 _ rfl).1;have y4:=(hX1 4 _ rfl).1;have y9:=(hX1 9 _ rfl).1;have y10:=(hX1 10 _ rfl).1)
    | (go_at_call 167;refine (hh _ bw).mono ?_;rintro e w2 ⟨rfl,b2⟩;have bw:=bw.trans (b2.mono bw.size);have hX2:=hX1.on b2;have y4:=(hX2 4 _ rfl).1;have y9:=(hX2 9 _ rfl).1)
    | fail)
      go_ret
      exact ⟨by first|rfl|(simp;omega),bw⟩
  ·skip
   cases se
   ·skip
    cases sb
    ·skip
     ·rw [show miV _ no _ _ _ _=false by simp [miV,Bool.or]]
      go_enter Tryz.func141,Tryz.ntmps141
      go_wp2_with (first
    | (go_at_call 143;refine (hs _ hal).mono ?_;rintro e w1 ⟨rfl,b1⟩;have bw:=hal.trans (b1.mono hal.size);have hX1:=hX.on b1;have y3:=(hX1 3 _ rfl).1;have y4:=(hX1 4 _ rfl).1;have y9:=(hX1 9 _ rfl).1;have y10:=(hX1 10 _ rfl).1)
    | (go_at_call 167;refine (hh _ bw).mono ?_;rintro e w2 ⟨rfl,b2⟩;have bw:=bw.trans (b2.mono bw.size);have hX2:=hX1.on b2;have y4:=(hX2 4 _ rfl).1;have y9:=(hX2 9 _ rfl).1)
    | fail)
      go_ret
      exact ⟨by first|rfl|(simp;omega),bw⟩
    ·skip
     ·rw [show miV _ no _ _ _ _=true by simp [miV,Bool.or]]
      go_enter Tryz.func141,Tryz.ntmps141
      go_wp2_with (first
    | (go_at_call 143;refine (hs _ hal).mono ?_;rintro e w1 ⟨rfl,b1⟩;have bw:=hal.trans (b1.mono hal.size);have hX1:=hX.on b1;have y3:=(hX1 3 _ rfl).1;have y4:=(hX1 4 _ rfl).1;have y9:=(hX1 9 _ rfl).1;have y10:=(hX1 10 _ rfl).1)
    | (go_at_call 167;refine (hh _ bw).mono ?_;rintro e w2 ⟨rfl,b2⟩;have bw:=bw.trans (b2.mono bw.size);have hX2:=hX1.on b2;have y4:=(hX2 4 _ rfl).1;have y9:=(hX2 9 _ rfl).1)
    | fail)
      go_ret
      exact ⟨by first|rfl|(simp;omega),bw⟩
   ·skip
    cases sb
    ·skip
     by_cases h0:0 < no
     ·have h0':(no:Int) > 0:=by omega
      ·rw [show miV _ no _ _ _ _=true by simp [miV,h0]]
       go_enter Tryz.func141,Tryz.ntmps141
       go_wp2_with (first
    | (go_at_call 143;refine (hs _ hal).mono ?_;rintro e w1 ⟨rfl,b1⟩;have bw:=hal.trans (b1.mono hal.size);have hX1:=hX.on b1;have y3:=(hX1 3 _ rfl).1;have y4:=(hX1 4 _ rfl).1;have y9:=(hX1 9 _ rfl).1;have y10:=(hX1 10 _ rfl).1)
    | (go_at_call 167;refine (hh _ bw).mono ?_;rintro e w2 ⟨rfl,b2⟩;have bw:=bw.trans (b2.mono bw.size);have hX2:=hX1.on b2;have y4:=(hX2 4 _ rfl).1;have y9:=(hX2 9 _ rfl).1)
    | fail)
       go_ret
       exact ⟨by first|rfl|(simp;omega),bw⟩
     ·have h0':¬ (no:Int) > 0:=by omega
      ·rw [show miV _ no _ _ _ _=false by simp [miV,h0]]
       go_enter Tryz.func141,Tryz.ntmps141
       go_wp2_with (first
    | (go_at_call 143;refine (hs _ hal).mono ?_;rintro e w1 ⟨rfl,b1⟩;have bw:=hal.trans (b1.mono hal.size);have hX1:=hX.on b1;have y3:=(hX1 3 _ rfl).1;have y4:=(hX1 4 _ rfl).1;have y9:=(hX1 9 _ rfl).1;have y10:=(hX1 10 _ rfl).1)
    | (go_at_call 167;refine (hh _ bw).mono ?_;rintro e w2 ⟨rfl,b2⟩;have bw:=bw.trans (b2.mono bw.size);have hX2:=hX1.on b2;have y4:=(hX2 4 _ rfl).1;have y9:=(hX2 9 _ rfl).1)
    | fail)
       go_ret
       exact ⟨by first|rfl|(simp;omega),bw⟩
    ·skip
     ·rw [show miV _ no _ _ _ _=true by simp [miV,Bool.or]]
      go_enter Tryz.func141,Tryz.ntmps141
      go_wp2_with (first
    | (go_at_call 143;refine (hs _ hal).mono ?_;rintro e w1 ⟨rfl,b1⟩;have bw:=hal.trans (b1.mono hal.size);have hX1:=hX.on b1;have y3:=(hX1 3 _ rfl).1;have y4:=(hX1 4 _ rfl).1;have y9:=(hX1 9 _ rfl).1;have y10:=(hX1 10 _ rfl).1)
    | (go_at_call 167;refine (hh _ bw).mono ?_;rintro e w2 ⟨rfl,b2⟩;have bw:=bw.trans (b2.mono bw.size);have hX2:=hX1.on b2;have y4:=(hX2 4 _ rfl).1;have y9:=(hX2 9 _ rfl).1)
    | fail)
      go_ret
      exact ⟨by first|rfl|(simp;omega),bw⟩
 ·have hz1:((ni:Int) == 0)=false:=by simp;omega
  cases A
  ·skip
   cases se
   ·skip
    cases sb
    ·skip
     ·rw [show miV _ no _ _ _ _=false by simp [miV,hz]]
      go_enter Tryz.func141,Tryz.ntmps141
      go_wp2_with (first
    | (go_at_call 143;refine (hs _ hal).mono ?_;rintro e w1 ⟨rfl,b1⟩;have bw:=hal.trans (b1.mono hal.size);have hX1:=hX.on b1;have y3:=(hX1 3 _ rfl).1;have y4:=(hX1 4 _ rfl).1;have y9:=(hX1 9 _ rfl).1;have y10:=(hX1 10 _ rfl).1)
    | (go_at_call 167;refine (hh _ bw).mono ?_;rintro e w2 ⟨rfl,b2⟩;have bw:=bw.trans (b2.mono bw.size);have hX2:=hX1.on b2;have y4:=(hX2 4 _ rfl).1;have y9:=(hX2 9 _ rfl).1)
    | fail)
      go_ret
      exact ⟨by first|rfl|(simp;omega),bw⟩
    ·skip
     by_cases h2:ni < 2
     ·have h2':(ni:Int) < 2:=by omega
      ·rw [show miV _ no _ _ _ _=true by simp [miV,hz,h2]]
       go_enter Tryz.func141,Tryz.ntmps141
       go_wp2_with (first
    | (go_at_call 143;refine (hs _ hal).mono ?_;rintro e w1 ⟨rfl,b1⟩;have bw:=hal.trans (b1.mono hal.size);have hX1:=hX.on b1;have y3:=(hX1 3 _ rfl).1;have y4:=(hX1 4 _ rfl).1;have y9:=(hX1 9 _ rfl).1;have y10:=(hX1 10 _ rfl).1)
    | (go_at_call 167;refine (hh _ bw).mono ?_;rintro e w2 ⟨rfl,b2⟩;have bw:=bw.trans (b2.mono bw.size);have hX2:=hX1.on b2;have y4:=(hX2 4 _ rfl).1;have y9:=(hX2 9 _ rfl).1)
    | fail)
       go_ret
       exact ⟨by first|rfl|(simp;omega),bw⟩
     ·have h2':¬ (ni:Int) < 2:=by omega
      cases ho
      ·skip
       ·rw [show miV _ no _ _ _ _=false by simp [miV,hz,h2]]
        go_enter Tryz.func141,Tryz.ntmps141
        go_wp2_with (first
    | (go_at_call 143;refine (hs _ hal).mono ?_;rintro e w1 ⟨rfl,b1⟩;have bw:=hal.trans (b1.mono hal.size);have hX1:=hX.on b1;have y3:=(hX1 3 _ rfl).1;have y4:=(hX1 4 _ rfl).1;have y9:=(hX1 9 _ rfl).1;have y10:=(hX1 10 _ rfl).1)
    | (go_at_call 167;refine (hh _ bw).mono ?_;rintro e w2 ⟨rfl,b2⟩;have bw:=bw.trans (b2.mono bw.size);have hX2:=hX1.on b2;have y4:=(hX2 4 _ rfl).1;have y9:=(hX2 9 _ rfl).1)
    | fail)
        go_ret
        exact ⟨by first|rfl|(simp;omega),bw⟩
      ·skip
       ·rw [show miV _ no _ _ _ _=true by simp [miV,hz,h2]]
        go_enter Tryz.func141,Tryz.ntmps141
        go_wp2_with (first
    | (go_at_call 143;refine (hs _ hal).mono ?_;rintro e w1 ⟨rfl,b1⟩;have bw:=hal.trans (b1.mono hal.size);have hX1:=hX.on b1;have y3:=(hX1 3 _ rfl).1;have y4:=(hX1 4 _ rfl).1;have y9:=(hX1 9 _ rfl).1;have y10:=(hX1 10 _ rfl).1)
    | (go_at_call 167;refine (hh _ bw).mono ?_;rintro e w2 ⟨rfl,b2⟩;have bw:=bw.trans (b2.mono bw.size);have hX2:=hX1.on b2;have y4:=(hX2 4 _ rfl).1;have y9:=(hX2 9 _ rfl).1)
    | fail)
        go_ret
        exact ⟨by first|rfl|(simp;omega),bw⟩
   ·skip
    ·rw [show miV _ no _ _ _ _=true by simp [miV,hz]]
     go_enter Tryz.func141,Tryz.ntmps141
     go_wp2_with (first
    | (go_at_call 143;refine (hs _ hal).mono ?_;rintro e w1 ⟨rfl,b1⟩;have bw:=hal.trans (b1.mono hal.size);have hX1:=hX.on b1;have y3:=(hX1 3 _ rfl).1;have y4:=(hX1 4 _ rfl).1;have y9:=(hX1 9 _ rfl).1;have y10:=(hX1 10 _ rfl).1)
    | (go_at_call 167;refine (hh _ bw).mono ?_;rintro e w2 ⟨rfl,b2⟩;have bw:=bw.trans (b2.mono bw.size);have hX2:=hX1.on b2;have y4:=(hX2 4 _ rfl).1;have y9:=(hX2 9 _ rfl).1)
    | fail)
     go_ret
     exact ⟨by first|rfl|(simp;omega),bw⟩
  ·skip
   cases se
   ·skip
    ·rw [show miV _ no _ _ _ _=true by simp [miV,hz]]
     go_enter Tryz.func141,Tryz.ntmps141
     go_wp2_with (first
    | (go_at_call 143;refine (hs _ hal).mono ?_;rintro e w1 ⟨rfl,b1⟩;have bw:=hal.trans (b1.mono hal.size);have hX1:=hX.on b1;have y3:=(hX1 3 _ rfl).1;have y4:=(hX1 4 _ rfl).1;have y9:=(hX1 9 _ rfl).1;have y10:=(hX1 10 _ rfl).1)
    | (go_at_call 167;refine (hh _ bw).mono ?_;rintro e w2 ⟨rfl,b2⟩;have bw:=bw.trans (b2.mono bw.size);have hX2:=hX1.on b2;have y4:=(hX2 4 _ rfl).1;have y9:=(hX2 9 _ rfl).1)
    | fail)
     go_ret
     exact ⟨by first|rfl|(simp;omega),bw⟩
   ·skip
    ·rw [show miV _ no _ _ _ _=true by simp [miV,hz]]
     go_enter Tryz.func141,Tryz.ntmps141
     go_wp2_with (first
    | (go_at_call 143;refine (hs _ hal).mono ?_;rintro e w1 ⟨rfl,b1⟩;have bw:=hal.trans (b1.mono hal.size);have hX1:=hX.on b1;have y3:=(hX1 3 _ rfl).1;have y4:=(hX1 4 _ rfl).1;have y9:=(hX1 9 _ rfl).1;have y10:=(hX1 10 _ rfl).1)
    | (go_at_call 167;refine (hh _ bw).mono ?_;rintro e w2 ⟨rfl,b2⟩;have bw:=bw.trans (b2.mono bw.size);have hX2:=hX1.on b2;have y4:=(hX2 4 _ rfl).1;have y9:=(hX2 9 _ rfl).1)
    | fail)
     go_ret
     exact ⟨by first|rfl|(simp;omega),bw⟩
theorem miK_any {ok:Nat->Prop}{w W:World}{x:Int × SgS}{cs:List Value}(hr:rSg ok w x cs) (hst:StOk x.2.1 x.2.2) (hw:Below w.heap.size w W) :
  Calls Tryz.prog 141 #[.agg cs.toArray] W fun e w'=>e=.returned (.bool (miK x.2))/\Below W.heap.size W w':=by
 obtain ⟨k,e,t⟩:=x
 cases e with
 | zero=>exact Empty.elim t
 | succ e=>
  obtain ⟨sn,sl,sc,sb,se,sd,su,sw,sr,p1,p3,p4,p6,rfl,HS,hin⟩:=sg_in hr
  have h:=mi_walk (W:=W) sn sl sc sb se sd su sw sr p1 t.1.2.2.2.2.length p3 p4 t.2.length p6 (stpB sd) (hoA e t.2) (fun W1 _=>step_any W1 _ _ _ _ _ _ _ _ _ _ _ _ _ _ _) (fun W1 b=>ho_all e ok W1 t.2 _ (hin.stay (kp_st e) (fun b' hb hl=>⟨hb,(hw.trans (b.mono hw.size)).block b' hl⟩)) ⟨hst.2.1,hst.2.2⟩)
  have e1:miK (⟨e+1,t⟩:SgS)=miV t.2.length t.1.2.2.2.2.length (stpB sd) sb se (hoA e t.2):=by
   obtain ⟨h1,h2,h3⟩:=HS.out
   rw [h1,h2,h3]
   rfl
  show Calls _ _ _ _ fun e' w'=>e'=.returned (.bool (miK (⟨e+1,t⟩:SgS)))/\_
  rw [e1]
  exact h
theorem RdS.at' {w:World}{v:Value}{ls:List ByteArray}(h:RdS w v ls):∃ a cap,v=.slice a ls.length cap/\ls.length<=maxLen/\∀ (i:Nat) (hi:i < ls.length),∃ g,a=some ⟨g,0,none⟩/\w.cell? ⟨g,i,none⟩=some (.string ls[i]):=by
 rcases h.form with ⟨rfl,rfl⟩|⟨g,cap,rfl,h1,h2,h3⟩
 ·exact ⟨none,0,rfl,by simp [maxLen],fun i hi=>by simp at hi⟩
 ·exact ⟨_,_,rfl,by omega,fun i hi=>⟨g,rfl,h3 i hi⟩⟩
theorem idx_any {w:World}{v:Value}{ls:List ByteArray}(h:RdS w v ls) :
  Calls Tryz.prog 171 #[v,.func (.func 121) #[] #[]] w fun e w'=>∃ i:Int,e=.returned (.int .i64 i)/\decide (0<=i)=ls.any (fun s=>rsvB (bl s))/\w'=w:=by
 obtain ⟨a,cap,rfl,hm,hc⟩:=h.at'
 clear h
 unfold maxLen at hm
 obtain ⟨n,hn⟩:∃ n,ls.length=n:=⟨_,rfl⟩
 rw [hn] at hm ⊢
 go_enter Tryz.func171,Tryz.ntmps171
 go_wp2
 go_loopg [5,8] n (fun gg _ s8 wr=>∃ kk:Nat,kk<=n/\n - kk<=gg/\s8=.int .i64 (kk:Int)/\Hid (w=wr)/\Hid (∀ (j:Nat) (hj:j < ls.length),j < kk->rsvB (bl ls[j])=false))
 case atStart=>exact ⟨0,Nat.zero_le _,by omega,rfl,rfl,fun j _ hj=>absurd hj (Nat.not_lt_zero _)⟩
 case round=>
  obtain ⟨kk,hkk,hg,rfl,hw,A⟩:=hrel
  obtain rfl:w=wr:=hw
  by_cases hlt:kk < n
  ·have hltz:(kk:Int) < (n:Int):=by omega
   obtain ⟨g,rfl,hcl⟩:=hc kk (by omega)
   have hcall:=pReserved_any ls[kk] w
   obtain ⟨y,hy⟩:∃ y,ls[kk]=y:=⟨_,rfl⟩
   rw [hy] at hcl hcall
   cases hq:rsvB (bl y) with
   | true=>
    rw [hq] at hcall
    go_wp2_with (go_at_call 121;refine hcall.mono ?_;rintro e w' ⟨rfl,rfl⟩)
    go_ret
    refine ⟨_,rfl,?_,rfl⟩
    rw [List.any_eq_true.2 ⟨y,hy ▸ List.getElem_mem _,hq⟩]
    simp
   | false=>
    rw [hq] at hcall
    go_wp2_with (go_at_call 121;refine hcall.mono ?_;rintro e w' ⟨rfl,rfl⟩)
    go_roundg (n - (kk+1))
    case measure=>omega
    case rel=>
     refine ⟨kk+1,by omega,by omega,by go_num,rfl,(show Hid _ from fun j hj hj'=>?_)⟩
     by_cases e:j=kk
     ·subst e;rw [hy];exact hq
     ·exact A j hj (by omega)
  ·have hltz:¬ (kk:Int) < (n:Int):=by omega
   go_wp2
   go_ret
   refine ⟨_,rfl,?_,rfl⟩
   have:ls.any (fun s=>rsvB (bl s))=false:=by
    rw [List.any_eq_false]
    intro x hx
    obtain ⟨j,hj,rfl⟩:=List.mem_iff_getElem.1 hx
    rw [A j hj (by omega)];simp
   rw [this];decide
theorem contains_any {w:World}{v:Value}{ls:List ByteArray}(h:RdS w v ls) :
  Calls Tryz.prog 164 #[v,.func (.func 121) #[] #[]] w fun e w'=>e=.returned (.bool (ls.any (fun s=>rsvB (bl s))))/\w'=w:=by
 have h1:=idx_any h
 obtain ⟨a,cap,rfl,hm,hc⟩:=h.at'
 clear h hc hm
 generalize ls.any (fun s=>rsvB (bl s))=z at h1 ⊢
 go_enter Tryz.func164,Tryz.ntmps164
 go_wp2_with (go_at_call 171;refine h1.mono ?_;rintro e w' ⟨i,rfl,hi,rfl⟩;have hi':Hid (decide (0<=i)=z):=hi;clear hi)
 go_ret
 have hi2:decide (0<=i)=z:=hi'
 simp [<- hi2]
end Go.Proofs.YtppefcdkgejfbaaGreatDoor
namespace Go.Proofs.YtppefcdkgejfbaaGreatDoor
open Go.Shelf
set_option linter.unusedVariables false
def renF:Ren:={ f:=fun x=>match x with|173=>175|246=>178|283=>180|284=>181|285=>182|286=>183|129=>78|317=>184|318=>185|319=>186|320=>187|337=>188|338=>189|n=>n,t:=fun x=>match x with|2=>2|3=>3|9=>9|4=>4|171=>253|0=>0|53=>181|37=>143|5=>5|173=>255|212=>259|51=>179|20=>20|213=>260|46=>147|232=>261|233=>262|n=>n,g:=fun x=>match x with|17=>0|18=>1|19=>2|n=>n }
theorem laysF:LaysM.n173 Tryz.prog renF:=
 {mixed:=by kernel_rfl,f129:=Tryz.func78.trans (congrArg some (by kernel_rfl)),f173:=Tryz.func175.trans (congrArg some (by kernel_rfl)),f246:=Tryz.func178.trans (congrArg some (by kernel_rfl)),f283:=Tryz.func180.trans (congrArg some (by kernel_rfl)),f284:=Tryz.func181.trans (congrArg some (by kernel_rfl)),f285:=Tryz.func182.trans (congrArg some (by kernel_rfl)),f286:=Tryz.func183.trans (congrArg some (by kernel_rfl)),f317:=Tryz.func184.trans (congrArg some (by kernel_rfl)),f318:=Tryz.func185.trans (congrArg some (by kernel_rfl)),f319:=Tryz.func186.trans (congrArg some (by kernel_rfl)),f320:=Tryz.func187.trans (congrArg some (by kernel_rfl)),f337:=Tryz.func188.trans (congrArg some (by kernel_rfl)),f338:=Tryz.func189.trans (congrArg some (by kernel_rfl)),t0:=Tryz.underlying0,a0:=Tryz.isAgg0,z0:=Tryz.sizeOf0,v0:=Tryz.zeroValue0,t2:=Tryz.underlying2,a2:=Tryz.isAgg2,z2:=Tryz.sizeOf2,v2:=Tryz.zeroValue2,t3:=Tryz.underlying3,a3:=Tryz.isAgg3,z3:=Tryz.sizeOf3,v3:=Tryz.zeroValue3,t4:=Tryz.underlying4,a4:=Tryz.isAgg4,z4:=Tryz.sizeOf4,v4:=Tryz.zeroValue4,t5:=Tryz.underlying5,a5:=Tryz.isAgg5,z5:=Tryz.sizeOf5,v5:=Tryz.zeroValue5,t9:=Tryz.underlying9,a9:=Tryz.isAgg9,z9:=Tryz.sizeOf9,v9:=Tryz.zeroValue9,t20:=Tryz.underlying20,a20:=Tryz.isAgg20,z20:=Tryz.sizeOf20,v20:=Tryz.zeroValue20,t37:=Tryz.underlying143,a37:=Tryz.isAgg143,z37:=Tryz.sizeOf143,v37:=Tryz.zeroValue143,t46:=Tryz.underlying147,a46:=Tryz.isAgg147,z46:=Tryz.sizeOf147,v46:=Tryz.zeroValue147,t51:=Tryz.underlying179,a51:=Tryz.isAgg179,z51:=Tryz.sizeOf179,v51:=Tryz.zeroValue179,t53:=Tryz.underlying181,a53:=Tryz.isAgg181,z53:=Tryz.sizeOf181,v53:=Tryz.zeroValue181,t171:=Tryz.underlying253,a171:=Tryz.isAgg253,z171:=Tryz.sizeOf253,v171:=Tryz.zeroValue253,t173:=Tryz.underlying255,a173:=Tryz.isAgg255,z173:=Tryz.sizeOf255,v173:=Tryz.zeroValue255,t212:=Tryz.underlying259,a212:=Tryz.isAgg259,z212:=Tryz.sizeOf259,v212:=Tryz.zeroValue259,t213:=Tryz.underlying260,a213:=Tryz.isAgg260,z213:=Tryz.sizeOf260,t232:=Tryz.underlying261,a232:=Tryz.isAgg261,z232:=Tryz.sizeOf261,v232:=Tryz.zeroValue261,t233:=Tryz.underlying262,a233:=Tryz.isAgg262,z233:=Tryz.sizeOf262,v233:=Tryz.zeroValue262,g17:=by kernel_rfl,g18:=by kernel_rfl,g19:=by kernel_rfl,i0:=by kernel_rfl,i2:=by kernel_rfl,i3:=by kernel_rfl,i4:=by kernel_rfl,i5:=by kernel_rfl,i9:=by kernel_rfl,i20:=by kernel_rfl,i37:=by kernel_rfl,i46:=by kernel_rfl,i51:=by kernel_rfl,i53:=by kernel_rfl,i171:=by kernel_rfl,i173:=by kernel_rfl,i212:=by kernel_rfl,i232:=by kernel_rfl,i233:=by kernel_rfl,m17:=by kernel_rfl,m18:=by kernel_rfl,m19:=by kernel_rfl }
end Go.Proofs.YtppefcdkgejfbaaGreatDoor
namespace Go.Proofs.YtppefcdkgejfbaaGreatDoor
open Go.RowKit Go.Lib
set_option linter.unusedSimpArgs false
set_option linter.unusedVariables false
attribute [local go_sem ↓] Go.wp_at_zero Go.wp_at_succ
attribute [local go_sem] as_lit_lit as_ref_lit as_ref_ref as_not_lit as_not_ref as_not_not as_neg_lit as_neg_ref as_neg_not as_neg_neg as_bin_lit as_bin_ref as_bin_not as_bin_neg as_bin_bin
def Pow (w:World):Prop:=Lib.TabIs Tryz.prog w "internal/strconv.uint64pow10" .u64 Lib.pow10Tab
theorem Pow.below {w w':World}(h:Pow w) (hb:Below w.heap.size w w'):Pow w':=tabBelow_of_tabIs h w' hb
theorem fmt_any {n:Int}(h0:0<=n) (h1:n<=1000000000) (w:World) (hp:Pow w) :
  Calls Tryz.prog 175 #[.int .i64 n,.int .i64 10] w fun e w'=>e=.returned (.string ⟨(dcN n).toArray⟩)/\Below w.heap.size w w':=by
 refine (Go.Proofs.Any.strconv_FormatInt_10 laysF n (by omega) (by omega) w hp).mono ?_
 rintro e w' ⟨rfl,k,os,rfl⟩
 refine ⟨?_,below_grow _ w Nat.le.refl k os⟩
 unfold Lib.itoa dcN
 rw [if_neg (by omega)]
theorem sd_iface:∀ {d:Nat}{t:T d},Cl d t->sdC d t=true->∃ u y,exV d t=.iface u y
 | 0,t,_,_=>Empty.elim t
 | d+1,t,hc,h=>by
  rcases exV_form (d+1) t with h1|h1
  ·rcases hc.cases with ⟨n,rfl⟩|⟨s,rfl⟩|⟨k,p,hk,rfl,hp⟩|⟨s,p,q,rfl,hp,hq⟩|rfl
   ·exact ⟨_,_,rfl⟩
   ·exact ⟨_,_,rfl⟩
   ·rcases hk with rfl|rfl<;>exact ⟨_,_,rfl⟩
   ·exact ⟨_,_,rfl⟩
   ·exact absurd h (by simp [none0,sdC_mk])
  ·exact h1
def aroX (d:Nat) (t:T d) (m:Nat):List UInt8:=txP (aroP (pcs dcN d t) m)
theorem cell3_at (w:World) (a b c:Value) (t:TypeId) (n:Nat) (hn:n=w.heap.size):(w.alloc (.cells #[a,b,c] t)).cell? ⟨n,0,none⟩=some a/\(w.alloc (.cells #[a,b,c] t)).cell? ⟨n,1,none⟩=some b/\(w.alloc (.cells #[a,b,c] t)).cell? ⟨n,2,none⟩=some c:=by subst hn;simp
theorem txt_bin {d:Nat}(s:ByteArray) (p q:T d):txtC (d+1) (mkT 5 0 s [p,q])=aroX d p (if lv (bl s)=3 then 4 else lv (bl s))++32 :: (bl s++32 :: aroX d q (lv (bl s)+1)):=by
 show txP (pcF dcN 5 0 s [pcs dcN d p,pcs dcN d q]).2=_
 show txP (aroP (pcs dcN d p) (if lv (bl s)=3 then 4 else lv (bl s))++none :: some (3,bl s) :: none :: aroP (pcs dcN d q) (lv (bl s)+1))=_
 rw [txP_app,txP_cons,txP_cons,txP_cons]
 rfl
theorem add_ok (a b c:ByteArray) (h:(bl a).length+(bl b).length<=2000000) (hc:bl c=bl a++bl b) (W:World):(Op.stringOp .add a b).run Tryz.prog W=.ok (.string c) W:=by
 have h1:a.size+b.size<=2000000:=h
 have e:a++b=c:=by
  have e1:(a++b).data=c.data:=by
   rw [ByteArray.data_append]
   apply Array.toList_inj.1
   rw [Array.toList_append];exact hc.symm
  cases c;cases h2:a++b;rw [h2] at e1;exact congrArg ByteArray.mk e1
 have h2:¬ (((a.size+b.size:Nat):Int) > IntKind.i64.max):=by
  have:IntKind.i64.max=9223372036854775807:=by decide
  rw [this];omega
 unfold Op.stringOp
 simp only [if_neg h2,e]
 rfl
def OpC (d:Nat):Prop:=∀ (t:T d) (m:Nat) (w:World),Cl d t->sdC d t=true->m<=6->(aroX d t m).length<=1000000->Pow w->Calls Tryz.prog 176 #[exV d t,.int .i64 (m:Int)] w fun e w'=>e=.returned (.string ⟨(aroX d t m).toArray⟩)/\Below w.heap.size w w'
def BtC (d:Nat):Prop:=∀ (s:ByteArray) (p q:T d) (w:World),Cl d p->Cl d q->sdC d p=true->sdC d q=true->(txtC (d+1) (mkT 5 0 s [p,q])).length<=1000000->Pow w->Calls Tryz.prog 177 #[.agg #[.string s,exV d p,exV d q]] w fun e w'=>e=.returned (.string ⟨(txtC (d+1) (mkT 5 0 s [p,q])).toArray⟩)/\Below w.heap.size w w'
def TxC (d:Nat):Prop:=∀ (t:T d) (w:World),Cl d t->sdC d t=true->(txtC d t).length<=1000000->Pow w->Calls Tryz.prog 174 #[exV d t] w fun e w'=>e=.returned (.string ⟨(txtC d t).toArray⟩)/\Below w.heap.size w w'
theorem bin_step (d:Nat) (IH:OpC d):BtC d:=by
 intro s p q w hp hq sp sq hln hw
 have hlv:=fun w1=>pLevel_any s w1
 have hI:=fun m w1 hm hl hw1=>IH p m w1 hp sp hm hl hw1
 have hJ:=fun m w1 hm hl hw1=>IH q m w1 hq sq hm hl hw1
 obtain ⟨pu,py,hpe⟩:=sd_iface hp sp
 obtain ⟨qu,qy,hqe⟩:=sd_iface hq sq
 rw [hpe,hqe]
 simp only [hpe] at hI
 simp only [hqe] at hJ
 clear hpe hqe
 have hl5:lv (bl s)<=5:=lv_le _
 obtain ⟨k,hk⟩:∃ k,lv (bl s)=k:=⟨_,rfl⟩
 rw [hk] at hl5
 simp only [hk] at hlv
 have hT:txtC (d+1) (mkT 5 0 s [p,q])=aroX d p (if k=3 then 4 else k)++32 :: (bl s++32 :: aroX d q (k+1)):=by
  rw [<- hk];exact txt_bin s p q
 obtain ⟨TX,hTX⟩:∃ TX,txtC (d+1) (mkT 5 0 s [p,q])=TX:=⟨_,rfl⟩
 rw [hTX] at hT hln ⊢
 clear hTX
 by_cases h3:k=3
 ·subst h3
  have hIm:=fun w1 h1 h=>hI 4 w1 (by omega) h1 h
  have hJm:=fun w1 h1 h=>hJ 4 w1 (by omega) h1 h
  rw [if_pos rfl] at hT
  simp only [show ((4:Nat):Int)=4 from rfl] at hIm hJm
  generalize aroX d p 4=A at hT hIm
  generalize aroX d q 4=B at hT hJm
  clear hI hJ
  have hlA:A.length<=1000000:=by have:=congrArg List.length hT;simp only [List.length_append,List.length_cons] at this;omega
  have hlB:B.length<=1000000:=by have:=congrArg List.length hT;simp only [List.length_append,List.length_cons] at this;omega
  replace hIm:=fun w1 h=>hIm w1 hlA h
  replace hJm:=fun w1 h=>hJm w1 hlB h
  clear hlA hlB
  have hA:A.length+B.length+(bl s).length+2<=1000000:=by
   have:=congrArg List.length hT
   simp only [List.length_append,List.length_cons] at this
   omega
  obtain ⟨bA,hbA⟩:∃ bA:ByteArray,⟨A.toArray⟩=bA:=⟨_,rfl⟩
  obtain ⟨bB,hbB⟩:∃ bB:ByteArray,⟨B.toArray⟩=bB:=⟨_,rfl⟩
  have hAe:bl bA=A:=by rw [<- hbA]
  have hBe:bl bB=B:=by rw [<- hbB]
  have a1:=add_ok bA ⟨#[32]⟩ ⟨(A++[32]).toArray⟩ (by rw [hAe];show A.length+1<=_;omega) (by rw [hAe])
  have a2:=add_ok ⟨(A++[32]).toArray⟩ s ⟨(A++[32]++bl s).toArray⟩ (by show (A++[32]).length+_<=_;simp only [List.length_append,List.length_cons,List.length_nil];omega) rfl
  have a3:=add_ok ⟨(A++[32]++bl s).toArray⟩ ⟨#[32]⟩ ⟨(A++[32]++bl s++[32]).toArray⟩ (by show (A++[32]++bl s).length+1<=_;simp only [List.length_append,List.length_cons,List.length_nil];omega) rfl
  have a4:=add_ok ⟨(A++[32]++bl s++[32]).toArray⟩ bB ⟨TX.toArray⟩ (by rw [hBe];show (A++[32]++bl s++[32]).length+_<=_;simp only [List.length_append,List.length_cons,List.length_nil];omega) (by rw [hBe];show TX=A++[32]++bl s++[32]++B;rw [hT];simp)
  rw [hbA] at hIm
  rw [hbB] at hJm
  clear hT hA hAe hBe hbA hbB hln
  generalize (⟨(A++[32]).toArray⟩:ByteArray)=x1 at *
  generalize (⟨(A++[32]++bl s).toArray⟩:ByteArray)=x2 at *
  generalize (⟨(A++[32]++bl s++[32]).toArray⟩:ByteArray)=x3 at *
  generalize (⟨TX.toArray⟩:ByteArray)=x4 at *
  rw [show (4:Int)=IntKind.i64.wrap 4 from by decide] at hJm
  go_enter Tryz.func177,Tryz.ntmps177
  go_wp2_with (first|(go_at_call 179;refine (hlv _).mono ?_;rintro e w2 ⟨rfl,rfl⟩))
  have hc:=cell3_at w (.string s) (.iface pu py) (.iface qu qy) 138 w.heap.size rfl
  have b1:=(Below.refl w.heap.size w).alloc Nat.le.refl (.cells #[.string s,.iface pu py,.iface qu qy] 138)
  have hw1:=hw.below b1
  clear hlv
  generalize w.alloc (.cells #[.string s,.iface pu py,.iface qu qy] 138)=w1 at *
  obtain ⟨c1,c2,c3⟩:=hc
  have bd:Below w1.heap.size w1 w1.drew:=(Below.refl _ _).drew
  have b1:=bthen b1 bd
  have s1:=hIm w1.drew (hw1.below bd)
  go_region_held_law (fun w'=>w'.cell? ⟨w.heap.size,0,none⟩=some (.string s)/\w'.cell? ⟨w.heap.size,1,none⟩=some (.iface pu py)/\w'.cell? ⟨w.heap.size,2,none⟩=some (.iface qu qy))
   (first|(with_reducible exact ⟨c1,c2,c3⟩)|(with_reducible exact ⟨d1,d2,d3⟩)|(with_reducible exact ⟨e1,e2,e3⟩)|go_keep)
   ((first
    | (go_at_call 176;(with_reducible refine s1.mono ?_);rintro e w3 ⟨rfl,b3⟩;have d1:=(b3.cell (p:=⟨w.heap.size,0,none⟩) (World.block_lt_of_cell? w1 _ c1)).trans c1;have d2:=(b3.cell (p:=⟨w.heap.size,1,none⟩) (World.block_lt_of_cell? w1 _ c2)).trans c2;have d3:=(b3.cell (p:=⟨w.heap.size,2,none⟩) (World.block_lt_of_cell? w1 _ c3)).trans c3;have b4:=bthen b1 b3;have s2:=hJm w3 ((hw1.below bd).below b3);clear s1)
    | (go_at_call 176;(with_reducible refine s2.mono ?_);rintro e w4 ⟨rfl,b5⟩;have e1:=(b5.cell (p:=⟨w.heap.size,0,none⟩) (World.block_lt_of_cell? _ _ d1)).trans d1;have e2:=(b5.cell (p:=⟨w.heap.size,1,none⟩) (World.block_lt_of_cell? _ _ d2)).trans d2;have e3:=(b5.cell (p:=⟨w.heap.size,2,none⟩) (World.block_lt_of_cell? _ _ d3)).trans d3;have b6:=bthen b4 b5;clear s2)))
  go_wp2
  go_ret
  exact ⟨rfl,b6⟩
 ·have hIm:=fun w1 h1 h=>hI k w1 (by omega) h1 h
  have hJm:=fun w1 h1 h=>hJ (k+1) w1 (by omega) h1 h
  rw [if_neg h3] at hT
  simp only [Int.natCast_add,show ((1:Nat):Int)=1 from rfl] at hJm
  generalize aroX d p k=A at hT hIm
  generalize aroX d q (k+1)=B at hT hJm
  have h3':(k:Int)≠3:=by omega
  clear hI hJ
  have hlA:A.length<=1000000:=by have:=congrArg List.length hT;simp only [List.length_append,List.length_cons] at this;omega
  have hlB:B.length<=1000000:=by have:=congrArg List.length hT;simp only [List.length_append,List.length_cons] at this;omega
  replace hIm:=fun w1 h=>hIm w1 hlA h
  replace hJm:=fun w1 h=>hJm w1 hlB h
  clear hlA hlB
  have hA:A.length+B.length+(bl s).length+2<=1000000:=by
   have:=congrArg List.length hT
   simp only [List.length_append,List.length_cons] at this
   omega
  obtain ⟨bA,hbA⟩:∃ bA:ByteArray,⟨A.toArray⟩=bA:=⟨_,rfl⟩
  obtain ⟨bB,hbB⟩:∃ bB:ByteArray,⟨B.toArray⟩=bB:=⟨_,rfl⟩
  have hAe:bl bA=A:=by rw [<- hbA]
  have hBe:bl bB=B:=by rw [<- hbB]
  have a1:=add_ok bA ⟨#[32]⟩ ⟨(A++[32]).toArray⟩ (by rw [hAe];show A.length+1<=_;omega) (by rw [hAe])
  have a2:=add_ok ⟨(A++[32]).toArray⟩ s ⟨(A++[32]++bl s).toArray⟩ (by show (A++[32]).length+_<=_;simp only [List.length_append,List.length_cons,List.length_nil];omega) rfl
  have a3:=add_ok ⟨(A++[32]++bl s).toArray⟩ ⟨#[32]⟩ ⟨(A++[32]++bl s++[32]).toArray⟩ (by show (A++[32]++bl s).length+1<=_;simp only [List.length_append,List.length_cons,List.length_nil];omega) rfl
  have a4:=add_ok ⟨(A++[32]++bl s++[32]).toArray⟩ bB ⟨TX.toArray⟩ (by rw [hBe];show (A++[32]++bl s++[32]).length+_<=_;simp only [List.length_append,List.length_cons,List.length_nil];omega) (by rw [hBe];show TX=A++[32]++bl s++[32]++B;rw [hT];simp)
  rw [hbA] at hIm
  rw [hbB] at hJm
  clear hT hA hAe hBe hbA hbB hln
  generalize (⟨(A++[32]).toArray⟩:ByteArray)=x1 at *
  generalize (⟨(A++[32]++bl s).toArray⟩:ByteArray)=x2 at *
  generalize (⟨(A++[32]++bl s++[32]).toArray⟩:ByteArray)=x3 at *
  generalize (⟨TX.toArray⟩:ByteArray)=x4 at *
  rw [show ((k:Int)+1)=IntKind.i64.wrap ((k:Int)+1) from (wrap_small _ (by omega) (by omega)).symm] at hJm
  go_enter Tryz.func177,Tryz.ntmps177
  go_wp2_with (first|(go_at_call 179;refine (hlv _).mono ?_;rintro e w2 ⟨rfl,rfl⟩))
  have hc:=cell3_at w (.string s) (.iface pu py) (.iface qu qy) 138 w.heap.size rfl
  have b1:=(Below.refl w.heap.size w).alloc Nat.le.refl (.cells #[.string s,.iface pu py,.iface qu qy] 138)
  have hw1:=hw.below b1
  clear hlv
  generalize w.alloc (.cells #[.string s,.iface pu py,.iface qu qy] 138)=w1 at *
  obtain ⟨c1,c2,c3⟩:=hc
  have bd:Below w1.heap.size w1 w1.drew:=(Below.refl _ _).drew
  have b1:=bthen b1 bd
  have s1:=hIm w1.drew (hw1.below bd)
  go_region_held_law (fun w'=>w'.cell? ⟨w.heap.size,0,none⟩=some (.string s)/\w'.cell? ⟨w.heap.size,1,none⟩=some (.iface pu py)/\w'.cell? ⟨w.heap.size,2,none⟩=some (.iface qu qy))
   (first|(with_reducible exact ⟨c1,c2,c3⟩)|(with_reducible exact ⟨d1,d2,d3⟩)|(with_reducible exact ⟨e1,e2,e3⟩)|go_keep)
   ((first
    | (go_at_call 176;(with_reducible refine s1.mono ?_);rintro e w3 ⟨rfl,b3⟩;have d1:=(b3.cell (p:=⟨w.heap.size,0,none⟩) (World.block_lt_of_cell? w1 _ c1)).trans c1;have d2:=(b3.cell (p:=⟨w.heap.size,1,none⟩) (World.block_lt_of_cell? w1 _ c2)).trans c2;have d3:=(b3.cell (p:=⟨w.heap.size,2,none⟩) (World.block_lt_of_cell? w1 _ c3)).trans c3;have b4:=bthen b1 b3;have s2:=hJm w3 ((hw1.below bd).below b3);clear s1)
    | (go_at_call 176;(with_reducible refine s2.mono ?_);rintro e w4 ⟨rfl,b5⟩;have e1:=(b5.cell (p:=⟨w.heap.size,0,none⟩) (World.block_lt_of_cell? _ _ d1)).trans d1;have e2:=(b5.cell (p:=⟨w.heap.size,1,none⟩) (World.block_lt_of_cell? _ _ d2)).trans d2;have e3:=(b5.cell (p:=⟨w.heap.size,2,none⟩) (World.block_lt_of_cell? _ _ d3)).trans d3;have b6:=bthen b4 b5;clear s2)))
  go_wp2
  go_ret
  exact ⟨rfl,b6⟩
theorem aro_same {d:Nat}{k n:Int}{s:ByteArray}{ps:List (T d)}{m:Nat}(hk:k≠5) (hm:m<=6):aroX (d+1) (mkT k n s ps) m=txtC (d+1) (mkT k n s ps):=by
 unfold aroX aroP txtC
 rw [if_neg]
 show ¬ (if k=5 then lv s.data.toList else 6) < m
 rw [if_neg hk];omega
theorem aro_bin {d:Nat}{s:ByteArray}{p q:T d}{m:Nat}:aroX (d+1) (mkT 5 0 s [p,q]) m=if lv (bl s) < m then 40 :: (txtC (d+1) (mkT 5 0 s [p,q])++[41]) else txtC (d+1) (mkT 5 0 s [p,q]):=by
 have e:(pcs dcN (d+1) (mkT 5 0 s [p,q])).1=lv (bl s):=rfl
 unfold aroX aroP txtC
 rw [e]
 split
 ·rw [txP_cons,txP_app];rfl
 ·rfl
theorem ba_app (a b:List UInt8):(⟨a.toArray⟩:ByteArray)++⟨b.toArray⟩=⟨(a++b).toArray⟩:=by
 have e1:((⟨a.toArray⟩:ByteArray)++⟨b.toArray⟩).data=(a++b).toArray:=by
  rw [ByteArray.data_append]
  apply Array.toList_inj.1
  rw [Array.toList_append]
 cases h2:(⟨a.toArray⟩:ByteArray)++⟨b.toArray⟩
 rw [h2] at e1
 exact congrArg ByteArray.mk e1
theorem ba_one (x:UInt8) (X:List UInt8):(⟨#[x]⟩++⟨X.toArray⟩:ByteArray)=⟨(x :: X).toArray⟩:=ba_app [x] X
theorem ba_par (X:List UInt8):(⟨#[40]⟩++⟨X.toArray⟩++⟨#[41]⟩:ByteArray)=⟨(40 :: (X++[41])).toArray⟩:=
 (congrArg (fun b:ByteArray=>b++⟨#[41]⟩) (ba_one 40 X)).trans (ba_app (40 :: X) [41])
theorem as_lit_bin (w:World) (n:Value):(Instr.typeAssert (.iface 67 (.agg #[n])) 85 138 true).run Tryz.prog w=.ok (.tuple #[.agg #[.string ⟨#[]⟩,.nilIface,.nilIface],.bool false]) w:=by kernel_rfl
theorem as_ref_bin (w:World) (n:Value):(Instr.typeAssert (.iface 133 (.agg #[n])) 85 138 true).run Tryz.prog w=.ok (.tuple #[.agg #[.string ⟨#[]⟩,.nilIface,.nilIface],.bool false]) w:=by kernel_rfl
theorem as_not_bin (w:World) (n:Value):(Instr.typeAssert (.iface 135 (.agg #[n])) 85 138 true).run Tryz.prog w=.ok (.tuple #[.agg #[.string ⟨#[]⟩,.nilIface,.nilIface],.bool false]) w:=by kernel_rfl
theorem as_neg_bin (w:World) (n:Value):(Instr.typeAssert (.iface 136 (.agg #[n])) 85 138 true).run Tryz.prog w=.ok (.tuple #[.agg #[.string ⟨#[]⟩,.nilIface,.nilIface],.bool false]) w:=by kernel_rfl
attribute [local go_sem] as_lit_bin as_ref_bin as_not_bin as_neg_bin
theorem op_step (d:Nat) (HB:BtC d) (HX:TxC (d+1)):OpC (d+1):=by
 intro t m w hc hs hm hl hw
 have hX:=fun w1 hl1 hw1=>HX t w1 hc hs hl1 hw1
 have bz:=(Below.refl w.heap.size w).alloc Nat.le.refl (.cells #[.string ⟨#[]⟩,.nilIface,.nilIface] 138)
 have hwz:=hw.below bz
 rcases hc.cases with ⟨n,rfl⟩|⟨s,rfl⟩|⟨k,p,hk,rfl,hp⟩|⟨s,p,q,rfl,hp,hq⟩|rfl
 ·have e:exV (d+1) (mkT 1 n ⟨#[]⟩ []:T (d+1))=.iface 67 (.agg #[.int .i64 n]):=rfl
  rw [aro_same (by decide) hm] at hl ⊢
  replace hX:=fun w1 hw1=>hX w1 hl hw1
  rw [e] at hX ⊢
  generalize txtC (d+1) (mkT 1 n ⟨#[]⟩ []:T (d+1))=X at *
  clear e hs hc
  go_enter Tryz.func176,Tryz.ntmps176
  go_wp2_with (first|(go_at_call 174;refine (hX _ hwz).mono ?_;rintro e w2 ⟨rfl,b2⟩))
  go_ret
  exact ⟨rfl,bthen bz b2⟩
 ·have e:exV (d+1) (mkT 2 0 s []:T (d+1))=.iface 133 (.agg #[.string s]):=rfl
  rw [aro_same (by decide) hm] at hl ⊢
  replace hX:=fun w1 hw1=>hX w1 hl hw1
  rw [e] at hX ⊢
  generalize txtC (d+1) (mkT 2 0 s []:T (d+1))=X at *
  clear e hs hc
  go_enter Tryz.func176,Tryz.ntmps176
  go_wp2_with (first|(go_at_call 174;refine (hX _ hwz).mono ?_;rintro e w2 ⟨rfl,b2⟩))
  go_ret
  exact ⟨rfl,bthen bz b2⟩
 ·rcases hk with rfl|rfl
  ·have e:exV (d+1) (mkT 3 0 ⟨#[]⟩ [p]:T (d+1))=.iface 135 (.agg #[exV d p]):=rfl
   rw [aro_same (by decide) hm] at hl ⊢
   replace hX:=fun w1 hw1=>hX w1 hl hw1
   rw [e] at hX ⊢
   generalize txtC (d+1) (mkT 3 0 ⟨#[]⟩ [p]:T (d+1))=X at *
   generalize exV d p=pv at *
   clear e hs hc
   go_enter Tryz.func176,Tryz.ntmps176
   go_wp2_with (first|(go_at_call 174;refine (hX _ hwz).mono ?_;rintro e w2 ⟨rfl,b2⟩))
   go_ret
   exact ⟨rfl,bthen bz b2⟩
  ·have e:exV (d+1) (mkT 4 0 ⟨#[]⟩ [p]:T (d+1))=.iface 136 (.agg #[exV d p]):=rfl
   rw [aro_same (by decide) hm] at hl ⊢
   replace hX:=fun w1 hw1=>hX w1 hl hw1
   rw [e] at hX ⊢
   generalize txtC (d+1) (mkT 4 0 ⟨#[]⟩ [p]:T (d+1))=X at *
   generalize exV d p=pv at *
   clear e hs hc
   go_enter Tryz.func176,Tryz.ntmps176
   go_wp2_with (first|(go_at_call 174;refine (hX _ hwz).mono ?_;rintro e w2 ⟨rfl,b2⟩))
   go_ret
   exact ⟨rfl,bthen bz b2⟩
 ·have sd:=hs
  rw [sdC_mk,if_neg (by decide),if_neg (by decide),if_neg (by decide),if_pos rfl] at sd
  simp only [List.all_cons,List.all_nil,Bool.and_true,Bool.and_eq_true] at sd
  obtain ⟨_,sp,sq⟩:=sd
  have hB:=fun w1 hl1 hw1=>HB s p q w1 hp hq sp sq hl1 hw1
  have hlv:=fun w1=>pLevel_any s w1
  rw [aro_bin] at hl ⊢
  have e:exV (d+1) (mkT 5 0 s [p,q]:T (d+1))=.iface 138 (.agg #[.string s,exV d p,exV d q]):=rfl
  rw [e] at hX ⊢
  obtain ⟨pu,py,hpe⟩:=sd_iface hp sp
  obtain ⟨qu,qy,hqe⟩:=sd_iface hq sq
  rw [hpe,hqe] at hX hB ⊢
  generalize txtC (d+1) (mkT 5 0 s [p,q]:T (d+1))=X at *
  clear e hs hc hpe hqe
  have bz:=(Below.refl w.heap.size w).alloc Nat.le.refl (.cells #[.string s,.iface pu py,.iface qu qy] 138)
  have hwz:=hw.below bz
  by_cases hlt:lv (bl s) < m
  ·rw [if_pos hlt] at hl ⊢
   have hl2:X.length+2<=1000000:=by simpa using hl
   replace hB:=fun w1 hw1=>hB w1 (by omega) hw1
   have hlt':((lv (bl s):Nat):Int) < (m:Int):=by omega
   go_enter Tryz.func176,Tryz.ntmps176
   go_wp2_with (first
    | (go_at_call 179;refine (hlv _).mono ?_;rintro e w2 ⟨rfl,rfl⟩)
    | (go_at_call 177;refine (hB _ hwz).mono ?_;rintro e w2 ⟨rfl,b2⟩))
   go_ret
   exact ⟨congrArg (fun b=>Ending.returned (.string b)) (ba_par X),bthen bz b2⟩
  ·rw [if_neg hlt] at hl ⊢
   replace hX:=fun w1 hw1=>hX w1 hl hw1
   have hlt':¬ ((lv (bl s):Nat):Int) < (m:Int):=by omega
   go_enter Tryz.func176,Tryz.ntmps176
   go_wp2_with (first
    | (go_at_call 179;refine (hlv _).mono ?_;rintro e w2 ⟨rfl,rfl⟩)
    | (go_at_call 174;refine (hX _ hwz).mono ?_;rintro e w2 ⟨rfl,b2⟩))
   go_ret
   exact ⟨rfl,bthen bz b2⟩
 ·exact absurd hs (by simp [none0,sdC_mk])
theorem tx_step (d:Nat) (HO:OpC d) (HB:BtC d):TxC (d+1):=by
 intro t w hc hs hl hw
 rcases hc.cases with ⟨n,rfl⟩|⟨s,rfl⟩|⟨k,p,hk,rfl,hp⟩|⟨s,p,q,rfl,hp,hq⟩|rfl
 ·have e:exV (d+1) (mkT 1 n ⟨#[]⟩ []:T (d+1))=.iface 67 (.agg #[.int .i64 n]):=rfl
  have eT:txtC (d+1) (mkT 1 n ⟨#[]⟩ []:T (d+1))=dcN n:=by
   show txP [some (2,dcN n)]=dcN n
   rw [txP_cons];exact List.append_nil _
  rw [eT,e]
  rw [sdC_mk,if_pos rfl] at hs
  simp only [Bool.and_eq_true,decide_eq_true_eq] at hs
  have hF:=fun w1 h=>fmt_any hs.1 hs.2 w1 h
  have bz:=(Below.refl w.heap.size w).alloc Nat.le.refl (.cells #[.int .i64 n] 67)
  have hwz:=hw.below bz
  generalize dcN n=X at *
  clear e hc eT
  go_enter Tryz.func174,Tryz.ntmps174
  go_wp2_with (first|(go_at_call 175;refine (hF _ hwz).mono ?_;rintro e w2 ⟨rfl,b2⟩))
  go_ret
  exact ⟨rfl,bthen bz b2⟩
 ·have e:exV (d+1) (mkT 2 0 s []:T (d+1))=.iface 133 (.agg #[.string s]):=rfl
  have eT:(⟨(txtC (d+1) (mkT 2 0 s []:T (d+1))).toArray⟩:ByteArray)=s:=by
   have:txtC (d+1) (mkT 2 0 s []:T (d+1))=s.data.toList:=by
    show txP [some (1,s.data.toList)]=_
    rw [txP_cons];exact List.append_nil _
   rw [this]
  rw [eT,e]
  have hsz:s.size<=1000000:=by
   have h1:=hl
   rw [show txtC (d+1) (mkT 2 0 s []:T (d+1))=s.data.toList from by show txP [some (1,s.data.toList)]=_;rw [txP_cons];exact List.append_nil _] at h1
   exact h1
  have hC:=fun w1=>pClone_any s w1 (by omega)
  have bz:=(Below.refl w.heap.size w).alloc Nat.le.refl (.cells #[.string s] 133)
  clear e hc eT hs
  go_enter Tryz.func174,Tryz.ntmps174
  go_wp2_with (first|(go_at_call 13;refine (hC _).mono ?_;rintro e w2 ⟨rfl,b2⟩))
  go_ret
  exact ⟨rfl,bthen bz b2⟩
 ·rcases hk with rfl|rfl
  ·have e:exV (d+1) (mkT 3 0 ⟨#[]⟩ [p]:T (d+1))=.iface 135 (.agg #[exV d p]):=rfl
   have sp:sdC d p=true:=by
    rw [sdC_mk,if_neg (by decide),if_neg (by decide),if_pos (by decide)] at hs
    simpa using hs
   have eT:txtC (d+1) (mkT 3 0 ⟨#[]⟩ [p]:T (d+1))=33 :: aroX d p 6:=rfl
   rw [eT] at hl ⊢
   have hl2:(aroX d p 6).length+1<=1000000:=by simpa using hl
   have hO:=fun w1 hw1=>HO p 6 w1 hp sp (by omega) (by omega) hw1
   obtain ⟨pu,py,hpe⟩:=sd_iface hp sp
   rw [e,hpe]
   simp only [hpe,show ((6:Nat):Int)=6 from rfl] at hO
   generalize aroX d p 6=X at *
   clear e hpe hs hc eT
   have bz:=(Below.refl w.heap.size w).alloc Nat.le.refl (.cells #[.iface pu py] 135)
   have hwz:=hw.below bz
   go_enter Tryz.func174,Tryz.ntmps174
   go_wp2_with (first|(go_at_call 176;refine (hO _ hwz).mono ?_;rintro e w2 ⟨rfl,b2⟩))
   go_ret
   exact ⟨congrArg (fun b=>Ending.returned (.string b)) (ba_one _ X),bthen bz b2⟩
  ·have e:exV (d+1) (mkT 4 0 ⟨#[]⟩ [p]:T (d+1))=.iface 136 (.agg #[exV d p]):=rfl
   have sp:sdC d p=true:=by
    rw [sdC_mk,if_neg (by decide),if_neg (by decide),if_pos (by decide)] at hs
    simpa using hs
   have eT:txtC (d+1) (mkT 4 0 ⟨#[]⟩ [p]:T (d+1))=45 :: aroX d p 6:=rfl
   rw [eT] at hl ⊢
   have hl2:(aroX d p 6).length+1<=1000000:=by simpa using hl
   have hO:=fun w1 hw1=>HO p 6 w1 hp sp (by omega) (by omega) hw1
   obtain ⟨pu,py,hpe⟩:=sd_iface hp sp
   rw [e,hpe]
   simp only [hpe,show ((6:Nat):Int)=6 from rfl] at hO
   generalize aroX d p 6=X at *
   clear e hpe hs hc eT
   have bz:=(Below.refl w.heap.size w).alloc Nat.le.refl (.cells #[.iface pu py] 136)
   have hwz:=hw.below bz
   go_enter Tryz.func174,Tryz.ntmps174
   go_wp2_with (first|(go_at_call 176;refine (hO _ hwz).mono ?_;rintro e w2 ⟨rfl,b2⟩))
   go_ret
   exact ⟨congrArg (fun b=>Ending.returned (.string b)) (ba_one _ X),bthen bz b2⟩
 ·have e:exV (d+1) (mkT 5 0 s [p,q]:T (d+1))=.iface 138 (.agg #[.string s,exV d p,exV d q]):=rfl
  have sd:=hs
  rw [sdC_mk,if_neg (by decide),if_neg (by decide),if_neg (by decide),if_pos rfl] at sd
  simp only [List.all_cons,List.all_nil,Bool.and_true,Bool.and_eq_true] at sd
  obtain ⟨_,sp,sq⟩:=sd
  have hB:=fun w1 hw1=>HB s p q w1 hp hq sp sq hl hw1
  obtain ⟨pu,py,hpe⟩:=sd_iface hp sp
  obtain ⟨qu,qy,hqe⟩:=sd_iface hq sq
  rw [e]
  rw [hpe,hqe] at hB ⊢
  generalize txtC (d+1) (mkT 5 0 s [p,q]:T (d+1))=X at *
  clear e hs hc hpe hqe
  have bz:=(Below.refl w.heap.size w).alloc Nat.le.refl (.cells #[.string s,.iface pu py,.iface qu qy] 138)
  have hwz:=hw.below bz
  go_enter Tryz.func174,Tryz.ntmps174
  go_wp2_with (first|(go_at_call 177;refine (hB _ hwz).mono ?_;rintro e w2 ⟨rfl,b2⟩))
  go_ret
  exact ⟨rfl,bthen bz b2⟩
 ·exact absurd hs (by simp [none0,sdC_mk])
theorem op_any:∀ d,OpC d
 | 0=>fun t=>Empty.elim t
 | d+1=>op_step d (bin_step d (op_any d)) (tx_step d (op_any d) (bin_step d (op_any d)))
theorem text_any:∀ d,TxC d
 | 0=>fun t=>Empty.elim t
 | d+1=>tx_step d (op_any d) (bin_step d (op_any d))
end Go.Proofs.YtppefcdkgejfbaaGreatDoor
namespace Go.Proofs.YtppefcdkgejfbaaGreatDoor
open Go.RowKit Go.Lib
set_option linter.unusedSimpArgs false
set_option linter.unusedVariables false
attribute [local go_sem ↓] Go.wp_at_zero Go.wp_at_succ
theorem nm_plain:∀ (d:Nat) (t:T d),(nmC d t).any (fun s=>rsvB (bl s)) = !plC d t
 | 0,t=>Empty.elim t
 | d+1,t=>by
  obtain ⟨k,n,s,ps,rfl⟩:=T.open t
  rw [nmC_mk,plC_mk,List.any_append]
  have h1:∀ l:List (T d),(l.map (nmC d)).flatten.any (fun s=>rsvB (bl s)) = !(l.all (plC d)):=fun l=>by
   induction l with
   | nil=>rfl
   | cons p r ih=>
    have h2:=nm_plain d p
    rw [List.map_cons,List.flatten_cons,List.any_append,ih,h2,List.all_cons]
    cases plC d p<;>rfl
  rw [h1]
  have h3:(if k=2 then [s] else []).any (fun s=>rsvB (bl s))=(decide (k=2) && rsvB s.data.toList):=by
   by_cases hk:k=2
   ·rw [if_pos hk,decide_eq_true hk];simp
   ·rw [if_neg hk,decide_eq_false hk];rfl
  rw [h3]
  cases (decide (k=2) && rsvB s.data.toList)<;>cases ps.all (plC d)<;>rfl
theorem rf_plain (d:Nat) (t:T d):(rfC d t []).any (fun s=>rsvB (bl s)) = !plC d t:=by
 rw [<- nm_plain]
 have h:=(fold_up (nmC d t) [] (by simp [Up])).2
 rw [<- rf_nm] at h
 have e:∀ l:List ByteArray,l.any (fun s=>rsvB (bl s))=(l.map bl).any rsvB:=fun l=>by rw [List.any_map];rfl
 rw [e,e,Bool.eq_iff_iff,List.any_eq_true,List.any_eq_true]
 constructor
 ·rintro ⟨x,hx,hr⟩;exact ⟨x,by simpa using (h x).1 hx,hr⟩
 ·rintro ⟨x,hx,hr⟩;exact ⟨x,(h x).2 (.inr hx),hr⟩
def prC (d:Nat) (t:T d):List UInt8 × Int:=if fmC d t=true/\plC d t=true then (txtC d t,0) else ([],1)
theorem txt_len {d:Nat}{t:T d}(hc:Cl d t) (hf:fmC d t=true) (hp:plC d t=true):(txtC d t).length<=4000:=by
 obtain ⟨h40,hs⟩:=fm_parts hf
 obtain ⟨ho,hr⟩:=ok_sound d t hc hs hp
 have hb:=pcs_len d t hc hr
 show (txP (pcs dcN d t).2).length<=4000
 omega
theorem printP {d:Nat}{t:T d}(w:World) (hc:Cl d t) (hn:cnt d t<=1000) (hs:shrt 1000 d t=true) (hw:Pow w) :
  Calls Tryz.prog 170 #[exV d t] w fun e w'=>e=.returned (.tuple #[.string ⟨(prC d t).1.toArray⟩,.int .i64 (prC d t).2])/\Below w.heap.size w w':=by
 have h1:=formedP d t w hc (by omega) hs
 have h2:=fun w1=>refs_anyP w1 hc hn hs
 have h3:=fun (hf:fmC d t=true) (hp:plC d t=true) w1 hw1=>text_any d t w1 hc (fm_parts hf).2 (by have:=txt_len hc hf hp;omega) hw1
 have h4:=fun (v:Value) (w1:World) (h:RdS w1 v (rfT d t))=>contains_any h
 have hpl:=rf_plain d t
 unfold prC
 obtain ⟨ev,hev⟩:∃ ev,exV d t=ev:=⟨_,rfl⟩
 have hfm:ev=.nilIface∨∃ u y,ev=.iface u y:=by rw [<- hev];exact exV_form d t
 rw [hev] at h1 ⊢
 simp only [hev] at h2 h3
 clear hev
 by_cases hf:fmC d t=true
 case neg=>
  rw [if_neg (fun h=>hf h.1)]
  have hf':fmC d t=false:=by simpa using hf
  rw [hf'] at h1
  clear h2 h3 h4 hpl hf hf'
  rcases hfm with rfl|⟨u,y,rfl⟩
  all_goals
   go_enter Tryz.func170,Tryz.ntmps170
   go_wp2_with (first|(go_at_call 23;refine h1.mono ?_;rintro e w2 ⟨rfl,b2⟩))
   go_ret2
   exact ⟨rfl,b2⟩
 rw [hf] at h1
 unfold rfT at h2 h4
 simp only [if_pos hf,hpl] at h2 h4
 by_cases hp:plC d t=true
 ·rw [if_pos ⟨hf,hp⟩]
  rw [hp] at h4
  replace h3:=h3 hf hp
  generalize txtC d t=X at *
  rcases hfm with rfl|⟨u,y,rfl⟩
  all_goals
   go_enter Tryz.func170,Tryz.ntmps170
   go_wp2_with (first
    | (go_at_call 23;refine h1.mono ?_;rintro e w2 ⟨rfl,b2⟩)
    | (go_at_call 24;refine (h2 _).mono ?_;rintro e w3 ⟨v,rfl,hv,b3⟩;have b3':=bthen b2 b3;obtain ⟨a,cap,rfl,_,_⟩:=hv.at')
    | (go_at_call 164;refine (h4 _ _ hv).mono ?_;rintro e w4 ⟨rfl,rfl⟩)
    | (go_at_call 174;refine (h3 _ (hw.below b3')).mono ?_;rintro e w5 ⟨rfl,b5⟩;have b5':=bthen b3' b5))
   go_ret2
   exact ⟨rfl,b5'⟩
 ·rw [if_neg (fun h=>hp h.2)]
  have hp':plC d t=false:=by simpa using hp
  rw [hp'] at h4
  clear h3
  rcases hfm with rfl|⟨u,y,rfl⟩
  all_goals
   go_enter Tryz.func170,Tryz.ntmps170
   go_wp2_with (first
    | (go_at_call 23;refine h1.mono ?_;rintro e w2 ⟨rfl,b2⟩)
    | (go_at_call 24;refine (h2 _).mono ?_;rintro e w3 ⟨v,rfl,hv,b3⟩;have b3':=bthen b2 b3;obtain ⟨a,cap,rfl,_,_⟩:=hv.at')
    | (go_at_call 164;refine (h4 _ _ hv).mono ?_;rintro e w4 ⟨rfl,rfl⟩))
   go_ret2
   exact ⟨rfl,b3'⟩
abbrev ChX (d:Nat):=(List UInt8 × Pl) × Int × List (List UInt8 × Int × Pl) × List (St d)
def plX (x:Sx):Bool:=plC x.1 x.2
def nbB (n:Int):Bool:=decide (0<=n/\n<=1000000000)
def exF (x:Sx):Bool:=fmX x && plX x
def setF (s:List UInt8 × Sx):Bool:=plainB s.1 && exF s.2
def onF (o:OnC):Bool:=plainB o.1 && ((!o.2.1.1 || exF o.2.1.2) && (plainB o.2.2.1 && o.2.2.2.1.all setF))
def stepB (h:HdC):Bool:=!(decide (h.2.2.1.1=[]) && decide (h.2.2.1.2=[]) && decide (h.2.2.2.1.1=0) && decide (h.2.2.2.1.2=0))
def kndF (h:HdC):Bool:=if stepB h=true then !h.2.1.1 && !h.2.1.2 && plainB h.2.2.1.1 && plainB h.2.2.1.2 && nbB h.2.2.2.1.1 && nbB h.2.2.2.1.2 else !h.2.1.1 || !h.2.1.2
def stF:(d:Nat)->Nat->St d->Bool
 | 0,_,t=>Empty.elim t
 | d+1,n,t=>decide (n<=6) && plainB t.1.1.1 && kndF t.1 && t.1.2.2.2.2.all onF && t.2.all (stF d (n+1))
def varF (v:List UInt8 × Int × Pl):Bool:=plainB v.1 && decide (-1000000000<=v.2.1/\v.2.1<=1000000000)
def chF (d:Nat) (c:ChX d):Bool:=plainB c.1.1 && nbB c.2.1 && c.2.2.1.all varF && c.2.2.2.all (stF d 1)
theorem rname_any (s:List UInt8) (w:World) (hs:s.length<=140737488351232):Calls Tryz.prog 95 #[sV s] w fun e w'=>e=.returned (.bool (plainB s))/\Below w.heap.size w w':=by
 have hz:(⟨s.toArray⟩:ByteArray).size<=140737488351232:=by show s.toArray.size<=_;simpa using hs
 have h1:=fun w1=>pName_any ⟨s.toArray⟩ w1 hz
 have h2:=fun w1=>pReserved_any ⟨s.toArray⟩ w1
 have e1:bl (⟨s.toArray⟩:ByteArray)=s:=by unfold bl;simp
 rw [e1] at h1 h2
 unfold plainB sV
 generalize (⟨s.toArray⟩:ByteArray)=t at *
 cases h3:nameS s<;>cases h4:rsvB s
 all_goals (
  simp only [h3] at h1
  simp only [h4] at h2
  go_enter Tryz.func95,Tryz.ntmps95
  go_wp2_with (first
   | (go_at_call 84;refine (h1 _).mono ?_;rintro e w1 ⟨rfl,b1⟩)
   | (go_at_call 121;refine (h2 _).mono ?_;rintro e w2 ⟨rfl,hw2⟩;subst hw2)
   | fail)
  go_ret
  exact ⟨rfl,b1⟩)
theorem rnum_any (n:Int) (w:World):Calls Tryz.prog 96 #[.int .i64 n] w fun e w'=>e=.returned (.bool (nbB n))/\Below w.heap.size w w':=by
 unfold nbB
 by_cases h1:0<=n
 ·by_cases h2:n<=1000000000
  ·rw [decide_eq_true ⟨h1,h2⟩]
   go_enter Tryz.func96,Tryz.ntmps96
   go_wp2
   go_ret
   exact ⟨rfl,Below.refl _ _⟩
  ·rw [decide_eq_false (fun q=>h2 q.2)]
   go_enter Tryz.func96,Tryz.ntmps96
   go_wp2
   go_ret
   exact ⟨rfl,Below.refl _ _⟩
 ·rw [decide_eq_false (fun q=>h1 q.1)]
  go_enter Tryz.func96,Tryz.ntmps96
  go_wp2
  go_ret
  exact ⟨rfl,Below.refl _ _⟩
theorem rexp_any {x:Sx}(h:ExOk x) (hn:cntX x<=1000) (w:World) (hw:Pow w):Calls Tryz.prog 153 #[exX x] w fun e w'=>e=.returned (.bool (exF x))/\Below w.heap.size w w':=by
 have h1:=printP w h.1 (by unfold cntX at hn;exact hn) h.2.2 hw
 have h2:Calls Tryz.prog 170 #[exX x] w fun e w'=>e=.returned (.tuple #[.string ⟨(prC x.1 x.2).1.toArray⟩,.int .i64 (if exF x=true then 0 else 1)])/\Below w.heap.size w w':=by
  refine h1.mono ?_
  rintro e w' ⟨he,hb⟩
  refine ⟨?_,hb⟩
  rw [he]
  have:(prC x.1 x.2).2=if exF x=true then 0 else 1:=by
   unfold prC exF fmX plX
   simp only [Bool.and_eq_true]
   split<;>rfl
  rw [this]
 generalize exX x=v at *
 cases h3:exF x
 all_goals (
  simp only [h3] at h2
  go_enter Tryz.func153,Tryz.ntmps153
  go_wp2_with (first
   | (go_at_call 170;refine h2.mono ?_;rintro e w1 ⟨rfl,b1⟩)
   | fail)
  go_ret
  exact ⟨rfl,b1⟩)
