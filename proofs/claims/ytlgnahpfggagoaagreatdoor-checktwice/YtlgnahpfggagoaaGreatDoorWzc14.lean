import Derived.Shelf.LaysC
import Derived.Shelf.Strconv.AtoiAll
import Derived.Test.YtlgnahpfggagoaaGreatDoorRows
import Derived.Test.YtlgnahpfggagoaaGreatDoorWzc12
import Derived.Test.YtlgnahpfggagoaaGreatDoorWzc13
/- Contracts of the library at this program. -/
namespace Go.Proofs.YtlgnahpfggagoaaGreatDoor
open Go.Shelf
set_option linter.unusedVariables false
def renA:Ren:={ f:=fun x=>match x with | 172=>105 | 244=>116 | 245=>117 | 247=>126 | 279=>127 | 280=>128 | 281=>129 | 282=>130 | 287=>147 | 316=>103 | 171=>149 | 205=>148 | 321=>162 | 322=>163 | 243=>164 | 246=>153 | 283=>168 | 284=>169 | 285=>170 | 286=>171 | 129=>146 | 317=>178 | 318=>179 | 319=>180 | 320=>181 | 337=>183 | 338=>184 | n=>n,t:=fun x=>match x with | 9=>9 | 3=>3 | 75=>150 | 76=>151 | 4=>4 | 5=>5 | 167=>177 | 37=>162 | 0=>0 | 85=>178 | 2=>2 | 168=>180 | 53=>206 | 175=>207 | 46=>176 | 210=>210 | 127=>163 | 145=>226 | 143=>224 | 21=>21 | 171=>229 | 173=>231 | 212=>243 | 51=>204 | 20=>20 | 213=>244 | 232=>245 | 233=>246 | 80=>247 | n=>n,g:=fun x=>match x with | 15=>0 | 16=>1 | 17=>2 | 18=>3 | 19=>4 | n=>n }
theorem laysA:LaysC.n172 Tryz.prog renA:=
 {mixed:=by kernel_rfl,f129:=Tryz.func146.trans (congrArg some (by kernel_rfl)),f171:=Tryz.func149.trans (congrArg some (by kernel_rfl)),f172:=Tryz.func105.trans (congrArg some (by kernel_rfl)),f205:=Tryz.func148.trans (congrArg some (by kernel_rfl)),f243:=Tryz.func164.trans (congrArg some (by kernel_rfl)),f244:=Tryz.func116.trans (congrArg some (by kernel_rfl)),f245:=Tryz.func117.trans (congrArg some (by kernel_rfl)),f246:=Tryz.func153.trans (congrArg some (by kernel_rfl)),f247:=Tryz.func126.trans (congrArg some (by kernel_rfl)),f279:=Tryz.func127.trans (congrArg some (by kernel_rfl)),f280:=Tryz.func128.trans (congrArg some (by kernel_rfl)),f281:=Tryz.func129.trans (congrArg some (by kernel_rfl)),f282:=Tryz.func130.trans (congrArg some (by kernel_rfl)),f283:=Tryz.func168.trans (congrArg some (by kernel_rfl)),f284:=Tryz.func169.trans (congrArg some (by kernel_rfl)),f285:=Tryz.func170.trans (congrArg some (by kernel_rfl)),f286:=Tryz.func171.trans (congrArg some (by kernel_rfl)),f287:=Tryz.func147.trans (congrArg some (by kernel_rfl)),f316:=Tryz.func103.trans (congrArg some (by kernel_rfl)),f317:=Tryz.func178.trans (congrArg some (by kernel_rfl)),f318:=Tryz.func179.trans (congrArg some (by kernel_rfl)),f319:=Tryz.func180.trans (congrArg some (by kernel_rfl)),f320:=Tryz.func181.trans (congrArg some (by kernel_rfl)),f321:=Tryz.func162.trans (congrArg some (by kernel_rfl)),f322:=Tryz.func163.trans (congrArg some (by kernel_rfl)),f337:=Tryz.func183.trans (congrArg some (by kernel_rfl)),f338:=Tryz.func184.trans (congrArg some (by kernel_rfl)),t0:=Tryz.underlying0,a0:=Tryz.isAgg0,z0:=Tryz.sizeOf0,v0:=Tryz.zeroValue0,t2:=Tryz.underlying2,a2:=Tryz.isAgg2,z2:=Tryz.sizeOf2,v2:=Tryz.zeroValue2,t3:=Tryz.underlying3,a3:=Tryz.isAgg3,z3:=Tryz.sizeOf3,v3:=Tryz.zeroValue3,t4:=Tryz.underlying4,a4:=Tryz.isAgg4,z4:=Tryz.sizeOf4,v4:=Tryz.zeroValue4,t5:=Tryz.underlying5,a5:=Tryz.isAgg5,z5:=Tryz.sizeOf5,v5:=Tryz.zeroValue5,t9:=Tryz.underlying9,a9:=Tryz.isAgg9,z9:=Tryz.sizeOf9,v9:=Tryz.zeroValue9,t20:=Tryz.underlying20,a20:=Tryz.isAgg20,z20:=Tryz.sizeOf20,v20:=Tryz.zeroValue20,t21:=Tryz.underlying21,a21:=Tryz.isAgg21,z21:=Tryz.sizeOf21,v21:=Tryz.zeroValue21,t37:=Tryz.underlying162,a37:=Tryz.isAgg162,z37:=Tryz.sizeOf162,v37:=Tryz.zeroValue162,t46:=Tryz.underlying176,a46:=Tryz.isAgg176,z46:=Tryz.sizeOf176,v46:=Tryz.zeroValue176,t51:=Tryz.underlying204,a51:=Tryz.isAgg204,z51:=Tryz.sizeOf204,v51:=Tryz.zeroValue204,t53:=Tryz.underlying206,a53:=Tryz.isAgg206,z53:=Tryz.sizeOf206,v53:=Tryz.zeroValue206,t75:=Tryz.underlying150,a75:=Tryz.isAgg150,z75:=Tryz.sizeOf150,v75:=Tryz.zeroValue150,t76:=Tryz.underlying151,a76:=Tryz.isAgg151,z76:=Tryz.sizeOf151,v76:=Tryz.zeroValue151,t85:=Tryz.underlying178,a85:=Tryz.isAgg178,z85:=Tryz.sizeOf178,v85:=Tryz.zeroValue178,t127:=Tryz.underlying163,a127:=Tryz.isAgg163,z127:=Tryz.sizeOf163,v127:=Tryz.zeroValue163,t143:=Tryz.underlying224,a143:=Tryz.isAgg224,z143:=Tryz.sizeOf224,v143:=Tryz.zeroValue224,t145:=Tryz.underlying226,a145:=Tryz.isAgg226,z145:=Tryz.sizeOf226,v145:=Tryz.zeroValue226,t167:=Tryz.underlying177,a167:=Tryz.isAgg177,z167:=Tryz.sizeOf177,v167:=Tryz.zeroValue177,t168:=Tryz.underlying180,a168:=Tryz.isAgg180,z168:=Tryz.sizeOf180,v168:=Tryz.zeroValue180,t171:=Tryz.underlying229,a171:=Tryz.isAgg229,z171:=Tryz.sizeOf229,v171:=Tryz.zeroValue229,t173:=Tryz.underlying231,a173:=Tryz.isAgg231,z173:=Tryz.sizeOf231,v173:=Tryz.zeroValue231,t175:=Tryz.underlying207,a175:=Tryz.isAgg207,z175:=Tryz.sizeOf207,v175:=Tryz.zeroValue207,t210:=Tryz.underlying210,a210:=Tryz.isAgg210,z210:=Tryz.sizeOf210,v210:=Tryz.zeroValue210,t212:=Tryz.underlying243,a212:=Tryz.isAgg243,z212:=Tryz.sizeOf243,v212:=Tryz.zeroValue243,t213:=Tryz.underlying244,a213:=Tryz.isAgg244,z213:=Tryz.sizeOf244,t232:=Tryz.underlying245,a232:=Tryz.isAgg245,z232:=Tryz.sizeOf245,v232:=Tryz.zeroValue245,t233:=Tryz.underlying246,a233:=Tryz.isAgg246,z233:=Tryz.sizeOf246,v233:=Tryz.zeroValue246,g15:=by kernel_rfl,g16:=by kernel_rfl,g17:=by kernel_rfl,g18:=by kernel_rfl,g19:=by kernel_rfl,t80:=Tryz.underlying247,a80:=Tryz.isAgg247,z80:=Tryz.sizeOf247,v80:=Tryz.zeroValue247,i0:=by kernel_rfl,i2:=by kernel_rfl,i3:=by kernel_rfl,i4:=by kernel_rfl,i5:=by kernel_rfl,i9:=by kernel_rfl,i20:=by kernel_rfl,i21:=by kernel_rfl,i37:=by kernel_rfl,i46:=by kernel_rfl,i51:=by kernel_rfl,i53:=by kernel_rfl,i75:=by kernel_rfl,i76:=by kernel_rfl,i80:=by kernel_rfl,i85:=by kernel_rfl,i127:=by kernel_rfl,i143:=by kernel_rfl,i145:=by kernel_rfl,i167:=by kernel_rfl,i168:=by kernel_rfl,i171:=by kernel_rfl,i173:=by kernel_rfl,i175:=by kernel_rfl,i210:=by kernel_rfl,i212:=by kernel_rfl,i232:=by kernel_rfl,i233:=by kernel_rfl,m15:=by kernel_rfl,m16:=by kernel_rfl,m17:=by kernel_rfl,m18:=by kernel_rfl,m19:=by kernel_rfl,c0:=by kernel_rfl,c2:=by kernel_rfl,c3:=by kernel_rfl,c4:=by kernel_rfl,c5:=by kernel_rfl,c9:=by kernel_rfl,c20:=by kernel_rfl,c21:=by kernel_rfl,c37:=by kernel_rfl,c46:=by kernel_rfl,c51:=by kernel_rfl,c53:=by kernel_rfl,c75:=by kernel_rfl,c76:=by kernel_rfl,c80:=by kernel_rfl,c85:=by kernel_rfl,c127:=by kernel_rfl,c143:=by kernel_rfl,c145:=by kernel_rfl,c167:=by kernel_rfl,c168:=by kernel_rfl,c171:=by kernel_rfl,c173:=by kernel_rfl,c175:=by kernel_rfl,c210:=by kernel_rfl,c212:=by kernel_rfl,c213:=by kernel_rfl,c232:=by kernel_rfl,c233:=by kernel_rfl }
end Go.Proofs.YtlgnahpfggagoaaGreatDoor
/- What the program's word, name and number do. -/
namespace Go.Proofs.YtlgnahpfggagoaaGreatDoor
open Go.RowKit Go.Lib
set_option linter.unusedSimpArgs false
set_option linter.unusedVariables false
attribute [local go_sem ↓] Go.wp_at_zero Go.wp_at_succ
/-- A word of a kind that isn't reserved. -/
def wordR (k:Nat) (fin:Pl) (r:RsC):Option Wd × RsC:=match r.1 with
 | []=>(none,failC 12 (hereR fin r) r)
 | x :: l=>if r.2.2=0∧x.1=k∧rsvB (tkW x).2=false then (some x,(l,r.2)) else (none,failC 12 (hereR fin r) r)
def wdA:Option Wd→Value
 | none=>.agg #[.int .i64 0,.string ⟨#[]⟩,.int .i64 0,.int .i64 0]
 | some x=>.agg #[.int .i64 (x.1:Int),.string (txt x.2.1),.int .i64 x.2.2.1,.int .i64 x.2.2.2]
theorem at4_res {w4:World}{R:Nat}{a b c e:Value}{tmps:Array Value}(hR:World.cell? w4 ⟨R,0,none⟩=some a∧World.cell? w4 ⟨R,1,none⟩=some b∧World.cell? w4 ⟨R,2,none⟩=some c∧World.cell? w4 ⟨R,3,none⟩=some e) (ht:tmps.getD 4 undef=.pointer (some ⟨R,0,none⟩)):(results Tryz.f104 tmps).run Tryz.prog w4=.ok (.agg #[a,b,c,e]) w4:=by
 obtain ⟨c0,c1,c2,c3⟩:=hR
 have ht':tmps[4]?.getD undef=.pointer (some ⟨R,0,none⟩):=by simpa using ht
 simp [results,Tryz.results104,go_sem,ht',c0,c1,c2,c3]
theorem B4.atP {w:World}{N:Nat}{a b c e:Value}(h:B4 w N a b c e):w.cell? ⟨N,0,none⟩=some a∧w.cell? ⟨N,1,none⟩=some b∧w.cell? ⟨N,2,none⟩=some c∧w.cell? ⟨N,3,none⟩=some e:=⟨h.c0,h.c1,h.c2,h.c3⟩
theorem B4.fxP {w w':World}{X N:Nat}{a b c e:Value}(h:B4 w N a b c e) (hf:Fx X w w') (hN:N≠X):B4 w' N a b c e:=by
 have hb:w'.heap[N]?=w.heap[N]?:=hf.block N h.lt (fun q=>hN (Option.some.inj q))
 have hc:∀ i,w'.cell? ⟨N,i,none⟩=w.cell? ⟨N,i,none⟩:=fun i=>World.cell?_of_block (w:=w) (a:=⟨N,i,none⟩) hb
 have hz:∀ i,w'.frozen? ⟨N,i,none⟩=w.frozen? ⟨N,i,none⟩:=fun i=>World.frozen?_of_block (w:=w) (a:=⟨N,i,none⟩) hb
 exact ⟨(hc 0).trans h.c0,(hc 1).trans h.c1,(hc 2).trans h.c2,(hc 3).trans h.c3,(hz 0).trans h.f0,(hz 1).trans h.f1,(hz 2).trans h.f2,(hz 3).trans h.f3⟩
theorem Fx.put4' {X N:Nat}{a b:World}(h:Fx X a b) (hN:a.heap.size≤N) (c0 c1 c2 c3:Value):Fx X a (Go.Proofs.YtlgnahpfggagoaaGreatDoor.put4 b N c0 c1 c2 c3):=(((h.setN hN c0).setN hN c1).setN hN c2).setN hN c3
theorem Rr.put4 {w:World}{X N:Nat}{a:Option Addr}{cap:Nat}{ws:List Wd}{n:Nat}{b:Int}(h:Rr w X a cap ws n b) (hN:X < N) (c0 c1 c2 c3:Value):Rr (put4 w N c0 c1 c2 c3) X a cap ws n b:=(((h.far hN c0).far hN c1).far hN c2).far hN c3
abbrev zGW:Obj:=.cells #[.int .i64 0,.string ⟨#[]⟩,.int .i64 0,.int .i64 0] 100
theorem alGW (w:World):Below w.heap.size w (w.alloc zGW):=(Below.refl _ _).alloc (Nat.le_refl _) _
set_option maxRecDepth 100000 in
set_option maxHeartbeats 4000000 in
/-- Behind the test: none. -/
theorem word_no {w:World}{X:Nat}{a:Option Addr}{cap:Nat}{ws:List Wd}{fin:Pl}{r:RsC}(h:Pr w X a cap ws fin r) (hk:Wk ws cap) (k:Nat) (hno:r.2.2≠0∨r.1=[]∨∃ x l,r.1=x :: l∧(x.1≠k∨rsvB (tkW x).2=true)) :
  Calls Tryz.prog 104 #[.pointer (some ⟨X,0,none⟩),.int .i64 (k:Int)] w fun e w'=>e=.returned (wdA none)∧Pr w' X a cap ws fin (failC 12 (hereR fin r) r)∧Fx X w w':=by
 obtain ⟨n,h1,h2,h3,h4⟩:=id h
 have hX:=h.lt
 have hR0:=h1.on (alGW w)
 have hB0:B4 (w.alloc zGW) w.heap.size (.int .i64 0) (.string ⟨#[]⟩) (.int .i64 0) (.int .i64 0):=B4.new w _ _ _ _ _ _ rfl
 have hF:=fun w1 (hr:Rr w1 X a cap ws n r.2.2)=>pfail_any hr 12
 have hRs:=fun s w1=>pReserved_any s w1
 have hcap:=hk.c
 have hbad:∀ w',Rr w' X a cap ws n (if r.2.2=0 then 12 else r.2.2)→Pr w' X a cap ws fin (failC 12 (hereR fin r) r):=fun w' hr=>Pr.bad hr h2 h3 h4
 have HB:Hid (∀ w',Rr w' X a cap ws n (if r.2.2=0 then 12 else r.2.2)→Pr w' X a cap ws fin (failC 12 (hereR fin r) r)):=hbad
 obtain ⟨c0,c1,c2,f1,f2,hL⟩:=id hR0
 obtain ⟨b,hb⟩:∃ b,r.2.2=b:=⟨_,rfl⟩
 rw [hb] at c2 hno
 have i2:(0:Int)≤(n:Int):=by omega
 have hend:∀ w1,Fx X (w.alloc zGW) w1→Rr w1 X a cap ws n (if r.2.2=0 then 12 else r.2.2)→B4 w1 w.heap.size (.int .i64 0) (.string ⟨#[]⟩) (.int .i64 0) (.int .i64 0)∧Fx X w w1:=fun w1 hf hr=>⟨hB0.fxP hf (by omega),(Fx.of (alGW w) (Nat.le_refl _)).trans hf⟩
 have HEnd:Hid (∀ w1,Fx X (w.alloc zGW) w1→Rr w1 X a cap ws n (if r.2.2=0 then 12 else r.2.2)→B4 w1 w.heap.size (.int .i64 0) (.string ⟨#[]⟩) (.int .i64 0) (.int .i64 0)∧Fx X w w1):=hend
 clear hbad hend
 by_cases hz:b=0
 ·subst hz
  rcases hno with q | q | ⟨x,l,q,q2⟩
  ·exact absurd rfl q
  ·rw [q] at h2
   have hn:=drop_nil h2 h3
   have i1:(n == ws.length)=true:=by simpa using hn
   have i3:((n:Int) == (ws.length:Int))=true:=by simp [hn]
   clear hL h2 h3 h4 q hn hB0 hRs
   go_enter Tryz.func104,Tryz.ntmps104
   go_wp2
   go_quiet (fail)
   have hr1:=hR0.on (draws _ nq)
   have hfq:Fx X (w.alloc zGW) ((w.alloc zGW).drewN nq):=(Fx.refl _ _).drewN nq
   generalize (w.alloc zGW).drewN nq=w1 at *
   go_upto_region 3 with (first
    | (go_at_call 78;refine (hF _ hr1).mono ?_;rintro e w2 ⟨⟨u,rfl⟩,hr2,hf2⟩))
   obtain ⟨hB2,hF2⟩:=HEnd.out _ (hfq.trans hf2) hr2
   obtain ⟨y0,y1,y2,y3,z0,z1,z2,z3⟩:=id hB2
   go_wp2
   exact bodyPost_ret (at4_res (hB2.put _ _ _ _).atP rfl) rfl ⟨rfl,HB.out _ (hr2.put4 hX _ _ _ _),hF2.put4' (Nat.le_refl _) _ _ _ _⟩
  ·rw [q] at h2
   obtain ⟨hn,_,hx⟩:=drop_cons h2
   obtain ⟨g,off,rfl,hgX,d0,d1,d2,d3⟩:=hL n hn
   have i1:((n:Int) == (ws.length:Int))=false:=by simp;omega
   have i3:(n:Int) < (ws.length:Int):=by omega
   rw [hx hn] at d0 d1
   have hd1:(w.alloc zGW).cell? ⟨g,off+n*4+1,none⟩=some (.string ⟨(tkW x).2.toArray⟩):=d1
   have hRv:=fun w1=>hRs ⟨(tkW x).2.toArray⟩ w1
   have e2:bl ⟨(tkW x).2.toArray⟩=(tkW x).2:=rfl
   simp only [e2] at hRv
   obtain ⟨bs,hbs⟩:∃ bs,(tkW x).2=bs:=⟨_,rfl⟩
   obtain ⟨K,hK⟩:∃ K,x.1=K:=⟨_,rfl⟩
   simp only [hbs,hK] at hd1 d0 hRv q2
   clear hL h2 h3 h4 q hB0 hRs d1 d2 d3 hx e2 hbs hK
   by_cases hk1:K=k
   ·have i4:((K:Int) != (k:Int))=false:=by simp [hk1]
    have hrs:rsvB bs=true:=q2.resolve_left (fun e=>e hk1)
    simp only [hrs] at hRv
    have hRq:∀ n,Calls Tryz.prog 41 #[.string ⟨bs.toArray⟩] ((w.alloc zGW).drewN n) fun e w'=>e=.returned (.bool true)∧∃ m,w'=(w.alloc zGW).drewN m:=fun n=>(hRv _).mono (fun e w' hh=>⟨hh.1,n,hh.2.symm⟩)
    clear q2 hrs hk1 hRv
    go_enter Tryz.func104,Tryz.ntmps104
    go_wp2
    go_quiet (exact hRq _)
    have hr1:=hR0.on (draws _ nq)
    have hfq:Fx X (w.alloc zGW) ((w.alloc zGW).drewN nq):=(Fx.refl _ _).drewN nq
    generalize (w.alloc zGW).drewN nq=w1 at *
    go_upto_region 3 with (first
     | (go_at_call 78;refine (hF _ hr1).mono ?_;rintro e w2 ⟨⟨u,rfl⟩,hr2,hf2⟩))
    obtain ⟨hB2,hF2⟩:=HEnd.out _ (hfq.trans hf2) hr2
    obtain ⟨y0,y1,y2,y3,z0,z1,z2,z3⟩:=id hB2
    go_wp2
    exact bodyPost_ret (at4_res (hB2.put _ _ _ _).atP rfl) rfl ⟨rfl,HB.out _ (hr2.put4 hX _ _ _ _),hF2.put4' (Nat.le_refl _) _ _ _ _⟩
   ·have i4:((K:Int) != (k:Int))=true:=by simp;omega
    clear q2 hRv
    go_enter Tryz.func104,Tryz.ntmps104
    go_wp2
    go_quiet (fail)
    have hr1:=hR0.on (draws _ nq)
    have hfq:Fx X (w.alloc zGW) ((w.alloc zGW).drewN nq):=(Fx.refl _ _).drewN nq
    generalize (w.alloc zGW).drewN nq=w1 at *
    go_upto_region 3 with (first
     | (go_at_call 78;refine (hF _ hr1).mono ?_;rintro e w2 ⟨⟨u,rfl⟩,hr2,hf2⟩))
    obtain ⟨hB2,hF2⟩:=HEnd.out _ (hfq.trans hf2) hr2
    obtain ⟨y0,y1,y2,y3,z0,z1,z2,z3⟩:=id hB2
    go_wp2
    exact bodyPost_ret (at4_res (hB2.put _ _ _ _).atP rfl) rfl ⟨rfl,HB.out _ (hr2.put4 hX _ _ _ _),hF2.put4' (Nat.le_refl _) _ _ _ _⟩
 ·have i1:(b != 0)=true:=by simpa using hz
  clear hL h2 h3 h4 hno hB0 hRs
  go_enter Tryz.func104,Tryz.ntmps104
  go_wp2
  go_quiet (fail)
  have hr1:=hR0.on (draws _ nq)
  have hfq:Fx X (w.alloc zGW) ((w.alloc zGW).drewN nq):=(Fx.refl _ _).drewN nq
  generalize (w.alloc zGW).drewN nq=w1 at *
  go_upto_region 3 with (first
   | (go_at_call 78;refine (hF _ hr1).mono ?_;rintro e w2 ⟨⟨u,rfl⟩,hr2,hf2⟩))
  obtain ⟨hB2,hF2⟩:=HEnd.out _ (hfq.trans hf2) hr2
  obtain ⟨y0,y1,y2,y3,z0,z1,z2,z3⟩:=id hB2
  go_wp2
  exact bodyPost_ret (at4_res (hB2.put _ _ _ _).atP rfl) rfl ⟨rfl,HB.out _ (hr2.put4 hX _ _ _ _),hF2.put4' (Nat.le_refl _) _ _ _ _⟩
set_option maxRecDepth 100000 in
set_option maxHeartbeats 4000000 in
theorem word_yes {w:World}{X:Nat}{a:Option Addr}{cap:Nat}{ws:List Wd}{fin:Pl}{r:RsC}(h:Pr w X a cap ws fin r) (hk:Wk ws cap) {x:Wd}{l:List Wd}(h0:r.2.2=0) (hr:r.1=x :: l) (hrs:rsvB (tkW x).2=false) :
  Calls Tryz.prog 104 #[.pointer (some ⟨X,0,none⟩),.int .i64 (x.1:Int)] w fun e w'=>e=.returned (wdA (some x))∧Pr w' X a cap ws fin (l,r.2)∧Fx X w w':=by
 obtain ⟨n,h1,h2,h3,h4⟩:=id h
 have hX:=h.lt
 have hR0:=h1.on (alGW w)
 have hB0:B4 (w.alloc zGW) w.heap.size (.int .i64 0) (.string ⟨#[]⟩) (.int .i64 0) (.int .i64 0):=B4.new w _ _ _ _ _ _ rfl
 have hcap:=hk.c
 have hlen:=hk.l
 rw [hr] at h2
 have HS:Hid (∀ w',Rr w' X a cap ws (n+1) r.2.2→Pr w' X a cap ws fin (l,r.2)):=fun w' q=>Pr.step q h2 h0
 rw [h0] at h1 hR0 HS
 obtain ⟨hn,_,hx⟩:=drop_cons h2
 obtain ⟨c0,c1,c2,f1,f2,hL⟩:=id hR0
 obtain ⟨g,off,rfl,hgX,d0,d1,d2,d3⟩:=hL n hn
 have i1:((n:Int) == (ws.length:Int))=false:=by simp;omega
 have i2:(0:Int)≤(n:Int):=by omega
 have i3:(n:Int) < (ws.length:Int):=by omega
 have i5:IntKind.i64.wrap ((n:Int)+1)=(n:Int)+1:=by rw [IntKind.wrap_i64];omega
 have i6:IntKind.i64.wrap ((n:Int)+1 - 1)=(n:Int):=by rw [IntKind.wrap_i64];omega
 rw [hx hn] at d0 d1 d2 d3
 have hRv:=fun w1=>pReserved_any (txt x.2.1) w1
 have e2:bl (txt x.2.1)=(tkW x).2:=rfl
 rw [e2,hrs] at hRv
 have hRq:∀ n,Calls Tryz.prog 41 #[.string (txt x.2.1)] ((w.alloc zGW).drewN n) fun e w'=>e=.returned (.bool false)∧∃ m,w'=(w.alloc zGW).drewN m:=fun n=>(hRv _).mono (fun e w' hh=>⟨hh.1,n,hh.2.symm⟩)
 unfold wdA
 obtain ⟨K,seg,ln,co⟩:=x
 simp only at d0 d1 d2 d3 hRq ⊢
 obtain ⟨bs,hbs⟩:∃ bs,txt seg=bs:=⟨_,rfl⟩
 rw [hbs] at d1 hRq ⊢
 have hfr:∀ m,Rr (((w.alloc zGW).drewN m).setCell ⟨X,1,none⟩ (.int .i64 ((n+1:Nat):Int))) X (some ⟨g,off,none⟩) cap ws (n+1) 0∧B4 (((w.alloc zGW).drewN m).setCell ⟨X,1,none⟩ (.int .i64 ((n+1:Nat):Int))) w.heap.size (.int .i64 0) (.string ⟨#[]⟩) (.int .i64 0) (.int .i64 0)∧Fx X w (((w.alloc zGW).drewN m).setCell ⟨X,1,none⟩ (.int .i64 ((n+1:Nat):Int))):=fun m=>
  ⟨(hR0.on (draws _ m)).set1 (n+1),(hB0.keep (draws _ m)).far (by omega) _,(((Fx.of (alGW w) (Nat.le_refl _)).drewN m).setX _)⟩
 have HF:Hid (∀ m,Rr (((w.alloc zGW).drewN m).setCell ⟨X,1,none⟩ (.int .i64 ((n+1:Nat):Int))) X (some ⟨g,off,none⟩) cap ws (n+1) 0∧B4 (((w.alloc zGW).drewN m).setCell ⟨X,1,none⟩ (.int .i64 ((n+1:Nat):Int))) w.heap.size (.int .i64 0) (.string ⟨#[]⟩) (.int .i64 0) (.int .i64 0)∧Fx X w (((w.alloc zGW).drewN m).setCell ⟨X,1,none⟩ (.int .i64 ((n+1:Nat):Int)))):=hfr
 have HX:Hid (∀ hn:n < ws.length,ws[n]=(K,seg,ln,co)):=hx
 clear hfr hL h2 h3 h4 hB0 hRv hrs e2 h0 hx hr
 go_enter Tryz.func104,Tryz.ntmps104
 go_wp2
 go_quiet (exact hRq _)
 obtain ⟨hR2,hB2,hF2⟩:=HF.out nq
 have hr1:=hR0.on (draws _ nq)
 clear c0 c1 c2 f1 f2 d0 d1 d2 d3
 obtain ⟨c0,c1,c2,f1,f2,hL⟩:=id hr1
 clear hL
 generalize (w.alloc zGW).drewN nq=w1 at *
 go_upto_region 5 with fail
 obtain ⟨y0,y1,y2,y3,z0,z1,z2,z3⟩:=id hB2
 clear c0 c1 c2 f1 f2 hr1
 obtain ⟨c0,c1,c2,f1,f2,hL⟩:=id hR2
 obtain ⟨g',off',hgg,hgX',d0,d1,d2,d3⟩:=hL n hn
 simp only [Option.some.injEq,Addr.mk.injEq,and_true] at hgg
 obtain ⟨rfl,rfl⟩:=hgg
 rw [HX.out hn] at d0 d1 d2 d3
 simp only [hbs] at d0 d1 d2 d3
 have i7:(((n+1:Nat):Int))=(n:Int)+1:=by omega
 rw [i7] at c1 y0 y1 y2 y3 z0 z1 z2 z3 hB2 hF2 hR2 c0 c2 f1 f2 d0 d1 d2 d3
 clear hL
 generalize w1.setCell ⟨X,1,none⟩ (.int .i64 ((n:Int)+1))=w2 at *
 go_region
 go_wp2
 exact bodyPost_ret (at4_res (hB2.put _ _ _ _).atP rfl) rfl ⟨rfl,HS.out _ ((hR2.put4 hX _ _ _ _).on ((Below.refl _ _).drew)),(hF2.put4' (Nat.le_refl _) _ _ _ _).drew⟩
theorem word_any {w:World}{X:Nat}{a:Option Addr}{cap:Nat}{ws:List Wd}{fin:Pl}{r:RsC}(h:Pr w X a cap ws fin r) (hk:Wk ws cap) (k:Nat) :
  Calls Tryz.prog 104 #[.pointer (some ⟨X,0,none⟩),.int .i64 (k:Int)] w fun e w'=>e=.returned (wdA (wordR k fin r).1)∧Pr w' X a cap ws fin (wordR k fin r).2∧Fx X w w':=by
 unfold wordR
 cases hr:r.1 with
 | nil=>exact word_no h hk k (.inr (.inl hr))
 | cons x l=>
  simp only
  by_cases hc:r.2.2=0∧x.1=k∧rsvB (tkW x).2=false
  ·rw [if_pos hc]
   obtain ⟨h0,rfl,hrs⟩:=hc
   exact word_yes h hk h0 hr hrs
  ·rw [if_neg hc]
   refine word_no h hk k ?_
   by_cases h0:r.2.2=0
   ·refine .inr (.inr ⟨x,l,hr,?_⟩)
    by_cases hk1:x.1=k
    ·refine .inr ?_
     cases hb:rsvB (tkW x).2 with
     | true=>rfl
     | false=>exact absurd ⟨h0,hk1,hb⟩ hc
    ·exact .inl hk1
   ·exact .inl h0
theorem own_one {w:World}{base e:Nat}{v:Value}{x:Wd}(h:OwnW w base e v [x]):∃ g cap,v=.slice (some ⟨g,0,none⟩) 1 cap∧base≤g∧g < w.heap.size∧w.cell? ⟨g,0,none⟩=some (.int .i64 (x.1:Int))∧w.cell? ⟨g,1,none⟩=some (.string (txt x.2.1)):=by
 have hc:=fun g=>World.ownsRow.cells h (g:=g)
 rcases h.2 with ⟨_,hn⟩ | ⟨g,cap,cur,rfl,hb,hg,_⟩
 ·simp at hn
 ·have c0:=hc g rfl 0 (.int .i64 (x.1:Int)) rfl
  have c1:=hc g rfl 1 (.string (txt x.2.1)) rfl
  rw [addr_plain] at c0 c1
  exact ⟨g,cap,rfl,hb,(Array.getElem?_eq_some_iff.1 hg).1,c0,c1⟩
theorem bl_txt (seg:List Ru):bl (txt seg)=byt seg:=rfl
set_option maxRecDepth 100000 in
set_option maxHeartbeats 4000000 in
theorem leafOf_any {K:Nat}{seg:List Ru}(h:OneW K seg) (ln co:Int) (w:World) (hK:K≠3) :
  Calls Tryz.prog 176 #[.agg #[.int .i64 (K:Int),.string (txt seg),.int .i64 ln,.int .i64 co]] w fun e w'=>
   e=.returned (match leafY (valB 0) rsvB (K,byt seg) with | some x=>.tuple #[exX x,.bool true] | none=>.tuple #[.nilIface,.bool false])∧Below w.heap.size w w':=by
 have hW:=fun w1=>pWords_any (txt seg) w1 (by have:=h.l;rw [← bl_length,bl_txt];omega)
 simp only [bl_txt,h.words] at hW
 have hP:=pParseInt_any (txt seg)
 have hR:=fun w1=>pReserved_any (txt seg) w1
 have hkind:=h.kind
 rw [bl_txt] at hP hR
 have hq0:Below w.heap.size w (w.alloc (.cells #[.int .i64 (K:Int),.string (txt seg),.int .i64 ln,.int .i64 co] 100)):=(Below.refl _ _).alloc (Nat.le_refl _) _
 have hA0:=At4.new w (.int .i64 (K:Int)) (.string (txt seg)) (.int .i64 ln) (.int .i64 co) 100
 obtain ⟨tx,htx⟩:∃ tx,txt seg=tx:=⟨_,rfl⟩
 simp only [htx] at hW hP hR hq0 hA0 ⊢
 have hbeq:(tx.toList != tx.toList)=false:=by simp
 have drN:∀ (wx:World) (m:Nat),Below w.heap.size w wx→Below w.heap.size w (wx.drewN m):=fun wx m hx=>hx.trans (below_draws _ _ m)
 rcases hkind with ⟨rfl,hn⟩ | ⟨rfl,hn⟩ | ⟨rfl,_⟩
 ·obtain ⟨y0,y1,y2,y3⟩:=id hA0
  obtain ⟨rb,hrb⟩:∃ rb,rsvB (byt seg)=rb:=⟨_,rfl⟩
  have hv:leafY (valB 0) rsvB (1,byt seg)=if rb=false then some (mk0 2 0 ⟨(byt seg).toArray⟩) else none:=by
   unfold leafY
   rw [if_neg (by show ¬ 1=2;decide),hrb]
   cases rb <;> rfl
  rw [hv]
  have hex:∀ x,(⟨(byt seg).toArray⟩:ByteArray)=x→exX (mk0 2 0 ⟨(byt seg).toArray⟩)=.iface 106 (.agg #[.string x]):=fun x hx=>by rw [hx];exact exX_ref x
  have hex:=hex tx htx
  rw [hrb] at hR
  clear hv hn hrb
  cases rb with
  | false=>
   rw [if_pos rfl]
   simp only [hex]
   go_enter Tryz.func176,Tryz.ntmps176
   go_wp2_with (first
    | (go_at_call 34;refine (hW _).mono ?_;rintro e w1 ⟨u,rfl,hown,b1⟩;obtain ⟨g,cap,rfl,q1,q2,c0,c1⟩:=own_one hown;have hA1:=hA0.keepB b1 (by simp);have hb1:=hq0.trans (b1.mono hq0.size);have hB2:=(Below.refl w1.heap.size w1).alloc (Nat.le_refl _) (.cells #[.int .i64 0,.int .i64 0] 23);have d0:(w1.alloc (.cells #[.int .i64 0,.int .i64 0] 23)).cell? ⟨g,0,none⟩=some (.int .i64 1):=(hB2.cell (p:=⟨g,0,none⟩) q2).trans c0;have d1:(w1.alloc (.cells #[.int .i64 0,.int .i64 0] 23)).cell? ⟨g,1,none⟩=some (.string tx):=((hB2.cell (p:=⟨g,1,none⟩) q2).trans c1).trans (congrArg (fun z=>some (Value.string z)) htx);have hA2:=hA1.keepB hB2 (World.block_lt_of_cell? w1 _ hA1.1);have hb2:=hb1.trans (hB2.mono hb1.size);obtain ⟨z0,z1,z2,z3⟩:=id hA2;clear hA1 hA0 hB2 c0 c1 hown b1 hb1 hW hq0 y0 y1 y2 y3))
   generalize w1.alloc (.cells #[.int .i64 0,.int .i64 0] 23)=w2 at *
   go_quiet (fail)
   go_wp2_with (first
    | (go_at_call 41;refine (hR _).mono ?_;rintro e w3 ⟨rfl,rfl⟩))
   go_ret2
   exact ⟨rfl,drN _ _ hb2⟩
  | true=>
   rw [if_neg (by decide)]
   simp only
   go_enter Tryz.func176,Tryz.ntmps176
   go_wp2_with (first
    | (go_at_call 34;refine (hW _).mono ?_;rintro e w1 ⟨u,rfl,hown,b1⟩;obtain ⟨g,cap,rfl,q1,q2,c0,c1⟩:=own_one hown;have hA1:=hA0.keepB b1 (by simp);have hb1:=hq0.trans (b1.mono hq0.size);have hB2:=(Below.refl w1.heap.size w1).alloc (Nat.le_refl _) (.cells #[.int .i64 0,.int .i64 0] 23);have d0:(w1.alloc (.cells #[.int .i64 0,.int .i64 0] 23)).cell? ⟨g,0,none⟩=some (.int .i64 1):=(hB2.cell (p:=⟨g,0,none⟩) q2).trans c0;have d1:(w1.alloc (.cells #[.int .i64 0,.int .i64 0] 23)).cell? ⟨g,1,none⟩=some (.string tx):=((hB2.cell (p:=⟨g,1,none⟩) q2).trans c1).trans (congrArg (fun z=>some (Value.string z)) htx);have hA2:=hA1.keepB hB2 (World.block_lt_of_cell? w1 _ hA1.1);have hb2:=hb1.trans (hB2.mono hb1.size);obtain ⟨z0,z1,z2,z3⟩:=id hA2;clear hA1 hA0 hB2 c0 c1 hown b1 hb1 hW hq0 y0 y1 y2 y3))
   generalize w1.alloc (.cells #[.int .i64 0,.int .i64 0] 23)=w2 at *
   go_quiet (fail)
   go_wp2_with (first
    | (go_at_call 41;refine (hR _).mono ?_;rintro e w3 ⟨rfl,rfl⟩))
   go_ret2
   exact ⟨rfl,drN _ _ hb2⟩
 ·have hv:leafY (valB 0) rsvB (2,byt seg)=some (mk0 1 (valB 0 (byt seg)) ⟨#[]⟩):=by unfold leafY;rw [if_pos rfl]
  rw [hv]
  simp only [exX_lit]
  have hP1:=hP hn
  obtain ⟨vb,hvb⟩:∃ vb,valB 0 (byt seg)=vb:=⟨_,rfl⟩
  rw [hvb] at hP1 ⊢
  clear hv hn hP hvb
  obtain ⟨y0,y1,y2,y3⟩:=id hA0
  go_enter Tryz.func176,Tryz.ntmps176
  go_wp2_with (first
   | (go_at_call 34;refine (hW _).mono ?_;rintro e w1 ⟨u,rfl,hown,b1⟩;obtain ⟨g,cap,rfl,q1,q2,c0,c1⟩:=own_one hown;have hA1:=hA0.keepB b1 (by simp);have hb1:=hq0.trans (b1.mono hq0.size);have hB2:=(Below.refl w1.heap.size w1).alloc (Nat.le_refl _) (.cells #[.int .i64 0,.int .i64 0] 23);have d0:(w1.alloc (.cells #[.int .i64 0,.int .i64 0] 23)).cell? ⟨g,0,none⟩=some (.int .i64 2):=(hB2.cell (p:=⟨g,0,none⟩) q2).trans c0;have d1:(w1.alloc (.cells #[.int .i64 0,.int .i64 0] 23)).cell? ⟨g,1,none⟩=some (.string tx):=((hB2.cell (p:=⟨g,1,none⟩) q2).trans c1).trans (congrArg (fun z=>some (Value.string z)) htx);have hA2:=hA1.keepB hB2 (World.block_lt_of_cell? w1 _ hA1.1);have hb2:=hb1.trans (hB2.mono hb1.size);obtain ⟨z0,z1,z2,z3⟩:=id hA2;clear hA1 hA0 hB2 c0 c1 hown b1 hb1 hW hq0 y0 y1 y2 y3))
  generalize w1.alloc (.cells #[.int .i64 0,.int .i64 0] 23)=w2 at *
  go_quiet (fail)
  go_wp2_with (first
   | (go_at_call 182;refine (hP1 _).mono ?_;rintro e w3 ⟨rfl,b3⟩;have hb3:=(drN _ _ hb2).trans (b3.mono (drN _ _ hb2).size)))
  go_region
  all_goals go_wp2
  all_goals go_ret2
  all_goals exact ⟨rfl,hb3.drew⟩
 ·exact absurd rfl hK
/-- A word in memory, as a value. -/
abbrev wdV (K:Nat) (seg:List Ru) (ln co:Int):Value:=.agg #[.int .i64 (K:Int),.string (txt seg),.int .i64 ln,.int .i64 co]
theorem src_expr {P:Program}{t e:TypeId}(ht:P.underlying t=some (.slice e)) (w:World) (v:Value) (hv:v=.nilIface∨∃ u y,v=.iface u y) :
  Src P 1 t (.slice (some ⟨w.heap.size,0,none⟩) 1 1) 1 [v] (w.alloc (.cells #[v] e)):=by
 have h:=World.ownsRow_lit (base:=w.heap.size) (e:=e) (size:=1) w #[v] 1 (Nat.le_refl _) (by simp [maxLen]) (by simp)
 refine Src.ofSlice _ ht _ 1 1 _ (by simp) (by simpa using h.cells (g:=w.heap.size) rfl) (fun u hu=>?_)
 simp only [List.mem_singleton] at hu
 rcases hv with rfl | ⟨u',y',rfl⟩ <;> subst hu <;> rfl
theorem leaf_form {w:Tk}{x:Sx}(h:leafY (valB 0) rsvB w=some x):∃ u y,exX x=.iface u y:=by
 unfold leafY at h
 split at h
 ·obtain rfl:=Option.some.inj h;exact ⟨_,_,exX_lit _⟩
 ·split at h
  ·obtain rfl:=Option.some.inj h;exact ⟨_,_,exX_ref _⟩
  ·cases h
set_option maxRecDepth 100000 in
set_option maxHeartbeats 4000000 in
theorem ahead_leaf {w:World}{X K:Nat}{seg:List Ru}{V:List Sx}{W:List Sg2}{o:Nat}{vv ww:Value}(h:Rdr w X ⟨V,W,o,false⟩ vv ww) (h1:OneW K seg) (ln co:Int) (hK:K≠3) (hl:V.length≤3001) {x:Sx}(hx:leafY (valB 0) rsvB (K,byt seg)=some x) :
  Calls Tryz.prog 166 #[.pointer (some ⟨X,0,none⟩),wdV K seg ln co] w fun e w'=>e=.returned (.bool true)∧(∃ vv' ww',Rdr w' X ⟨x :: V,W,o,true⟩ vv' ww')∧Below X w w':=by
 obtain ⟨i0,hi,hz0,hz1,hz2⟩:=info_parts Tryz.infoE
 have hL:=fun w1=>leafOf_any h1 ln co w1 hK
 rw [hx] at hL
 simp only at hL
 have hxf:∃ u y,exX x=.iface u y:=leaf_form hx
 obtain ⟨xv,hxv⟩:∃ xv,exX x=xv:=⟨_,rfl⟩
 simp only [hxv] at hL hxf
 obtain ⟨a,cap,rfl,hcap⟩:=own_form h.v
 simp only at h
 obtain ⟨tx,htx⟩:∃ tx,txt seg=tx:=⟨_,rfl⟩
 unfold wdV
 simp only [htx] at hL ⊢
 have hq0:Below w.heap.size w (w.alloc (.cells #[.int .i64 (K:Int),.string tx,.int .i64 ln,.int .i64 co] 100)):=(Below.refl _ _).alloc (Nat.le_refl _) _
 have hA0:=At4.new w (.int .i64 (K:Int)) (.string tx) (.int .i64 ln) (.int .i64 co) 100
 obtain ⟨y0,y1,y2,y3⟩:=id hA0
 have k3:((K:Int) != 3)=true:=by simp;omega
 clear h1 hx htx
 obtain ⟨xu,xy,rfl⟩:=hxf
 ·go_enter Tryz.func166,Tryz.ntmps166
  go_wp2_with (first
   | (go_at_call 176;refine (hL _).mono ?_;rintro e w1 ⟨rfl,b1⟩;have hb1:=hq0.trans (b1.mono hq0.size);have hr1:=h.on hb1;obtain ⟨z0,z1,z2,z3,g0,g1,g2,g3⟩:=id hr1.b)
   | (at_builtin;refine wpList_append_at _ rfl (.tmp 20) (.tmp 22) 170 170 rfl (X+1) 76 i0 .nilIface 1 16 Tryz.underlying170 hi hz0 hz1 hz2 rfl _ V.length _ rfl (World.ownsRow.alloc hr1.v _) _ 1 [.iface xu xy] rfl (src_expr Tryz.underlying170 w1 _ (.inr ⟨_,_,rfl⟩)) 1 (.inr (by omega)) (Nat.le_refl _) (by unfold maxLen;omega) (by simp;have:=hr1.lt;omega) ?_;intro v4 w4 ho6 hg4 hat;obtain ⟨a4,cap4,rfl,hc4⟩:=own_form ho6;have hr4:=hr1.on ((Below.refl _ w1).alloc (Nat.le_refl _) (.cells #[.iface xu xy] 76));have hb4:Below (X+1) (w1.alloc (.cells #[.iface xu xy] 76)) w4:=(Below.refl _ _).grown hg4 (by simp;have:=hr1.lt;omega) (fun k hk=>(World.ownsRow.lt hr1.v k hk).1);have hB4:=hr4.b.keepB hb4 (Nat.lt_succ_self X);clear z0 z1 z2 z3 g0 g1 g2 g3;obtain ⟨z0,z1,z2,z3,g0,g1,g2,g3⟩:=id hB4))
  go_ret
  have hne:ww.ownBlock=none∨ww.ownBlock≠(Value.slice a V.length cap).ownBlock:=by
   cases hq:ww.ownBlock with
   | none=>exact .inl rfl
   | some g=>exact .inr (fun e=>h.a g e.symm hq)
  have hw4:=World.ownsRow.kept hr4.w hg4 hne
  have hbb:Below X w w4:=((hb1.mono (Nat.le_of_lt h.lt)).alloc (Nat.le_of_lt hr1.lt) _).trans (hb4.mono (Nat.le_succ X))
  refine ⟨rfl,⟨_,_,(hB4.set0 _).set3 _,?_,ownsRow_setCell_below (ownsRow_setCell_below hw4 (Nat.lt_succ_self X) _) (Nat.lt_succ_self X) _,fun g hg e=>?_⟩,(hbb.setCell (Nat.le_refl X) _).setCell (Nat.le_refl X) _⟩
  ·refine ownsRow_setCell_below (ownsRow_setCell_below ?_ (Nat.lt_succ_self X) _) (Nat.lt_succ_self X) _
   show World.ownsRow _ _ _ _ _ (V.length+1) ((x :: V).reverse.map exX)
   rw [List.reverse_cons,List.map_append,List.map_singleton,hxv]
   exact ho6
  ·rcases hat with q | q
   ·exact h.a g (q.symm.trans hg) e
   ·have hlt:=(World.ownsRow.lt hr1.w g e).2
    have:some g=some (w1.alloc (.cells #[.iface xu xy] 76)).heap.size:=hg.symm.trans q
    simp at this
    omega
set_option maxRecDepth 100000 in
set_option maxHeartbeats 4000000 in
theorem ahead_no {w:World}{X K:Nat}{seg:List Ru}{V:List Sx}{W:List Sg2}{o:Nat}{vv ww:Value}(h:Rdr w X ⟨V,W,o,false⟩ vv ww) (h1:OneW K seg) (ln co:Int) (hK:K≠3) (hx:leafY (valB 0) rsvB (K,byt seg)=none) :
  Calls Tryz.prog 166 #[.pointer (some ⟨X,0,none⟩),wdV K seg ln co] w fun e w'=>e=.returned (.bool false)∧(∃ vv' ww',Rdr w' X ⟨V,W,o,false⟩ vv' ww')∧Below X w w':=by
 have hL:=fun w1=>leafOf_any h1 ln co w1 hK
 rw [hx] at hL
 simp only at hL
 obtain ⟨tx,htx⟩:∃ tx,txt seg=tx:=⟨_,rfl⟩
 unfold wdV
 simp only [htx] at hL ⊢
 have hq0:Below w.heap.size w (w.alloc (.cells #[.int .i64 (K:Int),.string tx,.int .i64 ln,.int .i64 co] 100)):=(Below.refl _ _).alloc (Nat.le_refl _) _
 have hA0:=At4.new w (.int .i64 (K:Int)) (.string tx) (.int .i64 ln) (.int .i64 co) 100
 obtain ⟨y0,y1,y2,y3⟩:=id hA0
 have k3:((K:Int) != 3)=true:=by simp;omega
 clear h1 hx htx
 go_enter Tryz.func166,Tryz.ntmps166
 go_wp2_with (first
  | (go_at_call 176;refine (hL _).mono ?_;rintro e w1 ⟨rfl,b1⟩;have hb1:=hq0.trans (b1.mono hq0.size);have hr1:=h.on hb1))
 go_ret
 exact ⟨rfl,⟨_,_,hr1⟩,hb1.mono (Nat.le_of_lt h.lt)⟩
theorem Rdr.setO {w:World}{X:Nat}{V:List Sx}{W:List Sg2}{o:Nat}{b:Bool}{vv ww:Value}(h:Rdr w X ⟨V,W,o,b⟩ vv ww) (o':Nat):Rdr (w.setCell ⟨X,2,none⟩ (.int .i64 (o':Int))) X ⟨V,W,o',b⟩ vv ww:=
 ⟨h.b.set2 _,ownsRow_setCell_below h.v (Nat.lt_succ_self X) _,ownsRow_setCell_below h.w (Nat.lt_succ_self X) _,h.a⟩
theorem Rdr.setB {w:World}{X:Nat}{V:List Sx}{W:List Sg2}{o:Nat}{b:Bool}{vv ww:Value}(h:Rdr w X ⟨V,W,o,b⟩ vv ww) (b':Bool):Rdr (w.setCell ⟨X,3,none⟩ (.bool b')) X ⟨V,W,o,b'⟩ vv ww:=
 ⟨h.b.set3 _,ownsRow_setCell_below h.v (Nat.lt_succ_self X) _,ownsRow_setCell_below h.w (Nat.lt_succ_self X) _,h.a⟩
abbrev sgV (t:List UInt8) (ln co:Int):Value:=.agg #[.int .i64 3,.string ⟨t.toArray⟩,.int .i64 ln,.int .i64 co]
set_option maxRecDepth 100000 in
set_option maxHeartbeats 4000000 in
theorem ahead_par {w:World}{X:Nat}{V:List Sx}{W:List Sg2}{o:Nat}{vv ww:Value}(h:Rdr w X ⟨V,W,o,false⟩ vv ww) (ln co:Int) (hl:W.length≤3001) (ho:o≤4000) :
  Calls Tryz.prog 166 #[.pointer (some ⟨X,0,none⟩),sgV [40] ln co] w fun e w'=>e=.returned (.bool true)∧(∃ vv' ww',Rdr w' X ⟨V,([40],0) :: W,o+1,false⟩ vv' ww')∧Below X w w':=by
 have hX:=h.lt
 have hq1:Rdr (w.setCell ⟨X,2,none⟩ (.int .i64 ((o:Int)+1))) X ⟨V,W,o+1,false⟩ vv ww:=h.setO (o+1)
 have hq0:Below w.heap.size w (w.alloc (.cells #[.int .i64 3,.string ⟨#[40]⟩,.int .i64 ln,.int .i64 co] 100)):=(Below.refl _ _).alloc (Nat.le_refl _) _
 have hA0:=At4.new w (.int .i64 3) (.string ⟨#[40]⟩) (.int .i64 ln) (.int .i64 co) 100
 obtain ⟨y0,y1,y2,y3⟩:=id hA0
 have hr0:=h.on hq0
 obtain ⟨z0,z1,z2,z3,g0,g1,g2,g3⟩:=id hr0.b
 have i1:IntKind.i64.wrap ((o:Int)+1)=(o:Int)+1:=by rw [IntKind.wrap_i64];omega
 simp only at z2
 have hW:=fun w1 (hr:Rdr w1 X ⟨V,W,o+1,false⟩ vv ww)=>wait_any hr [40] 0 (by omega) hl (by simp)
 unfold sgV
 go_enter Tryz.func166,Tryz.ntmps166
 go_wp2_with (first
  | (go_at_call 175;refine (hW _ (hq1.on ((Below.refl _ _).alloc (Nat.le_refl _) _))).mono ?_;rintro e w1 ⟨⟨u,rfl⟩,⟨ww1,hr1⟩,b1⟩))
 go_ret
 refine ⟨rfl,⟨_,_,hr1⟩,Below.trans (((Below.refl X w).setCell (Nat.le_refl X) _).alloc (by simp;omega) _) b1⟩
set_option maxRecDepth 100000 in
set_option maxHeartbeats 4000000 in
theorem ahead_un {w:World}{X:Nat}{V:List Sx}{W:List Sg2}{o:Nat}{vv ww:Value}(h:Rdr w X ⟨V,W,o,false⟩ vv ww) (t:List UInt8) (hu:t=[33]∨t=[45]) (ln co:Int) (hl:W.length≤3001) :
  Calls Tryz.prog 166 #[.pointer (some ⟨X,0,none⟩),sgV t ln co] w fun e w'=>e=.returned (.bool true)∧(∃ vv' ww',Rdr w' X ⟨V,(t,6) :: W,o,false⟩ vv' ww')∧Below X w w':=by
 have hX:=h.lt
 have hW:=fun w1 (hr:Rdr w1 X ⟨V,W,o,false⟩ vv ww)=>wait_any hr t 6 (by omega) hl (by rcases hu with rfl | rfl <;> simp)
 have hq0:Below w.heap.size w (w.alloc (.cells #[.int .i64 3,.string ⟨t.toArray⟩,.int .i64 ln,.int .i64 co] 100)):=(Below.refl _ _).alloc (Nat.le_refl _) _
 have hA0:=At4.new w (.int .i64 3) (.string ⟨t.toArray⟩) (.int .i64 ln) (.int .i64 co) 100
 obtain ⟨y0,y1,y2,y3⟩:=id hA0
 have hr0:=h.on hq0
 have hW0:=hW _ hr0
 unfold sgV
 rcases hu with rfl | rfl
 all_goals (
  go_enter Tryz.func166,Tryz.ntmps166
  go_wp2_with (first
   | (go_at_call 175;refine hW0.mono ?_;rintro e w1 ⟨⟨u,rfl⟩,⟨ww1,hr1⟩,b1⟩))
  go_ret
  exact ⟨rfl,⟨_,_,hr1⟩,(hq0.mono (Nat.le_of_lt hX)).trans b1⟩)
set_option maxRecDepth 100000 in
set_option maxHeartbeats 4000000 in
theorem ahead_sign {w:World}{X:Nat}{V:List Sx}{W:List Sg2}{o:Nat}{vv ww:Value}(h:Rdr w X ⟨V,W,o,false⟩ vv ww) (t:List UInt8) (ht:t.length≤12000) (ln co:Int) (hl:W.length≤3001) (ho:o≤4000) :
  Calls Tryz.prog 166 #[.pointer (some ⟨X,0,none⟩),sgV t ln co] w fun e w'=>e=.returned (.bool (stA (leafY (valB 0) rsvB) ⟨V,W,o,false⟩ (3,t)).2)∧(∃ vv' ww',Rdr w' X (stA (leafY (valB 0) rsvB) ⟨V,W,o,false⟩ (3,t)).1 vv' ww')∧Below X w w':=by
 have hq0:Below w.heap.size w (w.alloc (.cells #[.int .i64 3,.string ⟨t.toArray⟩,.int .i64 ln,.int .i64 co] 100)):=(Below.refl _ _).alloc (Nat.le_refl _) _
 have hA0:=At4.new w (.int .i64 3) (.string ⟨t.toArray⟩) (.int .i64 ln) (.int .i64 co) 100
 obtain ⟨y0,y1,y2,y3⟩:=id hA0
 have hr0:=h.on hq0
 have hX:=h.lt
 obtain ⟨z0,z1,z2,z3,g0,g1,g2,g3⟩:=id hr0.b
 unfold stA sgV
 rw [if_neg (by simp)]
 by_cases h40:t=[40]
 ·subst h40
  rw [if_pos rfl]
  exact ahead_par h ln co hl ho
 ·rw [if_neg h40]
  by_cases hu:t=[33]∨t=[45]
  ·rw [if_pos hu]
   exact ahead_un h t hu ln co hl
  ·rw [if_neg hu]
   have e1:(t == [40])=false:=beq_eq_false_iff_ne.2 h40
   have e2:(t == [33])=false:=beq_eq_false_iff_ne.2 (fun e=>hu (.inl e))
   have e3:(t == [45])=false:=beq_eq_false_iff_ne.2 (fun e=>hu (.inr e))
   go_enter Tryz.func166,Tryz.ntmps166
   go_wp2
   go_ret
   exact ⟨rfl,⟨_,_,hr0⟩,hq0.mono (Nat.le_of_lt h.lt)⟩
set_option maxRecDepth 100000 in
set_option maxHeartbeats 4000000 in
theorem behind_kind {w:World}{X K:Nat}{seg:List Ru}{y:Yd}{vv ww:Value}(h:Rdr w X y vv ww) (ln co:Int) (hK:K≠3) :
  Calls Tryz.prog 165 #[.pointer (some ⟨X,0,none⟩),wdV K seg ln co] w fun e w'=>e=.returned (.bool false)∧(∃ vv' ww',Rdr w' X y vv' ww')∧Below X w w':=by
 obtain ⟨tx,htx⟩:∃ tx,txt seg=tx:=⟨_,rfl⟩
 unfold wdV
 rw [htx]
 have hq0:Below w.heap.size w (w.alloc (.cells #[.int .i64 (K:Int),.string tx,.int .i64 ln,.int .i64 co] 100)):=(Below.refl _ _).alloc (Nat.le_refl _) _
 have k3:((K:Int) != 3)=true:=by simp;omega
 go_enter Tryz.func165,Tryz.ntmps165
 go_wp2
 go_ret
 exact ⟨rfl,⟨_,_,h.on hq0⟩,hq0.mono (Nat.le_of_lt h.lt)⟩
set_option maxRecDepth 100000 in
set_option maxHeartbeats 4000000 in
theorem behind_shut {w:World}{X:Nat}{V:List Sx}{W:List Sg2}{o:Nat}{b:Bool}{vv ww:Value}(h:Rdr w X ⟨V,W,o,b⟩ vv ww) (ln co:Int) (hob:o=brk W) (hV:V.length=bins W+1) (hl:W.length≤3001) :
  Calls Tryz.prog 165 #[.pointer (some ⟨X,0,none⟩),sgV [41] ln co] w fun e w'=>e=.returned (.bool (stB ⟨V,W,o,b⟩ (3,[41])).2)∧(∃ vv' ww',Rdr w' X (stB ⟨V,W,o,b⟩ (3,[41])).1 vv' ww')∧Below X w w':=by
 have hq0:Below w.heap.size w (w.alloc (.cells #[.int .i64 3,.string ⟨#[41]⟩,.int .i64 ln,.int .i64 co] 100)):=(Below.refl _ _).alloc (Nat.le_refl _) _
 have hr0:=h.on hq0
 have hX:=h.lt
 have hb0:=hq0.mono (Nat.le_of_lt hX)
 unfold sgV
 by_cases ho:o=0
 ·rw [stB_shut0 (by simp) rfl ho]
  subst ho
  clear hob
  have hC:=closes_no hr0
  go_enter Tryz.func165,Tryz.ntmps165
  go_wp2_with (first
   | (go_at_call 173;refine hC.mono ?_;rintro e w1 ⟨rfl,rfl⟩))
  go_ret
  exact ⟨rfl,⟨_,_,hr0⟩,hb0⟩
 ·rw [stB_shut (by simp) rfl ho]
  have hC:=closes_yes hr0 ho hob hV hl
  go_enter Tryz.func165,Tryz.ntmps165
  go_wp2_with (first
   | (go_at_call 173;refine hC.mono ?_;rintro e w1 ⟨rfl,⟨vv1,ww1,hr1⟩,b1⟩))
  go_ret
  exact ⟨rfl,⟨_,_,hr1⟩,hb0.trans b1⟩
set_option maxRecDepth 100000 in
set_option maxHeartbeats 4000000 in
theorem behind_none {w:World}{X:Nat}{y:Yd}{vv ww:Value}(h:Rdr w X y vv ww) (t:List UInt8) (ln co:Int) (h41:¬ t=[41]) (hv:lv t=0) :
  Calls Tryz.prog 165 #[.pointer (some ⟨X,0,none⟩),sgV t ln co] w fun e w'=>e=.returned (.bool false)∧(∃ vv' ww',Rdr w' X y vv' ww')∧Below X w w':=by
 have hq0:Below w.heap.size w (w.alloc (.cells #[.int .i64 3,.string ⟨t.toArray⟩,.int .i64 ln,.int .i64 co] 100)):=(Below.refl _ _).alloc (Nat.le_refl _) _
 have hL:=fun w1=>pLevel_any ⟨t.toArray⟩ w1
 have e:lv (bl ⟨t.toArray⟩)=0:=hv
 rw [e] at hL
 have e1:(t == [41])=false:=beq_eq_false_iff_ne.2 h41
 clear e hv
 unfold sgV
 go_enter Tryz.func165,Tryz.ntmps165
 go_wp2_with (first
  | (go_at_call 154;refine (hL _).mono ?_;rintro e w1 ⟨rfl,rfl⟩))
 go_ret
 exact ⟨rfl,⟨_,_,h.on hq0⟩,hq0.mono (Nat.le_of_lt h.lt)⟩
theorem At4.blk {w w':World}{N:Nat}{a b c e:Value}(h:At4 w N a b c e) (hb:w'.heap[N]?=w.heap[N]?):At4 w' N a b c e:=by
 refine ⟨?_,?_,?_,?_⟩
 ·rw [World.cell?_of_block (w:=w) (a:=⟨N,0,none⟩) hb];exact h.1
 ·rw [World.cell?_of_block (w:=w) (a:=⟨N,1,none⟩) hb];exact h.2.1
 ·rw [World.cell?_of_block (w:=w) (a:=⟨N,2,none⟩) hb];exact h.2.2.1
 ·rw [World.cell?_of_block (w:=w) (a:=⟨N,3,none⟩) hb];exact h.2.2.2
set_option maxRecDepth 100000 in
set_option maxHeartbeats 4000000 in
theorem behind_op {w:World}{X:Nat}{V:List Sx}{W:List Sg2}{o:Nat}{b:Bool}{vv ww:Value}(h:Rdr w X ⟨V,W,o,b⟩ vv ww) (t:List UInt8) (ln co:Int) (k:Nat) (hk:lv t=k) (hk1:1≤k) (hV:V.length=bins W+1) (hl:W.length≤3001) :
  Calls Tryz.prog 165 #[.pointer (some ⟨X,0,none⟩),sgV t ln co] w fun e w'=>e=.returned (.bool (stB ⟨V,W,o,b⟩ (3,t)).2)∧(∃ vv' ww',Rdr w' X (stB ⟨V,W,o,b⟩ (3,t)).1 vv' ww')∧Below X w w':=by
 have hq0:Below w.heap.size w (w.alloc (.cells #[.int .i64 3,.string ⟨t.toArray⟩,.int .i64 ln,.int .i64 co] 100)):=(Below.refl _ _).alloc (Nat.le_refl _) _
 have hr0:=h.on hq0
 have hX:=h.lt
 have hb0:=hq0.mono (Nat.le_of_lt hX)
 have hA0:=At4.new w (.int .i64 3) (.string ⟨t.toArray⟩) (.int .i64 ln) (.int .i64 co) 100
 have hkeep:∀ w1 vv1 ww1,Fr2 X vv ww (w.alloc (.cells #[.int .i64 3,.string ⟨t.toArray⟩,.int .i64 ln,.int .i64 co] 100)) w1 vv1 ww1→At4 w1 w.heap.size (.int .i64 3) (.string ⟨t.toArray⟩) (.int .i64 ln) (.int .i64 co):=fun w1 vv1 ww1 hf=>
  hA0.blk (hf.block _ (by simp) (by omega) (fun e=>by have:=(World.ownsRow.lt h.v _ e).2;omega) (fun e=>by have:=(World.ownsRow.lt h.w _ e).2;omega))
 have hL:=fun w1=>pLevel_any ⟨t.toArray⟩ w1
 have e:lv (bl ⟨t.toArray⟩)=k:=hk
 rw [e] at hL
 have hk5:=lv_le t
 rw [hk] at hk5
 have e1:(t == [41])=false:=beq_eq_false_iff_ne.2 (not41 (by omega))
 have ht:=(lv_opr (s:=t) (by omega)).2
 have k0:((k:Int) == 0)=false:=beq_eq_false_iff_ne.2 (by omega)
 have i1:IntKind.i64.wrap ((k:Int)+1)=(k:Int)+1:=by rw [IntKind.wrap_i64];omega
 have hJ1:=join_any hr0 (k+1) (by omega) (by omega) hV hl
 obtain ⟨a1,a2,a3,a4⟩:=jn_ok (k:=k+1) (by omega) W V hV
 have hjj:=jn_jn (k:=k) (k':=k+1) (by omega) W V
 obtain ⟨b1,b2,b3,b4⟩:=jn_ok (k:=k) (by omega) W V hV
 have hN:∀ m:Nat,(((m+1:Nat)):Int)=(m:Int)+1:=fun m=>by omega
 rw [hN] at hJ1
 have hLa:=fun w1 vv1 ww1 (hr1:Rdr w1 X ⟨(jn (k+1) V W).1,(jn (k+1) V W).2,o,b⟩ vv1 ww1)=>last_any hr1 (by show (jn (k+1) V W).2.length≤4000;omega)
 simp only at hLa
 have hJ2:=fun w1 vv1 ww1 (hr1:Rdr w1 X ⟨(jn (k+1) V W).1,(jn (k+1) V W).2,o,b⟩ vv1 ww1)=>join_any hr1 k (by omega) (by omega) a1 (by omega)
 rw [hjj] at hJ2
 obtain ⟨V1,hV1⟩:∃ V1,(jn (k+1) V W).1=V1:=⟨_,rfl⟩
 obtain ⟨W1,hW1⟩:∃ W1,(jn (k+1) V W).2=W1:=⟨_,rfl⟩
 obtain ⟨V2,hV2⟩:∃ V2,(jn k V W).1=V2:=⟨_,rfl⟩
 obtain ⟨W2,hW2⟩:∃ W2,(jn k V W).2=W2:=⟨_,rfl⟩
 have hWt:=fun w1 vv1 ww1 (hr1:Rdr w1 X ⟨V2,W2,o,b⟩ vv1 ww1)=>wait_any hr1 t k (by omega) (by rw [← hW2];omega) (by omega)
 simp only [hV1,hW1,hV2,hW2] at hJ1 hJ2 hLa a1 a2 a3 a4
 by_cases htwo:k=3∧topL (jn (k+1) V W).2=3
 ·obtain ⟨h3,ht3⟩:=htwo
  subst h3
  rw [stB_two (by simp) hk ht3]
  simp only [hV1,hW1] at ht3 ⊢
  rw [ht3] at hLa
  clear hjj hV1 hW1 hV2 hW2 hWt hJ2 h hk
  unfold sgV
  go_enter Tryz.func165,Tryz.ntmps165
  go_wp2_with (first
   | (go_at_call 154;refine (hL _).mono ?_;rintro e w1 ⟨rfl,rfl⟩)
   | (go_at_call 167;refine hJ1.mono ?_;rintro e w1 ⟨⟨u,rfl⟩,⟨vv1,ww1,hr1,hf1⟩,b1⟩)
   | (go_at_call 174;refine (hLa _ _ _ hr1).mono ?_;rintro e w2 ⟨rfl,m,rfl⟩))
  go_ret
  exact ⟨rfl,⟨_,_,hr1.drewN m⟩,(hb0.trans b1).trans (below_draws _ _ m)⟩
 ·rw [stB_op (by simp) hk hk1 htwo]
  simp only [hV1,hW1] at htwo
  simp only [hV2,hW2]
  unfold sgV
  by_cases h3:k=3
  ·have ht3:((topL W1:Int) == 3)=false:=beq_eq_false_iff_ne.2 (fun e=>htwo ⟨h3,by omega⟩)
   have k3:((k:Int) == 3)=true:=by simp;omega
   clear hjj hV1 hW1 hV2 hW2 h hk htwo h3 e
   go_enter Tryz.func165,Tryz.ntmps165
   go_wp2_with (first
    | (go_at_call 175;refine (hWt _ _ _ hr3).mono ?_;rintro e w4 ⟨⟨u4,rfl⟩,⟨ww4,hr4⟩,b4⟩;obtain ⟨z0,z1,z2,z3,g0,g1,g2,g3⟩:=id hr4.b)
    | (go_at_call 167;refine (hJ2 _ _ _ hr2).mono ?_;rintro e w3 ⟨⟨u3,rfl⟩,⟨vv3,ww3,hr3,hf3⟩,b3⟩;obtain ⟨x0,x1,x2,x3⟩:=hkeep _ _ _ ((hf1.on (below_draws _ _ m)).trans hf3))
    | (go_at_call 174;refine (hLa _ _ _ hr1).mono ?_;rintro e w2 ⟨rfl,m,rfl⟩;have hr2:=hr1.drewN m)
    | (go_at_call 154;refine (hL _).mono ?_;rintro e w1 ⟨rfl,rfl⟩)
    | (go_at_call 167;refine hJ1.mono ?_;rintro e w1 ⟨⟨u,rfl⟩,⟨vv1,ww1,hr1,hf1⟩,b1⟩))
   go_ret
   exact ⟨rfl,⟨_,_,hr4.setB false⟩,((((hb0.trans b1).trans (below_draws _ _ m)).trans b3).trans b4).setCell (Nat.le_refl X) _⟩
  ·have k3:((k:Int) == 3)=false:=beq_eq_false_iff_ne.2 (by omega)
   clear hjj hV1 hW1 hV2 hW2 h hk htwo h3 e
   go_enter Tryz.func165,Tryz.ntmps165
   go_wp2_with (first
    | (go_at_call 175;refine (hWt _ _ _ hr3).mono ?_;rintro e w4 ⟨⟨u4,rfl⟩,⟨ww4,hr4⟩,b4⟩;obtain ⟨z0,z1,z2,z3,g0,g1,g2,g3⟩:=id hr4.b)
    | (go_at_call 167;refine (hJ2 _ _ _ hr1).mono ?_;rintro e w3 ⟨⟨u3,rfl⟩,⟨vv3,ww3,hr3,hf3⟩,b3⟩;obtain ⟨x0,x1,x2,x3⟩:=hkeep _ _ _ (hf1.trans hf3))
    | (go_at_call 154;refine (hL _).mono ?_;rintro e w1 ⟨rfl,rfl⟩)
    | (go_at_call 167;refine hJ1.mono ?_;rintro e w1 ⟨⟨u,rfl⟩,⟨vv1,ww1,hr1,hf1⟩,b1⟩))
   go_ret
   exact ⟨rfl,⟨_,_,hr4.setB false⟩,(((hb0.trans b1).trans b3).trans b4).setCell (Nat.le_refl X) _⟩
/-- What holds of the reader behind n words. -/
structure InvY (y:Yd) (n:Nat):Prop where
 v:y.V.length=bins y.W+(if y.b=true then 1 else 0)
 o:y.o=brk y.W
 w:y.W.length≤n
theorem inv_start:InvY ⟨[],[],0,false⟩ 0:=⟨rfl,rfl,Nat.le_refl _⟩
theorem inv_step {leaf:Tk→Option Sx}{y:Yd}{n:Nat}(h:InvY y n) (w:Tk):InvY (stp leaf y w).1 (n+1):=by
 obtain ⟨V,W,o,b⟩:=y
 have h1:=h.v
 have h2:=h.o
 have h3:=h.w
 have hsame:InvY ⟨V,W,o,b⟩ (n+1):=⟨h1,h2,Nat.le_succ_of_le h3⟩
 simp only at h1 h2 h3
 unfold stp
 cases b with
 | true=>
  rw [if_pos rfl] at h1 ⊢
  by_cases hk:w.1≠3
  ·rw [stB_kind hk];exact hsame
  by_cases h41:w.2=[41]
  ·by_cases ho:o=0
   ·rw [stB_shut0 hk h41 ho];exact hsame
   ·rw [stB_shut hk h41 ho]
    obtain ⟨a1,a2,a3,a4⟩:=jn_ok (k:=1) (by omega) W V h1
    obtain ⟨s,W',e,e1,e2⟩:=brk_top (W:=(jn 1 V W).2) (by omega) a4
    refine ⟨?_,?_,?_⟩
    ·show (jn 1 V W).1.length=bins (jn 1 V W).2.tail+_
     rw [a1,e2,e];rfl
    ·show o - 1=brk (jn 1 V W).2.tail
     rw [e,List.tail_cons];omega
    ·show (jn 1 V W).2.tail.length≤n+1
     rw [List.length_tail];omega
  ·by_cases hl:lv w.2=0
   ·rw [stB_none hk h41 hl];exact hsame
   ·by_cases ht:lv w.2=3∧topL (jn 4 V W).2=3
    ·rw [stB_two hk ht.1 ht.2]
     obtain ⟨a1,a2,a3,a4⟩:=jn_ok (k:=4) (by omega) W V h1
     exact ⟨a1,h2.trans a2.symm,by show (jn 4 V W).2.length≤n+1;omega⟩
    ·rw [stB_op hk rfl (by omega) (fun q=>ht ⟨q.1,by have:=q.2;rw [q.1] at this;exact this⟩)]
     obtain ⟨a1,a2,a3,a4⟩:=jn_ok (k:=lv w.2) (by omega) W V h1
     have h5:=lv_le w.2
     refine ⟨?_,?_,by show (jn (lv w.2) V W).2.length+1≤n+1;omega⟩
     ·show (jn (lv w.2) V W).1.length=bins (jn (lv w.2) V W).2+(if lv w.2=0∨lv w.2=6 then 0 else 1)+0
      rw [if_neg (by omega)];exact a1
     ·show o=brk (jn (lv w.2) V W).2+(if lv w.2=0 then 1 else 0)
      rw [if_neg hl];omega
 | false=>
  rw [if_neg Bool.false_ne_true] at h1 ⊢
  unfold stA
  by_cases hk:w.1≠3
  ·rw [if_pos hk]
   cases leaf w with
   | some x=>exact ⟨by show V.length+1=bins W+1;omega,h2,Nat.le_succ_of_le h3⟩
   | none=>exact hsame
  ·rw [if_neg hk]
   by_cases h40:w.2=[40]
   ·rw [if_pos h40]
    exact ⟨h1,by show o+1=brk W+1;omega,by show W.length+1≤n+1;omega⟩
   ·rw [if_neg h40]
    by_cases hu:w.2=[33]∨w.2=[45]
    ·rw [if_pos hu]
     exact ⟨h1,h2,by show W.length+1≤n+1;omega⟩
    ·rw [if_neg hu];exact hsame
theorem brk_le (W:List Sg2):brk W≤W.length:=by
 induction W with
 | nil=>exact Nat.le_refl _
 | cons x r ih=>show brk r+_≤r.length+1;split <;> omega
theorem ahead_any {w:World}{X K n:Nat}{seg:List Ru}{V:List Sx}{W:List Sg2}{o:Nat}{vv ww:Value}(h:Rdr w X ⟨V,W,o,false⟩ vv ww) (hi:InvY ⟨V,W,o,false⟩ n) (hn:n≤3000) (h1:OneW K seg) (ln co:Int) :
  Calls Tryz.prog 166 #[.pointer (some ⟨X,0,none⟩),wdV K seg ln co] w fun e w'=>e=.returned (.bool (stA (leafY (valB 0) rsvB) ⟨V,W,o,false⟩ (K,byt seg)).2)∧(∃ vv' ww',Rdr w' X (stA (leafY (valB 0) rsvB) ⟨V,W,o,false⟩ (K,byt seg)).1 vv' ww')∧Below X w w':=by
 have hv:=hi.v
 have ho:=hi.o
 have hw:=hi.w
 have hb:=bins_le W
 have hbk:=brk_le W
 simp only at hv ho hw
 rw [if_neg (by decide)] at hv
 by_cases hK:K=3
 ·subst hK
  exact ahead_sign h (byt seg) h1.l ln co (by omega) (by omega)
 ·have e:stA (leafY (valB 0) rsvB) ⟨V,W,o,false⟩ (K,byt seg)=match leafY (valB 0) rsvB (K,byt seg) with | some x=>(⟨x :: V,W,o,true⟩,true) | none=>(⟨V,W,o,false⟩,false):=by
   unfold stA;rw [if_pos hK]
   cases leafY (valB 0) rsvB (K,byt seg) <;> rfl
  rw [e]
  cases hx:leafY (valB 0) rsvB (K,byt seg) with
  | some x=>exact ahead_leaf h h1 ln co hK (by omega) hx
  | none=>exact ahead_no h h1 ln co hK hx
theorem behind_any {w:World}{X K n:Nat}{seg:List Ru}{V:List Sx}{W:List Sg2}{o:Nat}{vv ww:Value}(h:Rdr w X ⟨V,W,o,true⟩ vv ww) (hi:InvY ⟨V,W,o,true⟩ n) (hn:n≤3000) (h1:OneW K seg) (ln co:Int) :
  Calls Tryz.prog 165 #[.pointer (some ⟨X,0,none⟩),wdV K seg ln co] w fun e w'=>e=.returned (.bool (stB ⟨V,W,o,true⟩ (K,byt seg)).2)∧(∃ vv' ww',Rdr w' X (stB ⟨V,W,o,true⟩ (K,byt seg)).1 vv' ww')∧Below X w w':=by
 have hv:V.length=bins W+1:=hi.v
 have ho:o=brk W:=hi.o
 have hw:W.length≤n:=hi.w
 by_cases hK:K=3
 ·subst hK
  by_cases h41:byt seg=[41]
  ·have:wdV 3 seg ln co=sgV [41] ln co:=by
    show Value.agg #[.int .i64 ((3:Nat):Int),.string ⟨(byt seg).toArray⟩,_,_]=_
    rw [h41];rfl
   rw [this,h41]
   exact behind_shut h ln co ho hv (by omega)
  ·by_cases hl:lv (byt seg)=0
   ·rw [stB_none (by simp) h41 hl]
    exact behind_none h (byt seg) ln co h41 hl
   ·exact behind_op h (byt seg) ln co _ rfl (by omega) hv (by omega)
 ·rw [stB_kind hK]
  exact behind_kind h ln co hK
set_option maxRecDepth 100000 in
set_option maxHeartbeats 4000000 in
theorem takes_any {w:World}{X K n:Nat}{seg:List Ru}{y:Yd}{vv ww:Value}(h:Rdr w X y vv ww) (hi:InvY y n) (hn:n≤3000) (h1:OneW K seg) (ln co:Int) :
  Calls Tryz.prog 150 #[.pointer (some ⟨X,0,none⟩),wdV K seg ln co] w fun e w'=>e=.returned (.bool (stp (leafY (valB 0) rsvB) y (K,byt seg)).2)∧(∃ vv' ww',Rdr w' X (stp (leafY (valB 0) rsvB) y (K,byt seg)).1 vv' ww')∧Below X w w':=by
 obtain ⟨V,W,o,b⟩:=y
 have hX:=h.lt
 have hq0:Below w.heap.size w (w.alloc (.cells #[.int .i64 (K:Int),.string (txt seg),.int .i64 ln,.int .i64 co] 100)):=(Below.refl _ _).alloc (Nat.le_refl _) _
 have hA0:=At4.new w (.int .i64 (K:Int)) (.string (txt seg)) (.int .i64 ln) (.int .i64 co) 100
 have hr0:=h.on hq0
 have hb0:=hq0.mono (Nat.le_of_lt hX)
 obtain ⟨y0,y1,y2,y3⟩:=id hA0
 obtain ⟨z0,z1,z2,z3,g0,g1,g2,g3⟩:=id hr0.b
 unfold stp
 cases b with
 | true=>
  rw [if_pos rfl]
  have hC:=behind_any hr0 hi hn h1 ln co
  obtain ⟨r,hr⟩:∃ r,stB ⟨V,W,o,true⟩ (K,byt seg)=r:=⟨_,rfl⟩
  unfold wdV at hC ⊢
  rw [hr] at hC ⊢
  go_enter Tryz.func150,Tryz.ntmps150
  go_wp2_with (first
   | (go_at_call 165;refine hC.mono ?_;rintro e w1 ⟨rfl,⟨vv1,ww1,hr1⟩,b1⟩))
  go_ret
  exact ⟨rfl,⟨_,_,hr1⟩,hb0.trans b1⟩
 | false=>
  rw [if_neg Bool.false_ne_true]
  have hC:=ahead_any hr0 hi hn h1 ln co
  obtain ⟨r,hr⟩:∃ r,stA (leafY (valB 0) rsvB) ⟨V,W,o,false⟩ (K,byt seg)=r:=⟨_,rfl⟩
  unfold wdV at hC ⊢
  rw [hr] at hC ⊢
  go_enter Tryz.func150,Tryz.ntmps150
  go_wp2_with (first
   | (go_at_call 166;refine hC.mono ?_;rintro e w1 ⟨rfl,⟨vv1,ww1,hr1⟩,b1⟩))
  go_ret
  exact ⟨rfl,⟨_,_,hr1⟩,hb0.trans b1⟩
set_option maxRecDepth 100000 in
set_option maxHeartbeats 4000000 in
theorem mayEnd_any {w:World}{X:Nat}{y:Yd}{vv ww:Value}(h:Rdr w X y vv ww) (ho:y.o≤4000) :
  Calls Tryz.prog 151 #[.pointer (some ⟨X,0,none⟩)] w fun e w'=>e=.returned (.bool (y.b && decide (y.o=0)))∧Below w.heap.size w w':=by
 obtain ⟨V,W,o,b⟩:=y
 obtain ⟨z0,z1,z2,z3,g0,g1,g2,g3⟩:=id h.b
 simp only at z2 z3 ho ⊢
 clear h
 cases b with
 | true=>
  by_cases hq:o=0
  ·have i1:((o:Int) == 0)=true:=by simp;omega
   rw [decide_eq_true hq]
   clear hq
   go_enter Tryz.func151,Tryz.ntmps151
   go_wp2
   go_ret
   exact ⟨rfl,Below.refl _ _⟩
  ·have i1:((o:Int) == 0)=false:=beq_eq_false_iff_ne.2 (by omega)
   rw [decide_eq_false hq]
   clear hq
   go_enter Tryz.func151,Tryz.ntmps151
   go_wp2
   go_ret
   exact ⟨rfl,Below.refl _ _⟩
 | false=>
  rw [Bool.false_and]
  go_enter Tryz.func151,Tryz.ntmps151
  go_wp2
  go_ret
  exact ⟨rfl,Below.refl _ _⟩
/-- Where no bracket is open, all is joined. -/
theorem jn_all {V:List Sx}{W:List Sg2}(hV:V.length=bins W+1) (hb:brk W=0):∃ x,jn 1 V W=([x],[]):=by
 obtain ⟨a1,a2,a3,a4⟩:=jn_ok (k:=1) (by omega) W V hV
 have hW:(jn 1 V W).2=[]:=by
  cases hq:(jn 1 V W).2 with
  | nil=>rfl
  | cons s r=>
   rw [hq] at a2 a4
   have:s.2 < 1:=a4
   have h3:brk r+(if s.2=0 then 1 else 0)=brk W:=a2
   rw [if_pos (by omega)] at h3
   omega
 rw [hW] at a1
 obtain ⟨x,hx⟩:∃ x,(jn 1 V W).1=[x]:=by
  match hq:(jn 1 V W).1,a1 with
  | [x],_=>exact ⟨x,rfl⟩
 exact ⟨x,by rw [← hx,← hW]⟩
set_option maxRecDepth 100000 in
set_option maxHeartbeats 4000000 in
theorem end_any {w:World}{X:Nat}{V:List Sx}{W:List Sg2}{o:Nat}{b:Bool}{vv ww:Value}(h:Rdr w X ⟨V,W,o,b⟩ vv ww) (hV:V.length=bins W+1) (hl:W.length≤3001) {x:Sx}(hx:jn 1 V W=([x],[])) :
  Calls Tryz.prog 152 #[.pointer (some ⟨X,0,none⟩)] w fun e w'=>e=.returned (exX x)∧Below X w w':=by
 have hJ:=join_any h 1 (by omega) (by omega) hV hl
 rw [hx] at hJ
 simp only at hJ
 go_enter Tryz.func152,Tryz.ntmps152
 go_wp2_with (first
  | (go_at_call 167;refine hJ.mono ?_;rintro e w1 ⟨⟨u,rfl⟩,⟨vv1,ww1,hr1,_⟩,b1⟩;obtain ⟨g,cap,rfl,q1,q2,q3,q4,c0,fz,_⟩:=own_last1 hr1.v;obtain ⟨z0,z1,z2,z3,g0,g1,g2,g3⟩:=id hr1.b;simp only [List.length_nil] at c0 z0))
 go_ret
 exact ⟨rfl,b1⟩
end Go.Proofs.YtlgnahpfggagoaaGreatDoor
