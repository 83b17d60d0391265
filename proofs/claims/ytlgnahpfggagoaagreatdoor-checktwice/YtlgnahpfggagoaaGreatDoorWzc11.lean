import Derived.Test.YtlgnahpfggagoaaGreatDoorWzc10
import Derived.Test.YtlgnahpfggagoaaGreatDoorWzc04
import Derived.Test.YtlgnahpfggagoaaGreatDoorWzc09
import Derived.Test.YtlgnahpfggagoaaGreatDoorWzc08
import Derived.Test.YtlgnahpfggagoaaGreatDoorWzc06
/- A chart laid out: its states in the order of the text, one more than they may be at most. -/
namespace Go.Proofs.YtlgnahpfggagoaaGreatDoor
open Go.RowKit Go.Lib
set_option linter.unusedSimpArgs false
set_option linter.unusedVariables false
attribute [local go_sem ↓] Go.wp_at_zero Go.wp_at_succ
/-- A state, its parts as they lay in W0. -/
def rSo (ok0:Nat→Prop) (W0:World) (ok:Nat→Prop) (w:World) (x:Int × SgS) (cs:List Value):Prop:=rSg ok0 W0 x cs
theorem kp_so (ok0:Nat→Prop) (W0:World):Kp (rSo ok0 W0):=fun _ _ _ _ _ _ h _=>h
structure LadI (ok0:Nat→Prop) (W0:World) (Lb:Nat) (cs6:List Value) (w:World) (P:List (Int × SgS)) (v6 v7:Value):Prop where
 b:Bn w Lb (cs6++[v6,v7])
 s:OwnB w (Lb+1) (fun b=>v7.ownBlock=some b) 57 11 (rSo ok0 W0) v6 P
 o:OwnB w (Lb+1) (fun b=>v6.ownBlock=some b) 3 1 rIn v7 P
 w0:Below Lb W0 w
 sz:Lb < w.heap.size
theorem LadI.on {ok0:Nat→Prop}{W0 w w':World}{Lb:Nat}{cs6:List Value}{c0:Value}{P:List (Int × SgS)}{v6 v7:Value}(h:LadI ok0 W0 Lb (c0 :: cs6) w P v6 v7) (hb:Below w.heap.size w w'):LadI ok0 W0 Lb (c0 :: cs6) w' P v6 v7:=
 ⟨Bn.on (c:=c0) (cs:=cs6++[v6,v7]) h.b hb,h.s.on (kp_so ok0 W0) hb,h.o.on kp_in hb,h.w0.trans (hb.mono (Nat.le_of_lt h.sz)),Nat.lt_of_lt_of_le h.sz hb.size⟩
def fin41 (d:Nat) (P:List (Int × SgS)) (p:Int) (l:List (St d)):List (Int × SgS):=(P++flP d p P.length l).take 41
theorem fin41_nil (d:Nat) (P:List (Int × SgS)) (p:Int) (h:P.length≤41):fin41 d P p []=P:=by
 unfold fin41
 have:flP d p P.length []=[]:=by cases d <;> rfl
 rw [this,List.append_nil,List.take_of_length_le h]
theorem fin41_full (d:Nat) (P:List (Int × SgS)) (p:Int) (l:List (St d)) (h:P.length=41):fin41 d P p l=P:=by
 unfold fin41
 rw [List.take_append_of_le_length (by omega),List.take_of_length_le (by omega)]
theorem fin41_len (d:Nat) (P:List (Int × SgS)) (p:Int) (l:List (St d)):(fin41 d P p l).length≤41:=by
 unfold fin41
 rw [List.length_take]
 omega
theorem fin41_cons (d:Nat) (P:List (Int × SgS)) (p:Int) (t:St (d+1)) (r:List (St (d+1))) (h:P.length≤40):fin41 (d+1) P p (t :: r)=fin41 (d+1) (fin41 d (P++[(p,⟨d+1,t⟩)]) P.length t.2) p r:=by
 have e1:flP (d+1) p P.length (t :: r)=(p,⟨d+1,t⟩) :: (flP d P.length (P.length+1) t.2++flP (d+1) p (P.length+1+(flP d P.length (P.length+1) t.2).length) r):=rfl
 have e2:(P++[(p,(⟨d+1,t⟩:SgS))]).length=P.length+1:=by simp
 obtain ⟨X,hX⟩:∃ X,flP d P.length (P.length+1) t.2=X:=⟨_,rfl⟩
 have e3:fin41 d (P++[(p,(⟨d+1,t⟩:SgS))]) P.length t.2=(P++[(p,(⟨d+1,t⟩:SgS))]++X).take 41:=by unfold fin41;rw [e2,hX]
 rw [e3]
 unfold fin41
 rw [e1,hX]
 by_cases hl:(P++[(p,(⟨d+1,t⟩:SgS))]++X).length≤41
 ·rw [List.take_of_length_le hl]
  have:(P++[(p,(⟨d+1,t⟩:SgS))]++X).length=P.length+1+X.length:=by simp;omega
  rw [this]
  simp
 ·have hq:((P++[(p,(⟨d+1,t⟩:SgS))]++X).take 41).length=41:=by rw [List.length_take];omega
  rw [List.take_append_of_le_length (Nat.le_of_eq hq.symm),List.take_take,Nat.min_self]
  rw [show P++(p,(⟨d+1,t⟩:SgS)) :: (X++flP (d+1) p (P.length+1+X.length) r)=(P++[(p,⟨d+1,t⟩)]++X)++flP (d+1) p (P.length+1+X.length) r by simp]
  rw [List.take_append_of_le_length (by omega)]
theorem Tryz.infoCS:(Tryz.prog.info? 57).map (fun i=>(i.zero,i.size,i.bytes))=some (some (.agg #[.string ⟨#[]⟩,.int .i64 0,.int .i64 0,.bool false,.bool false,.string ⟨#[]⟩,.string ⟨#[]⟩,.int .i64 0,.int .i64 0,.slice none 0 0,.slice none 0 0]),11,136):=by kernel_rfl
theorem Tryz.infoI3:(Tryz.prog.info? 3).map (fun i=>(i.zero,i.size,i.bytes))=some (some (.int .i64 0),1,8):=by kernel_rfl
theorem wpList_pushL {α:Type}{P:Program}(w:World) {ops:Array Oper}{rest:List Oper}{o:Oper}{a:Act}{Q:Exit→Act→World→Prop}(hgd:o.guard=none) (s x:Operand) (t:TypeId)
  (ho:o.op=.call { callee:=.builtin .append,args:=#[s,x],argTypes:=#[t,t] })
  (base:Nat) (bad:Nat→Prop) (e:TypeId) (i:TypeInfo) (z:Value) (k bytes:Nat) (ht:P.underlying t=some (.slice e)) (hi:P.info? e=some i) (hz:i.zero=some z)
  (hsize:i.size=k) (hby:i.bytes=bytes) (hzs:z.cells.size=k) {R:(Nat→Prop)→World→α→List Value→Prop}(hR:Kp R)
  (v:Value) (l:List α) (p:α) (cs:List Value) (lo:Nat) (hs:a.eval s=v) (hx:a.eval x=.slice (some ⟨w.heap.size,0,none⟩) 1 1) (hk:cs.length=k) (h1:∀ u∈cs,u.oneCell'=true)
  (hown:OwnB w base bad e k R v l) (hp:R (fun b=>lo≤b) w p cs) (hlo:base≤lo) (hv:∀ x,v.ownBlock=some x→x < lo) (hbad:∀ b,bad b→b < lo∧b < w.heap.size) (hroom:(l.length+1+(l.length+1) / 4+192)*bytes≤281474976710656)
  (h63:l.length+1≤maxLen) (hbase:base≤w.heap.size)
  (h:∀ v' w',OwnB w' base bad e k R v' (l++[p])→(w.alloc (.cells cs.toArray e)).grownBy w' v.ownBlock→Below base w w'→(v'.ownBlock=v.ownBlock∨v'.ownBlock=some (w.alloc (.cells cs.toArray e)).heap.size)→wpList P ops Q rest (a.put o.dst v') w') :
  wpList P ops Q (o :: rest) a (w.alloc (.cells cs.toArray e)):=by
 have hal:Below w.heap.size w (w.alloc (.cells cs.toArray e)):=(Below.refl _ _).alloc (Nat.le_refl _) _
 obtain ⟨qs,ho1,hl1,hr1,hg1⟩:=hown.on hR hal
 refine wpList_append_at _ hgd s x t t ho base e i z k bytes ht hi hz hsize hby hzs v l.length qs.flatten hs ho1 _ 1 cs hx (src_row ht w cs hk h1) 1 (.inr hroom) (Nat.le_refl _) h63 (Nat.le_trans hbase hal.size) ?_
 intro v' w' hown' hg hat
 refine h v' w' (OwnB.snoc hR hk rfl ho1 hl1 hr1 hown' hg hat (hR hp (fun b hb hlt=>⟨hb,hal.block b hlt⟩)) hlo hv (fun b q=>⟨(hbad b q).1,Nat.lt_of_lt_of_le (hbad b q).2 hal.size⟩) hg1) hg ?_ hat
 exact ((Below.refl base w).alloc hbase _).grown hg (Nat.le_trans hbase hal.size) (fun k hk=>(World.ownsRow.lt ho1 k hk).1)
def LadC (d:Nat):Prop:=∀ (ok0:Nat→Prop) (W0:World) (Lb:Nat) (g0:ByteArray) (g1 g2 g3:Int) (g4:Option Addr) (g5 g6:Nat) (g7:Option Addr) (g8 g9:Nat) (w:World) (P:List (Int × SgS)) (v6 v7:Value) (l:List (St d)) (v:Value) (p:Int),RdK ok0 W0 11 (rSt d ok0 W0) l v→(∀ b,ok0 b→b < Lb)→FoOk ⟨d,l⟩→P.length≤41→LadI ok0 W0 Lb [.string g0,.int .i64 g1,.int .i64 g2,.int .i64 g3,.slice g4 g5 g6,.slice g7 g8 g9] w P v6 v7→
 Calls Tryz.prog 26 #[.pointer (some ⟨Lb,0,none⟩),v,.int .i64 p] w fun e w'=>(∃ r,e=.returned r)∧(∃ v6' v7',LadI ok0 W0 Lb [.string g0,.int .i64 g1,.int .i64 g2,.int .i64 g3,.slice g4 g5 g6,.slice g7 g8 g9] w' (fin41 d P p l) v6' v7')∧w.heap.size≤w'.heap.size
set_option maxRecDepth 100000 in
set_option maxHeartbeats 16000000 in
theorem lad_step (d:Nat) (IH:LadC d):LadC (d+1):=by
 intro ok0 W0 Lb g0 g1 g2 g3 g4 g5 g6 g7 g8 g9 w P v6 v7 l v p hrd hok hfo hP41 hI
 obtain ⟨it,hit,hit0,hit1,hit2⟩:=info_parts Tryz.infoCS
 obtain ⟨ii,hii,hii0,hii1,hii2⟩:=info_parts Tryz.infoI3
 obtain ⟨a,cap,rfl,hlc,hcm⟩:=hrd.form
 unfold maxLen at hcm
 have hl0:=hfo.1
 have hl0:l.length≤100000:=hl0
 obtain ⟨n,hn⟩:∃ n,l.length=n:=⟨_,rfl⟩
 rw [hn] at hlc hl0
 have HR:=mkHid hrd
 rw [hn] at HR
 rw [hn]
 have HN:=mkHid hn
 have HFO:=mkHid hfo
 have HOK:=mkHid hok
 have HI:=mkHid hI
 have HIH:=mkHid IH
 clear hrd hn hfo hok hI IH
 go_enter Tryz.func26,Tryz.ntmps26
 go_wp2
 go_loopw [11] (fun ix wr=>∃ (i:Nat) (Q:List (Int × SgS)) (u6 u7:Value),i≤n∧ix=.int .i64 (i:Int)∧Hid (fin41 (d+1) P p l=fin41 (d+1) Q p (l.drop i))∧Q.length≤41∧Hid (LadI ok0 W0 Lb [.string g0,.int .i64 g1,.int .i64 g2,.int .i64 g3,.slice g4 g5 g6,.slice g7 g8 g9] wr Q u6 u7)∧w.heap.size≤wr.heap.size) (fun ix _=>n - (RowKit.intOf ix).toNat)
 case atStart=>exact ⟨0,P,v6,v7,Nat.zero_le _,rfl,by show _=_;rw [List.drop_zero],hP41,HI,Nat.le_refl _⟩
 case round=>
  clear HI hP41
  obtain ⟨i,Q,u6,u7,hi,rfl,HX,hQ41,HA,hwr⟩:=hrel
  by_cases hlt:i < n
  ·have hil:i < l.length:=by rw [HN.out];exact hlt
   have hdr:=List.drop_eq_getElem_cons hil
   obtain ⟨b,off,cs,rfl,hob,hbl,_,hr,hc⟩:=rdK_at HR.out i hil
   have hrs:rSg ok0 W0 (p,⟨d+1,l[i]⟩) cs:=hr
   obtain ⟨sn,sl,sc,sb,se,sd,su,sw,sr,p1,p3,p4,p6,rfl,_,hin⟩:=sg_in hrs
   obtain ⟨no,hno⟩:∃ no,l[i].1.2.2.2.2.length=no:=⟨_,rfl⟩
   obtain ⟨ni,hni⟩:∃ ni,l[i].2.length=ni:=⟨_,rfl⟩
   rw [hno,hni] at hc hrs
   rw [hni] at hin
   have hw0:=HA.out.w0
   have hLs:=HA.out.sz
   have hbLb:=HOK.out b hob
   have C0:=(hw0.cell (p:=⟨b,off+i*11+0,none⟩) hbLb).trans (hc 0 _ rfl)
   have C1:=(hw0.cell (p:=⟨b,off+i*11+1,none⟩) hbLb).trans (hc 1 _ rfl)
   have C2:=(hw0.cell (p:=⟨b,off+i*11+2,none⟩) hbLb).trans (hc 2 _ rfl)
   have C3:=(hw0.cell (p:=⟨b,off+i*11+3,none⟩) hbLb).trans (hc 3 _ rfl)
   have C4:=(hw0.cell (p:=⟨b,off+i*11+4,none⟩) hbLb).trans (hc 4 _ rfl)
   have C5:=(hw0.cell (p:=⟨b,off+i*11+5,none⟩) hbLb).trans (hc 5 _ rfl)
   have C6:=(hw0.cell (p:=⟨b,off+i*11+6,none⟩) hbLb).trans (hc 6 _ rfl)
   have C7:=(hw0.cell (p:=⟨b,off+i*11+7,none⟩) hbLb).trans (hc 7 _ rfl)
   have C8:=(hw0.cell (p:=⟨b,off+i*11+8,none⟩) hbLb).trans (hc 8 _ rfl)
   have C9:=(hw0.cell (p:=⟨b,off+i*11+9,none⟩) hbLb).trans (hc 9 _ rfl)
   have C10:=(hw0.cell (p:=⟨b,off+i*11+10,none⟩) hbLb).trans (hc 10 _ rfl)
   rw [Nat.add_zero] at C0
   clear hc hr
   have i1:(i:Int) < (n:Int):=by omega
   have i2:(0:Int)≤(i:Int):=by omega
   have hal:Below wr.heap.size wr (wr.alloc (.cells #[.string sn,.int .i64 sl,.int .i64 sc,.bool sb,.bool se,.string sd,.string su,.int .i64 sw,.int .i64 sr,.slice p1 no p3,.slice p4 ni p6] 57)):=(Below.refl _ _).alloc (Nat.le_refl _) _
   have hY:Bn (wr.alloc (.cells #[.string sn,.int .i64 sl,.int .i64 sc,.bool sb,.bool se,.string sd,.string su,.int .i64 sw,.int .i64 sr,.slice p1 no p3,.slice p4 ni p6] 57)) wr.heap.size [.string sn,.int .i64 sl,.int .i64 sc,.bool sb,.bool se,.string sd,.string su,.int .i64 sw,.int .i64 sr,.slice p1 no p3,.slice p4 ni p6]:=Bn.new wr [.string sn,.int .i64 sl,.int .i64 sc,.bool sb,.bool se,.string sd,.string su,.int .i64 sw,.int .i64 sr,.slice p1 no p3,.slice p4 ni p6] 57 _ rfl
   have HA2:=mkHid (HA.out.on hal)
   go_upto_region 3 with fail
   generalize (wr.alloc (.cells #[.string sn,.int .i64 sl,.int .i64 sc,.bool sb,.bool se,.string sd,.string su,.int .i64 sw,.int .i64 sr,.slice p1 no p3,.slice p4 ni p6] 57))=wy at *
   clear C0 C1 C2 C3 C4 C5 C6 C7 C8 C9 C10
   obtain ⟨Y,hYY⟩:∃ Y,wr.heap.size=Y:=⟨_,rfl⟩
   have hYL:Lb < Y:=by omega
   rw [hYY] at hY ⊢
   have hws:w.heap.size≤wy.heap.size:=Nat.le_trans hwr hal.size
   have hYw:=hY.lt
   obtain ⟨ua,uc,rfl,huc,hum⟩:=HA2.out.s.form
   obtain ⟨xa,xc,rfl,hxc,hxm⟩:=HA2.out.o.form
   unfold maxLen at hum hxm
   obtain ⟨m,hm⟩:∃ m,Q.length=m:=⟨_,rfl⟩
   rw [hm] at huc hxc hQ41
   have hLB:Bn wy Lb [.string g0,.int .i64 g1,.int .i64 g2,.int .i64 g3,.slice g4 g5 g6,.slice g7 g8 g9,.slice ua m uc,.slice xa m xc]:=by rw [← hm];exact HA2.out.b
   obtain ⟨c6,z6⟩:=hLB 6 _ rfl
   obtain ⟨c7,z7⟩:=hLB 7 _ rfl
   by_cases h40:40 < m
   ·have j1:(m:Int) > 40:=by omega
    have HE:Hid (fin41 (d+1) P p l=Q):=by
     show _=_
     rw [HX.out,fin41_full _ _ _ _ (by omega)]
    go_wp2
    exact bodyPost_ret (results_none (by rfl) _ _ _) rfl ⟨⟨_,rfl⟩,⟨_,_,by rw [HE.out];exact HA2.out⟩,hws⟩
   ·have j1:¬ (m:Int) > 40:=by omega
    go_upto_region 5 with fail
    have hali:Below wy.heap.size wy (wy.alloc (.cells #[.string ⟨#[]⟩,.int .i64 0,.int .i64 0,.bool false,.bool false,.string ⟨#[]⟩,.string ⟨#[]⟩,.int .i64 0,.int .i64 0,.slice none 0 0,.slice none 0 0] 57)).drew:=((Below.refl _ _).alloc (Nat.le_refl _) _).drew
    have hsrc:Src Tryz.prog 11 32 (.slice (some ⟨wy.heap.size,0,none⟩) 1 1) 1 [.string ⟨#[]⟩,.int .i64 0,.int .i64 0,.bool false,.bool false,.string ⟨#[]⟩,.string ⟨#[]⟩,.int .i64 0,.int .i64 0,.slice none 0 0,.slice none 0 0] (wy.alloc (.cells #[.string ⟨#[]⟩,.int .i64 0,.int .i64 0,.bool false,.bool false,.string ⟨#[]⟩,.string ⟨#[]⟩,.int .i64 0,.int .i64 0,.slice none 0 0,.slice none 0 0] 57)).drew:=Src.ofSlice _ Tryz.underlying32 _ 1 1 _ (by simp) (fun j u hu=>cells_new (w:=wy) j u hu) (by simp [Value.oneCell'])
    have hOs:=HA2.out.s
    have hOo:=HA2.out.o
    rw [hm] at hOs hOo
    have j2:(m:Int) < (m:Int)+1:=by omega
    have j3:(0:Int)≤(m:Int):=by omega
    obtain ⟨y0,_⟩:=hY 0 _ rfl
    obtain ⟨y1,_⟩:=hY 1 _ rfl
    obtain ⟨y2,_⟩:=hY 2 _ rfl
    obtain ⟨y3,_⟩:=hY 3 _ rfl
    obtain ⟨y4,_⟩:=hY 4 _ rfl
    obtain ⟨y5,_⟩:=hY 5 _ rfl
    obtain ⟨y6,_⟩:=hY 6 _ rfl
    obtain ⟨y7,_⟩:=hY 7 _ rfl
    obtain ⟨y8,_⟩:=hY 8 _ rfl
    obtain ⟨y9,_⟩:=hY 9 _ rfl
    obtain ⟨y10,_⟩:=hY 10 _ rfl
    have hYlt:Y < (wy.alloc (.cells #[.string ⟨#[]⟩,.int .i64 0,.int .i64 0,.bool false,.bool false,.string ⟨#[]⟩,.string ⟨#[]⟩,.int .i64 0,.int .i64 0,.slice none 0 0,.slice none 0 0] 57)).drew.heap.size:=Nat.lt_of_lt_of_le hYw hali.size
    have ngY:some Y≠(Value.slice ua m uc).ownBlock:=fun e=>by
     have:=(HA.out.s.lt Y (by rw [hm];exact e.symm)).2
     omega
    have kL:=((hLB.on hali) 6 _ rfl).1
    have yB0:=((hY.on hali) 0 _ rfl).1
    have yB1:=((hY.on hali) 1 _ rfl).1
    have yB2:=((hY.on hali) 2 _ rfl).1
    have yB3:=((hY.on hali) 3 _ rfl).1
    have yB4:=((hY.on hali) 4 _ rfl).1
    have yB5:=((hY.on hali) 5 _ rfl).1
    have yB6:=((hY.on hali) 6 _ rfl).1
    have yB7:=((hY.on hali) 7 _ rfl).1
    have yB8:=((hY.on hali) 8 _ rfl).1
    have yB9:=((hY.on hali) 9 _ rfl).1
    have yB10:=((hY.on hali) 10 _ rfl).1
    go_cut [] (fun wc=>∃ (G C:Nat),m+1≤C∧C≤maxLen∧Bn wc Lb [.string g0,.int .i64 g1,.int .i64 g2,.int .i64 g3,.slice g4 g5 g6,.slice g7 g8 g9,.slice (some ⟨G,0,none⟩) (m+1) C,.slice xa m xc]∧Hid (OwnB wc (Lb+1) (fun b=>(Value.slice xa m xc).ownBlock=some b) 57 11 (rSo ok0 W0) (.slice (some ⟨G,0,none⟩) (m+1) C) (Q++[(p,⟨d+1,l[i]⟩)]))∧Hid (OwnB wc (Lb+1) (fun b=>(Value.slice (some ⟨G,0,none⟩) (m+1) C).ownBlock=some b) 3 1 rIn (.slice xa m xc) Q)∧Below Lb wy wc∧Bn wc Y [.string sn,.int .i64 sl,.int .i64 sc,.bool sb,.bool se,.string sd,.string su,.int .i64 sw,.int .i64 sr,.slice p1 no p3,.slice p4 ni p6]∧wy.heap.size≤wc.heap.size)
    case first=>
     go_region_law (first
      | (refine step_zero wy (wy.alloc (.cells #[.string ⟨#[]⟩,.int .i64 0,.int .i64 0,.bool false,.bool false,.string ⟨#[]⟩,.string ⟨#[]⟩,.int .i64 0,.int .i64 0,.slice none 0 0,.slice none 0 0] 57)).drew hali rfl _ _ 32 rfl (Lb+1) (fun b=>(Value.slice xa m xc).ownBlock=some b) 57 it (.agg #[.string ⟨#[]⟩,.int .i64 0,.int .i64 0,.bool false,.bool false,.string ⟨#[]⟩,.string ⟨#[]⟩,.int .i64 0,.int .i64 0,.slice none 0 0,.slice none 0 0]) 11 136 Tryz.underlying32 hit hit0 hit1 hit2 rfl (kp_so ok0 W0) (.slice ua m uc) Q (p,⟨d+1,l[i]⟩) [.string sn,.int .i64 sl,.int .i64 sc,.bool sb,.bool se,.string sd,.string su,.int .i64 sw,.int .i64 sr,.slice p1 no p3,.slice p4 ni p6] [.string ⟨#[]⟩,.int .i64 0,.int .i64 0,.bool false,.bool false,.string ⟨#[]⟩,.string ⟨#[]⟩,.int .i64 0,.int .i64 0,.slice none 0 0,.slice none 0 0] _ wy.heap.size rfl rfl hsrc hOs hrs (by omega) (fun x hx=>(hOs.lt x hx).2) (fun b hb=>⟨(hOo.lt b hb).2,(hOo.lt b hb).2⟩) (by omega) (by unfold maxLen;omega) (by omega) ?_;intro G9 C9 wb hgc hgm hZ hcs hgb hbb hat;have hzc:=hZ.cells;rw [hm] at hzc;obtain ⟨d0,t0⟩:=hzc 0 _ rfl;obtain ⟨d1,t1⟩:=hzc 1 _ rfl;obtain ⟨d2,t2⟩:=hzc 2 _ rfl;obtain ⟨d3,t3⟩:=hzc 3 _ rfl;obtain ⟨d4,t4⟩:=hzc 4 _ rfl;obtain ⟨d5,t5⟩:=hzc 5 _ rfl;obtain ⟨d6,t6⟩:=hzc 6 _ rfl;obtain ⟨d7,t7⟩:=hzc 7 _ rfl;obtain ⟨d8,t8⟩:=hzc 8 _ rfl;obtain ⟨d9,t9⟩:=hzc 9 _ rfl;obtain ⟨d10,t10⟩:=hzc 10 _ rfl;rw [Nat.add_zero] at d0 t0;have hLBb:=hLB.blk (hbb.block Lb (by omega));obtain ⟨m5,n5⟩:=hLBb 6 _ rfl;have hYb:=(hY.on hali).blk (hgb.block Y hYlt ngY);obtain ⟨y0,_⟩:=hYb 0 _ rfl;obtain ⟨y1,_⟩:=hYb 1 _ rfl;obtain ⟨y2,_⟩:=hYb 2 _ rfl;obtain ⟨y3,_⟩:=hYb 3 _ rfl;obtain ⟨y4,_⟩:=hYb 4 _ rfl;obtain ⟨y5,_⟩:=hYb 5 _ rfl;obtain ⟨y6,_⟩:=hYb 6 _ rfl;obtain ⟨y7,_⟩:=hYb 7 _ rfl;obtain ⟨y8,_⟩:=hYb 8 _ rfl;obtain ⟨y9,_⟩:=hYb 9 _ rfl;obtain ⟨y10,_⟩:=hYb 10 _ rfl;have hg9:Lb+1≤G9:=hZ.1;have ngL:G9≠Lb:=(by omega);have ngY9:G9≠Y:=(by rcases hat with h | h;exact fun e=>ngY ((by rw [← e];exact h:some Y=_));exact fun e=>(by have h2:G9=_:=Option.some.inj h;rw [e] at h2;simp at h2;omega)))
      | fail)
     all_goals (
      have hPB:Bn (putL wb G9 (m*11) [.string sn,.int .i64 sl,.int .i64 sc,.bool sb,.bool se,.string sd,.string su,.int .i64 sw,.int .i64 sr,.slice p1 no p3,.slice p4 ni p6]) Lb [.string g0,.int .i64 g1,.int .i64 g2,.int .i64 g3,.slice g4 g5 g6,.slice g7 g8 g9,.slice ua m uc,.slice xa m xc]:=hLBb.blk (putL_heap [.string sn,.int .i64 sl,.int .i64 sc,.bool sb,.bool se,.string sd,.string su,.int .i64 sw,.int .i64 sr,.slice p1 no p3,.slice p4 ni p6] wb G9 (m*11) Lb (by omega))
      have hPS:=hZ.put (kp_so ok0 W0) (cs:=[.string sn,.int .i64 sl,.int .i64 sc,.bool sb,.bool se,.string sd,.string su,.int .i64 sw,.int .i64 sr,.slice p1 no p3,.slice p4 ni p6]) rfl rfl hcs
      rw [hm] at hPS
      have hPO:OwnB (putL wb G9 (m*11) [.string sn,.int .i64 sl,.int .i64 sc,.bool sb,.bool se,.string sd,.string su,.int .i64 sw,.int .i64 sr,.slice p1 no p3,.slice p4 ni p6]) (Lb+1) (fun b=>(Value.slice (some ⟨G9,0,none⟩) (m+1) C9).ownBlock=some b) 3 1 rIn (.slice xa m xc) Q:=(((hOo.on kp_in hali).other kp_in (u':=.slice (some ⟨G9,0,none⟩) (m+1) C9) hgb (by rw [hm] at hat;exact hat))).keep kp_in (fun b hb hbad hlt=>⟨putL_heap [.string sn,.int .i64 sl,.int .i64 sc,.bool sb,.bool se,.string sd,.string su,.int .i64 sw,.int .i64 sr,.slice p1 no p3,.slice p4 ni p6] wb G9 (m*11) b (fun e=>hbad (by rw [e];rfl)),hbad⟩)
      have hPY:Bn (putL wb G9 (m*11) [.string sn,.int .i64 sl,.int .i64 sc,.bool sb,.bool se,.string sd,.string su,.int .i64 sw,.int .i64 sr,.slice p1 no p3,.slice p4 ni p6]) Y [.string sn,.int .i64 sl,.int .i64 sc,.bool sb,.bool se,.string sd,.string su,.int .i64 sw,.int .i64 sr,.slice p1 no p3,.slice p4 ni p6]:=hYb.blk (putL_heap [.string sn,.int .i64 sl,.int .i64 sc,.bool sb,.bool se,.string sd,.string su,.int .i64 sw,.int .i64 sr,.slice p1 no p3,.slice p4 ni p6] wb G9 (m*11) Y (by omega))
      have hPW:Below Lb wy (putL wb G9 (m*11) [.string sn,.int .i64 sl,.int .i64 sc,.bool sb,.bool se,.string sd,.string su,.int .i64 sw,.int .i64 sr,.slice p1 no p3,.slice p4 ni p6]):=putL_below [.string sn,.int .i64 sl,.int .i64 sc,.bool sb,.bool se,.string sd,.string su,.int .i64 sw,.int .i64 sr,.slice p1 no p3,.slice p4 ni p6] wb G9 (m*11) (hbb.mono (by omega)) (by omega)
      have hPZ:wy.heap.size≤(putL wb G9 (m*11) [.string sn,.int .i64 sl,.int .i64 sc,.bool sb,.bool se,.string sd,.string su,.int .i64 sw,.int .i64 sr,.slice p1 no p3,.slice p4 ni p6]).heap.size:=hPW.size
      have hput:(((((((((((wb.setCell ⟨G9,m*11,none⟩ (.string sn)).setCell ⟨G9,m*11+1,none⟩ (.int .i64 sl)).setCell ⟨G9,m*11+2,none⟩ (.int .i64 sc)).setCell ⟨G9,m*11+3,none⟩ (.bool sb)).setCell ⟨G9,m*11+4,none⟩ (.bool se)).setCell ⟨G9,m*11+5,none⟩ (.string sd)).setCell ⟨G9,m*11+6,none⟩ (.string su)).setCell ⟨G9,m*11+7,none⟩ (.int .i64 sw)).setCell ⟨G9,m*11+8,none⟩ (.int .i64 sr)).setCell ⟨G9,m*11+9,none⟩ (.slice p1 no p3)).setCell ⟨G9,m*11+10,none⟩ (.slice p4 ni p6))=putL wb G9 (m*11) [.string sn,.int .i64 sl,.int .i64 sc,.bool sb,.bool se,.string sd,.string su,.int .i64 sw,.int .i64 sr,.slice p1 no p3,.slice p4 ni p6]:=rfl
      have hput2:((((((((((((wb.setCell ⟨Lb,6,none⟩ (.slice (some ⟨G9,0,none⟩) (m+1) C9)).setCell ⟨G9,m*11,none⟩ (.string sn)).setCell ⟨G9,m*11+1,none⟩ (.int .i64 sl)).setCell ⟨G9,m*11+2,none⟩ (.int .i64 sc)).setCell ⟨G9,m*11+3,none⟩ (.bool sb)).setCell ⟨G9,m*11+4,none⟩ (.bool se)).setCell ⟨G9,m*11+5,none⟩ (.string sd)).setCell ⟨G9,m*11+6,none⟩ (.string su)).setCell ⟨G9,m*11+7,none⟩ (.int .i64 sw)).setCell ⟨G9,m*11+8,none⟩ (.int .i64 sr)).setCell ⟨G9,m*11+9,none⟩ (.slice p1 no p3)).setCell ⟨G9,m*11+10,none⟩ (.slice p4 ni p6))=(putL wb G9 (m*11) [.string sn,.int .i64 sl,.int .i64 sc,.bool sb,.bool se,.string sd,.string su,.int .i64 sw,.int .i64 sr,.slice p1 no p3,.slice p4 ni p6]).setCell ⟨Lb,6,none⟩ (.slice (some ⟨G9,0,none⟩) (m+1) C9):=putL_far G9 Lb 6 (.slice (some ⟨G9,0,none⟩) (m+1) C9) (by omega) [.string sn,.int .i64 sl,.int .i64 sc,.bool sb,.bool se,.string sd,.string su,.int .i64 sw,.int .i64 sr,.slice p1 no p3,.slice p4 ni p6] wb (m*11)
      first
       | rw [hput]
       | rw [hput2]
      have hgc':m+1≤C9:=(by rw [hm] at hgc;exact hgc)
      clear hput hput2 hZ hcs hzc hYb hLBb hgb hbb hat m5 n5 d0 d1 d2 d3 d4 d5 d6 d7 d8 d9 d10 t0 t1 t2 t3 t4 t5 t6 t7 t8 t9 t10 hgc y0 y1 y2 y3 y4 y5 y6 y7 y8 y9 y10 yB0 yB1 yB2 yB3 yB4 yB5 yB6 yB7 yB8 yB9 yB10 kL
      generalize putL wb G9 (m*11) [.string sn,.int .i64 sl,.int .i64 sc,.bool sb,.bool se,.string sd,.string su,.int .i64 sw,.int .i64 sr,.slice p1 no p3,.slice p4 ni p6]=wq at *
      have r1:=hPB.set (i:=6) (by simp) (.slice (some ⟨G9,0,none⟩) (m+1) C9)
      have r2:=mkHid (hPS.set (kp_so ok0 W0) (X:=Lb) (i:=6) (by omega) (.slice (some ⟨G9,0,none⟩) (m+1) C9))
      have r3:=mkHid (hPO.set kp_in (X:=Lb) (i:=6) (by omega) (.slice (some ⟨G9,0,none⟩) (m+1) C9))
      have r4:=hPW.setCell (p:=⟨Lb,6,none⟩) (Nat.le_refl _) (.slice (some ⟨G9,0,none⟩) (m+1) C9)
      have r5:=hPY.far (X:=Lb) (i:=6) (by omega) (.slice (some ⟨G9,0,none⟩) (m+1) C9)
      have r6:wy.heap.size≤(wq.setCell ⟨Lb,6,none⟩ (.slice (some ⟨G9,0,none⟩) (m+1) C9)).heap.size:=(by simpa using hPZ)
      go_wp2
      go_meet
      case rel=>exact ⟨G9,C9,hgc',hgm,r1,r2,r3,r4,r5,r6⟩)
    case rest=>
     obtain ⟨G,C,hC1,hC2,hLC,HSc,HOc,hBc,hYc,hszc⟩:=hcut
     unfold maxLen at hC2
     obtain ⟨c7',z7'⟩:=hLC 7 _ rfl
     have hLCl:=hLC.lt
     have hOn:=HOc.out
     have hGL:∀ b,(Value.slice (some ⟨G,0,none⟩) (m+1) C).ownBlock=some b→b < wc.heap.size:=fun b hb=>(HSc.out.lt b (by simpa using hb)).2
     have hxl:=hOn.lt
     have ngL:some Lb≠(Value.slice xa m xc).ownBlock:=fun e=>by have:=(hxl Lb e.symm).1;omega
     have ngY7:some Y≠(Value.slice xa m xc).ownBlock:=fun e=>by
      have:=(HA.out.o.lt Y (by rw [hm];exact e.symm)).2
      omega
     have hYcl:=hYc.lt
     have hq1:(Q++[(p,(⟨d+1,l[i]⟩:SgS))]).length=m+1:=by simp [hm]
     go_upto_region 7 with (first
      | (at_builtin;refine wpList_pushL wc rfl _ _ 88 rfl (Lb+1) (fun b=>(Value.slice (some ⟨G,0,none⟩) (m+1) C).ownBlock=some b) 3 ii (.int .i64 0) 1 8 Tryz.underlying88 hii hii0 hii1 hii2 rfl kp_in (.slice xa m xc) Q (p,⟨d+1,l[i]⟩) [.int .i64 p] wc.heap.size rfl rfl rfl (by simp [Value.oneCell']) hOn rfl (by omega) (fun x hx=>(hxl x hx).2) (fun b hb=>⟨hGL b hb,hGL b hb⟩) (by omega) (by unfold maxLen;omega) (by omega) ?_;intro vb wb hOb hgb hbb hat;obtain ⟨va,vc,rfl,hvc1,hvc2⟩:=hOb.form;rw [hq1] at hOb hat hvc1;simp only [hq1];have hLB7:Bn wb Lb _:=hLC.blk (hbb.block Lb (by omega));obtain ⟨m7,n7⟩:=hLB7 7 _ rfl)
      | fail)
     have halc:Below wc.heap.size wc (wc.alloc (.cells #[.int .i64 p] 3)):=(Below.refl _ _).alloc (Nat.le_refl _) _
     have hSb:=(HSc.out.on (kp_so ok0 W0) halc).other (kp_so ok0 W0) (u':=(.slice va (m+1) vc)) hgb hat
     have hYb2:Bn wb Y [.string sn,.int .i64 sl,.int .i64 sc,.bool sb,.bool se,.string sd,.string su,.int .i64 sw,.int .i64 sr,.slice p1 no p3,.slice p4 ni p6]:=(hYc.on halc).blk (hgb.block Y (Nat.lt_of_lt_of_le hYcl halc.size) ngY7)
     have hYz:=hYb2.far (X:=Lb) (i:=7) (by omega) (.slice va (m+1) vc)
     have hw0z:Below Lb W0 (wb.setCell ⟨Lb,7,none⟩ (.slice va (m+1) vc)):=((HA2.out.w0.trans hBc).trans (hbb.mono (by omega))).setCell (p:=⟨Lb,7,none⟩) (Nat.le_refl _) _
     have hszz:wy.heap.size≤(wb.setCell ⟨Lb,7,none⟩ (.slice va (m+1) vc)).heap.size:=by simpa using Nat.le_trans hszc hbb.size
     have HLz:Hid (LadI ok0 W0 Lb [.string g0,.int .i64 g1,.int .i64 g2,.int .i64 g3,.slice g4 g5 g6,.slice g7 g8 g9] (wb.setCell ⟨Lb,7,none⟩ (.slice va (m+1) vc)) (Q++[(p,⟨d+1,l[i]⟩)]) (.slice (some ⟨G,0,none⟩) (m+1) C) (.slice va (m+1) vc)):=⟨hLB7.set (i:=7) (by simp) (.slice va (m+1) vc),hSb.set (kp_so ok0 W0) (X:=Lb) (i:=7) (by omega) _,hOb.set kp_in (X:=Lb) (i:=7) (by omega) _,hw0z,by omega⟩
     clear hSb hYb2 hLB7 m7 n7 hOb hgb hbb hat hYc HSc HOc hOn c7' z7' hLC halc
     generalize wb.setCell ⟨Lb,7,none⟩ (.slice va (m+1) vc)=wz at *
     have hst:StOk (d+1) l[i]:=HFO.out.2 _ (List.getElem_mem hil)
     have hcall:=HIH.out ok0 W0 Lb g0 g1 g2 g3 g4 g5 g6 g7 g8 g9 wz _ _ _ l[i].2 _ (m:Int) hin HOK.out ⟨hst.2.1,hst.2.2⟩ (by rw [hq1];omega) HLz.out
     obtain ⟨y10,_⟩:=hYz 10 _ rfl
     have HE:Hid (fin41 (d+1) P p l=fin41 (d+1) (fin41 d (Q++[(p,⟨d+1,l[i]⟩)]) (m:Int) l[i].2) p (l.drop (i+1))):=by
      show _=_
      rw [HX.out,hdr,fin41_cons d Q p l[i] _ (by omega),hm]
     obtain ⟨F,hF⟩:∃ F,fin41 d (Q++[(p,(⟨d+1,l[i]⟩:SgS))]) (m:Int) l[i].2=F:=⟨_,rfl⟩
     have hFl:F.length≤41:=by rw [← hF];exact fin41_len _ _ _ _
     rw [hF] at hcall HE
     clear hF hq1 HLz
     go_wp2_with (first
      | (go_at_call 26;refine hcall.mono ?_;rintro e w2 ⟨⟨rv,rfl⟩,⟨v6',v7',hL2⟩,hs2⟩)
      | fail)
     have hw2:w.heap.size≤w2.heap.size:=by omega
     go_roundw
     case rel=>exact ⟨i+1,F,v6',v7',hlt,by go_num,HE,hFl,hL2,hw2⟩
     case measure=>simp [RowKit.intOf];omega
  ·have i1:¬ (i:Int) < (n:Int):=by omega
   have HE:Hid (fin41 (d+1) P p l=Q):=by
    show _=_
    rw [HX.out,List.drop_of_length_le (by rw [HN.out];omega),fin41_nil _ _ _ hQ41]
   go_wp2
   go_end0
   exact ⟨⟨_,rfl⟩,⟨u6,u7,by rw [HE.out];exact HA.out⟩,hwr⟩
theorem lad_zero:LadC 0:=by
 intro ok0 W0 Lb g0 g1 g2 g3 g4 g5 g6 g7 g8 g9 w P v6 v7 l v p hrd hok hfo hP41 hI
 cases l with
 | cons x _=>exact Empty.elim x
 | nil=>
  obtain ⟨a,cap,rfl,hlc,hcm⟩:=hrd.form
  have HE:=mkHid (fin41_nil 0 P p hP41)
  have HI:=mkHid hI
  clear hrd hok hfo hI
  simp only [List.length_nil]
  go_enter Tryz.func26,Tryz.ntmps26
  go_wp2
  go_loopw [11] (fun ix wr=>ix=.int .i64 0∧Hid (w=wr)) (fun _ _=>0)
  case atStart=>exact ⟨rfl,rfl⟩
  case round=>
   obtain ⟨rfl,hw⟩:=hrel
   obtain rfl:=hw.out
   go_wp2
   go_end0
   exact ⟨⟨_,rfl⟩,⟨v6,v7,by rw [HE.out];exact HI.out⟩,Nat.le_refl _⟩
theorem lad_all:∀ d,LadC d
 | 0=>lad_zero
 | d+1=>lad_step d (lad_all d)
/-- The states of a chart, laid out. -/
def fsC {d:Nat}(c:ChG d):List (Int × SgS):=(flP d (-1) 0 c.2.2.2).take 41
set_option maxRecDepth 100000 in
set_option maxHeartbeats 8000000 in
theorem laid_any {ok:Nat→Prop}{w:World}{d:Nat}{c:ChG d}{v:Value}(h:RdC ok w d c v) (hok:∀ b,ok b→b < w.heap.size) (hfo:FoOk ⟨d,c.2.2.2⟩) :
  Calls Tryz.prog 16 #[v] w fun e w'=>e=.returned (.pointer (some ⟨w.heap.size+1,0,none⟩))∧Ly (fun _=>True) w' (w.heap.size+1) c (fsC c)∧Below w.heap.size w w':=by
 obtain ⟨sv,ss,rfl,hv,hs⟩:=h
 obtain ⟨va,vc,rfl,_⟩:=hv.form
 obtain ⟨sa,sc,rfl,_⟩:=hs.form
 obtain ⟨nm,hnm⟩:∃ nm:ByteArray,sV c.1.1=.string nm:=⟨_,rfl⟩
 rw [hnm]
 obtain ⟨nv,hnv⟩:∃ n,c.2.2.1.length=n:=⟨_,rfl⟩
 obtain ⟨ns,hns⟩:∃ n,c.2.2.2.length=n:=⟨_,rfl⟩
 obtain ⟨vn,hvn⟩:∃ x,c.2.1=x:=⟨_,rfl⟩
 obtain ⟨ln,hln⟩:∃ x,c.1.2.1=x:=⟨_,rfl⟩
 obtain ⟨co,hco⟩:∃ x,c.1.2.2=x:=⟨_,rfl⟩
 rw [hvn,hln,hco,hnv,hns]
 have HPL:Hid ((ln,co)=c.1.2):=by rw [← hln,← hco];exact rfl
 have HNV:=mkHid hnv
 have HNS:=mkHid hns
 have HV:=mkHid hv
 have HS:=mkHid hs
 rw [hnv] at HV
 rw [hns] at HS
 have HFO:=mkHid hfo
 have HOK:=mkHid hok
 clear hv hs hnm hnv hns hvn hln hco hfo hok
 have hal:Below w.heap.size w ((w.alloc (.cells #[.string nm,.int .i64 vn,.int .i64 ln,.int .i64 co,.slice va nv vc,.slice sa ns sc] 34)).alloc (.cells #[.string nm,.int .i64 vn,.int .i64 ln,.int .i64 co,.slice va nv vc,.slice sa ns sc,.slice none 0 0,.slice none 0 0] 90)):=((Below.refl _ _).alloc (Nat.le_refl _) _).alloc (by simp) _
 have hX:Bn ((w.alloc (.cells #[.string nm,.int .i64 vn,.int .i64 ln,.int .i64 co,.slice va nv vc,.slice sa ns sc] 34)).alloc (.cells #[.string nm,.int .i64 vn,.int .i64 ln,.int .i64 co,.slice va nv vc,.slice sa ns sc,.slice none 0 0,.slice none 0 0] 90)) w.heap.size [.string nm,.int .i64 vn,.int .i64 ln,.int .i64 co,.slice va nv vc,.slice sa ns sc]:=(Bn.new w [.string nm,.int .i64 vn,.int .i64 ln,.int .i64 co,.slice va nv vc,.slice sa ns sc] 34 _ rfl).on ((Below.refl _ _).alloc (Nat.le_refl _) _)
 have hL:Bn ((w.alloc (.cells #[.string nm,.int .i64 vn,.int .i64 ln,.int .i64 co,.slice va nv vc,.slice sa ns sc] 34)).alloc (.cells #[.string nm,.int .i64 vn,.int .i64 ln,.int .i64 co,.slice va nv vc,.slice sa ns sc,.slice none 0 0,.slice none 0 0] 90)) (w.heap.size+1) [.string nm,.int .i64 vn,.int .i64 ln,.int .i64 co,.slice va nv vc,.slice sa ns sc,.slice none 0 0,.slice none 0 0]:=Bn.new _ [.string nm,.int .i64 vn,.int .i64 ln,.int .i64 co,.slice va nv vc,.slice sa ns sc,.slice none 0 0,.slice none 0 0] 90 (w.heap.size+1) (by simp)
 go_enter Tryz.func16,Tryz.ntmps16
 go_upto_region 2 with fail
 generalize ((w.alloc (.cells #[.string nm,.int .i64 vn,.int .i64 ln,.int .i64 co,.slice va nv vc,.slice sa ns sc] 34)).alloc (.cells #[.string nm,.int .i64 vn,.int .i64 ln,.int .i64 co,.slice va nv vc,.slice sa ns sc,.slice none 0 0,.slice none 0 0] 90))=wx at *
 obtain ⟨x5,_⟩:=hX 5 _ rfl
 have hLl:=hL.lt
 have hlow:∀ b,ok b→b < w.heap.size+1:=fun b hb=>by have:=HOK.out b hb;omega
 have hrd:RdK ok wx 11 (rSt d ok wx) c.2.2.2 (.slice sa ns sc):=HS.out.stay (kp_st d) (fun b hb hl=>⟨hb,hal.block b hl⟩)
 have hcall:=lad_all d ok wx (w.heap.size+1) nm vn ln co va nv vc sa ns sc wx [] (.slice none 0 0) (.slice none 0 0) c.2.2.2 (.slice sa ns sc) (-1) hrd hlow HFO.out (by simp) ⟨hL,ownB_nil _ _ _ _ _ _,ownB_nil _ _ _ _ _ _,Below.refl _ _,hLl⟩
 have HFS:Hid (fin41 d [] (-1) c.2.2.2=fsC c):=by show _=_;unfold fin41 fsC;simp
 rw [HFS.out] at hcall
 have HRD:=mkHid hrd
 clear hrd
 go_wp2_with (first
  | (go_at_call 26;refine hcall.mono ?_;rintro e w2 ⟨⟨rv,rfl⟩,⟨v6',v7',hL2⟩,hs2⟩)
  | fail)
 go_ret
 obtain ⟨a6,c6,rfl,_⟩:=hL2.s.form
 obtain ⟨a7,c7,rfl,_⟩:=hL2.o.form
 have hbw:Below w.heap.size w w2:=hal.trans (hL2.w0.mono (by omega))
 refine ⟨rfl,⟨nm,vn,ln,co,va,vc,sa,ns,sc,a6,c6,a7,c7,?_,?_,?_,?_,HPL.out⟩,hbw⟩
 ·rw [HNV.out]
  exact hL2.b
 ·rw [HNV.out]
  exact HV.out.stay kp_var (fun b hb hl=>⟨trivial,hbw.block b hl⟩)
 ·have h3:=hL2.s.rd (kp_so ok wx)
  exact h3.keep (fun x _ cs hcs=>kp_sg (ok':=fun _=>True) (w':=w2) (show rSg ok wx x cs from hcs) (fun b hb hl=>⟨trivial,hL2.w0.block b (hlow b hb)⟩)) (fun b _ hl=>⟨trivial,rfl⟩)
 ·have h4:=hL2.o.rd kp_in
  exact h4.keep (fun x _ cs hcs=>hcs) (fun b _ hl=>⟨trivial,rfl⟩)
set_option maxRecDepth 100000 in
set_option maxHeartbeats 8000000 in
theorem rvar_any (s0:ByteArray) (x pl pc:Int) (w:World) (hs0:s0.size≤140737488351232):Calls Tryz.prog 24 #[.agg #[.string s0,.int .i64 x,.int .i64 pl,.int .i64 pc]] w fun e w'=>e=.returned (.bool (plainB (bl s0) && decide (-1000000000≤x∧x≤1000000000)))∧Below w.heap.size w w':=by
 have hal:Below w.heap.size w (w.alloc (.cells #[.string s0,.int .i64 x,.int .i64 pl,.int .i64 pc] 61)):=(Below.refl w.heap.size w).alloc (Nat.le_refl _) _
 have hX:Bn (w.alloc (.cells #[.string s0,.int .i64 x,.int .i64 pl,.int .i64 pc] 61)) w.heap.size [.string s0,.int .i64 x,.int .i64 pl,.int .i64 pc]:=Bn.new w [.string s0,.int .i64 x,.int .i64 pl,.int .i64 pc] 61 _ rfl
 cases h1:plainB (bl s0) <;> by_cases h2 : -1000000000≤x <;> by_cases h3:x≤1000000000
 all_goals try (exfalso;omega)
 all_goals simp only [h2,h3,and_self,and_true,true_and,and_false,false_and,decide_true,decide_false]
 all_goals (have H2:=mkHid h2;have H3:=mkHid h3)
 all_goals (
  go_enter Tryz.func24,Tryz.ntmps24
  go_upto_region 1 with fail
  generalize (w.alloc (.cells #[.string s0,.int .i64 x,.int .i64 pl,.int .i64 pc] 61))=wx at *
  have hB:Below wx.heap.size wx wx:=Below.refl _ _
  obtain ⟨x0,_⟩:=hX 0 _ rfl
  obtain ⟨x1,_⟩:=hX 1 _ rfl
  obtain ⟨x2,_⟩:=hX 2 _ rfl
  obtain ⟨x3,_⟩:=hX 3 _ rfl
  have h2:=H2.out
  have h3:=H3.out
  go_wp2_with (first
   | (go_at_call 21;refine (rnameB _ _ (by assumption)).mono ?_;rintro e w1 ⟨rfl,b1⟩;simp only [h1];have hB:=Below.nx hB b1;obtain ⟨x1,_⟩:=(hX.on hB) 1 _ rfl)
   | fail)
  go_ret
  exact ⟨rfl,hal.trans (hB.mono hal.size)⟩)
set_option maxRecDepth 100000 in
set_option maxHeartbeats 8000000 in
theorem everyVar_any  {ok:Nat→Prop}{w:World}{l:List (List UInt8 × Int × Pl)}{v:Value}(h:RdK ok w 4 (rVar ok w) l v) (hok:∀ s∈l,s.1.length≤140737488351232) :
  Calls Tryz.prog 23 #[v,.func (.func 24) #[] #[]] w fun e w'=>e=.returned (.bool (l.all (varF)))∧Below w.heap.size w w':=by
 obtain ⟨a,cap,rfl,hlc,hcm⟩:=h.form
 unfold maxLen at hcm
 have HC:=mkHid h
 have HK:=mkHid hok
 obtain ⟨n,hn⟩:∃ n,l.length=n:=⟨_,rfl⟩
 rw [hn] at hlc ⊢
 have HN:Hid (l.length=n):=hn
 obtain ⟨f,hf⟩:∃ f:(List UInt8 × Int × Pl)→Bool,(varF)=f:=⟨_,rfl⟩
 rw [hf]
 have HF:=mkHid hf
 obtain ⟨V,HA⟩:∃ V,l.all f=V:=⟨_,rfl⟩
 rw [HA]
 have HAA:=mkHid HA
 clear h hok hn hf HA
 go_enter Tryz.func23,Tryz.ntmps23
 go_wp2
 go_loopw [9] (fun ix wr=>∃ (i:Nat),i≤n∧ix=.int .i64 (i:Int)∧Hid (∀ x∈l.take i,f x=true)∧Below w.heap.size w wr) (fun ix _=>n - (RowKit.intOf ix).toNat)
 case atStart=>exact ⟨0,Nat.zero_le _,rfl,(show Hid _ from fun x hx=>by simp at hx),Below.refl _ _⟩
 case round=>
  obtain ⟨i,hi,rfl,hT,hb⟩:=hrel
  by_cases hlt:i < n
  ·have hil:i < l.length:=by rw [HN.out];exact hlt
   have HA:=HAA.out
   obtain ⟨b,off,rfl,hbl,hc⟩:=varQ_at HC.out i hil
   have hks:=HK.out _ (List.getElem_mem hil)
   obtain ⟨q,hq⟩:∃ q,l[i]=q:=⟨_,rfl⟩
   have HQ:=mkHid hq
   rw [hq] at hc hks
   obtain ⟨s0,hs0,hsb,hss⟩:=sV_out q.1 hks
   obtain ⟨x,hx⟩:∃ x,q.2.1=x:=⟨_,rfl⟩
   have hfx:f q=(plainB (bl s0) && decide (-1000000000≤x∧x≤1000000000)):=by rw [← HF.out,hsb,← hx];rfl
   obtain ⟨pl,pc,hov⟩:∃ pl pc,varV q=[sV q.1,.int .i64 q.2.1,.int .i64 pl,.int .i64 pc]:=⟨_,_,rfl⟩
   rw [hov,hs0,hx] at hc
   clear hs0 hq hks hx hov hsb
   have i1:(i:Int) < (n:Int):=by omega
   have i2:(0:Int)≤(i:Int):=by omega
   have C0:=(hb.cell (p:=⟨b,off+i*4+0,none⟩) hbl).trans (hc 0 _ rfl)
   have C1:=(hb.cell (p:=⟨b,off+i*4+1,none⟩) hbl).trans (hc 1 _ rfl)
   have C2:=(hb.cell (p:=⟨b,off+i*4+2,none⟩) hbl).trans (hc 2 _ rfl)
   have C3:=(hb.cell (p:=⟨b,off+i*4+3,none⟩) hbl).trans (hc 3 _ rfl)
   rw [Nat.add_zero] at C0
   clear hc
   have hal:Below wr.heap.size wr (wr.alloc (.cells #[.string s0,.int .i64 x,.int .i64 pl,.int .i64 pc] 61)):=(Below.refl _ _).alloc (Nat.le_refl _) _
   have hX:Bn (wr.alloc (.cells #[.string s0,.int .i64 x,.int .i64 pl,.int .i64 pc] 61)) wr.heap.size [.string s0,.int .i64 x,.int .i64 pl,.int .i64 pc]:=Bn.new wr [.string s0,.int .i64 x,.int .i64 pl,.int .i64 pc] 61 _ rfl
   have hbx:=hb.trans (hal.mono hb.size)
   have hcall:∀ w1,Below w.heap.size w w1→Calls Tryz.prog 24 #[.agg #[.string s0,.int .i64 x,.int .i64 pl,.int .i64 pc]] w1 fun e w'=>e=.returned (.bool (f q))∧Below w1.heap.size w1 w':=fun w1 b1=>by
    rw [hfx]
    exact rvar_any s0 x pl pc w1 hss
   clear hfx hss
   have hac2:Hid (f q=true→(∀ x∈l.take (i+1),f x=true)):=fun hq=>by
    rw [List.take_succ_eq_append_getElem hil,HQ.out]
    intro x hx
    rcases List.mem_append.1 hx with hx | hx
    ·exact hT.out x hx
    ·rw [List.mem_singleton.1 hx];exact hq
   have hall:Hid (f q=false→l.all f=false):=fun hq=>by
    show l.all f=false
    rw [List.all_eq_false]
    exact ⟨q,by rw [← HQ.out];exact List.getElem_mem hil,by rw [hq];decide⟩
   cases hfq:f q with
   | true=>
    rw [hfq] at hcall
    have hT2:Hid (∀ x∈l.take (i+1),f x=true):=hac2.out hfq
    clear hac2 hall hfq
    go_upto_region 4 with fail
    clear C0 C1 C2 C3
    generalize (wr.alloc (.cells #[.string s0,.int .i64 x,.int .i64 pl,.int .i64 pc] 61))=wx at *
    obtain ⟨x0,_⟩:=hX 0 _ rfl
    obtain ⟨x1,_⟩:=hX 1 _ rfl
    obtain ⟨x2,_⟩:=hX 2 _ rfl
    obtain ⟨x3,_⟩:=hX 3 _ rfl
    go_wp2_with (first
     | (go_at_call 24;refine (hcall _ hbx).mono ?_;rintro e w1 ⟨rfl,b1⟩)
     | fail)
    have hb2:=hbx.trans (b1.mono hbx.size)
    go_wp2
    go_roundw
    case rel=>exact ⟨i+1,hlt,by go_num,hT2,hb2⟩
    case measure=>simp [RowKit.intOf];omega
   | false=>
    rw [hfq] at hcall
    have hA:=hall.out hfq
    rw [hA] at HA
    subst HA
    clear hac2 hall hfq hA
    go_upto_region 4 with fail
    clear C0 C1 C2 C3
    generalize (wr.alloc (.cells #[.string s0,.int .i64 x,.int .i64 pl,.int .i64 pc] 61))=wx at *
    obtain ⟨x0,_⟩:=hX 0 _ rfl
    obtain ⟨x1,_⟩:=hX 1 _ rfl
    obtain ⟨x2,_⟩:=hX 2 _ rfl
    obtain ⟨x3,_⟩:=hX 3 _ rfl
    go_wp2_with (first
     | (go_at_call 24;refine (hcall _ hbx).mono ?_;rintro e w1 ⟨rfl,b1⟩)
     | fail)
    go_ret
    exact ⟨rfl,hbx.trans (b1.mono hbx.size)⟩
  ·have i1:¬ (i:Int) < (n:Int):=by omega
   have hV:V=true:=by
    rw [← HAA.out,List.all_eq_true]
    have hf:=hT.out
    rw [List.take_of_length_le (by rw [HN.out];omega)] at hf
    exact hf
   subst hV
   go_wp2
   go_ret
   exact ⟨rfl,hb⟩
def kR (sd su:ByteArray) (sw sr:Int) (sb se:Bool):Bool:=if sd.toList=[]∧su.toList=[]∧sw=0∧(sr == 0)=true then !sb || !se else !sb && !se && plainB (bl sd) && plainB (bl su) && nbB sw && nbB sr
set_option maxRecDepth 100000 in
set_option maxHeartbeats 8000000 in
theorem rknd_any (sn:ByteArray) (sl sc:Int) (sb se:Bool) (sd su:ByteArray) (sw sr:Int) (p1:Option Addr) (m p3:Nat) (p4:Option Addr) (ni p6:Nat) (w:World) (hsd:sd.size≤140737488351232) (hsu:su.size≤140737488351232):Calls Tryz.prog 44 #[.agg #[.string sn,.int .i64 sl,.int .i64 sc,.bool sb,.bool se,.string sd,.string su,.int .i64 sw,.int .i64 sr,.slice p1 m p3,.slice p4 ni p6]] w fun e w'=>e=.returned (.bool (kR sd su sw sr sb se))∧Below w.heap.size w w':=by
 have hal:Below w.heap.size w (w.alloc (.cells #[.string sn,.int .i64 sl,.int .i64 sc,.bool sb,.bool se,.string sd,.string su,.int .i64 sw,.int .i64 sr,.slice p1 m p3,.slice p4 ni p6] 57)):=(Below.refl w.heap.size w).alloc (Nat.le_refl _) _
 have hX:Bn (w.alloc (.cells #[.string sn,.int .i64 sl,.int .i64 sc,.bool sb,.bool se,.string sd,.string su,.int .i64 sw,.int .i64 sr,.slice p1 m p3,.slice p4 ni p6] 57)) w.heap.size [.string sn,.int .i64 sl,.int .i64 sc,.bool sb,.bool se,.string sd,.string su,.int .i64 sw,.int .i64 sr,.slice p1 m p3,.slice p4 ni p6]:=Bn.new w [.string sn,.int .i64 sl,.int .i64 sc,.bool sb,.bool se,.string sd,.string su,.int .i64 sw,.int .i64 sr,.slice p1 m p3,.slice p4 ni p6] 57 _ rfl
 all_goals (
  go_enter Tryz.func44,Tryz.ntmps44
  go_upto_region 1 with fail
  generalize (w.alloc (.cells #[.string sn,.int .i64 sl,.int .i64 sc,.bool sb,.bool se,.string sd,.string su,.int .i64 sw,.int .i64 sr,.slice p1 m p3,.slice p4 ni p6] 57))=wx at *
  have hB:Below wx.heap.size wx wx:=Below.refl _ _
  obtain ⟨x0,_⟩:=hX 0 _ rfl
  obtain ⟨x1,_⟩:=hX 1 _ rfl
  obtain ⟨x2,_⟩:=hX 2 _ rfl
  obtain ⟨x3,_⟩:=hX 3 _ rfl
  obtain ⟨x4,_⟩:=hX 4 _ rfl
  obtain ⟨x5,_⟩:=hX 5 _ rfl
  obtain ⟨x6,_⟩:=hX 6 _ rfl
  obtain ⟨x7,_⟩:=hX 7 _ rfl
  obtain ⟨x8,_⟩:=hX 8 _ rfl
  obtain ⟨x9,_⟩:=hX 9 _ rfl
  obtain ⟨x10,_⟩:=hX 10 _ rfl
  go_wp2_with (first
   | (go_at_call 21;refine (rnameB _ _ (by assumption)).mono ?_;rintro e w1 ⟨rfl,b1⟩;have hB:=Below.nx hB b1;obtain ⟨x5,_⟩:=(hX.on hB) 5 _ rfl;obtain ⟨x6,_⟩:=(hX.on hB) 6 _ rfl;obtain ⟨x7,_⟩:=(hX.on hB) 7 _ rfl;obtain ⟨x8,_⟩:=(hX.on hB) 8 _ rfl)
   | (go_at_call 22;refine (rnum_any _ _).mono ?_;rintro e w1 ⟨rfl,b1⟩;have hB:=Below.nx hB b1;obtain ⟨x7,_⟩:=(hX.on hB) 7 _ rfl;obtain ⟨x8,_⟩:=(hX.on hB) 8 _ rfl)
   | fail)
  all_goals (
   go_ret
   exact ⟨by simp [kR, *],hal.trans (hB.mono hal.size)⟩))
def HdK (h:HdC):Prop:=h.1.1.length≤140737488351232∧h.2.2.1.1.length≤140737488351232∧h.2.2.1.2.length≤140737488351232∧∀ o∈h.2.2.2.2,OnK o
def StK:(d:Nat)→St d→Prop
 | 0,t=>Empty.elim t
 | d+1,t=>HdK t.1∧∀ x∈t.2,StK d x
theorem kR_eq (sd su:ByteArray) (h:HdC) (h1:bl sd=h.2.2.1.1) (h2:bl su=h.2.2.1.2):kR sd su h.2.2.2.1.1 h.2.2.2.1.2 h.2.1.1 h.2.1.2=kndF h:=by
 have e1:sd.toList=bl sd:=ByteArray.toList_eq _
 have e2:su.toList=bl su:=ByteArray.toList_eq _
 unfold kR kndF stepB
 rw [e1,e2,← h1,← h2]
 by_cases a:bl sd=[] <;> by_cases b:bl su=[] <;> by_cases c:h.2.2.2.1.1=0 <;> by_cases e:h.2.2.2.1.2=0 <;> simp [a,b,c,e]
theorem hd_out (h:HdC) (h1:h.1.1.length≤140737488351232) (h2:h.2.2.1.1.length≤140737488351232) (h3:h.2.2.1.2.length≤140737488351232):∃ (sn:ByteArray) (sl sc:Int) (sb se:Bool) (sd su:ByteArray) (sw sr:Int),hdV h=(fun so si=>[.string sn,.int .i64 sl,.int .i64 sc,.bool sb,.bool se,.string sd,.string su,.int .i64 sw,.int .i64 sr,so,si])∧plainB h.1.1=plainB (bl sn)∧kndF h=kR sd su sw sr sb se∧sn.size≤140737488351232∧sd.size≤140737488351232∧su.size≤140737488351232:=by
 obtain ⟨sn,a1,a2,a3⟩:=sV_out h.1.1 h1
 obtain ⟨sd,b1,b2,b3⟩:=sV_out h.2.2.1.1 h2
 obtain ⟨su,c1,c2,c3⟩:=sV_out h.2.2.1.2 h3
 refine ⟨sn,h.1.2.1,h.1.2.2,h.2.1.1,h.2.1.2,sd,su,h.2.2.2.1.1,h.2.2.2.1.2,?_,by rw [a2],(kR_eq sd su h b2 c2).symm,a3,b3,c3⟩
 funext so si
 unfold hdV
 rw [a1,b1,c1]
set_option maxRecDepth 100000 in
set_option maxHeartbeats 8000000 in
theorem rst1_any (sn:ByteArray) (sl sc:Int) (sb se:Bool) (sd su:ByteArray) (sw sr:Int) (p1:Option Addr) (m p3:Nat) (p4:Option Addr) (ni p6:Nat) (kb:Nat) (n:Int) (bk bo bi:Bool) (w:World) (h0:0≤n) (hkl:kb < w.heap.size) (hkc:w.cell? ⟨kb,0,none⟩=some (.int .i64 n)) (hsn:sn.size≤140737488351232) (hk:∀ w1,Below w.heap.size w w1→Calls Tryz.prog 44 #[.agg #[.string sn,.int .i64 sl,.int .i64 sc,.bool sb,.bool se,.string sd,.string su,.int .i64 sw,.int .i64 sr,.slice p1 m p3,.slice p4 ni p6]] w1 fun e w'=>e=.returned (.bool bk)∧Below w1.heap.size w1 w') (ho:∀ w1,Below w.heap.size w w1→Calls Tryz.prog 45 #[.slice p1 m p3,.func (.func 46) #[] #[]] w1 fun e w'=>e=.returned (.bool bo)∧Below w1.heap.size w1 w') (hi:∀ w1,Below w.heap.size w w1→Calls Tryz.prog 25 #[.slice p4 ni p6,.int .i64 (n+1)] w1 fun e w'=>e=.returned (.bool bi)∧Below w1.heap.size w1 w'):Calls Tryz.prog 43 #[.agg #[.string sn,.int .i64 sl,.int .i64 sc,.bool sb,.bool se,.string sd,.string su,.int .i64 sw,.int .i64 sr,.slice p1 m p3,.slice p4 ni p6],.pointer (some ⟨kb,0,none⟩)] w fun e w'=>e=.returned (.bool (decide (n≤6) && plainB (bl sn) && bk && bo && bi))∧Below w.heap.size w w':=by
 have hal:Below w.heap.size w (w.alloc (.cells #[.string sn,.int .i64 sl,.int .i64 sc,.bool sb,.bool se,.string sd,.string su,.int .i64 sw,.int .i64 sr,.slice p1 m p3,.slice p4 ni p6] 57)):=(Below.refl w.heap.size w).alloc (Nat.le_refl _) _
 have hX:Bn (w.alloc (.cells #[.string sn,.int .i64 sl,.int .i64 sc,.bool sb,.bool se,.string sd,.string su,.int .i64 sw,.int .i64 sr,.slice p1 m p3,.slice p4 ni p6] 57)) w.heap.size [.string sn,.int .i64 sl,.int .i64 sc,.bool sb,.bool se,.string sd,.string su,.int .i64 sw,.int .i64 sr,.slice p1 m p3,.slice p4 ni p6]:=Bn.new w [.string sn,.int .i64 sl,.int .i64 sc,.bool sb,.bool se,.string sd,.string su,.int .i64 sw,.int .i64 sr,.slice p1 m p3,.slice p4 ni p6] 57 _ rfl
 by_cases hn6:n≤6
 all_goals (
  go_enter Tryz.func43,Tryz.ntmps43
  go_upto_region 1 with fail
  generalize (w.alloc (.cells #[.string sn,.int .i64 sl,.int .i64 sc,.bool sb,.bool se,.string sd,.string su,.int .i64 sw,.int .i64 sr,.slice p1 m p3,.slice p4 ni p6] 57))=wx at *
  have hB:Below wx.heap.size wx wx:=Below.refl _ _
  obtain ⟨x0,_⟩:=hX 0 _ rfl
  obtain ⟨x1,_⟩:=hX 1 _ rfl
  obtain ⟨x2,_⟩:=hX 2 _ rfl
  obtain ⟨x3,_⟩:=hX 3 _ rfl
  obtain ⟨x4,_⟩:=hX 4 _ rfl
  obtain ⟨x5,_⟩:=hX 5 _ rfl
  obtain ⟨x6,_⟩:=hX 6 _ rfl
  obtain ⟨x7,_⟩:=hX 7 _ rfl
  obtain ⟨x8,_⟩:=hX 8 _ rfl
  obtain ⟨x9,_⟩:=hX 9 _ rfl
  obtain ⟨x10,_⟩:=hX 10 _ rfl
  have kc:=(hal.cell (p:=⟨kb,0,none⟩) hkl).trans hkc
  go_wp2_with (first
   | (go_at_call 21;refine (rnameB _ _ (by assumption)).mono ?_;rintro e w1 ⟨rfl,b1⟩;have hB:=Below.nx hB b1;have kc:=((hal.trans (hB.mono hal.size)).cell (p:=⟨kb,0,none⟩) hkl).trans hkc;obtain ⟨x0,_⟩:=(hX.on hB) 0 _ rfl;obtain ⟨x1,_⟩:=(hX.on hB) 1 _ rfl;obtain ⟨x2,_⟩:=(hX.on hB) 2 _ rfl;obtain ⟨x3,_⟩:=(hX.on hB) 3 _ rfl;obtain ⟨x4,_⟩:=(hX.on hB) 4 _ rfl;obtain ⟨x5,_⟩:=(hX.on hB) 5 _ rfl;obtain ⟨x6,_⟩:=(hX.on hB) 6 _ rfl;obtain ⟨x7,_⟩:=(hX.on hB) 7 _ rfl;obtain ⟨x8,_⟩:=(hX.on hB) 8 _ rfl;obtain ⟨x9,_⟩:=(hX.on hB) 9 _ rfl;obtain ⟨x10,_⟩:=(hX.on hB) 10 _ rfl)
   | (go_at_call 44;refine (hk _ (hal.trans (hB.mono hal.size))).mono ?_;rintro e w1 ⟨rfl,b1⟩;have hB:=Below.nx hB b1;have kc:=((hal.trans (hB.mono hal.size)).cell (p:=⟨kb,0,none⟩) hkl).trans hkc;obtain ⟨x9,_⟩:=(hX.on hB) 9 _ rfl;obtain ⟨x10,_⟩:=(hX.on hB) 10 _ rfl)
   | (go_at_call 45;refine (ho _ (hal.trans (hB.mono hal.size))).mono ?_;rintro e w1 ⟨rfl,b1⟩;have hB:=Below.nx hB b1;have kc:=((hal.trans (hB.mono hal.size)).cell (p:=⟨kb,0,none⟩) hkl).trans hkc;obtain ⟨x10,_⟩:=(hX.on hB) 10 _ rfl)
   | (go_at_call 25;refine (hi _ (hal.trans (hB.mono hal.size))).mono ?_;rintro e w1 ⟨rfl,b1⟩;have hB:=Below.nx hB b1;have kc:=((hal.trans (hB.mono hal.size)).cell (p:=⟨kb,0,none⟩) hkl).trans hkc;skip)
   | fail)
  all_goals (
   go_ret
   exact ⟨by first | (simp [*];done) | (simp [*];intro hz;omega),hal.trans (hB.mono hal.size)⟩))
set_option maxRecDepth 100000 in
set_option maxHeartbeats 8000000 in
theorem everySt_any {d kb n0:Nat}{ok:Nat→Prop}{w:World}{l:List (St (d+1))}{v:Value}(h:RdK ok w 11 (rSt (d+1) ok w) l v) (hok:∀ s∈l,HdK s.1) (hin:∀ t∈l,∀ (w1:World) (v1:Value),RdK ok w1 11 (rSt d ok w1) t.2 v1→Pow w1→Calls Tryz.prog 25 #[v1,.int .i64 ((n0:Int)+1)] w1 fun e w'=>e=.returned (.bool (t.2.all (stF d (n0+1))))∧Below w1.heap.size w1 w') (hp:Pow w) (hkl:kb < w.heap.size) (hkc:w.cell? ⟨kb,0,none⟩=some (.int .i64 (n0:Int))) :
  Calls Tryz.prog 42 #[v,.func (.func 43) #[] #[.pointer (some ⟨kb,0,none⟩)]] w fun e w'=>e=.returned (.bool (l.all (stF (d+1) n0)))∧Below w.heap.size w w':=by
 obtain ⟨a,cap,rfl,hlc,hcm⟩:=h.form
 unfold maxLen at hcm
 have HC:=mkHid h
 have HK:=mkHid hok
 have HI:=mkHid hin
 obtain ⟨n,hn⟩:∃ n,l.length=n:=⟨_,rfl⟩
 rw [hn] at hlc ⊢
 have HN:Hid (l.length=n):=hn
 obtain ⟨f,hf⟩:∃ f:(St (d+1))→Bool,(stF (d+1) n0)=f:=⟨_,rfl⟩
 rw [hf]
 have HF:=mkHid hf
 obtain ⟨V,HA⟩:∃ V,l.all f=V:=⟨_,rfl⟩
 rw [HA]
 have HAA:=mkHid HA
 clear h hok hin hn hf HA
 go_enter Tryz.func42,Tryz.ntmps42
 go_wp2
 go_loopw [9] (fun ix wr=>∃ (i:Nat),i≤n∧ix=.int .i64 (i:Int)∧Hid (∀ x∈l.take i,f x=true)∧Below w.heap.size w wr) (fun ix _=>n - (RowKit.intOf ix).toNat)
 case atStart=>exact ⟨0,Nat.zero_le _,rfl,(show Hid _ from fun x hx=>by simp at hx),Below.refl _ _⟩
 case round=>
  obtain ⟨i,hi,rfl,hT,hb⟩:=hrel
  by_cases hlt:i < n
  ·have hil:i < l.length:=by rw [HN.out];exact hlt
   have HA:=HAA.out
   obtain ⟨b,off,p1,p3,p4,p6,rfl,hbl,hOn,hIn,hc⟩:=stQ_at HC.out i hil
   have hmem:=List.getElem_mem hil
   have hko:=HK.out _ hmem
   have hiq:=HI.out _ hmem
   obtain ⟨q,ht⟩:∃ t,l[i]=t:=⟨_,rfl⟩
   have HQ:=mkHid ht
   rw [ht] at hOn hIn hc hko hiq
   obtain ⟨sn,sl,sc,sb,se,sd,su,sw,sr,hsv,hpn,hkd,hsn,hsd,hsu⟩:=hd_out q.1 hko.1 hko.2.1 hko.2.2.1
   have hfx:f q=(decide ((n0:Int)≤6) && plainB (bl sn) && kR sd su sw sr sb se && q.1.2.2.2.2.all onF && q.2.all (stF d (n0+1))):=by
    rw [← HF.out,← hpn,← hkd]
    have e:decide ((n0:Int)≤6)=decide (n0≤6):=by by_cases hh:n0≤6 <;> simp [hh] <;> omega
    rw [e];rfl
   obtain ⟨m,hm⟩:∃ m,q.1.2.2.2.2.length=m:=⟨_,rfl⟩
   obtain ⟨ni,hni⟩:∃ m,q.2.length=m:=⟨_,rfl⟩
   rw [hm] at hOn hc
   rw [hni] at hIn hc
   rw [hsv] at hc
   have HON:=mkHid hOn
   have HIQ:=mkHid hiq
   have HIN:=mkHid hIn
   have HKO:=mkHid hko
   clear hmem ht hm hni hsv hOn hIn hko hiq hpn hkd
   have i1:(i:Int) < (n:Int):=by omega
   have i2:(0:Int)≤(i:Int):=by omega
   have C0:=(hb.cell (p:=⟨b,off+i*11+0,none⟩) hbl).trans (hc 0 _ rfl)
   have C1:=(hb.cell (p:=⟨b,off+i*11+1,none⟩) hbl).trans (hc 1 _ rfl)
   have C2:=(hb.cell (p:=⟨b,off+i*11+2,none⟩) hbl).trans (hc 2 _ rfl)
   have C3:=(hb.cell (p:=⟨b,off+i*11+3,none⟩) hbl).trans (hc 3 _ rfl)
   have C4:=(hb.cell (p:=⟨b,off+i*11+4,none⟩) hbl).trans (hc 4 _ rfl)
   have C5:=(hb.cell (p:=⟨b,off+i*11+5,none⟩) hbl).trans (hc 5 _ rfl)
   have C6:=(hb.cell (p:=⟨b,off+i*11+6,none⟩) hbl).trans (hc 6 _ rfl)
   have C7:=(hb.cell (p:=⟨b,off+i*11+7,none⟩) hbl).trans (hc 7 _ rfl)
   have C8:=(hb.cell (p:=⟨b,off+i*11+8,none⟩) hbl).trans (hc 8 _ rfl)
   have C9:=(hb.cell (p:=⟨b,off+i*11+9,none⟩) hbl).trans (hc 9 _ rfl)
   have C10:=(hb.cell (p:=⟨b,off+i*11+10,none⟩) hbl).trans (hc 10 _ rfl)
   rw [Nat.add_zero] at C0
   clear hc
   have hal:Below wr.heap.size wr (wr.alloc (.cells #[.string sn,.int .i64 sl,.int .i64 sc,.bool sb,.bool se,.string sd,.string su,.int .i64 sw,.int .i64 sr,.slice p1 m p3,.slice p4 ni p6] 57)):=(Below.refl _ _).alloc (Nat.le_refl _) _
   have hX:Bn (wr.alloc (.cells #[.string sn,.int .i64 sl,.int .i64 sc,.bool sb,.bool se,.string sd,.string su,.int .i64 sw,.int .i64 sr,.slice p1 m p3,.slice p4 ni p6] 57)) wr.heap.size [.string sn,.int .i64 sl,.int .i64 sc,.bool sb,.bool se,.string sd,.string su,.int .i64 sw,.int .i64 sr,.slice p1 m p3,.slice p4 ni p6]:=Bn.new wr [.string sn,.int .i64 sl,.int .i64 sc,.bool sb,.bool se,.string sd,.string su,.int .i64 sw,.int .i64 sr,.slice p1 m p3,.slice p4 ni p6] 57 _ rfl
   have hbx:=hb.trans (hal.mono hb.size)
   have hcall:∀ w1,Below w.heap.size w w1→Calls Tryz.prog 43 #[.agg #[.string sn,.int .i64 sl,.int .i64 sc,.bool sb,.bool se,.string sd,.string su,.int .i64 sw,.int .i64 sr,.slice p1 m p3,.slice p4 ni p6],.pointer (some ⟨kb,0,none⟩)] w1 fun e w'=>e=.returned (.bool (f q))∧Below w1.heap.size w1 w':=fun w1 b1=>by
    rw [hfx]
    exact rst1_any sn sl sc sb se sd su sw sr p1 m p3 p4 ni p6 kb n0 _ _ _ w1 (by omega) (Nat.lt_of_lt_of_le hkl b1.size) ((b1.cell (p:=⟨kb,0,none⟩) hkl).trans hkc) hsn (fun w2 b2=>rknd_any sn sl sc sb se sd su sw sr p1 m p3 p4 ni p6 w2 hsd hsu) (fun w2 b2=>everyOn_any (HON.out.stay kp_on (ok':=ok) (fun b hb hl=>⟨hb,((b2.block b (Nat.lt_of_lt_of_le hl b1.size)).trans (b1.block b hl))⟩)) HKO.out.2.2.2 ((hp.below b1).below b2)) (fun w2 b2=>HIQ.out w2 _ (HIN.out.stay (kp_st d) (ok':=ok) (fun b hb hl=>⟨hb,((b2.block b (Nat.lt_of_lt_of_le hl b1.size)).trans (b1.block b hl))⟩)) ((hp.below b1).below b2))
   clear hfx hsn hsd hsu
   have hac2:Hid (f q=true→(∀ x∈l.take (i+1),f x=true)):=fun hq=>by
    rw [List.take_succ_eq_append_getElem hil,HQ.out]
    intro x hx
    rcases List.mem_append.1 hx with hx | hx
    ·exact hT.out x hx
    ·rw [List.mem_singleton.1 hx];exact hq
   have hall:Hid (f q=false→l.all f=false):=fun hq=>by
    show l.all f=false
    rw [List.all_eq_false]
    exact ⟨q,by rw [← HQ.out];exact List.getElem_mem hil,by rw [hq];decide⟩
   cases hfq:f q with
   | true=>
    rw [hfq] at hcall
    have hT2:Hid (∀ x∈l.take (i+1),f x=true):=hac2.out hfq
    clear hac2 hall hfq
    go_upto_region 4 with fail
    clear C0 C1 C2 C3 C4 C5 C6 C7 C8 C9 C10
    generalize (wr.alloc (.cells #[.string sn,.int .i64 sl,.int .i64 sc,.bool sb,.bool se,.string sd,.string su,.int .i64 sw,.int .i64 sr,.slice p1 m p3,.slice p4 ni p6] 57))=wx at *
    obtain ⟨x0,_⟩:=hX 0 _ rfl
    obtain ⟨x1,_⟩:=hX 1 _ rfl
    obtain ⟨x2,_⟩:=hX 2 _ rfl
    obtain ⟨x3,_⟩:=hX 3 _ rfl
    obtain ⟨x4,_⟩:=hX 4 _ rfl
    obtain ⟨x5,_⟩:=hX 5 _ rfl
    obtain ⟨x6,_⟩:=hX 6 _ rfl
    obtain ⟨x7,_⟩:=hX 7 _ rfl
    obtain ⟨x8,_⟩:=hX 8 _ rfl
    obtain ⟨x9,_⟩:=hX 9 _ rfl
    obtain ⟨x10,_⟩:=hX 10 _ rfl
    go_wp2_with (first
     | (go_at_call 43;refine (hcall _ hbx).mono ?_;rintro e w1 ⟨rfl,b1⟩)
     | fail)
    have hb2:=hbx.trans (b1.mono hbx.size)
    go_wp2
    go_roundw
    case rel=>exact ⟨i+1,hlt,by go_num,hT2,hb2⟩
    case measure=>simp [RowKit.intOf];omega
   | false=>
    rw [hfq] at hcall
    have hA:=hall.out hfq
    rw [hA] at HA
    subst HA
    clear hac2 hall hfq hA
    go_upto_region 4 with fail
    clear C0 C1 C2 C3 C4 C5 C6 C7 C8 C9 C10
    generalize (wr.alloc (.cells #[.string sn,.int .i64 sl,.int .i64 sc,.bool sb,.bool se,.string sd,.string su,.int .i64 sw,.int .i64 sr,.slice p1 m p3,.slice p4 ni p6] 57))=wx at *
    obtain ⟨x0,_⟩:=hX 0 _ rfl
    obtain ⟨x1,_⟩:=hX 1 _ rfl
    obtain ⟨x2,_⟩:=hX 2 _ rfl
    obtain ⟨x3,_⟩:=hX 3 _ rfl
    obtain ⟨x4,_⟩:=hX 4 _ rfl
    obtain ⟨x5,_⟩:=hX 5 _ rfl
    obtain ⟨x6,_⟩:=hX 6 _ rfl
    obtain ⟨x7,_⟩:=hX 7 _ rfl
    obtain ⟨x8,_⟩:=hX 8 _ rfl
    obtain ⟨x9,_⟩:=hX 9 _ rfl
    obtain ⟨x10,_⟩:=hX 10 _ rfl
    go_wp2_with (first
     | (go_at_call 43;refine (hcall _ hbx).mono ?_;rintro e w1 ⟨rfl,b1⟩)
     | fail)
    go_ret
    exact ⟨rfl,hbx.trans (b1.mono hbx.size)⟩
  ·have i1:¬ (i:Int) < (n:Int):=by omega
   have hV:V=true:=by
    rw [← HAA.out,List.all_eq_true]
    have hf:=hT.out
    rw [List.take_of_length_le (by rw [HN.out];omega)] at hf
    exact hf
   subst hV
   go_wp2
   go_ret
   exact ⟨rfl,hb⟩
def RsK (d:Nat):Prop:=∀ (ok:Nat→Prop) (w:World) (l:List (St d)) (v:Value) (n0:Nat),RdK ok w 11 (rSt d ok w) l v→(∀ t∈l,StK d t)→Pow w→Calls Tryz.prog 25 #[v,.int .i64 (n0:Int)] w fun e w'=>e=.returned (.bool (l.all (stF d n0)))∧Below w.heap.size w w'
theorem rsts_walk {w:World}{v:Value}{n:Int}{b:Bool}(hv:∃ a m cap,v=.slice a m cap) (hk:∀ T,Calls Tryz.prog 42 #[v,.func (.func 43) #[] #[.pointer (some ⟨w.heap.size,0,none⟩)]] (w.alloc (.cells #[.int .i64 n] T)) fun e w'=>e=.returned (.bool b)∧Below (w.alloc (.cells #[.int .i64 n] T)).heap.size (w.alloc (.cells #[.int .i64 n] T)) w'):Calls Tryz.prog 25 #[v,.int .i64 n] w fun e w'=>e=.returned (.bool b)∧Below w.heap.size w w':=by
 have hal:∀ T,Below w.heap.size w (w.alloc (.cells #[.int .i64 n] T)):=fun T=>(Below.refl w.heap.size w).alloc (Nat.le_refl _) _
 obtain ⟨p4,ni,p6,rfl⟩:=hv
 go_enter Tryz.func25,Tryz.ntmps25
 go_upto_region 1 with fail
 go_wp2_with (first
  | (go_at_call 42;refine (hk _).mono ?_;rintro e w1 ⟨rfl,b1⟩)
  | fail)
 go_ret
 exact ⟨rfl,(hal _).trans (b1.mono (hal _).size)⟩
theorem rsts_in {d:Nat}(ok:Nat→Prop) (w:World) (l:List (St (d+1))) (v:Value) (n0:Nat) (h:RdK ok w 11 (rSt (d+1) ok w) l v) (hk:∀ t∈l,HdK t.1) (hin:∀ t∈l,∀ (w1:World) (v1:Value),RdK ok w1 11 (rSt d ok w1) t.2 v1→Pow w1→Calls Tryz.prog 25 #[v1,.int .i64 ((n0:Int)+1)] w1 fun e w'=>e=.returned (.bool (t.2.all (stF d (n0+1))))∧Below w1.heap.size w1 w') (hp:Pow w):Calls Tryz.prog 25 #[v,.int .i64 (n0:Int)] w fun e w'=>e=.returned (.bool (l.all (stF (d+1) n0)))∧Below w.heap.size w w':=by
 refine rsts_walk (h.form.elim fun a x=>x.elim fun cap y=>⟨a,_,cap,y.1⟩) fun T=>?_
 have hal:Below w.heap.size w (w.alloc (.cells #[.int .i64 (n0:Int)] T)):=(Below.refl w.heap.size w).alloc (Nat.le_refl _) _
 have hX:Bn (w.alloc (.cells #[.int .i64 (n0:Int)] T)) w.heap.size [.int .i64 (n0:Int)]:=Bn.new w [.int .i64 (n0:Int)] T _ rfl
 exact everySt_any (h.stay (kp_st (d+1)) (ok':=ok) (fun b hb hl=>⟨hb,hal.block b hl⟩)) hk hin (hp.below hal) (by simp) (hX 0 _ rfl).1
theorem rsts_zero:RsK 0:=by
 intro ok w l v n0 h hk hp
 have hl:l=[]:=by
  cases l with
  | nil=>rfl
  | cons t r=>exact Empty.elim t
 subst hl
 exact rsts_in (d:=0) ok w [] v n0 (by
  obtain ⟨a,cap,e,h1,h2,h3⟩:=h
  refine ⟨a,cap,e,h1,h2,?_⟩
  exact fun i hi=>absurd hi (Nat.not_lt_zero i)) (fun t ht=>by simp at ht) (fun t ht=>by simp at ht) hp
theorem rsts_step {d:Nat}(IH:RsK d):RsK (d+1):=by
 intro ok w l v n0 h hk hp
 refine rsts_in ok w l v n0 h (fun t ht=>(hk t ht).1) (fun t ht w1 v1 hr hp1=>?_) hp
 have:=IH ok w1 t.2 v1 (n0+1) hr (hk t ht).2 hp1
 rw [Int.natCast_add] at this
 exact this
theorem rsts_any:∀ d,RsK d
 | 0=>rsts_zero
 | d+1=>rsts_step (rsts_any d)
set_option maxRecDepth 100000 in
set_option maxHeartbeats 8000000 in
theorem formed_walk (s0:ByteArray) (n pl pc:Int) (p1:Option Addr) (m p3:Nat) (p4:Option Addr) (ni p6:Nat) (bv bs:Bool) (w:World) (hs0:s0.size≤140737488351232) (hv:∀ w1,Below w.heap.size w w1→Calls Tryz.prog 23 #[.slice p1 m p3,.func (.func 24) #[] #[]] w1 fun e w'=>e=.returned (.bool bv)∧Below w1.heap.size w1 w') (hs:∀ w1,Below w.heap.size w w1→Calls Tryz.prog 25 #[.slice p4 ni p6,.int .i64 1] w1 fun e w'=>e=.returned (.bool bs)∧Below w1.heap.size w1 w'):Calls Tryz.prog 15 #[.agg #[.string s0,.int .i64 n,.int .i64 pl,.int .i64 pc,.slice p1 m p3,.slice p4 ni p6]] w fun e w'=>e=.returned (.bool (plainB (bl s0) && nbB n && bv && bs))∧Below w.heap.size w w':=by
 have hal:Below w.heap.size w (w.alloc (.cells #[.string s0,.int .i64 n,.int .i64 pl,.int .i64 pc,.slice p1 m p3,.slice p4 ni p6] 34)):=(Below.refl w.heap.size w).alloc (Nat.le_refl _) _
 have hX:Bn (w.alloc (.cells #[.string s0,.int .i64 n,.int .i64 pl,.int .i64 pc,.slice p1 m p3,.slice p4 ni p6] 34)) w.heap.size [.string s0,.int .i64 n,.int .i64 pl,.int .i64 pc,.slice p1 m p3,.slice p4 ni p6]:=Bn.new w [.string s0,.int .i64 n,.int .i64 pl,.int .i64 pc,.slice p1 m p3,.slice p4 ni p6] 34 _ rfl
 all_goals (
  go_enter Tryz.func15,Tryz.ntmps15
  go_upto_region 1 with fail
  generalize (w.alloc (.cells #[.string s0,.int .i64 n,.int .i64 pl,.int .i64 pc,.slice p1 m p3,.slice p4 ni p6] 34))=wx at *
  have hB:Below wx.heap.size wx wx:=Below.refl _ _
  obtain ⟨x0,_⟩:=hX 0 _ rfl
  obtain ⟨x1,_⟩:=hX 1 _ rfl
  obtain ⟨x2,_⟩:=hX 2 _ rfl
  obtain ⟨x3,_⟩:=hX 3 _ rfl
  obtain ⟨x4,_⟩:=hX 4 _ rfl
  obtain ⟨x5,_⟩:=hX 5 _ rfl
  go_wp2_with (first
   | (go_at_call 21;refine (rnameB _ _ (by assumption)).mono ?_;rintro e w1 ⟨rfl,b1⟩;have hB:=Below.nx hB b1;obtain ⟨x1,_⟩:=(hX.on hB) 1 _ rfl;obtain ⟨x4,_⟩:=(hX.on hB) 4 _ rfl;obtain ⟨x5,_⟩:=(hX.on hB) 5 _ rfl)
   | (go_at_call 22;refine (rnum_any _ _).mono ?_;rintro e w1 ⟨rfl,b1⟩;have hB:=Below.nx hB b1;obtain ⟨x4,_⟩:=(hX.on hB) 4 _ rfl;obtain ⟨x5,_⟩:=(hX.on hB) 5 _ rfl)
   | (go_at_call 23;refine (hv _ (hal.trans (hB.mono hal.size))).mono ?_;rintro e w1 ⟨rfl,b1⟩;have hB:=Below.nx hB b1;obtain ⟨x5,_⟩:=(hX.on hB) 5 _ rfl)
   | (go_at_call 25;refine (hs _ (hal.trans (hB.mono hal.size))).mono ?_;rintro e w1 ⟨rfl,b1⟩;have hB:=Below.nx hB b1;skip)
   | fail)
  all_goals (
   go_ret
   exact ⟨by simp [*],hal.trans (hB.mono hal.size)⟩))
def ChK (d:Nat) (c:ChG d):Prop:=c.1.1.length≤140737488351232∧(∀ x∈c.2.2.1,x.1.length≤140737488351232)∧∀ t∈c.2.2.2,StK d t
theorem formedC_any {ok:Nat→Prop}{w:World}{d:Nat}{c:ChG d}{v:Value}(h:RdC ok w d c v) (hk:ChK d c) (hp:Pow w):Calls Tryz.prog 15 #[v] w fun e w'=>e=.returned (.bool (chF d c))∧Below w.heap.size w w':=by
 obtain ⟨sv,ss,rfl,hv,hs⟩:=h
 obtain ⟨s0,a1,a2,a3⟩:=sV_out c.1.1 hk.1
 have e:chF d c=(plainB (bl s0) && nbB c.2.1 && c.2.2.1.all varF && c.2.2.2.all (stF d 1)):=by rw [a2];rfl
 rw [a1,e]
 have kv:∀ w1,Below w.heap.size w w1→Calls Tryz.prog 23 #[sv,.func (.func 24) #[] #[]] w1 fun e w'=>e=.returned (.bool (c.2.2.1.all varF))∧Below w1.heap.size w1 w':=fun w1 b1=>everyVar_any (hv.stay kp_var (ok':=ok) (fun b hb hl=>⟨hb,b1.block b hl⟩)) hk.2.1
 have ks:∀ w1,Below w.heap.size w w1→Calls Tryz.prog 25 #[ss,.int .i64 1] w1 fun e w'=>e=.returned (.bool (c.2.2.2.all (stF d 1)))∧Below w1.heap.size w1 w':=fun w1 b1=>rsts_any d ok w1 c.2.2.2 ss 1 (hs.stay (kp_st d) (ok':=ok) (fun b hb hl=>⟨hb,b1.block b hl⟩)) hk.2.2 (hp.below b1)
 obtain ⟨p1,p3,rfl,_⟩:=hv.form
 obtain ⟨p4,p6,rfl,_⟩:=hs.form
 exact formed_walk s0 _ _ _ p1 _ p3 p4 _ p6 _ _ w a3 kv ks
end Go.Proofs.YtlgnahpfggagoaaGreatDoor
