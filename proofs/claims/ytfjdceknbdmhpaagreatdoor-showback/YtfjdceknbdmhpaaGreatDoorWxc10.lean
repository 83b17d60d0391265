import Derived.Test.YtfjdceknbdmhpaaGreatDoorWxc09
import Derived.Test.YtfjdceknbdmhpaaGreatDoorWxc06
import Derived.Deep.RegionHeldLaw
import Derived.Test.YtfjdceknbdmhpaaGreatDoorWxc08
import Derived.Deep.LoopGhost
set_option maxRecDepth 100000
set_option maxHeartbeats 32000000
namespace Go.Proofs.YtfjdceknbdmhpaaGreatDoor
open Go.RowKit Go.Lib
set_option linter.unusedSimpArgs false
set_option linter.unusedVariables false
attribute [local go_sem ↓] Go.wp_at_zero Go.wp_at_succ
def lnW (n:Nat) (s:List UInt8):List (List UInt8):=[List.replicate n 9,s,[10]]
def exW (x:Sx):List UInt8:=(prC x.1 x.2).1
def doW (h:HdC):List UInt8:=[100,111,32]++h.2.2.1.1++[32,117,110,100,111,32]++h.2.2.1.2++[32,97,116,32]++dcN h.2.2.2.1.1++[32,114,101,116,114,105,101,115,32]++dcN h.2.2.2.1.2
def kndW (n:Nat) (h:HdC):List (List UInt8):=
 if h.2.1.1=true then lnW n [97,108,108] else if h.2.1.2=true then lnW n [101,110,100] else if h.2.2.1.1≠[] then lnW n (doW h) else []
def setW (s:List UInt8 × Sx):List UInt8:=[32,115,101,116,32]++s.1++[32,61,32]++exW s.2
def grdW (g:Bool × Sx):List (List UInt8):=if g.1=true then [[32,105,102,32]++exW g.2] else []
def onW (n:Nat) (o:OnC):List (List UInt8):=[List.replicate n 9,[111,110,32]++o.1]++(grdW o.2.1++([[32,103,111,32]++o.2.2.1]++(o.2.2.2.1.map setW++[[10]])))
def stnW (s:List UInt8):List UInt8:=[115,116,97,116,101,32]++s++[32,123]
def stW:(d:Nat)->Nat->St d->List (List UInt8)
 | 0,_,t=>Empty.elim t
 | d+1,n,t=>lnW n (stnW t.1.1.1)++(kndW (n+1) t.1++((t.1.2.2.2.2.map (onW (n+1))).flatten++((t.2.map (stW d (n+1))).flatten++lnW n [125])))
def znW (n:Int):List UInt8:=if n < 0 then 45 :: dcN (-n) else dcN n
def varW (v:List UInt8 × Int × Pl):List (List UInt8):=lnW 1 ([118,97,114,32]++v.1++[32,61,32]++znW v.2.1)
def chnW (s:List UInt8) (n:Int):List UInt8:=[99,104,97,114,116,32]++s++[32]++dcN n++[32,123]
def chW (d:Nat) (c:ChX d):List (List UInt8):=lnW 0 (chnW c.1.1 c.2.1)++((c.2.2.1.map varW).flatten++((c.2.2.2.map (stW d 1)).flatten++lnW 0 [125]))
theorem exW_tx {x:Sx}(h:exF x=true):exW x=txQ (exQ x):=by
 have h2:fmX x=true/\plX x=true:=by unfold exF at h;rwa [Bool.and_eq_true] at h
 have e:prC x.1 x.2=(txtC x.1 x.2,0):=if_pos h2
 unfold exW exQ
 rw [e,txQ_qE];rfl
theorem txQ_tb (n:Nat):txQ (tbQ n)=List.replicate n 9:=by
 induction n with
 | zero=>rfl
 | succ n ih=>rw [List.replicate_succ,<- ih];rfl
theorem lnW_fl (n:Nat) (s:List UInt8):(lnW n s).flatten=List.replicate n 9++(s++[10]):=by simp [lnW]
theorem setW_tx {s:List UInt8 × Sx}(h:setF s=true):setW s=txQ (setQ s):=by
 unfold setF at h
 rw [Bool.and_eq_true] at h
 unfold setW setQ
 rw [txQ_app,exW_tx h.2]
 simp [txQ,pieQ,spQ,kwQ,sgQ,wSet]
theorem grdW_tx {g:Bool × Sx}(h:g.1=true->exF g.2=true):(grdW g).flatten=txQ (grdQ g):=by
 unfold grdW grdQ
 by_cases hg:g.1=true
 ·rw [if_pos hg,if_pos hg,txQ_app,exW_tx (h hg)]
  simp [txQ,pieQ,spQ,kwQ,wIf]
 ·rw [if_neg hg,if_neg hg];rfl
theorem flat_tx {α:Type}{f:α->List (List UInt8)}{g:α->List Pq}:∀ (l:List α),(∀ x∈l,(f x).flatten=txQ (g x))->(l.map f).flatten.flatten=txQ (l.map g).flatten
 | [],_=>rfl
 | x :: r,h=>by
  rw [List.map_cons,List.map_cons,List.flatten_cons,List.flatten_cons,List.flatten_append,txQ_app,h x (by simp),flat_tx r (fun y hy=>h y (by simp [hy]))]
theorem sets_tx:∀ (l:List (List UInt8 × Sx)),l.all setF=true->(l.map setW).flatten=txQ (l.map setQ).flatten
 | [],_=>rfl
 | x :: r,h=>by
  rw [List.all_cons,Bool.and_eq_true] at h
  rw [List.map_cons,List.map_cons,List.flatten_cons,List.flatten_cons,txQ_app,setW_tx h.1,sets_tx r h.2]
theorem onW_tx (n:Nat) {o:OnC}(h:onF o=true):(onW n o).flatten=txQ (onQ n o):=by
 obtain ⟨h1,h2,h3,h4⟩:=onF_parts h
 unfold onW onQ
 rw [List.flatten_append,List.flatten_append,List.flatten_append,List.flatten_append,grdW_tx h2,sets_tx _ h4]
 simp only [txQ_app,txQ_tb]
 simp [txQ,pieQ,spQ,kwQ,nlQ,wOn,wGo]
theorem kndW_tx (n:Nat) (h:HdC):(kndW n h).flatten=txQ (kndQ n h):=by
 unfold kndW kndQ
 by_cases h1:h.2.1.1=true
 ·rw [if_pos h1,if_pos h1,lnW_fl,txQ_app,txQ_tb];rfl
 ·rw [if_neg h1,if_neg h1]
  by_cases h2:h.2.1.2=true
  ·rw [if_pos h2,if_pos h2,lnW_fl,txQ_app,txQ_tb];rfl
  ·rw [if_neg h2,if_neg h2]
   by_cases h3:h.2.2.1.1≠[]
   ·rw [if_pos h3,if_pos h3,lnW_fl,txQ_app,txQ_tb]
    simp [txQ,pieQ,spQ,kwQ,nuQ,nlQ,doW,wDo,wUndo,wAt,wRetries]
   ·rw [if_neg h3,if_neg h3];rfl
theorem stW_tx:∀ (d n:Nat) (t:St d),stF d n t=true->(stW d n t).flatten=txQ (stQ d n t)
 | 0,_,t,_=>Empty.elim t
 | d+1,n,t,h=>by
  obtain ⟨h1,h2,h3,h4,h5⟩:=stF_parts h
  show (lnW n (stnW t.1.1.1)++(kndW (n+1) t.1++((t.1.2.2.2.2.map (onW (n+1))).flatten++((t.2.map (stW d (n+1))).flatten++lnW n [125])))).flatten=txQ (tbQ n++([kwQ wState,spQ,kwQ t.1.1.1,spQ,sgQ 123,nlQ]++(kndQ (n+1) t.1++((t.1.2.2.2.2.map (onQ (n+1))).flatten++((t.2.map (stQ d (n+1))).flatten++(tbQ n++[sgQ 125,nlQ]))))))
  rw [List.flatten_append,List.flatten_append,List.flatten_append,List.flatten_append,kndW_tx,lnW_fl,lnW_fl,
   flat_tx (g:=onQ (n+1)) _ (fun o ho=>onW_tx _ (List.all_eq_true.1 h4 o ho)),flat_tx (g:=stQ d (n+1)) _ (fun x hx=>stW_tx d (n+1) x (List.all_eq_true.1 h5 x hx))]
  simp only [txQ_app,txQ_tb]
  simp [txQ,pieQ,spQ,kwQ,sgQ,nlQ,wState,stnW]
theorem varW_tx (v:List UInt8 × Int × Pl):(varW v).flatten=txQ (varQ v):=by
 unfold varW varQ znW nmQ
 rw [lnW_fl]
 simp only [txQ_app,txQ_tb]
 by_cases h:v.2.1 < 0
 ·simp [h,txQ,pieQ,spQ,kwQ,sgQ,nuQ,nlQ,wVar]
 ·simp [h,txQ,pieQ,spQ,kwQ,sgQ,nuQ,nlQ,wVar]
theorem chW_tx {d:Nat}{c:ChX d}(h:chF d c=true):(chW d c).flatten=txQ (chQ d c):=by
 obtain ⟨h1,h2,h3,h4⟩:=chF_parts h
 unfold chW chQ
 rw [List.flatten_append,List.flatten_append,List.flatten_append,lnW_fl,lnW_fl,flat_tx (g:=varQ) _ (fun v _=>varW_tx v),flat_tx (g:=stQ d 1) _ (fun x hx=>stW_tx d 1 x (List.all_eq_true.1 h4 x hx))]
 simp only [txQ_app]
 simp [txQ,pieQ,spQ,kwQ,sgQ,nuQ,nlQ,wChart,chnW]
theorem wr_short {d:Nat}{c:ChX d}(h:chF d c=true) (hl:(txQ (chQ d c)).length<=12000):(chW d c).foldl wpL []=txQ (chQ d c):=by
 rw [<- chW_tx h] at hl ⊢
 rw [wpL_all _ _ (by simpa using hl)];rfl
theorem wr_long {d:Nat}{c:ChX d}(h:chF d c=true) (hl:¬ (txQ (chQ d c)).length<=12000):12000 < ((chW d c).foldl wpL []).length:=by
 rw [<- chW_tx h] at hl
 refine wpL_long _ _ ?_
 rw [List.nil_append];omega
theorem add_ex (a b:ByteArray) (h:a.size+b.size<=2000000):∃ c:ByteArray,bl c=bl a++bl b/\c.size=a.size+b.size/\∀ W,(Op.stringOp .add a b).run Tryz.prog W=.ok (.string c) W:=by
 have e:bl (a++b)=bl a++bl b:=by unfold bl;rw [ByteArray.data_append,Array.toList_append]
 refine ⟨a++b,e,by simp,fun W=>add_ok a b _ ?_ e W⟩
 unfold bl
 rw [Array.length_toList,Array.length_toList]
 exact h
theorem blk_new (w:World) (o:Obj):(w.alloc o).heap[w.heap.size]?=some o:=by
 show (w.heap.push o)[w.heap.size]?=some o
 simp
theorem Wr.lt {B b:Nat}{l:List UInt8}{w:World}(h:Wr B b l w):b < w.heap.size:=by
 have key:∀ p,Lib.BuilderAtF 80 5 B b p (Lib.byteCells l) w->b < w.heap.size:=by
  rintro p ⟨h1,v,h2,_⟩
  exact (Array.getElem?_eq_some_iff.1 h2).1
 exact h.elim (key _) (key _)
theorem keepX {b X T:Nat}{cs:Array Value}{fz:Nat × Nat}{w w':World}(k:Lib.OthersKept 5 (some b) w w') (hO:w.heap[X]?=some (.cells cs T fz)) (hb:b≠X) (hT:T≠5):w'.heap[X]?=w.heap[X]?:=by
 rw [hO]
 refine k X _ hO (fun e=>hb (Option.some.inj e).symm) (fun c f e=>?_)
 injection e with _ e2 _
 exact hT e2
theorem dc_len {n:Int}(h:0<=n/\n<=1000000000):(dcN n).length<=10:=by
 have:=num_dc h.1 h.2
 unfold numB at this
 simp only [Bool.and_eq_true,decide_eq_true_eq] at this
 omega
theorem bl_mk (l:List UInt8):bl (⟨l.toArray⟩:ByteArray)=l:=by unfold bl;simp
theorem size_mk (l:List UInt8):(⟨l.toArray⟩:ByteArray).size=l.length:=by show l.toArray.size=_;simp
theorem letter_of (l:List UInt8):∃ t:ByteArray,(⟨l.toArray⟩:ByteArray)=t/\bl t=l/\t.size=l.length:=⟨_,rfl,bl_mk l,size_mk l⟩
def doB (d u:List UInt8) (a r:Int):List UInt8:=[100,111,32]++d++[32,117,110,100,111,32]++u++[32,97,116,32]++dcN a++[32,114,101,116,114,105,101,115,32]++dcN r
theorem kind_step {B b:Nat}{l:List UInt8}{w:World}(n:Nat) (sn:ByteArray) (sl sc:Int) (sd su:ByteArray) (sw sr:Int) (p1:Option Addr) (m p3:Nat) (p4:Option Addr) (ni p6:Nat) (h:Wr B b l w) (hB:B<=w.heap.size) (hn:n<=1000) (hd:(!sd.toList.isEmpty)=true) (hds:sd.size<=1000) (hus:su.size<=1000) (h1:0<=sw/\sw<=1000000000) (h2:0<=sr/\sr<=1000000000) (hp:Pow w):Calls Tryz.prog 139 #[.pointer (some ⟨b,0,none⟩),.int .i64 (n:Int),.agg #[.string sn,.int .i64 sl,.int .i64 sc,.bool false,.bool false,.string sd,.string su,.int .i64 sw,.int .i64 sr,.slice p1 m p3,.slice p4 ni p6]] w fun e w'=>e=.returned (.tuple #[])/\Wx B b (wlL l n (doB (bl sd) (bl su) sw sr)) w w':=by
 have hal:Below w.heap.size w (w.alloc (.cells #[.string sn,.int .i64 sl,.int .i64 sc,.bool false,.bool false,.string sd,.string su,.int .i64 sw,.int .i64 sr,.slice p1 m p3,.slice p4 ni p6] 55)):=(Below.refl w.heap.size w).alloc Nat.le.refl _
 have hX:Bn (w.alloc (.cells #[.string sn,.int .i64 sl,.int .i64 sc,.bool false,.bool false,.string sd,.string su,.int .i64 sw,.int .i64 sr,.slice p1 m p3,.slice p4 ni p6] 55)) w.heap.size [.string sn,.int .i64 sl,.int .i64 sc,.bool false,.bool false,.string sd,.string su,.int .i64 sw,.int .i64 sr,.slice p1 m p3,.slice p4 ni p6]:=Bn.new w [.string sn,.int .i64 sl,.int .i64 sc,.bool false,.bool false,.string sd,.string su,.int .i64 sw,.int .i64 sr,.slice p1 m p3,.slice p4 ni p6] 55 _ rfl
 have hO:(w.alloc (.cells #[.string sn,.int .i64 sl,.int .i64 sc,.bool false,.bool false,.string sd,.string su,.int .i64 sw,.int .i64 sr,.slice p1 m p3,.slice p4 ni p6] 55)).heap[w.heap.size]?=some (.cells #[.string sn,.int .i64 sl,.int .i64 sc,.bool false,.bool false,.string sd,.string su,.int .i64 sw,.int .i64 sr,.slice p1 m p3,.slice p4 ni p6] 55 (0,0)):=blk_new _ _
 have k0:Wx B b l w (w.alloc (.cells #[.string sn,.int .i64 sl,.int .i64 sc,.bool false,.bool false,.string sd,.string su,.int .i64 sw,.int .i64 sr,.slice p1 m p3,.slice p4 ni p6] 55)):=⟨Wr.below h hal,hal.mono hB,others_below hal⟩
 have hbl:=h.lt
 have hp1:=hp.below hal
 obtain ⟨t1,ht1,e1,z1⟩:=letter_of (dcN sw)
 obtain ⟨t2,ht2,e2,z2⟩:=letter_of (dcN sr)
 have zz1:=dc_len h1
 have zz2:=dc_len h2
 obtain ⟨x1,q1,s1,a1⟩:=add_ex ⟨#[100,111,32]⟩ sd (by show 3+_<=_;omega)
 have g1:(⟨#[100,111,32]⟩:ByteArray).size=3:=rfl
 obtain ⟨x2,q2,s2,a2⟩:=add_ex x1 ⟨#[32,117,110,100,111,32]⟩ (by show _+6<=_;omega)
 have g2:(⟨#[32,117,110,100,111,32]⟩:ByteArray).size=6:=rfl
 obtain ⟨x3,q3,s3,a3⟩:=add_ex x2 su (by omega)
 obtain ⟨x4,q4,s4,a4⟩:=add_ex x3 ⟨#[32,97,116,32]⟩ (by show _+4<=_;omega)
 have g4:(⟨#[32,97,116,32]⟩:ByteArray).size=4:=rfl
 obtain ⟨x5,q5,s5,a5⟩:=add_ex x4 t1 (by omega)
 obtain ⟨x6,q6,s6,a6⟩:=add_ex x5 ⟨#[32,114,101,116,114,105,101,115,32]⟩ (by show _+9<=_;omega)
 have g6:(⟨#[32,114,101,116,114,105,101,115,32]⟩:ByteArray).size=9:=rfl
 obtain ⟨x7,q7,s7,a7⟩:=add_ex x6 t2 (by omega)
 have ql:bl x7=doB (bl sd) (bl su) sw sr:=by
  rw [q7,q6,q5,q4,q3,q2,q1,e1,e2];rfl
 have zl:x7.size<=140737488340000:=by omega
 clear q1 q2 q3 q4 q5 q6 q7 s1 s2 s3 s4 s5 s6 s7 g1 g2 g4 g6 z1 z2 zz1 zz2 e1 e2
 go_enter Tryz.func139,Tryz.ntmps139
 go_upto_region 1 with fail
 generalize (w.alloc (.cells #[.string sn,.int .i64 sl,.int .i64 sc,.bool false,.bool false,.string sd,.string su,.int .i64 sw,.int .i64 sr,.slice p1 m p3,.slice p4 ni p6] 55))=wx at *
 have i1:∀ w1,Below wx.heap.size wx w1->Calls Tryz.prog 47 #[.int .i64 sw] w1 fun e w'=>e=.returned (.string t1)/\Below w1.heap.size w1 w':=fun w1 bb=>by
  rw [<- ht1];exact itoa_any h1.1 h1.2 w1 (hp1.below bb)
 have i2:∀ w1,Below wx.heap.size wx w1->Calls Tryz.prog 47 #[.int .i64 sr] w1 fun e w'=>e=.returned (.string t2)/\Below w1.heap.size w1 w':=fun w1 bb=>by
  rw [<- ht2];exact itoa_any h2.1 h2.2 w1 (hp1.below bb)
 have hl:∀ w1,Below wx.heap.size wx w1->Calls Tryz.prog 79 #[.pointer (some ⟨b,0,none⟩),.int .i64 (n:Int),.string x7] w1 fun e w'=>e=.returned (.tuple #[])/\Wx B b (wlL l n (doB (bl sd) (bl su) sw sr)) w w'/\w'.heap[w.heap.size]?=wx.heap[w.heap.size]?:=fun w1 bb=>by
  have hk:=k0.on hB bb
  refine (line_any n x7 hk.1 hn zl (Nat.le_trans hB hk.2.1.size)).mono ?_
  rintro e w' ⟨he,hw⟩
  rw [ql] at hw
  refine ⟨he,hk.trans hw,?_⟩
  have h3:=bb.block w.heap.size hX.lt
  exact (keepX hw.2.2 (h3.trans hO) (by omega) (by decide)).trans h3
 clear k0 ht1 ht2 ql zl
 have hB:Below wx.heap.size wx wx:=Below.refl _ _
 have c3:=(hX 3 _ rfl).1
 have c4:=(hX 4 _ rfl).1
 have c5:=(hX 5 _ rfl).1
 have c6:=(hX 6 _ rfl).1
 have c7:=(hX 7 _ rfl).1
 have c8:=(hX 8 _ rfl).1
 have hlt:=hX.lt
 clear h hO hX hp hp1
 obtain ⟨S,hS⟩:∃ S,w.heap.size=S:=⟨_,rfl⟩
 rw [hS] at c3 c4 c5 c6 c7 c8 hlt ⊢
 simp only [hS] at hl
 have HS:Hid (w.heap.size=S):=hS
 clear hS hal
 go_upto_region 6 with fail
 have y5:=c5
 have y6:=c6
 have y7:=c7
 have y8:=c8
 go_region_held_law (fun w'=>w'.cell? ⟨S,5,none⟩=some (.string sd)/\w'.cell? ⟨S,6,none⟩=some (.string su)/\w'.cell? ⟨S,7,none⟩=some (.int .i64 sw)/\w'.cell? ⟨S,8,none⟩=some (.int .i64 sr))
  ((refine ⟨?_,?_,?_,?_⟩<;>(repeat (with_reducible first|exact y5|exact y6|exact y7|exact y8|refine cell_dr ?_))<;>done))
  (first
   | (go_at_call 47;(with_reducible first|refine (i1 _ hB).mono ?_|refine (i1 _ hB.drew).mono ?_);rintro e w1 ⟨rfl,b1⟩;(first|have hB:=Below.nxd hB b1|have hB:=Below.nx hB b1);have y5:=(hB.cell (p:=⟨S,5,none⟩) hlt).trans c5;have y6:=(hB.cell (p:=⟨S,6,none⟩) hlt).trans c6;have y7:=(hB.cell (p:=⟨S,7,none⟩) hlt).trans c7;have y8:=(hB.cell (p:=⟨S,8,none⟩) hlt).trans c8)
   | (go_at_call 47;(with_reducible first|refine (i2 _ hB).mono ?_|refine (i2 _ hB.drew).mono ?_);rintro e w1 ⟨rfl,b1⟩;(first|have hB:=Below.nxd hB b1|have hB:=Below.nx hB b1);have y5:=(hB.cell (p:=⟨S,5,none⟩) hlt).trans c5;have y6:=(hB.cell (p:=⟨S,6,none⟩) hlt).trans c6;have y7:=(hB.cell (p:=⟨S,7,none⟩) hlt).trans c7;have y8:=(hB.cell (p:=⟨S,8,none⟩) hlt).trans c8)
   | (go_at_call 79;(with_reducible first|refine (hl _ hB).mono ?_|refine (hl _ hB.drew).mono ?_);rintro e w1 ⟨rfl,k,kb⟩;have y5:=keep_cell (p:=⟨S,5,none⟩) kb c5;have y6:=keep_cell (p:=⟨S,6,none⟩) kb c6;have y7:=keep_cell (p:=⟨S,7,none⟩) kb c7;have y8:=keep_cell (p:=⟨S,8,none⟩) kb c8)
   | fail)
 all_goals (
  go_wp2
  go_end0
  exact ⟨rfl,k⟩)
def onH (n:Nat) (ev:List UInt8) (G:List (List UInt8)) (tg:List UInt8):List (List UInt8):=[List.replicate n 9,[111,110,32]++ev]++(G++[[32,103,111,32]++tg])
def onL (n:Nat) (ev:List UInt8) (G:List (List UInt8)) (tg:List UInt8) (ss:List (List UInt8)):List (List UInt8):=[List.replicate n 9,[111,110,32]++ev]++(G++([[32,103,111,32]++tg]++(ss++[[10]])))
def SetW (s:List UInt8 × Sx):Prop:=s.1.length<=1000/\(∃ u y,exX s.2=.iface u y)/\(exW s.2).length<=4000/\∀ w,Pow w->Calls Tryz.prog 199 #[exX s.2] w fun e w'=>e=.returned (.string ⟨(exW s.2).toArray⟩)/\Below w.heap.size w w'
theorem setB_at {B:Nat}{w:World}{l:List (List UInt8 × Sx)}{a:Option Addr}{n cap:Nat}(h:RdK (fun x=>x < B) w 2 (rSet (fun x=>x < B) w) l (.slice a n cap)) (j:Nat) (hj:j < l.length):∃ b off,a=some ⟨b,off,none⟩/\b < B/\∀ i u,[sV l[j].1,exX l[j].2][i]?=some u->w.cell? ⟨b,off+j*2+i,none⟩=some u:=by
 obtain ⟨a1,cap1,he,h1,h2,h3⟩:=h
 simp only [Value.slice.injEq] at he
 obtain ⟨rfl,rfl,rfl⟩:=he
 obtain ⟨b,off,cs,ha,hb,_,hl,hr,hc⟩:=h3 j hj
 have hr:cs=_:=hr
 subst hr
 exact ⟨b,off,ha,hb,hc⟩
theorem on_nil {B b:Nat}{l:List UInt8}{w:World}(n:Nat) (ev tg:ByteArray) (s1:Option Addr) (ns s3:Nat) (ol oc:Int) (ss:List (List UInt8 × Sx)) (h:Wr B b l w) (hB:B<=w.heap.size) (hn:n<=1000) (hev:ev.size<=1000) (htg:tg.size<=1000) (hs:RdK (fun x=>x < B) w 2 (rSet (fun x=>x < B) w) ss (.slice s1 ns s3)) (hns:ss.length=ns) (hok:∀ s∈ss,SetW s) (hp:∀ w1,Below B w w1->Pow w1) :
  Calls Tryz.prog 140 #[.pointer (some ⟨b,0,none⟩),.int .i64 (n:Int),.agg #[.string ev,.nilIface,.string tg,.slice s1 ns s3,.int .i64 ol,.int .i64 oc]] w fun e w'=>e=.returned (.tuple #[])/\Wx B b ((onL n (bl ev) [] (bl tg) (ss.map setW)).foldl wpL l) w w':=by
 have hal:Below w.heap.size w (w.alloc (.cells #[.string ev,.nilIface,.string tg,.slice s1 ns s3,.int .i64 ol,.int .i64 oc] 133)):=(Below.refl w.heap.size w).alloc Nat.le.refl _
 have hX:Bn (w.alloc (.cells #[.string ev,.nilIface,.string tg,.slice s1 ns s3,.int .i64 ol,.int .i64 oc] 133)) w.heap.size [.string ev,.nilIface,.string tg,.slice s1 ns s3,.int .i64 ol,.int .i64 oc]:=Bn.new w [.string ev,.nilIface,.string tg,.slice s1 ns s3,.int .i64 ol,.int .i64 oc] 133 _ rfl
 have hO:(w.alloc (.cells #[.string ev,.nilIface,.string tg,.slice s1 ns s3,.int .i64 ol,.int .i64 oc] 133)).heap[w.heap.size]?=some (.cells #[.string ev,.nilIface,.string tg,.slice s1 ns s3,.int .i64 ol,.int .i64 oc] 133 (0,0)):=blk_new _ _
 have k:Wx B b l (w.alloc (.cells #[.string ev,.nilIface,.string tg,.slice s1 ns s3,.int .i64 ol,.int .i64 oc] 133)) (w.alloc (.cells #[.string ev,.nilIface,.string tg,.slice s1 ns s3,.int .i64 ol,.int .i64 oc] 133)):=⟨Wr.below h hal,Below.refl _ _,Lib.OthersKept.refl _ _ _⟩
 have hbl:=h.lt
 have hBx:B<=(w.alloc (.cells #[.string ev,.nilIface,.string tg,.slice s1 ns s3,.int .i64 ol,.int .i64 oc] 133)).heap.size:=Nat.le_trans hB hal.size
 have hPW:Hid (∀ w1,Below B (w.alloc (.cells #[.string ev,.nilIface,.string tg,.slice s1 ns s3,.int .i64 ol,.int .i64 oc] 133)) w1->Pow w1):=fun w1 bb=>hp w1 ((hal.mono hB).trans bb)
 have hsx:=hs.stay kp_set (ok':=fun x=>x < B) (w':=(w.alloc (.cells #[.string ev,.nilIface,.string tg,.slice s1 ns s3,.int .i64 ol,.int .i64 oc] 133))) (fun x hx hl=>⟨hx,hal.block x hl⟩)
 obtain ⟨x1,q1,z1,a1⟩:=add_ex ⟨#[111,110,32]⟩ ev (by show 3+_<=_;omega)
 have g1:(⟨#[111,110,32]⟩:ByteArray).size=3:=rfl
 have zl1:x1.size<=140737488340000:=by omega
 obtain ⟨x3,q3,z3,a3⟩:=add_ex ⟨#[32,103,111,32]⟩ tg (by show 4+_<=_;omega)
 have g3:(⟨#[32,103,111,32]⟩:ByteArray).size=4:=rfl
 have zl3:x3.size<=140737488340000:=by omega
 have zl4:(⟨#[10]⟩:ByteArray).size<=140737488340000:=by decide
 obtain ⟨_,_,he,hcap,hcm⟩:=hs.form
 simp only [Value.slice.injEq] at he
 obtain ⟨rfl,hx0,rfl⟩:=he
 clear hx0
 rw [hns] at hcap
 unfold maxLen at hcm
 have hfin:Hid (∀ L w',L=(onL n (bl ev) [] (bl tg) (ss.map setW)).foldl wpL l->Wx B b L (w.alloc (.cells #[.string ev,.nilIface,.string tg,.slice s1 ns s3,.int .i64 ol,.int .i64 oc] 133)) w'->Wx B b ((onL n (bl ev) [] (bl tg) (ss.map setW)).foldl wpL l) w w'):=fun L w' e k=>by
  rw [<- e]
  exact ⟨k.1,(hal.mono hB).trans k.2.1,(others_below hal).trans k.2.2⟩
 have hpre:wpL (wpL (wpL l (List.replicate n 9)) (bl x1)) (bl x3)=(onH n (bl ev) [] (bl tg)).foldl wpL l:=by rw [q1,q3];rfl
 have HPRE:=mkHid hpre
 have HK:=mkHid hok
 have HSX:=mkHid hsx
 have HN:Hid (ss.length=ns):=hns
 clear h hs hp hsx hok hns hpre q1 q3 z1 z3 g1 g3
 go_enter Tryz.func140,Tryz.ntmps140
 go_upto_region 1 with fail
 generalize (w.alloc (.cells #[.string ev,.nilIface,.string tg,.slice s1 ns s3,.int .i64 ol,.int .i64 oc] 133))=wx at *
 have c0:=(hX 0 _ rfl).1
 have c1:=(hX 1 _ rfl).1
 have c2:=(hX 2 _ rfl).1
 have c3:=(hX 3 _ rfl).1
 have hlt:=hX.lt
 have hbS:b≠w.heap.size:=by omega
 clear hal
 obtain ⟨S,hS⟩:∃ S,w.heap.size=S:=⟨_,rfl⟩
 rw [hS] at c0 c1 c2 c3 hlt hO hbS ⊢
 clear hX hbl hB hS
 have hbeg:=beginX hBx n l wx k hn
 have hput:=fun t l' w1 k ht=>putX (B:=B) (b:=b) (w:=wx) hBx t l' w1 k ht
 clear k
 go_wp2_with (first
  | (go_at_call 137;go_loud (refine hbeg.mono ?_;rintro e w1 ⟨rfl,k⟩;have y0:=keep_cell (p:=⟨S,0,none⟩) (keepX k.2.2 hO hbS (by decide)) c0;have y1:=keep_cell (p:=⟨S,1,none⟩) (keepX k.2.2 hO hbS (by decide)) c1;have y2:=keep_cell (p:=⟨S,2,none⟩) (keepX k.2.2 hO hbS (by decide)) c2;have y3:=keep_cell (p:=⟨S,3,none⟩) (keepX k.2.2 hO hbS (by decide)) c3))
  | (go_at_call 138;refine (hput _ _ _ k (by assumption)).mono ?_;clear k;rintro e w2 ⟨rfl,k⟩;have y0:=keep_cell (p:=⟨S,0,none⟩) (keepX k.2.2 hO hbS (by decide)) c0;have y1:=keep_cell (p:=⟨S,1,none⟩) (keepX k.2.2 hO hbS (by decide)) c1;have y2:=keep_cell (p:=⟨S,2,none⟩) (keepX k.2.2 hO hbS (by decide)) c2;have y3:=keep_cell (p:=⟨S,3,none⟩) (keepX k.2.2 hO hbS (by decide)) c3)
  | fail)
 rw [HPRE.out] at k
 obtain ⟨L,hL⟩:∃ L,(onH n (bl ev) [] (bl tg)).foldl wpL l=L:=⟨_,rfl⟩
 rw [hL] at k
 have HL:=mkHid hL
 clear hL hbeg
 go_loopw [33] (fun ix wr=>∃ (i:Nat),i<=ns/\ix=.int .i64 (i:Int)/\Wx B b (((ss.take i).map setW).foldl wpL L) wx wr) (fun ix _=>ns - (RowKit.intOf ix).toNat)
 case atStart=>exact ⟨0,Nat.zero_le _,rfl,k⟩
 case round=>
  clear k
  obtain ⟨i,hi,rfl,k⟩:=hrel
  by_cases hlti:i < ns
  ·have hil:i < ss.length:=by rw [HN.out];exact hlti
   obtain ⟨bb,off,rfl,hbb,hc⟩:=setB_at HSX.out i hil
   obtain ⟨hk1,⟨tu,ty,hk2⟩,hk3,hk4⟩:=HK.out _ (List.getElem_mem hil)
   have htk:((ss.take (i+1)).map setW).foldl wpL L=wpL (((ss.take i).map setW).foldl wpL L) (setW ss[i]):=by
    rw [List.take_succ_eq_append_getElem hil,List.map_append,List.foldl_append];rfl
   obtain ⟨q,hq⟩:∃ q,ss[i]=q:=⟨_,rfl⟩
   rw [hq] at hc hk1 hk2 hk3 hk4 htk
   obtain ⟨s0,hs0,e0,z0⟩:=letter_of q.1
   obtain ⟨tx',hs2,e2',z2'⟩:=letter_of (exW q.2)
   have e3:[sV q.1,exX q.2]=[.string s0,.iface tu ty]:=by unfold sV;rw [hs0,hk2]
   rw [e3] at hc
   rw [hk2,hs2] at hk4
   obtain ⟨u1,r1,v1,d1⟩:=add_ex ⟨#[32,115,101,116,32]⟩ s0 (by show 5+_<=_;omega)
   have f1:(⟨#[32,115,101,116,32]⟩:ByteArray).size=5:=rfl
   obtain ⟨u2,r2,v2,d2⟩:=add_ex u1 ⟨#[32,61,32]⟩ (by show _+3<=_;omega)
   have f2:(⟨#[32,61,32]⟩:ByteArray).size=3:=rfl
   obtain ⟨u3,r3,v3,d3⟩:=add_ex u2 tx' (by omega)
   have zu:u3.size<=140737488340000:=by omega
   have hu:bl u3=setW q:=by rw [r3,r2,r1,e0,e2'];rfl
   rw [<- hu] at htk
   have HTK:=mkHid htk
   clear r1 r2 r3 v1 v2 v3 f1 f2 e0 z0 e2' z2' hk1 hk2 hk3 hs0 hs2 e3 hu htk hq
   have i1:(i:Int) < (ns:Int):=by omega
   have i2:(0:Int)<=(i:Int):=by omega
   have C0:=(k.2.1.cell (p:=⟨bb,off+i*2+0,none⟩) hbb).trans (hc 0 _ rfl)
   have C1:=(k.2.1.cell (p:=⟨bb,off+i*2+1,none⟩) hbb).trans (hc 1 _ rfl)
   rw [Nat.add_zero] at C0
   clear hc
   generalize ((ss.take i).map setW).foldl wpL L=L1 at *
   have hal:Below wr.heap.size wr (wr.alloc (.cells #[.string s0,.iface tu ty] 136)):=(Below.refl _ _).alloc Nat.le.refl _
   have hX:Bn (wr.alloc (.cells #[.string s0,.iface tu ty] 136)) wr.heap.size [.string s0,.iface tu ty]:=Bn.new wr [.string s0,.iface tu ty] 136 _ rfl
   have hOs:(wr.alloc (.cells #[.string s0,.iface tu ty] 136)).heap[wr.heap.size]?=some (.cells #[.string s0,.iface tu ty] 136 (0,0)):=blk_new _ _
   have hbR:b≠wr.heap.size:=Nat.ne_of_lt k.1.lt
   have kx:=k.on hBx hal
   go_upto_region 9 with fail
   clear C0 C1
   generalize (wr.alloc (.cells #[.string s0,.iface tu ty] 136))=wy at *
   have hpt:∀ w1,Below wy.heap.size wy w1->Calls Tryz.prog 138 #[.pointer (some ⟨b,0,none⟩),.string u3] w1 fun e w'=>e=.returned (.tuple #[])/\Wx B b (wpL L1 (bl u3)) wx w'/\w'.heap[wr.heap.size]?=wy.heap[wr.heap.size]?:=fun w1 b1=>by
    have hk:=kx.on hBx b1
    refine (put_any u3 hk.1 zu (Nat.le_trans hBx hk.2.1.size)).mono ?_
    rintro e w' ⟨he,hw⟩
    have h3:=b1.block wr.heap.size hX.lt
    exact ⟨he,hk.trans hw,(keepX hw.2.2 (h3.trans hOs) hbR (by decide)).trans h3⟩
   have htx:∀ w1,Below wy.heap.size wy w1->Calls Tryz.prog 199 #[.iface tu ty] w1 fun e w'=>e=.returned (.string tx')/\Below w1.heap.size w1 w':=fun w1 b1=>hk4 w1 (hPW.out _ (kx.on hBx b1).2.1)
   have c0:=(hX 0 _ rfl).1
   have c1:=(hX 1 _ rfl).1
   have hlr:=hX.lt
   obtain ⟨R,hR⟩:∃ R,wr.heap.size=R:=⟨_,rfl⟩
   rw [hR] at c0 c1 hlr ⊢
   simp only [hR] at hpt
   clear k kx hX hOs hal hk4 hput hR
   have hB:Below wy.heap.size wy wy:=Below.refl _ _
   have y0:=c0
   have y1:=c1
   go_region_held_law (fun w'=>w'.cell? ⟨R,0,none⟩=some (.string s0)/\w'.cell? ⟨R,1,none⟩=some (.iface tu ty))
    ((refine ⟨?_,?_⟩<;>(repeat (with_reducible first|exact y0|exact y1|refine cell_dr ?_))<;>done))
    (first
     | (go_at_call 199;(with_reducible first|refine (htx _ hB).mono ?_|refine (htx _ hB.drew).mono ?_);rintro e w1 ⟨rfl,b1⟩;(first|have hB:=Below.nxd hB b1|have hB:=Below.nx hB b1);have y0:=(hB.cell (p:=⟨R,0,none⟩) hlr).trans c0;have y1:=(hB.cell (p:=⟨R,1,none⟩) hlr).trans c1)
     | (go_at_call 138;(with_reducible first|refine (hpt _ hB).mono ?_|refine (hpt _ hB.drew).mono ?_);rintro e w1 ⟨rfl,k,kb⟩;have y0:=keep_cell (p:=⟨R,0,none⟩) kb c0;have y1:=keep_cell (p:=⟨R,1,none⟩) kb c1)
     | fail)
   all_goals (
    rw [<- HTK.out] at k
    go_wp2
    go_roundw
    case rel=>exact ⟨i+1,hlti,by go_num,k⟩
    case measure=>simp [RowKit.intOf];omega)
  ·have i1:¬ (i:Int) < (ns:Int):=by omega
   have hie:ss.take i=ss:=List.take_of_length_le (by rw [HN.out];omega)
   rw [hie] at k
   go_wp2_with (first
    | (go_at_call 138;refine (hput _ _ _ k (by assumption)).mono ?_;clear k;rintro e w2 ⟨rfl,k⟩)
    | fail)
   go_end0
   refine ⟨rfl,hfin.out _ _ ?_ k⟩
   rw [<- HL.out]
   unfold onL onH
   simp only [List.foldl_append]
   rfl
theorem on_ifc {B b:Nat}{l:List UInt8}{w:World}(n:Nat) (ev tg:ByteArray) (gu:TypeId) (gy:Value) (tx:ByteArray) (s1:Option Addr) (ns s3:Nat) (ol oc:Int) (ss:List (List UInt8 × Sx)) (h:Wr B b l w) (hB:B<=w.heap.size) (hn:n<=1000) (hev:ev.size<=1000) (htg:tg.size<=1000) (htx:tx.size<=4000) (ht:∀ w1,Pow w1->Calls Tryz.prog 199 #[.iface gu gy] w1 fun e w'=>e=.returned (.string tx)/\Below w1.heap.size w1 w') (hs:RdK (fun x=>x < B) w 2 (rSet (fun x=>x < B) w) ss (.slice s1 ns s3)) (hns:ss.length=ns) (hok:∀ s∈ss,SetW s) (hp:∀ w1,Below B w w1->Pow w1) :
  Calls Tryz.prog 140 #[.pointer (some ⟨b,0,none⟩),.int .i64 (n:Int),.agg #[.string ev,.iface gu gy,.string tg,.slice s1 ns s3,.int .i64 ol,.int .i64 oc]] w fun e w'=>e=.returned (.tuple #[])/\Wx B b ((onL n (bl ev) [[32,105,102,32]++bl tx] (bl tg) (ss.map setW)).foldl wpL l) w w':=by
 have hal:Below w.heap.size w (w.alloc (.cells #[.string ev,.iface gu gy,.string tg,.slice s1 ns s3,.int .i64 ol,.int .i64 oc] 133)):=(Below.refl w.heap.size w).alloc Nat.le.refl _
 have hX:Bn (w.alloc (.cells #[.string ev,.iface gu gy,.string tg,.slice s1 ns s3,.int .i64 ol,.int .i64 oc] 133)) w.heap.size [.string ev,.iface gu gy,.string tg,.slice s1 ns s3,.int .i64 ol,.int .i64 oc]:=Bn.new w [.string ev,.iface gu gy,.string tg,.slice s1 ns s3,.int .i64 ol,.int .i64 oc] 133 _ rfl
 have hO:(w.alloc (.cells #[.string ev,.iface gu gy,.string tg,.slice s1 ns s3,.int .i64 ol,.int .i64 oc] 133)).heap[w.heap.size]?=some (.cells #[.string ev,.iface gu gy,.string tg,.slice s1 ns s3,.int .i64 ol,.int .i64 oc] 133 (0,0)):=blk_new _ _
 have k:Wx B b l (w.alloc (.cells #[.string ev,.iface gu gy,.string tg,.slice s1 ns s3,.int .i64 ol,.int .i64 oc] 133)) (w.alloc (.cells #[.string ev,.iface gu gy,.string tg,.slice s1 ns s3,.int .i64 ol,.int .i64 oc] 133)):=⟨Wr.below h hal,Below.refl _ _,Lib.OthersKept.refl _ _ _⟩
 have hbl:=h.lt
 have hBx:B<=(w.alloc (.cells #[.string ev,.iface gu gy,.string tg,.slice s1 ns s3,.int .i64 ol,.int .i64 oc] 133)).heap.size:=Nat.le_trans hB hal.size
 have hPW:Hid (∀ w1,Below B (w.alloc (.cells #[.string ev,.iface gu gy,.string tg,.slice s1 ns s3,.int .i64 ol,.int .i64 oc] 133)) w1->Pow w1):=fun w1 bb=>hp w1 ((hal.mono hB).trans bb)
 have hsx:=hs.stay kp_set (ok':=fun x=>x < B) (w':=(w.alloc (.cells #[.string ev,.iface gu gy,.string tg,.slice s1 ns s3,.int .i64 ol,.int .i64 oc] 133))) (fun x hx hl=>⟨hx,hal.block x hl⟩)
 obtain ⟨x1,q1,z1,a1⟩:=add_ex ⟨#[111,110,32]⟩ ev (by show 3+_<=_;omega)
 have g1:(⟨#[111,110,32]⟩:ByteArray).size=3:=rfl
 have zl1:x1.size<=140737488340000:=by omega
 obtain ⟨x2,q2,z2,a2⟩:=add_ex ⟨#[32,105,102,32]⟩ tx (by show 4+_<=_;omega)
 have g2:(⟨#[32,105,102,32]⟩:ByteArray).size=4:=rfl
 have zl2:x2.size<=140737488340000:=by omega
 obtain ⟨x3,q3,z3,a3⟩:=add_ex ⟨#[32,103,111,32]⟩ tg (by show 4+_<=_;omega)
 have g3:(⟨#[32,103,111,32]⟩:ByteArray).size=4:=rfl
 have zl3:x3.size<=140737488340000:=by omega
 have zl4:(⟨#[10]⟩:ByteArray).size<=140737488340000:=by decide
 obtain ⟨_,_,he,hcap,hcm⟩:=hs.form
 simp only [Value.slice.injEq] at he
 obtain ⟨rfl,hx0,rfl⟩:=he
 clear hx0
 rw [hns] at hcap
 unfold maxLen at hcm
 have hfin:Hid (∀ L w',L=(onL n (bl ev) [[32,105,102,32]++bl tx] (bl tg) (ss.map setW)).foldl wpL l->Wx B b L (w.alloc (.cells #[.string ev,.iface gu gy,.string tg,.slice s1 ns s3,.int .i64 ol,.int .i64 oc] 133)) w'->Wx B b ((onL n (bl ev) [[32,105,102,32]++bl tx] (bl tg) (ss.map setW)).foldl wpL l) w w'):=fun L w' e k=>by
  rw [<- e]
  exact ⟨k.1,(hal.mono hB).trans k.2.1,(others_below hal).trans k.2.2⟩
 have hpre:wpL (wpL (wpL (wpL l (List.replicate n 9)) (bl x1)) (bl x2)) (bl x3)=(onH n (bl ev) [[32,105,102,32]++bl tx] (bl tg)).foldl wpL l:=by rw [q1,q2,q3];rfl
 have HPRE:=mkHid hpre
 have HK:=mkHid hok
 have HSX:=mkHid hsx
 have HN:Hid (ss.length=ns):=hns
 clear h hs hp hsx hok hns hpre q1 q2 q3 z1 z2 z3 g1 g2 g3
 go_enter Tryz.func140,Tryz.ntmps140
 go_upto_region 1 with fail
 generalize (w.alloc (.cells #[.string ev,.iface gu gy,.string tg,.slice s1 ns s3,.int .i64 ol,.int .i64 oc] 133))=wx at *
 have c0:=(hX 0 _ rfl).1
 have c1:=(hX 1 _ rfl).1
 have c2:=(hX 2 _ rfl).1
 have c3:=(hX 3 _ rfl).1
 have hlt:=hX.lt
 have hbS:b≠w.heap.size:=by omega
 clear hal
 obtain ⟨S,hS⟩:∃ S,w.heap.size=S:=⟨_,rfl⟩
 rw [hS] at c0 c1 c2 c3 hlt hO hbS ⊢
 clear hX hbl hB hS
 have hbeg:=beginX hBx n l wx k hn
 have hput:=fun t l' w1 k ht=>putX (B:=B) (b:=b) (w:=wx) hBx t l' w1 k ht
 clear k
 go_wp2_with (first
  | (go_at_call 137;go_loud (refine hbeg.mono ?_;rintro e w1 ⟨rfl,k⟩;have y0:=keep_cell (p:=⟨S,0,none⟩) (keepX k.2.2 hO hbS (by decide)) c0;have y1:=keep_cell (p:=⟨S,1,none⟩) (keepX k.2.2 hO hbS (by decide)) c1;have y2:=keep_cell (p:=⟨S,2,none⟩) (keepX k.2.2 hO hbS (by decide)) c2;have y3:=keep_cell (p:=⟨S,3,none⟩) (keepX k.2.2 hO hbS (by decide)) c3))
  | (go_at_call 138;refine (hput _ _ _ k (by assumption)).mono ?_;clear k;rintro e w2 ⟨rfl,k⟩;have y0:=keep_cell (p:=⟨S,0,none⟩) (keepX k.2.2 hO hbS (by decide)) c0;have y1:=keep_cell (p:=⟨S,1,none⟩) (keepX k.2.2 hO hbS (by decide)) c1;have y2:=keep_cell (p:=⟨S,2,none⟩) (keepX k.2.2 hO hbS (by decide)) c2;have y3:=keep_cell (p:=⟨S,3,none⟩) (keepX k.2.2 hO hbS (by decide)) c3)
  | (go_at_call 199;refine (ht _ (hPW.out _ k.2.1)).mono ?_;rintro e w3 ⟨rfl,b3⟩;have k:=k.on hBx b3;have y0:=keep_cell (p:=⟨S,0,none⟩) (keepX k.2.2 hO hbS (by decide)) c0;have y1:=keep_cell (p:=⟨S,1,none⟩) (keepX k.2.2 hO hbS (by decide)) c1;have y2:=keep_cell (p:=⟨S,2,none⟩) (keepX k.2.2 hO hbS (by decide)) c2;have y3:=keep_cell (p:=⟨S,3,none⟩) (keepX k.2.2 hO hbS (by decide)) c3)
  | fail)
 rw [HPRE.out] at k
 obtain ⟨L,hL⟩:∃ L,(onH n (bl ev) [[32,105,102,32]++bl tx] (bl tg)).foldl wpL l=L:=⟨_,rfl⟩
 rw [hL] at k
 have HL:=mkHid hL
 clear hL hbeg
 go_loopw [33] (fun ix wr=>∃ (i:Nat),i<=ns/\ix=.int .i64 (i:Int)/\Wx B b (((ss.take i).map setW).foldl wpL L) wx wr) (fun ix _=>ns - (RowKit.intOf ix).toNat)
 case atStart=>exact ⟨0,Nat.zero_le _,rfl,k⟩
 case round=>
  clear k
  obtain ⟨i,hi,rfl,k⟩:=hrel
  by_cases hlti:i < ns
  ·have hil:i < ss.length:=by rw [HN.out];exact hlti
   obtain ⟨bb,off,rfl,hbb,hc⟩:=setB_at HSX.out i hil
   obtain ⟨hk1,⟨tu,ty,hk2⟩,hk3,hk4⟩:=HK.out _ (List.getElem_mem hil)
   have htk:((ss.take (i+1)).map setW).foldl wpL L=wpL (((ss.take i).map setW).foldl wpL L) (setW ss[i]):=by
    rw [List.take_succ_eq_append_getElem hil,List.map_append,List.foldl_append];rfl
   obtain ⟨q,hq⟩:∃ q,ss[i]=q:=⟨_,rfl⟩
   rw [hq] at hc hk1 hk2 hk3 hk4 htk
   obtain ⟨s0,hs0,e0,z0⟩:=letter_of q.1
   obtain ⟨tx',hs2,e2',z2'⟩:=letter_of (exW q.2)
   have e3:[sV q.1,exX q.2]=[.string s0,.iface tu ty]:=by unfold sV;rw [hs0,hk2]
   rw [e3] at hc
   rw [hk2,hs2] at hk4
   obtain ⟨u1,r1,v1,d1⟩:=add_ex ⟨#[32,115,101,116,32]⟩ s0 (by show 5+_<=_;omega)
   have f1:(⟨#[32,115,101,116,32]⟩:ByteArray).size=5:=rfl
   obtain ⟨u2,r2,v2,d2⟩:=add_ex u1 ⟨#[32,61,32]⟩ (by show _+3<=_;omega)
   have f2:(⟨#[32,61,32]⟩:ByteArray).size=3:=rfl
   obtain ⟨u3,r3,v3,d3⟩:=add_ex u2 tx' (by omega)
   have zu:u3.size<=140737488340000:=by omega
   have hu:bl u3=setW q:=by rw [r3,r2,r1,e0,e2'];rfl
   rw [<- hu] at htk
   have HTK:=mkHid htk
   clear r1 r2 r3 v1 v2 v3 f1 f2 e0 z0 e2' z2' hk1 hk2 hk3 hs0 hs2 e3 hu htk hq
   have i1:(i:Int) < (ns:Int):=by omega
   have i2:(0:Int)<=(i:Int):=by omega
   have C0:=(k.2.1.cell (p:=⟨bb,off+i*2+0,none⟩) hbb).trans (hc 0 _ rfl)
   have C1:=(k.2.1.cell (p:=⟨bb,off+i*2+1,none⟩) hbb).trans (hc 1 _ rfl)
   rw [Nat.add_zero] at C0
   clear hc
   generalize ((ss.take i).map setW).foldl wpL L=L1 at *
   have hal:Below wr.heap.size wr (wr.alloc (.cells #[.string s0,.iface tu ty] 136)):=(Below.refl _ _).alloc Nat.le.refl _
   have hX:Bn (wr.alloc (.cells #[.string s0,.iface tu ty] 136)) wr.heap.size [.string s0,.iface tu ty]:=Bn.new wr [.string s0,.iface tu ty] 136 _ rfl
   have hOs:(wr.alloc (.cells #[.string s0,.iface tu ty] 136)).heap[wr.heap.size]?=some (.cells #[.string s0,.iface tu ty] 136 (0,0)):=blk_new _ _
   have hbR:b≠wr.heap.size:=Nat.ne_of_lt k.1.lt
   have kx:=k.on hBx hal
   go_upto_region 9 with fail
   clear C0 C1
   generalize (wr.alloc (.cells #[.string s0,.iface tu ty] 136))=wy at *
   have hpt:∀ w1,Below wy.heap.size wy w1->Calls Tryz.prog 138 #[.pointer (some ⟨b,0,none⟩),.string u3] w1 fun e w'=>e=.returned (.tuple #[])/\Wx B b (wpL L1 (bl u3)) wx w'/\w'.heap[wr.heap.size]?=wy.heap[wr.heap.size]?:=fun w1 b1=>by
    have hk:=kx.on hBx b1
    refine (put_any u3 hk.1 zu (Nat.le_trans hBx hk.2.1.size)).mono ?_
    rintro e w' ⟨he,hw⟩
    have h3:=b1.block wr.heap.size hX.lt
    exact ⟨he,hk.trans hw,(keepX hw.2.2 (h3.trans hOs) hbR (by decide)).trans h3⟩
   have htx:∀ w1,Below wy.heap.size wy w1->Calls Tryz.prog 199 #[.iface tu ty] w1 fun e w'=>e=.returned (.string tx')/\Below w1.heap.size w1 w':=fun w1 b1=>hk4 w1 (hPW.out _ (kx.on hBx b1).2.1)
   have c0:=(hX 0 _ rfl).1
   have c1:=(hX 1 _ rfl).1
   have hlr:=hX.lt
   obtain ⟨R,hR⟩:∃ R,wr.heap.size=R:=⟨_,rfl⟩
   rw [hR] at c0 c1 hlr ⊢
   simp only [hR] at hpt
   clear k kx hX hOs hal hk4 hput hR
   have hB:Below wy.heap.size wy wy:=Below.refl _ _
   have y0:=c0
   have y1:=c1
   go_region_held_law (fun w'=>w'.cell? ⟨R,0,none⟩=some (.string s0)/\w'.cell? ⟨R,1,none⟩=some (.iface tu ty))
    ((refine ⟨?_,?_⟩<;>(repeat (with_reducible first|exact y0|exact y1|refine cell_dr ?_))<;>done))
    (first
     | (go_at_call 199;(with_reducible first|refine (htx _ hB).mono ?_|refine (htx _ hB.drew).mono ?_);rintro e w1 ⟨rfl,b1⟩;(first|have hB:=Below.nxd hB b1|have hB:=Below.nx hB b1);have y0:=(hB.cell (p:=⟨R,0,none⟩) hlr).trans c0;have y1:=(hB.cell (p:=⟨R,1,none⟩) hlr).trans c1)
     | (go_at_call 138;(with_reducible first|refine (hpt _ hB).mono ?_|refine (hpt _ hB.drew).mono ?_);rintro e w1 ⟨rfl,k,kb⟩;have y0:=keep_cell (p:=⟨R,0,none⟩) kb c0;have y1:=keep_cell (p:=⟨R,1,none⟩) kb c1)
     | fail)
   all_goals (
    rw [<- HTK.out] at k
    go_wp2
    go_roundw
    case rel=>exact ⟨i+1,hlti,by go_num,k⟩
    case measure=>simp [RowKit.intOf];omega)
  ·have i1:¬ (i:Int) < (ns:Int):=by omega
   have hie:ss.take i=ss:=List.take_of_length_le (by rw [HN.out];omega)
   rw [hie] at k
   go_wp2_with (first
    | (go_at_call 138;refine (hput _ _ _ k (by assumption)).mono ?_;clear k;rintro e w2 ⟨rfl,k⟩)
    | fail)
   go_end0
   refine ⟨rfl,hfin.out _ _ ?_ k⟩
   rw [<- HL.out]
   unfold onL onH
   simp only [List.foldl_append]
   rfl
abbrev Fo:=(d:Nat) × List (St d)
abbrev Pd:=(Nat × Nat) × Fo
def pdA (p:Pd):Addr:=⟨p.1.1,p.1.2,none⟩
def pdV (p:Pd):Value:=.pointer (some (pdA p))
def RdSp (B:Nat) (w:World) (x:Fo) (v:Value):Prop:=RdK (fun b=>B<=b) w 11 (rSt x.1 (fun b=>B<=b) w) (x.2.map (stS x.1)) v
structure Agr (X:Nat->Prop) (P:List Pd) (w w':World):Prop where
 size:w.heap.size<=w'.heap.size
 block:∀ b,b < w.heap.size->¬ X b->(∀ p∈P,p.1.1≠b)->w'.heap[b]?=w.heap[b]?
 cell:∀ b o,b < w.heap.size->¬ X b->(∀ p∈P,p.1≠(b,o))->w'.cell? ⟨b,o,none⟩=w.cell? ⟨b,o,none⟩
theorem Agr.refl (X:Nat->Prop) (P:List Pd) (w:World):Agr X P w w:=⟨Nat.le_refl _,fun _ _ _ _=>rfl,fun _ _ _ _ _=>rfl⟩
def Wnd (B:Nat) (X:Nat->Prop) (P:List Pd) (w:World) (R:World->Prop):Prop:=∀ w',Agr X P w w'->(∀ p∈P,∃ v,w'.cell? (pdA p)=some v/\RdSp B w' p.2 v)->R w'
theorem Wnd.end {B:Nat}{X:Nat->Prop}{w:World}{R:World->Prop}(h:Wnd B X [] w R):R w:=h w (Agr.refl _ _ _) (fun p hp=>by cases hp)
theorem Wnd.move {B:Nat}{X X':Nat->Prop}{P:List Pd}{w w1:World}{R:World->Prop}(h:Wnd B X P w R) (hs:w.heap.size<=w1.heap.size) (hX:∀ b,X' b->X b∨w.heap.size<=b) (hb:∀ b,b < w.heap.size->¬ X b->w1.heap[b]?=w.heap[b]?):Wnd B X' P w1 R:=fun w' hA hr=>by
 have nx:∀ b,b < w.heap.size->¬ X b->¬ X' b:=fun b hl hn q=>by
  rcases hX b q with h|h
  ·exact hn h
  ·omega
 exact h w' ⟨Nat.le_trans hs hA.size,fun b hl hn hp=>(hA.block b (Nat.lt_of_lt_of_le hl hs) (nx b hl hn) hp).trans (hb b hl hn),fun b o hl hn hp=>(hA.cell b o (Nat.lt_of_lt_of_le hl hs) (nx b hl hn) hp).trans (World.cell?_of_block (w:=w) (a:=⟨b,o,none⟩) (hb b hl hn))⟩ hr
theorem Wnd.zero {B:Nat}{X:Nat->Prop}{P:List Pd}{a:Nat × Nat}{l:List (St 0)}{w:World}{R:World->Prop}(h:Wnd B X (P++[(a,⟨0,l⟩)]) w R):Wnd B X (P++[(a,(⟨1,[]⟩:Fo))]) w R:=fun w' hA hr=>by
 cases l with
 | cons x _=>exact Empty.elim x
 | nil=>
  refine h w' ⟨hA.size,fun b hl hn hp=>hA.block b hl hn (fun p hp'=>?_),fun b o hl hn hp=>hA.cell b o hl hn (fun p hp'=>?_)⟩ (fun p hp=>?_)
  ·rcases List.mem_append.1 hp' with h|h
   ·exact hp p (List.mem_append_left _ h)
   ·have:p=(a,(⟨1,[]⟩:Fo)):=by simpa using h
    subst this
    exact hp (a,(⟨0,[]⟩:Fo)) (List.mem_append_right _ List.mem_cons_self)
  ·rcases List.mem_append.1 hp' with h|h
   ·exact hp p (List.mem_append_left _ h)
   ·have:p=(a,(⟨1,[]⟩:Fo)):=by simpa using h
    subst this
    exact hp (a,(⟨0,[]⟩:Fo)) (List.mem_append_right _ List.mem_cons_self)
  ·rcases List.mem_append.1 hp with h|h
   ·exact hr p (List.mem_append_left _ h)
   ·have:p=(a,(⟨0,[]⟩:Fo)):=by simpa using h
    subst this
    obtain ⟨v,h1,a1,cap,h2,h3,h4,_⟩:=hr (a,(⟨1,[]⟩:Fo)) (List.mem_append_right _ List.mem_cons_self)
    exact ⟨v,h1,a1,cap,h2,h3,h4,fun i hi=>absurd hi (by simp)⟩
def kidC (G d:Nat):Nat->List (St (d+1))->List Pd
 | _,[]=>[]
 | i,t :: l=>((G,i*11+10),⟨d,t.2⟩) :: kidC G d (i+1) l
theorem kid_mem {G:Nat}:∀ {i d:Nat}{l:List (St (d+1))}{p:Pd},p∈kidC G d i l->∃ (j:Nat) (hj:j < l.length),p=((G,(i+j)*11+10),⟨d,l[j].2⟩)
 | i,d,[],p,h=>by cases h
 | i,d,t :: l,p,h=>by
  rcases List.mem_cons.1 h with rfl|h
  ·exact ⟨0,by simp,rfl⟩
  ·obtain ⟨j,hj,rfl⟩:=kid_mem h
   exact ⟨j+1,by simpa using hj,by rw [show i+1+j=i+(j+1) by omega];rfl⟩
theorem kid_of {G:Nat}:∀ {i d:Nat}{l:List (St (d+1))}(j:Nat) (hj:j < l.length),(((G,(i+j)*11+10),⟨d,l[j].2⟩):Pd)∈kidC G d i l
 | i,d,[],j,hj=>by simp at hj
 | i,d,t :: l,0,_=>List.mem_cons_self
 | i,d,t :: l,j+1,hj=>by
  have:=kid_of (G:=G) (i:=i+1) (d:=d) (l:=l) j (by simpa using hj)
  rw [show i+1+j=i+(j+1) by omega] at this
  exact List.mem_cons_of_mem _ this
theorem kid_len {G:Nat}:∀ (i d:Nat) (l:List (St (d+1))),(kidC G d i l).length=l.length
 | i,d,[]=>rfl
 | i,d,t :: l=>congrArg (· + 1) (kid_len (i+1) d l)
theorem kid_get {G:Nat}:∀ (i d:Nat) (l:List (St (d+1))) (j:Nat) (hj:j < l.length) (hj':j < (kidC G d i l).length),(kidC G d i l)[j]=(((G,(i+j)*11+10),⟨d,l[j].2⟩):Pd)
 | i,d,[],j,hj,_=>by simp at hj
 | i,d,t :: l,0,_,_=>rfl
 | i,d,t :: l,j+1,hj,hj'=>by
  have:=kid_get (G:=G) (i+1) d l j (by simpa using hj) (by rw [kid_len];simpa using hj)
  rw [show i+1+j=i+(j+1) by omega] at this
  exact this
theorem Wnd.step {B:Nat}{X:Nat->Prop}{P:List Pd}{p:Pd}{w w1:World}{R:World->Prop}{d:Nat}{l:List (St (d+1))}{okO:Nat->Prop}{wO:World}(hp:p.2=⟨d+1,l⟩) (hW:Wnd B X (P++[p]) w R) (hX:∀ b,X b->b < w.heap.size) (hXp:¬ X p.1.1) (hb:Below w.heap.size w w1) (hB:B<=w.heap.size) (pb:p.1.1 < w.heap.size)
  (hnd:∀ q∈P,q.1≠p.1) (hlt:∀ q∈P,q.1.1 < w.heap.size) (hc0:∃ v,w.cell? (pdA p)=some v) (hu:RowG w1 w.heap.size 11 l.length (rHf d okO wO) l) (hG:w.heap.size < w1.heap.size) (hm:l.length<=maxLen) :
  Wnd B X (P++kidC w.heap.size d 0 l) (w1.setCell (pdA p) (.slice (some ⟨w.heap.size,0,none⟩) l.length l.length)) R:=by
 intro w' hA hr
 obtain ⟨u,hu'⟩:∃ u,Value.slice (some ⟨w.heap.size,0,none⟩) l.length l.length=u:=⟨_,rfl⟩
 rw [hu'] at hA
 have hs2:(w1.setCell (pdA p) u).heap.size=w1.heap.size:=by simp
 have hsw:=hb.size
 have hA1:=hA.size
 rw [hs2] at hA1
 have hkb:∀ q∈kidC w.heap.size d 0 l,q.1.1=w.heap.size:=fun q hq=>by
  obtain ⟨j,hj,rfl⟩:=kid_mem hq
  rfl
 have nofar:∀ b o,b < w.heap.size->¬ X b->(∀ q∈P++[p],q.1≠(b,o))->w'.cell? ⟨b,o,none⟩=w.cell? ⟨b,o,none⟩:=fun b o hl hn hq=>by
  have h1:=hA.cell b o (by rw [hs2];omega) hn (fun q hq'=>by
   rcases List.mem_append.1 hq' with h|h
   ·exact hq q (List.mem_append_left _ h)
   ·intro e
    have:=hkb q h
    rw [e] at this
    have:b=w.heap.size:=this
    omega)
  rw [h1]
  have hne:p.1≠(b,o):=hq p (List.mem_append_right _ List.mem_cons_self)
  have h2:(w1.setCell (pdA p) u).cell? ⟨b,o,none⟩=w1.cell? ⟨b,o,none⟩:=World.cell?_setCell_other w1 (pdA p) ⟨b,o,none⟩ u (fun e=>hne (by
   unfold pdA at e
   simp only [Addr.mk.injEq,and_true] at e
   exact Prod.ext e.1 e.2))
  rw [h2]
  exact hb.cell (p:=⟨b,o,none⟩) hl
 refine hW w' ⟨by omega,fun b hl hn hq=>?_,nofar⟩ (fun q hq=>?_)
 ·have h1:=hA.block b (by rw [hs2];omega) hn (fun q hq'=>by
   rcases List.mem_append.1 hq' with h|h
   ·exact hq q (List.mem_append_left _ h)
   ·rw [hkb q h];omega)
  rw [h1,Below.heap_setCell _ _ _ _ (fun e=>hq p (List.mem_append_right _ List.mem_cons_self) e.symm)]
  exact hb.block b hl
 ·rcases List.mem_append.1 hq with h|h
  ·exact hr q (List.mem_append_left _ h)
  ·have:q=p:=by simpa using h
   subst this
   have hcell:w'.cell? (pdA q)=some u:=by
    have h1:=hA.cell q.1.1 q.1.2 (by rw [hs2];omega) hXp (fun q' hq'=>by
     rcases List.mem_append.1 hq' with h|h
     ·exact fun e=>hnd q' h e
     ·intro e
      have:=hkb q' h
      rw [e] at this
      have:q.1.1=w.heap.size:=this
      omega)
    show w'.cell? ⟨q.1.1,q.1.2,none⟩=_
    rw [h1]
    obtain ⟨v,hv⟩:=hc0
    exact cell_same4 ((hb.cell (p:=pdA q) pb).trans hv)
   refine ⟨u,hcell,?_⟩
   rw [hp]
   subst hu'
   refine ⟨some ⟨w.heap.size,0,none⟩,l.length,by rw [List.length_map],by rw [List.length_map];exact Nat.le_refl _,hm,fun i hi=>?_⟩
   have hil:i < l.length:=by simpa using hi
   obtain ⟨cs,hk,⟨so,si,rfl,hso,hsi⟩,hcs⟩:=hu.2 i hil
   have hkid:=hr _ (List.mem_append_right _ (kid_of (G:=w.heap.size) (i:=0) i hil))
   obtain ⟨v,hv1,hv2⟩:=hkid
   refine ⟨w.heap.size,0,hdV (stH l[i].1) so v,rfl,hB,by omega,rfl,?_,fun j x hx=>?_⟩
   ·have e1:(l.map (stS (d+1)))[i]=stS (d+1) l[i]:=by simp
    rw [e1]
    refine ⟨so,v,rfl,?_,hv2⟩
    refine hso.stay kp_on (fun b hb' hl=>⟨by omega,?_⟩)
    have h1:=hA.block b (by rw [hs2];exact hl) (fun q=>by have:=hX b q;omega) (fun q' hq'=>by
     rcases List.mem_append.1 hq' with h|h
     ·have:=hlt q' h;omega
     ·rw [hkb q' h];omega)
    rw [h1]
    exact Below.heap_setCell _ _ _ _ (fun e=>by have e2:b=q.1.1:=e;omega)
   ·rw [Nat.zero_add]
    by_cases hj:j=10
    ·subst hj
     have:x=v:=by
      have:(hdV (stH l[i].1) so v)[10]?=some v:=rfl
      rw [this] at hx
      exact (Option.some.inj hx).symm
     subst this
     rw [Nat.zero_add] at hv1
     exact hv1
    ·have hj11:j < 11:=(List.getElem?_eq_some_iff.1 hx).1
     have hx':(hdV (stH l[i].1) so si)[j]?=some x:=by
      rw [<- hx]
      match j,hj11,hj with
      | 0,_,_=>rfl
      | 1,_,_=>rfl
      | 2,_,_=>rfl
      | 3,_,_=>rfl
      | 4,_,_=>rfl
      | 5,_,_=>rfl
      | 6,_,_=>rfl
      | 7,_,_=>rfl
      | 8,_,_=>rfl
      | 9,_,_=>rfl
      | 10,_,h=>exact absurd rfl h
     have h1:=hA.cell w.heap.size (i*11+j) (by rw [hs2];exact hG) (fun q=>by have:=hX _ q;omega) (fun q' hq'=>by
      rcases List.mem_append.1 hq' with h|h
      ·intro e;have:=hlt q' h;rw [e] at this;exact absurd this (by simp)
      ·obtain ⟨j',hj',rfl⟩:=kid_mem h
       intro e
       have:(0+j')*11+10=i*11+j:=congrArg Prod.snd e
       omega)
     rw [h1,World.cell?_setCell_far _ _ _ _ (by show q.1.1≠w.heap.size;omega)]
     exact hcs j x hx'
def szL:(d:Nat)->List (St d)->Nat
 | 0,_=>1
 | d+1,l=>(l.map (fun t=>szL d t.2)).sum+1
def szF (p:Pd):Nat:=szL p.2.1 p.2.2
theorem szL_pos:∀ (d:Nat) (l:List (St d)),1<=szL d l
 | 0,_=>Nat.le_refl _
 | d+1,l=>by
  show 1<=(l.map (fun t=>szL d t.2)).sum+1
  omega
theorem kid_sz {G:Nat}:∀ (i d:Nat) (l:List (St (d+1))),((kidC G d i l).map szF).sum+1=szL (d+1) l
 | i,d,[]=>rfl
 | i,d,t :: l=>by
  have:=kid_sz (G:=G) (i+1) d l
  have e1:szL (d+1) l=(l.map (fun t=>szL d t.2)).sum+1:=rfl
  have e2:szL (d+1) (t :: l)=(szL d t.2+(l.map (fun t=>szL d t.2)).sum)+1:=rfl
  have e3:((kidC G d i (t :: l)).map szF).sum=szL d t.2+((kidC G d (i+1) l).map szF).sum:=rfl
  omega
def StOk:(d:Nat)->St d->Prop
 | 0,t=>Empty.elim t
 | d+1,t=>HdOk t.1/\t.2.length<=100000/\∀ x∈t.2,StOk d x
def FoOk (x:Fo):Prop:=x.2.length<=100000/\∀ t∈x.2,StOk x.1 t
def POk (N:Nat) (X:Nat->Prop) (w:World) (p:Pd):Prop:=
 N<=p.1.1/\p.1.1 < w.heap.size/\w.frozen? (pdA p)=false/\¬ X p.1.1/\FoOk p.2/\∃ u,w.cell? (pdA p)=some u/\RdK (fun b=>b < N) w 11 (rSt p.2.1 (fun b=>b < N) w) p.2.2 u
structure PInv (N:Nat) (R:World->Prop) (X:Nat->Prop) (w:World) (v:Value) (P:List Pd):Prop where
 row:w.ownsRow N 71 1 v P.length (P.map pdV)
 ok:∀ p∈P,POk N X w p
 nd:P.Pairwise (fun a b=>a.1≠b.1)
 wnd:Wnd (N+2) X P w R
 x1:∀ b,X b->b < w.heap.size/\N<=b
 x2:∀ g,v.ownBlock=some g->X g
 big:N+2<=w.heap.size
theorem rowV_pop {w:World}{base e:Nat}{v:Value}{xs:List Value}{x:Value}{n:Nat}(hn:n=xs.length) (h:w.ownsRow base e 1 v (n+1) (xs++[x])):∃ g cap,v=.slice (some ⟨g,0,none⟩) (n+1) cap/\n+1<=cap/\cap<=maxLen/\base<=g/\g < w.heap.size/\
  w.cell? ⟨g,n,none⟩=some x/\w.ownsRow base e 1 (.slice (some ⟨g,0,none⟩) n cap) n xs:=by
 subst hn
 have hc:=fun g=>World.ownsRow.cells h (g:=g)
 rcases h.2 with ⟨_,h2⟩|⟨g,cap,cur,rfl,hb,hg,hnc,hcm,hcs,htake⟩
 ·omega
 ·have h1:=hc g rfl xs.length x (by simp)
  rw [show (⟨g,0,none⟩:Addr).add xs.length=⟨g,xs.length,none⟩ by unfold Addr.add;split<;>simp_all] at h1
  refine ⟨g,cap,rfl,hnc,hcm,hb,(Array.getElem?_eq_some_iff.1 hg).1,h1,by simp,.inr ⟨g,cap,cur,rfl,hb,hg,by omega,hcm,hcs,?_⟩⟩
  have h3:=congrArg (List.take xs.length) htake
  rw [List.take_take] at h3
  simp only [Nat.mul_one] at h3 ⊢
  rw [Nat.min_eq_left (by omega),List.take_left' (by simp)] at h3
  exact h3
theorem rowV_nil {w:World}{base e:Nat}{v:Value}(h:w.ownsRow base e 1 v 0 []):∃ a cap,v=.slice a 0 cap:=by
 rcases h.2 with ⟨h1,_⟩|⟨g,cap,cur,rfl,_⟩
 ·exact ⟨_,_,h1⟩
 ·exact ⟨_,_,rfl⟩
theorem PInv.deep {N:Nat}{R:World->Prop}{X:Nat->Prop}{w:World}{v:Value}{P:List Pd}{p:Pd}(h:PInv N R X w v (P++[p])):∃ (d:Nat) (l:List (St (d+1))),PInv N R X w v (P++[(p.1,⟨d+1,l⟩)])/\szF p=szL (d+1) l:=by
 obtain ⟨a,d,l⟩:=p
 cases d with
 | succ d=>exact ⟨d,l,h,rfl⟩
 | zero=>
  cases l with
  | cons x _=>exact Empty.elim x
  | nil=>
   refine ⟨0,[],⟨?_,fun q hq=>?_,?_,h.wnd.zero,h.x1,h.x2,h.big⟩,rfl⟩
   ·have:=h.row
    rw [List.map_append,List.length_append] at this ⊢
    exact this
   ·rcases List.mem_append.1 hq with hq|hq
    ·exact h.ok q (List.mem_append_left _ hq)
    ·have e:q=(a,(⟨1,[]⟩:Fo)):=by simpa using hq
     subst e
     obtain ⟨h1,h2,h3,h4,h5,u,h6,a1,cap,h7,h8,h9,_⟩:=h.ok (a,(⟨0,[]⟩:Fo)) (List.mem_append_right _ List.mem_cons_self)
     exact ⟨h1,h2,h3,h4,⟨by simp,fun t ht=>by cases ht⟩,u,h6,a1,cap,h7,h8,h9,fun i hi=>absurd hi (by simp)⟩
   ·have:=h.nd
    rw [List.pairwise_append] at this ⊢
    refine ⟨this.1,List.pairwise_singleton _ _,fun x hx y hy=>?_⟩
    have e:y=(a,(⟨1,[]⟩:Fo)):=by simpa using hy
    subst e
    exact this.2.2 x hx (a,(⟨0,[]⟩:Fo)) List.mem_cons_self
theorem szF_len:∀ P:List Pd,P.length<=(P.map szF).sum
 | []=>by simp
 | p :: P=>by
  have:=szF_len P
  have:=szL_pos p.2.1 p.2.2
  show P.length+1<=szL p.2.1 p.2.2+(P.map szF).sum
  omega
theorem kid_pair {G d:Nat}:∀ (i:Nat) (l:List (St (d+1))),(kidC G d i l).Pairwise (fun a b=>a.1≠b.1)
 | i,[]=>List.Pairwise.nil
 | i,t :: l=>by
  refine List.Pairwise.cons (fun q hq=>?_) (kid_pair (i+1) l)
  obtain ⟨j,hj,rfl⟩:=kid_mem hq
  intro e
  have:i*11+10=(i+1+j)*11+10:=congrArg Prod.snd e
  omega
theorem PInv.step {N:Nat}{R:World->Prop}{X:Nat->Prop}{w w1 w2:World}{v v2:Value}{P:List Pd}{a:Nat × Nat}{d:Nat}{l:List (St (d+1))}{g:Nat}(h:PInv N R X w v (P++[(a,⟨d+1,l⟩)])) (hb:Below w.heap.size w w1) (hu:RowG w1 w.heap.size 11 l.length (rHf d (fun b=>b < N) w) l) (hG:w.heap.size < w1.heap.size) (hv:v.ownBlock=some g)
  (hrow:w2.ownsRow N 71 1 v2 (P++kidC w.heap.size d 0 l).length ((P++kidC w.heap.size d 0 l).map pdV)) (hgr:(w1.setCell ⟨a.1,a.2,none⟩ (.slice (some ⟨w.heap.size,0,none⟩) l.length l.length)).grownBy w2 (some g)) (hl2:∀ g',v2.ownBlock=some g'->g=g'∨w1.heap.size<=g') (hl3:∀ g',v2.ownBlock=some g'->g' < w2.heap.size) :
  PInv N R (fun b=>X b∨v2.ownBlock=some b) w2 v2 (P++kidC w.heap.size d 0 l):=by
 have hN:=h.big
 obtain ⟨U,hU⟩:∃ U,Value.slice (some ⟨w.heap.size,0,none⟩) l.length l.length=U:=⟨_,rfl⟩
 rw [hU] at hgr
 have hs1:(w1.setCell ⟨a.1,a.2,none⟩ U).heap.size=w1.heap.size:=by simp
 have hXg:=h.x2 g hv
 obtain ⟨g1,g2⟩:=h.x1 g hXg
 have hpo:=h.ok (a,⟨d+1,l⟩) (List.mem_append_right _ List.mem_cons_self)
 obtain ⟨p1,p2,p3,p4,p5,u0,p6,p7⟩:=hpo
 have p1:N<=a.1:=p1
 have p2:a.1 < w.heap.size:=p2
 have p4:¬ X a.1:=p4
 have hag:a.1≠g:=fun e=>p4 (e ▸ hXg)
 have hsw:=hb.size
 have hgs:=hgr.size
 rw [hs1] at hgs
 have far:∀ b,b < w1.heap.size->b≠g->w2.heap[b]?=(w1.setCell ⟨a.1,a.2,none⟩ U).heap[b]?:=fun b hl hn=>hgr.block b (by rw [hs1];exact hl) (fun e=>hn (Option.some.inj e))
 have far2:∀ b,b < w1.heap.size->b≠g->b≠a.1->w2.heap[b]?=w1.heap[b]?:=fun b hl hn hn2=>(far b hl hn).trans (Below.heap_setCell _ _ _ _ (fun e=>hn2 e))
 have far3:∀ b,b < w.heap.size->b≠g->b≠a.1->w2.heap[b]?=w.heap[b]?:=fun b hl hn hn2=>(far2 b (by omega) hn hn2).trans (hb.block b hl)
 have low:∀ b,b < N->b < w.heap.size->b < N/\w2.heap[b]?=w.heap[b]?:=fun b hbN hl=>⟨hbN,far3 b hl (by omega) (by omega)⟩
 have hnd:=List.pairwise_append.1 h.nd
 have hne:∀ q∈P,q.1≠a:=fun q hq=>hnd.2.2 q hq (a,⟨d+1,l⟩) List.mem_cons_self
 have nX:∀ b,b < w1.heap.size->¬ X b->¬ (X b∨v2.ownBlock=some b):=fun b hl hn q=>by
  rcases q with q|q
  ·exact hn q
  ·rcases hl2 b q with e|e
   ·exact hn (e ▸ hXg)
   ·omega
 refine ⟨hrow,fun q hq=>?_,?_,?_,fun b q=>?_,fun g' hg'=>.inr hg',by omega⟩
 ·rcases List.mem_append.1 hq with hq|hq
  ·obtain ⟨q1,q2,q3,q4,q5,u,q6,q7⟩:=h.ok q (List.mem_append_left _ hq)
   have hqg:q.1.1≠g:=fun e=>q4 (e ▸ hXg)
   have hblk:=far q.1.1 (by omega) hqg
   have hne2:(⟨a.1,a.2,none⟩:Addr)≠pdA q:=fun e=>hne q hq (by
    unfold pdA at e
    simp only [Addr.mk.injEq,and_true] at e
    exact Prod.ext e.1.symm e.2.symm)
   refine ⟨q1,by omega,?_,nX _ (by omega) q4,q5,u,?_,q7.stay (kp_st _) low⟩
   ·rw [show pdA q=⟨q.1.1,q.1.2,none⟩ from rfl] at q3 ⊢
    rw [frozen_of_block hblk,World.frozen?_setCell,hb.frozen (p:=⟨q.1.1,q.1.2,none⟩) q2]
    exact q3
   ·rw [World.cell?_of_block (w:=w1.setCell ⟨a.1,a.2,none⟩ U) (a:=pdA q) hblk,World.cell?_setCell_other w1 _ _ U hne2,hb.cell (p:=pdA q) q2]
    exact q6
  ·obtain ⟨j,hj,rfl⟩:=kid_mem hq
   obtain ⟨cs,hk,⟨so,si,rfl,hso,hsi⟩,hcs⟩:=hu.2 j hj
   have hGg:w.heap.size≠g:=by omega
   have hblk:=far2 w.heap.size hG hGg (by omega)
   have hc10:=hcs 10 si rfl
   have hfr:=(hu.1 (j*11+10) (mul_in hj (by omega))).2
   refine ⟨by show N<=w.heap.size;omega,by show w.heap.size < _;omega,?_,nX _ hG (fun q=>absurd (show w.heap.size < w.heap.size from (h.x1 _ q).1) (Nat.lt_irrefl _)),⟨(p5.2 _ (List.getElem_mem hj)).2.1,(p5.2 _ (List.getElem_mem hj)).2.2⟩,si,?_,hsi.stay (kp_st d) low⟩
   ·show w2.frozen? ⟨w.heap.size,(0+j)*11+10,none⟩=false
    rw [Nat.zero_add,frozen_of_block hblk]
    exact hfr
   ·show w2.cell? ⟨w.heap.size,(0+j)*11+10,none⟩=some si
    rw [Nat.zero_add,World.cell?_of_block (w:=w1) (a:=⟨w.heap.size,j*11+10,none⟩) hblk]
    exact hc10
 ·rw [List.pairwise_append]
  refine ⟨hnd.1,kid_pair 0 l,fun q hq k hk=>?_⟩
  obtain ⟨j,hj,rfl⟩:=kid_mem hk
  intro e
  have h1:=(h.ok q (List.mem_append_left _ hq)).2.1
  rw [e] at h1
  exact absurd h1 (by simp)
 ·have hst:=Wnd.step (p:=(a,⟨d+1,l⟩)) rfl h.wnd (fun b q=>(h.x1 b q).1) p4 hb hN p2 (fun q hq=>hne q hq) (fun q hq=>(h.ok q (List.mem_append_left _ hq)).2.1) ⟨u0,p6⟩ hu hG (by unfold maxLen;have:=p5.1;simp only at this;omega)
  rw [hU] at hst
  refine hst.move (by show (w1.setCell ⟨a.1,a.2,none⟩ U).heap.size<=_;rw [hs1];exact hgs) (fun b q=>?_) (fun b hl hn=>?_)
  ·rcases q with q|q
   ·exact .inl q
   ·rcases hl2 b q with e|e
    ·exact .inl (e ▸ hXg)
    ·right
     show (w1.setCell ⟨a.1,a.2,none⟩ U).heap.size<=b
     rw [hs1];exact e
  ·have hl':b < w1.heap.size:=by
    have:b < (w1.setCell ⟨a.1,a.2,none⟩ U).heap.size:=hl
    rw [hs1] at this;exact this
   exact far b hl' (fun e=>hn (e ▸ hXg))
 ·rcases q with q|q
  ·have:=h.x1 b q
   exact ⟨by omega,this.2⟩
  ·refine ⟨hl3 b q,?_⟩
   rcases hl2 b q with e|e
   ·omega
   ·omega
theorem Tryz.infoPS:(Tryz.prog.info? 71).map (fun i=>(i.zero,i.size,i.bytes))=some (some (.pointer none),1,8):=by kernel_rfl
theorem cstr_res {w4:World}{R:Nat}{a b c d e f:Value}{tmps:Array Value}(hR:Bn w4 R [a,b,c,d,e,f]) (ht:tmps.getD 2 undef=.pointer (some ⟨R,0,none⟩)):(results Tryz.f16 tmps).run Tryz.prog w4=.ok (.agg #[a,b,c,d,e,f]) w4:=by
 have ht':tmps[2]?.getD undef=.pointer (some ⟨R,0,none⟩):=by simpa using ht
 have c0:=(hR 0 _ rfl).1
 have c1:=(hR 1 _ rfl).1
 have c2:=(hR 2 _ rfl).1
 have c3:=(hR 3 _ rfl).1
 have c4:=(hR 4 _ rfl).1
 have c5:=(hR 5 _ rfl).1
 simp [results,Tryz.results16,go_sem,ht',c0,c1,c2,c3,c4,c5]
theorem own_formP {w:World}{base e size:Nat}{v:Value}{n:Nat}{xs:List Value}(h:w.ownsRow base e size v n xs):∃ a cap,v=.slice a n cap/\n<=cap/\cap<=maxLen:=by
 rcases h.2 with ⟨h1,h2⟩|⟨g,cap,cur,h1,_,_,h3,h4,_⟩
 ·exact ⟨none,0,by rw [h1,h2],by omega,by simp [maxLen]⟩
 ·exact ⟨_,_,h1,h3,h4⟩
def stG (d:Nat) (c:ChG d):ChG d:=((c.1.1,(0,0)),c.2.1,c.2.2.1.map spV,c.2.2.2.map (stS d))
theorem last_ofP {α:Type}{l:List α}(h:l≠[]):∃ l' x,l=l'++[x]:=⟨l.dropLast,l.getLast h,(List.dropLast_concat_getLast h).symm⟩
structure ChOk (d:Nat) (c:ChG d):Prop where
 nm:c.1.1.length<=140737488351232
 vl:c.2.2.1.length<=100000
 vn:∀ x∈c.2.2.1,x.1.length<=140737488351232
 fo:FoOk ⟨d,c.2.2.2⟩
 sz:szL d c.2.2.2<=1000000
def RStr (N d:Nat) (c:ChG d) (nm:ByteArray) (vn:Int) (u1:Option Addr) (n u3:Nat) (w':World):Prop:=
 (∀ j u,[.string nm,.int .i64 vn,.int .i64 0,.int .i64 0,.slice u1 n u3][j]?=some u->w'.cell? ⟨N,j,none⟩=some u)/\(∃ s5,w'.cell? ⟨N,5,none⟩=some s5/\RdSp (N+2) w' ⟨d,c.2.2.2⟩ s5)/\RdK (fun b=>N+2<=b) w' 4 (rVar (fun b=>N+2<=b) w') (c.2.2.1.map spV) (.slice u1 n u3)/\Bn w' (N+1) [.string ⟨#[]⟩,.int .i64 0,.int .i64 0,.int .i64 0,.slice none 0 0,.slice none 0 0]
theorem strip_start {N d:Nat}{c:ChG d}{nm:ByteArray}{vn:Int}{u1:Option Addr}{n u3:Nat}{w7:World}{s5:Value}(hX:Bn w7 N [.string nm,.int .i64 vn,.int .i64 0,.int .i64 0,.slice u1 n u3,s5]) (hR:Bn w7 (N+1) [.string ⟨#[]⟩,.int .i64 0,.int .i64 0,.int .i64 0,.slice none 0 0,.slice none 0 0]) (hr:RdK (fun b=>N+2<=b) w7 4 (rVar (fun b=>N+2<=b) w7) (c.2.2.1.map spV) (.slice u1 n u3)) (hs:RdK (fun b=>b < N) w7 11 (rSt d (fun b=>b < N) w7) c.2.2.2 s5) (hf:FoOk ⟨d,c.2.2.2⟩) (hN:N+2<=w7.heap.size) :
  PInv N (RStr N d c nm vn u1 n u3) (fun b=>b=w7.heap.size) (w7.alloc (.cells #[.pointer (some ⟨N,5,none⟩)] 71)) (.slice (some ⟨w7.heap.size,0,none⟩) 1 1) [((N,5),⟨d,c.2.2.2⟩)]:=by
 have hal:=(Below.refl w7.heap.size w7).alloc Nat.le.refl (.cells #[.pointer (some ⟨N,5,none⟩)] 71)
 have hX8:=hX.on hal
 have hR8:=hR.on hal
 have hsz:(w7.alloc (.cells #[.pointer (some ⟨N,5,none⟩)] 71)).heap.size=w7.heap.size+1:=by simp
 have hrow:=World.ownsRow_lit (e:=71) (base:=N) (size:=1) w7 #[.pointer (some ⟨N,5,none⟩)] 1 (by omega) (by simp [maxLen]) (by simp)
 have hr8:=hr.stay kp_var (ok':=fun b=>N+2<=b/\b < w7.heap.size) (w':=w7.alloc (.cells #[.pointer (some ⟨N,5,none⟩)] 71)) (fun b hb hl=>⟨⟨hb,hl⟩,hal.block b hl⟩)
 have hs8:=hs.stay (kp_st d) (ok':=fun b=>b < N) (w':=w7.alloc (.cells #[.pointer (some ⟨N,5,none⟩)] 71)) (fun b hb hl=>⟨hb,hal.block b hl⟩)
 generalize w7.alloc (.cells #[.pointer (some ⟨N,5,none⟩)] 71)=w8 at *
 refine ⟨by simpa [pdV,pdA] using hrow,fun p hp=>?_,List.pairwise_singleton _ _,fun w' hA hrd=>?_,fun b hb=>?_,fun g hg=>?_,by omega⟩
 ·have:p=((N,5),⟨d,c.2.2.2⟩):=by simpa using hp
  subst this
  obtain ⟨c5,f5⟩:=hX8 5 _ rfl
  exact ⟨Nat.le_refl _,by show N < _;omega,f5,by show ¬ N=_;omega,hf,s5,c5,hs8⟩
 ·obtain ⟨v,h1,h2⟩:=hrd _ List.mem_cons_self
  refine ⟨fun j u hu=>?_,⟨v,h1,h2⟩,hr8.stay kp_var (fun b hb hl=>⟨hb.1,hA.block b hl (by show ¬ b=_;omega) (fun p hp=>by
   have:p=((N,5),⟨d,c.2.2.2⟩):=by simpa using hp
   subst this
   show N≠b
   omega)⟩),hR8.blk (hA.block _ (by omega) (by show ¬ N+1=_;omega) (fun p hp=>by
   have:p=((N,5),⟨d,c.2.2.2⟩):=by simpa using hp
   subst this
   show N≠N+1
   omega))⟩
  have hj:j < 5:=(List.getElem?_eq_some_iff.1 hu).1
  rw [hA.cell N j (by omega) (by show ¬ N=_;omega) (fun p hp=>by
   have:p=((N,5),⟨d,c.2.2.2⟩):=by simpa using hp
   subst this
   intro e
   have:5=j:=congrArg Prod.snd e
   omega)]
  refine (hX8 j u ?_).1
  match j,hj with
  | 0,_=>exact hu
  | 1,_=>exact hu
  | 2,_=>exact hu
  | 3,_=>exact hu
  | 4,_=>exact hu
 ·have:b=w7.heap.size:=hb
  omega
 ·simp only [Value.ownBlock,Option.some.injEq] at hg
  exact hg.symm
theorem strip_any {ok:Nat->Prop}{w:World}{d:Nat}{c:ChG d}{v:Value}(h:RdC ok w d c v) (hok:ChOk d c) :
  Calls Tryz.prog 16 #[v] w fun e w'=>∃ u,e=.returned u/\RdC (fun b=>w.heap.size<=b) w' d (stG d c) u/\Below w.heap.size w w':=by
 obtain ⟨ip,hip,hip0,hip1,hip2⟩:=info_parts Tryz.infoPS
 obtain ⟨sv,ss,rfl,hv,hs⟩:=h
 obtain ⟨a,cap,rfl,hlc,hcm⟩:=hv.form
 obtain ⟨p4,p6,rfl,_⟩:=hs.form
 have HV:=mkHid hv
 have HS:=mkHid hs
 obtain ⟨nm,hnm⟩:∃ nv:ByteArray,⟨c.1.1.toArray⟩=nv:=⟨_,rfl⟩
 have hz1:nm.size<=140737488351232:=by rw [<- hnm];show c.1.1.toArray.size<=_;simpa using hok.nm
 obtain ⟨n,hn⟩:∃ n,c.2.2.1.length=n:=⟨_,rfl⟩
 obtain ⟨i,hi⟩:∃ n,c.2.2.2.length=n:=⟨_,rfl⟩
 obtain ⟨vn,hvn⟩:∃ x,c.2.1=x:=⟨_,rfl⟩
 obtain ⟨ln,hln⟩:∃ x,c.1.2.1=x:=⟨_,rfl⟩
 obtain ⟨co,hco⟩:∃ x,c.1.2.2=x:=⟨_,rfl⟩
 rw [show sV c.1.1=.string nm from by unfold sV;rw [hnm],hvn,hln,hco,hi,hn]
 rw [hi] at HS
 rw [hn] at HV
 have HOK:=mkHid hok
 have HN:Hid (c.2.2.1.length=n):=hn
 have HE:Hid (∀ (w':World) (u1:Option Addr) (u3:Nat) (s5:Value),RdK (fun b=>w.heap.size<=b) w' 4 (rVar (fun b=>w.heap.size<=b) w') (c.2.2.1.map spV) (.slice u1 n u3)->RdSp w.heap.size w' ⟨d,c.2.2.2⟩ s5->RdC (fun b=>w.heap.size<=b) w' d (stG d c) (.agg #[.string nm,.int .i64 vn,.int .i64 0,.int .i64 0,.slice u1 n u3,s5])):=by
  intro w' u1 u3 s5 h1 h2
  refine ⟨_,_,?_,h1,h2⟩
  show _=Value.agg #[sV c.1.1,.int .i64 c.2.1,.int .i64 0,.int .i64 0,_,_]
  rw [show sV c.1.1=.string nm from by unfold sV;rw [hnm],hvn]
 clear hv hs hok hnm hn hi hvn hln hco hcm hlc
 have g1:=fun w1=>pClone_any nm w1 hz1
 have hal:Below w.heap.size w ((w.alloc (.cells #[.string nm,.int .i64 vn,.int .i64 ln,.int .i64 co,.slice a n cap,.slice p4 i p6] 33)).alloc (.cells #[.string ⟨#[]⟩,.int .i64 0,.int .i64 0,.int .i64 0,.slice none 0 0,.slice none 0 0] 33)):=((Below.refl w.heap.size w).alloc Nat.le.refl _).alloc (by simp) _
 have hX:Bn ((w.alloc (.cells #[.string nm,.int .i64 vn,.int .i64 ln,.int .i64 co,.slice a n cap,.slice p4 i p6] 33)).alloc (.cells #[.string ⟨#[]⟩,.int .i64 0,.int .i64 0,.int .i64 0,.slice none 0 0,.slice none 0 0] 33)) w.heap.size [.string nm,.int .i64 vn,.int .i64 ln,.int .i64 co,.slice a n cap,.slice p4 i p6]:=(Bn.new w [.string nm,.int .i64 vn,.int .i64 ln,.int .i64 co,.slice a n cap,.slice p4 i p6] 33 _ rfl).on ((Below.refl _ _).alloc Nat.le.refl _)
 have hR:Bn ((w.alloc (.cells #[.string nm,.int .i64 vn,.int .i64 ln,.int .i64 co,.slice a n cap,.slice p4 i p6] 33)).alloc (.cells #[.string ⟨#[]⟩,.int .i64 0,.int .i64 0,.int .i64 0,.slice none 0 0,.slice none 0 0] 33)) (w.heap.size+1) [.string ⟨#[]⟩,.int .i64 0,.int .i64 0,.int .i64 0,.slice none 0 0,.slice none 0 0]:=Bn.new (w.alloc (.cells #[.string nm,.int .i64 vn,.int .i64 ln,.int .i64 co,.slice a n cap,.slice p4 i p6] 33)) [.string ⟨#[]⟩,.int .i64 0,.int .i64 0,.int .i64 0,.slice none 0 0,.slice none 0 0] 33 _ (by simp)
 have hsz:w.heap.size+2<=((w.alloc (.cells #[.string nm,.int .i64 vn,.int .i64 ln,.int .i64 co,.slice a n cap,.slice p4 i p6] 33)).alloc (.cells #[.string ⟨#[]⟩,.int .i64 0,.int .i64 0,.int .i64 0,.slice none 0 0,.slice none 0 0] 33)).heap.size:=by simp
 go_enter Tryz.func16,Tryz.ntmps16
 go_upto_region 1 with fail
 generalize ((w.alloc (.cells #[.string nm,.int .i64 vn,.int .i64 ln,.int .i64 co,.slice a n cap,.slice p4 i p6] 33)).alloc (.cells #[.string ⟨#[]⟩,.int .i64 0,.int .i64 0,.int .i64 0,.slice none 0 0,.slice none 0 0] 33))=wx at *
 obtain ⟨c0,e0⟩:=hX 0 _ rfl
 go_upto_region 2 with (first
  | (go_at_call 38;refine (g1 _).mono ?_;rintro e w1 ⟨rfl,b1⟩;have hX1:=hX.on b1;obtain ⟨x0,y0⟩:=hX1 0 _ rfl))
 have hX2:=hX1.set (i:=0) (by simp) (.string nm)
 have hR2:=(hR.on b1).far (X:=w.heap.size) (i:=0) (by omega) (.string nm)
 have hB2:Below w.heap.size w (w1.setCell ⟨w.heap.size,0,none⟩ (.string nm)):=(hal.trans (b1.mono (by omega))).setCell Nat.le.refl _
 have hs2:w.heap.size+2<=(w1.setCell ⟨w.heap.size,0,none⟩ (.string nm)).heap.size:=by simpa using Nat.le_trans hsz b1.size
 clear hX hR hX1 x0 y0 c0 e0 b1 hal hsz g1
 generalize w1.setCell ⟨w.heap.size,0,none⟩ (.string nm)=w2 at *
 obtain ⟨a1,q1⟩:=hX2 2 _ rfl
 obtain ⟨a2,q2⟩:=hX2 3 _ rfl
 go_upto_region 3 with fail
 have hX3:=(hX2.set (i:=2) (by simp) (.int .i64 0)).set (i:=3) (by simp) (.int .i64 0)
 have hR3:=(hR2.far (X:=w.heap.size) (i:=2) (by omega) (.int .i64 0)).far (X:=w.heap.size) (i:=3) (by omega) (.int .i64 0)
 have hB3:Below w.heap.size w ((w2.setCell ⟨w.heap.size,2,none⟩ (.int .i64 0)).setCell ⟨w.heap.size,3,none⟩ (.int .i64 0)):=(hB2.setCell (p:=⟨w.heap.size,2,none⟩) Nat.le.refl _).setCell (p:=⟨w.heap.size,3,none⟩) Nat.le.refl _
 have hs3:w.heap.size+2<=((w2.setCell ⟨w.heap.size,2,none⟩ (.int .i64 0)).setCell ⟨w.heap.size,3,none⟩ (.int .i64 0)).heap.size:=by simpa using hs2
 clear hX2 hR2 hB2 hs2 a1 q1 a2 q2
 generalize (w2.setCell ⟨w.heap.size,2,none⟩ (.int .i64 0)).setCell ⟨w.heap.size,3,none⟩ (.int .i64 0)=w3 at *
 have hE:Calls Tryz.prog 39 #[.slice a n cap,.func (.func 40) #[] #[]] w3 fun e w'=>∃ u1 u3,e=.returned (.slice u1 n u3)/\RdK (fun b=>w3.heap.size<=b) w' 4 (rVar (fun b=>w3.heap.size<=b) w') (c.2.2.1.map spV) (.slice u1 n u3)/\Below w3.heap.size w3 w':=by
  refine (eachVar_any (HV.out.stay kp_var (ok':=ok) (w':=w3) (fun b hb hl=>⟨hb,hB3.block b hl⟩)) HOK.out.vl HOK.out.vn).mono ?_
  rintro e w' ⟨u,h1,h2,h3⟩
  obtain ⟨u1,u3,rfl,_⟩:=h2.form
  rw [List.length_map,HN.out] at h1 h2
  exact ⟨u1,u3,h1,h2,h3⟩
 obtain ⟨c4,e4⟩:=hX3 4 _ rfl
 go_upto_region 4 with (first
  | (go_at_call 39;refine hE.mono ?_;rintro e w4 ⟨u1,u3,rfl,hr,b4⟩;have hX4:=hX3.on b4;obtain ⟨x4,y4⟩:=hX4 4 _ rfl))
 have hX5:Bn (w4.setCell ⟨w.heap.size,4,none⟩ (.slice u1 n u3)) w.heap.size [.string nm,.int .i64 vn,.int .i64 0,.int .i64 0,.slice u1 n u3,.slice p4 i p6]:=hX4.set (i:=4) (by simp) (.slice u1 n u3)
 have hR5:=(hR3.on b4).far (X:=w.heap.size) (i:=4) (by omega) (.slice u1 n u3)
 have hB5:Below w.heap.size w (w4.setCell ⟨w.heap.size,4,none⟩ (.slice u1 n u3)):=(hB3.trans (b4.mono (by omega))).setCell Nat.le.refl _
 have hs5:w.heap.size+2<=(w4.setCell ⟨w.heap.size,4,none⟩ (.slice u1 n u3)).heap.size:=by simpa using Nat.le_trans hs3 b4.size
 have hr5:=hr.stay kp_var (ok':=fun b=>w.heap.size+2<=b) (w':=w4.setCell ⟨w.heap.size,4,none⟩ (.slice u1 n u3)) (fun b hb hl=>⟨by omega,Below.heap_setCell _ _ _ _ (fun e=>by have e2:b=w.heap.size:=e;omega)⟩)
 clear hX3 hR3 hX4 x4 y4 c4 e4 b4 hB3 hs3 hr hE
 generalize w4.setCell ⟨w.heap.size,4,none⟩ (.slice u1 n u3)=w5 at *
 have hst:=strip_start (c:=c) hX5 hR5 hr5 (HS.out.stay (kp_st d) (ok':=fun b=>b < w.heap.size) (w':=w5) (fun b hb hl=>⟨hl,hB5.block b hl⟩)) HOK.out.fo hs5
 have hb6:Below w.heap.size w (w5.alloc (.cells #[.pointer (some ⟨w.heap.size,5,none⟩)] 71)):=hB5.alloc (by omega) _
 have HST:=mkHid hst
 clear hst hX5 hR5 hr5 hB5 hs5 HV HS
 go_wp2
 go_loopg [3] 1000000 (fun gn v wr=>∃ (P:List Pd) (X:Nat->Prop),Hid (PInv w.heap.size (RStr w.heap.size d c nm vn u1 n u3) X wr v P)/\Hid ((P.map szF).sum<=gn/\gn<=1000000)/\Below w.heap.size w wr)
 case atStart=>
  refine ⟨_,_,HST,⟨?_,Nat.le_refl _⟩,hb6⟩
  show szL d c.2.2.2+0<=1000000
  have:=HOK.out.sz
  omega
 case round=>
  obtain ⟨P,X,hI,hM,hb⟩:=hrel
  by_cases he:P=[]
  ·subst he
   obtain ⟨ra,rc,rfl⟩:=rowV_nil hI.out.row
   obtain ⟨hc5,⟨s5,hs5,hrs⟩,hrv,hRb⟩:=hI.out.wnd.end
   obtain ⟨y1,y3,hy,_⟩:=hrs.form
   rw [List.length_map] at hy
   subst hy
   obtain ⟨y2,hy2⟩:∃ y2,c.2.2.2.length=y2:=⟨_,rfl⟩
   simp only [hy2] at hs5 hrs
   have k0:=hc5 0 _ rfl
   have k1:=hc5 1 _ rfl
   have k2:=hc5 2 _ rfl
   have k3:=hc5 3 _ rfl
   have k4:=hc5 4 _ rfl
   have hfin:=HE.out (putL wr (w.heap.size+1) 0 [.string nm,.int .i64 vn,.int .i64 0,.int .i64 0,.slice u1 n u3,.slice y1 y2 y3]) u1 u3 (.slice y1 y2 y3) (hrv.stay kp_var (fun b hb hl=>⟨by omega,putL_heap _ _ _ _ _ (by omega)⟩)) (hrs.stay (kp_st d) (fun b hb hl=>⟨by omega,putL_heap _ _ _ _ _ (by omega)⟩))
   have hbz:=putL_below [.string nm,.int .i64 vn,.int .i64 0,.int .i64 0,.slice u1 n u3,.slice y1 y2 y3] wr (w.heap.size+1) 0 hb (by omega)
   obtain ⟨r0,f0⟩:=hRb 0 _ rfl
   obtain ⟨r1,f1⟩:=hRb 1 _ rfl
   obtain ⟨r2,f2⟩:=hRb 2 _ rfl
   obtain ⟨r3,f3⟩:=hRb 3 _ rfl
   obtain ⟨r4,f4⟩:=hRb 4 _ rfl
   obtain ⟨r5,f5⟩:=hRb 5 _ rfl
   have hRz:=(((((hRb.set (i:=0) (by simp) (.string nm)).set (i:=1) (by simp) (.int .i64 vn)).set (i:=2) (by simp) (.int .i64 0)).set (i:=3) (by simp) (.int .i64 0)).set (i:=4) (by simp) (.slice u1 n u3)).set (i:=5) (by simp) (.slice y1 y2 y3)
   clear hI hM hrs hrv hc5
   go_wp2
   exact bodyPost_ret (cstr_res hRz rfl) rfl ⟨_,rfl,hfin,hbz⟩
  ·obtain ⟨P',p,rfl⟩:=last_ofP he
   obtain ⟨dd,l,hI2,hszp⟩:=hI.out.deep
   obtain ⟨pp,hpp⟩:∃ x,p.1=x:=⟨_,rfl⟩
   rw [hpp] at hI2
   obtain ⟨pb,po⟩:=pp
   have hm:=hM.out
   rw [List.map_append,List.sum_append,List.map_singleton,List.sum_singleton,hszp] at hm
   have hpl:P'.length<=1000000:=by
    have:P'.length<=(P'.map szF).sum:=szF_len P'
    omega
   obtain ⟨o1,o2,o3,o4,o5,u0,o6,o7⟩:=hI2.ok _ (List.mem_append_right _ List.mem_cons_self)
   have o1:w.heap.size<=pb:=o1
   have o2:pb < wr.heap.size:=o2
   have o3:wr.frozen? ⟨pb,po,none⟩=false:=o3
   have o6:wr.cell? ⟨pb,po,none⟩=some u0:=o6
   obtain ⟨s1,s3,rfl,_⟩:=o7.form
   have hrow:=hI2.row
   rw [List.map_append,List.length_append,List.map_singleton,List.length_singleton] at hrow
   obtain ⟨g,cap',rfl,hcap,hcm,hgb,hgl,hcell,hpop⟩:=rowV_pop (by simp) hrow
   have hcell:wr.cell? ⟨g,P'.length,none⟩=some (.pointer (some ⟨pb,po,none⟩)):=hcell
   have hXg:=hI2.x2 g rfl
   have hgp:g≠pb:=fun e=>o4 (e ▸ hXg)
   have hsz2:w.heap.size+2<=wr.heap.size:=hI2.big
   have hcall:Calls Tryz.prog 41 #[.slice s1 l.length s3,.func (.func 42) #[] #[]] wr fun e w'=>e=.returned (.slice (some ⟨wr.heap.size,0,none⟩) l.length l.length)/\Hid (RowG w' wr.heap.size 11 l.length (rHf dd (fun b=>b < w.heap.size) wr) l)/\Below wr.heap.size wr w'/\wr.heap.size < w'.heap.size:=eachSt_any o7 o5.1 (fun s hs=>(o5.2 s hs).1)
   have hll:l.length<=100000:=o5.1
   have HI2:=mkHid hI2
   have HPOP:=mkHid hpop
   have HM2:Hid ((P'.map szF).sum+szL (dd+1) l<=gk/\gk<=1000000):=hm
   obtain ⟨m,hml⟩:∃ m,P'.length=m:=⟨_,rfl⟩
   obtain ⟨nl,hnl⟩:∃ m,l.length=m:=⟨_,rfl⟩
   rw [hml] at hcell hcap hpl ⊢
   rw [hnl] at hcall hll o6
   have HML:Hid (P'.length=m):=hml
   have HNL:Hid (l.length=nl):=hnl
   clear hI hM hI2 hm hrow hpop he hml hnl o5 o7 hszp hXg
   have i1:((m:Int)+1 > 0):=by omega
   have i3:(0:Int)<=(m:Int):=by omega
   have i4:(m:Int)<=(cap':Int):=by omega
   have i5:(m:Int) < (m:Int)+1:=by omega
   go_upto_region 8 with (first
    | (go_at_call 41;refine hcall.mono ?_;rintro e w6 ⟨rfl,hu,b6,hG6⟩))
   have G1:=(b6.cell (p:=⟨g,m,none⟩) hgl).trans hcell
   have Q1:=(b6.cell (p:=⟨pb,po,none⟩) o2).trans o6
   have Q2:=(b6.frozen (p:=⟨pb,po,none⟩) o2).trans o3
   go_upto_region 9 with fail
   obtain ⟨w7,hw7⟩:∃ x,w6.setCell ⟨pb,po,none⟩ (.slice (some ⟨wr.heap.size,0,none⟩) nl nl)=x:=⟨_,rfl⟩
   have hs7:w7.heap.size=w6.heap.size:=by rw [<- hw7];simp
   have hb7:Below w.heap.size w w7:=by rw [<- hw7];exact (hb.trans (b6.mono hb.size)).setCell o1 _
   have hrow7:w7.ownsRow w.heap.size 71 1 (.slice (some ⟨g,0,none⟩) m cap') m (P'.map pdV):=by
    have h1:=own_on HPOP.out b6 Nat.le.refl
    rw [HML.out] at h1
    rw [<- hw7]
    refine ownsRow_keep h1 (fun g' hg'=>?_)
    have:g=g':=Option.some.inj hg'
    subst this
    exact Below.heap_setCell _ _ _ _ (fun e=>hgp e)
   rw [hw7]
   have HW7:=mkHid hw7
   obtain ⟨GB,hGB⟩:∃ x,wr.heap.size=x:=⟨_,rfl⟩
   rw [hGB]
   have HGB:=mkHid hGB
   have HU:=mkHid hu
   clear hw7 hGB hcell o6 o3 G1 Q1 Q2 hcall hu
   have hr0:Hid (w7.ownsRow w.heap.size 71 1 (.slice (some ⟨g,0,none⟩) m cap') (m+0) ((P'++(kidC wr.heap.size dd 0 l).take 0).map pdV)):=by
    show w7.ownsRow _ _ _ _ _ _
    rw [List.take_zero,List.append_nil]
    exact hrow7
   have hsw7:w.heap.size<=w7.heap.size:=hb7.size
   clear hrow7
   go_wp2
   go_loopw [3,43] (fun v3 ix wr=>∃ (j:Nat),j<=nl/\ix=.int .i64 (j:Int)/\Hid (wr.ownsRow w.heap.size 71 1 v3 (m+j) ((P'++(kidC GB dd 0 l).take j).map pdV))/\Hid (Fr w7 wr (.slice (some ⟨g,0,none⟩) m cap') v3)) (fun _ ix _=>nl - (RowKit.intOf ix).toNat)
   case atStart=>exact ⟨0,Nat.zero_le _,rfl,by rw [<- HGB.out];exact hr0,Fr.of (Below.refl w7.heap.size w7) Nat.le.refl _⟩
   case round=>
    obtain ⟨wo,hwo⟩:∃ x,x=wr:=⟨_,rfl⟩
    clear hr0
    obtain ⟨j,hj,rfl,hrj,hfj⟩:=hrel
    obtain ⟨ra,rc,rfl,hrl,hrm⟩:=own_formP hrj.out
    have hws:=hfj.out.grown.size
    by_cases hjl:j < nl
    ·have i6:(j:Int) < (nl:Int):=by omega
     have i7:(0:Int)<=(j:Int):=by omega
     have hjll:j < l.length:=by rw [HNL.out];exact hjl
     have hkj:(kidC GB dd 0 l).take (j+1)=(kidC GB dd 0 l).take j++[((GB,j*11+10),⟨dd,l[j].2⟩)]:=by
      rw [List.take_succ_eq_append_getElem (by rw [kid_len];exact hjll),kid_get 0 dd l j hjll,Nat.zero_add]
     have hxs:(P'++(kidC GB dd 0 l).take (j+1)).map pdV=(P'++(kidC GB dd 0 l).take j).map pdV++[(.pointer (some ⟨GB,j*11+10,none⟩))]:=by
      rw [hkj,<- List.append_assoc,List.map_append];rfl
     go_wp2_with (first
      | (at_builtin;refine wpList_append_at _ rfl _ _ 72 72 rfl w.heap.size 71 ip (.pointer none) 1 8 Tryz.underlying72 hip hip0 hip1 hip2 rfl (.slice ra (m+j) rc) (m+j) ((P'++(kidC GB dd 0 l).take j).map pdV) rfl (World.ownsRow.alloc hrj.out _) _ 1 [(.pointer (some ⟨GB,j*11+10,none⟩))] rfl (src_row Tryz.underlying72 _ [(.pointer (some ⟨GB,j*11+10,none⟩))] rfl (by simp [Value.oneCell'])) 1 (.inr (by omega)) Nat.le.refl (by unfold maxLen;omega) (by simp;omega) ?_;intro vb wb hown hgr hat)
      | fail)
     have hfr:Hid (Fr w7 wb (.slice (some ⟨g,0,none⟩) m cap') vb):=by
      have h1:Fr wr (wr.alloc (.cells #[.pointer (some ⟨GB,j*11+10,none⟩)] 71)) (.slice ra (m+j) rc) (.slice ra (m+j) rc):=Fr.of ((Below.refl wr.heap.size wr).alloc Nat.le.refl _) Nat.le.refl _
      have h2:Fr (wr.alloc (.cells #[.pointer (some ⟨GB,j*11+10,none⟩)] 71)) wb (.slice ra (m+j) rc) vb:=⟨hgr,fun g' hg'=>by
       rcases hat with e|e
       ·exact .inl (e ▸ hg')
       ·rw [e] at hg'
        have:_=g':=Option.some.inj hg'
        exact .inr (by omega)⟩
      exact (hfj.out.trans h1).trans h2
     have hown2:Hid (wb.ownsRow w.heap.size 71 1 vb (m+(j+1)) ((P'++(kidC GB dd 0 l).take (j+1)).map pdV)):=by
      show wb.ownsRow _ _ _ _ _ _
      rw [hxs]
      exact hown
     clear hown hgr hat hrj hfj hxs hkj
     go_wp2
     go_roundw
     case rel=>exact ⟨j+1,hjl,by go_num,hown2,hfr⟩
     case measure=>simp [RowKit.intOf];omega
    ·have i6:¬ (j:Int) < (nl:Int):=by omega
     have hjn:j=nl:=by omega
     subst hjn
     have hfull:(kidC GB dd 0 l).take j=kidC GB dd 0 l:=List.take_of_length_le (by rw [kid_len,HNL.out];exact Nat.le_refl _)
     have hrf:=hrj.out
     rw [hfull] at hrf
     have hF:=hfj.out
     have hlen:(P'++kidC GB dd 0 l).length=m+j:=by rw [List.length_append,kid_len,HML.out,HNL.out]
     have hrf2:wr.ownsRow w.heap.size 71 1 (.slice ra (m+j) rc) (P'++kidC GB dd 0 l).length ((P'++kidC GB dd 0 l).map pdV):=by rw [hlen];exact hrf
     have HU2:=HU.out.out
     rw [<- HNL.out] at HU2
     have hpi:PInv w.heap.size (RStr w.heap.size d c nm vn u1 n u3) (fun b=>X b∨(Value.slice ra (m+j) rc).ownBlock=some b) wr (.slice ra (m+j) rc) (P'++kidC GB dd 0 l):=by
      have hs6:w6.heap.size=w7.heap.size:=hs7.symm
      have hst:=PInv.step (w2:=wr) (v2:=.slice ra (m+j) rc) (g:=g) HI2.out b6 HU2 hG6 rfl (by rw [HGB.out];exact hrf2) (by rw [HNL.out,HW7.out];exact hF.grown) (fun g' hg'=>by
       rcases hF.lies g' hg' with e|e
       ·exact .inl (Option.some.inj e)
       ·exact .inr (by omega)) (fun g' hg'=>(ownsRow_lt hrf2 g' hg').2)
      rw [HGB.out] at hst
      exact hst
     have hbf:Below w.heap.size w wr:=hb7.trans (hF.below hsw7 (fun g' hg'=>by have:g=g':=Option.some.inj hg';omega))
     have hsum:=HM2.out
     have hks:=kid_sz (G:=GB) 0 dd l
     have hsum2:(((P'++kidC GB dd 0 l)).map szF).sum=(P'.map szF).sum+((kidC GB dd 0 l).map szF).sum:=by rw [List.map_append,List.sum_append]
     clear hrj hfj hF hrf hrf2 hfull HU2
     go_wp2
     go_roundg ((P'.map szF).sum+((kidC GB dd 0 l).map szF).sum)
     case measure=>omega
     case rel=>exact ⟨P'++kidC GB dd 0 l,_,hpi,⟨by rw [hsum2];exact Nat.le_refl _,by omega⟩,hbf⟩
