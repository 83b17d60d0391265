import Derived.Test.YtlgnahpfggagoaaGreatDoorWzc05
import Derived.Test.YtlgnahpfggagoaaGreatDoorWzc04
import Derived.Sort.CutIn
import Derived.Test.YtlgnahpfggagoaaGreatDoorWzc03
import Derived.Deep.RegionHeldLaw
import Derived.Deep.DeepCutAuto
import Derived.Laws.MakeOwn
import Derived.Test.YtlgnahpfggagoaaGreatDoorRows
import Derived.Test.YtlgnahpfggagoaaGreatDoorWzc02
import Derived.Lib.SlicesCompact
import Derived.Sort.Walk0
import Derived.Shelf.Sort.Plain
import Derived.Shelf.Slices.In.SortNone
import Derived.Shelf.Slices.CompactS
/- What the program's Find and Inner answer. -/
namespace Go.Proofs.YtlgnahpfggagoaaGreatDoor
open Go.RowKit Go.Lib
set_option linter.unusedSimpArgs false
set_option linter.unusedVariables false
attribute [local go_sem ↓] Go.wp_at_zero Go.wp_at_succ
theorem wpList_pushK {α:Type}{P:Program}(w:World) {ops:Array Oper}{rest:List Oper}{o:Oper}{a:Act}{Q:Exit→Act→World→Prop}(hgd:o.guard=none) (s x:Operand) (t:TypeId)
  (ho:o.op=.call { callee:=.builtin .append,args:=#[s,x],argTypes:=#[t,t] })
  (base:Nat) (e:TypeId) (i:TypeInfo) (z:Value) (k bytes:Nat) (ht:P.underlying t=some (.slice e)) (hi:P.info? e=some i) (hz:i.zero=some z)
  (hsize:i.size=k) (hby:i.bytes=bytes) (hzs:z.cells.size=k) {R:(Nat→Prop)→World→α→List Value→Prop}(hR:Kp R)
  (v:Value) (l:List α) (p:α) (cs:List Value) (lo:Nat) (hs:a.eval s=v) (hx:a.eval x=.slice (some ⟨w.heap.size,0,none⟩) 1 1) (hk:cs.length=k) (h1:∀ u∈cs,u.oneCell'=true)
  (hown:OwnK w base e k R v l) (hp:R (fun b=>lo≤b) w p cs) (hlo:base≤lo) (hv:∀ x,v.ownBlock=some x→x < lo) (hroom:(l.length+1+(l.length+1) / 4+192)*bytes≤281474976710656)
  (h63:l.length+1≤maxLen) (hbase:base≤w.heap.size)
  (h:∀ v' w',OwnK w' base e k R v' (l++[p])→(w.alloc (.cells cs.toArray e)).grownBy w' v.ownBlock→Below base w w'→wpList P ops Q rest (a.put o.dst v') w') :
  wpList P ops Q (o :: rest) a (w.alloc (.cells cs.toArray e)):=by
 have hal:Below w.heap.size w (w.alloc (.cells cs.toArray e)):=(Below.refl _ _).alloc (Nat.le_refl _) _
 obtain ⟨qs,ho1,hl1,hr1⟩:=hown.on hR hal
 refine wpList_append_at _ hgd s x t t ho base e i z k bytes ht hi hz hsize hby hzs v l.length qs.flatten hs ho1 _ 1 cs hx (src_row ht w cs hk h1) 1 (.inr hroom) (Nat.le_refl _) h63 (Nat.le_trans hbase hal.size) ?_
 intro v' w' hown' hg hat
 refine h v' w' (OwnK.snoc hR hk rfl ho1 hl1 hr1 hown' hg hat (hR hp (fun b hb hlt=>⟨hb,hal.block b hlt⟩)) hlo hv) hg ?_
 exact ((Below.refl base w).alloc hbase _).grown hg (Nat.le_trans hbase hal.size) (fun k hk=>(World.ownsRow.lt ho1 k hk).1)
theorem OwnK.blk {α:Type}{w:World}{base e k:Nat}{R:(Nat→Prop)→World→α→List Value→Prop}{v:Value}{l:List α}(h:OwnK w base e k R v l):∀ x,v.ownBlock=some x→base≤x∧x < w.heap.size:=by
 obtain ⟨qs,ho,_⟩:=h
 exact ownsRow_lt ho
end Go.Proofs.YtlgnahpfggagoaaGreatDoor
/- What the program's Nodes answers: the nodes ahead of what follows of how deep they lie. -/
namespace Go.Proofs.YtlgnahpfggagoaaGreatDoor
open Go.RowKit Go.Lib Go.Shelf
set_option linter.unusedSimpArgs false
set_option linter.unusedVariables false
attribute [local go_sem] Oper.semAt_some
end Go.Proofs.YtlgnahpfggagoaaGreatDoor
/- Nodes of states are formed; what the meet of two is. -/
namespace Go.Proofs.YtlgnahpfggagoaaGreatDoor
open Go.RowKit Go.Lib
set_option linter.unusedSimpArgs false
set_option linter.unusedVariables false
/-- As the document has them: in which one each lies right, and it. -/
def flA (d:Nat) (rc:Int→Nat→List (St d)→List (Int × SgS)) (p:Int):Nat→List (St (d+1))→List (Int × SgS)
 | _,[]=>[]
 | m,t :: r=>(p,⟨d+1,t⟩) :: (rc m (m+1) t.2++flA d rc p (m+1+(rc m (m+1) t.2).length) r)
def flP:(d:Nat)→Int→Nat→List (St d)→List (Int × SgS)
 | 0,_,_,_=>[]
 | d+1,p,m,l=>flA d (flP d) p m l
theorem flA_len (d k:Nat) (rc:Int→Nat→List (St d)→List (Int × SgS)) (h:∀ p m l,(rc p m l).map (fun x=>x.2)=(flM d (k+1) l).map (fun x=>x.2)) (p:Int):∀ (l:List (St (d+1))) (m:Nat),(flA d rc p m l).map (fun x=>x.2)=(flM (d+1) k l).map (fun x=>x.2)
 | [],_=>rfl
 | t :: r,m=>by
  have h2:=flA_len d k rc h p r (m+1+(rc m (m+1) t.2).length)
  simp only [flA,List.map_cons,List.map_append,h,h2]
  simp [flM]
/-- The states are the same. -/
theorem flP_st:∀ (d k:Nat) (p:Int) (m:Nat) (l:List (St d)),(flP d p m l).map (fun x=>x.2)=(flM d k l).map (fun x=>x.2)
 | 0,_,_,_,_=>rfl
 | d+1,k,p,m,l=>flA_len d k (flP d) (fun p m l=>flP_st d (k+1) p m l) p l m
theorem flP_len (d k:Nat) (p:Int) (m:Nat) (l:List (St d)):(flP d p m l).length=(flM d k l).length:=by
 have:=congrArg List.length (flP_st d k p m l)
 simpa using this
def sgH:SgS→HdC
 | ⟨0,t⟩=>Empty.elim t
 | ⟨_+1,t⟩=>t.1
def sgN (x:SgS):ByteArray:=⟨(sgH x).1.1.toArray⟩
def sgP (x:SgS):Pl:=(sgH x).1.2
def sgO (x:SgS):List OnC:=(sgH x).2.2.2.2
def sgI:SgS→Nat
 | ⟨0,t⟩=>Empty.elim t
 | ⟨_+1,t⟩=>t.2.length
/-- The first one from i on, of k. -/
def ixF (p:Nat→Bool):Nat→Nat→Int
 | 0,_=>-1
 | k+1,i=>if p i=true then (i:Int) else ixF p k (i+1)
theorem ixF_lt (p:Nat→Bool):∀ k i,ixF p k i < (i+k:Nat)
 | 0,_=>by unfold ixF;omega
 | k+1,i=>by
  unfold ixF
  split
  ·omega
  ·have:=ixF_lt p k (i+1)
   omega
theorem ixF_some (p:Nat→Bool):∀ k i j,i≤j→j < i+k→p j=true→∃ m:Nat,ixF p k i=m∧i≤m∧m≤j∧p m=true
 | 0,i,j,h1,h2,_=>by omega
 | k+1,i,j,h1,h2,hp=>by
  unfold ixF
  by_cases h:p i=true
  ·rw [if_pos h]
   exact ⟨i,rfl,Nat.le_refl _,h1,h⟩
  ·rw [if_neg h]
   have hij:i≠j:=fun e=>h (e ▸ hp)
   obtain ⟨m,h3,h4,h5,h6⟩:=ixF_some p k (i+1) j (by omega) (by omega) hp
   exact ⟨m,h3,by omega,h5,h6⟩
theorem ixF_at (p:Nat→Bool):∀ k i (m:Nat),ixF p k i=m→i≤m∧m < i+k∧p m=true∧∀ j,i≤j→j < m→p j=false
 | 0,i,m,h=>by unfold ixF at h;omega
 | k+1,i,m,h=>by
  unfold ixF at h
  by_cases hp:p i=true
  ·rw [if_pos hp] at h
   have:i=m:=by omega
   subst this
   exact ⟨Nat.le_refl _,by omega,hp,fun j h1 h2=>by omega⟩
  ·rw [if_neg hp] at h
   obtain ⟨h1,h2,h3,h4⟩:=ixF_at p k (i+1) m h
   refine ⟨by omega,by omega,h3,fun j h5 h6=>?_⟩
   by_cases e:j=i
   ·subst e;simpa using hp
   ·exact h4 j (by omega) h6
/-- The first on of which it is so, from j on. -/
def frO (q:Nat→Bool):List OnC→Nat→Option Pl
 | [],_=>none
 | o :: r,j=>if q j=true then some o.2.2.2.2 else frO q r (j+1)
/-- The first thing of which it is so: each state ahead of its ons. -/
def frS (p:Nat→Bool) (q:Nat→Nat→Bool):List (Int × SgS)→Nat→Option Pl
 | [],_=>none
 | x :: r,i=>if p i=true then some (sgP x.2) else match frO (q i) (sgO x.2) 0 with
  | some a=>some a
  | none=>frS p q r (i+1)
end Go.Proofs.YtlgnahpfggagoaaGreatDoor
/- What the program's copies of expressions are: the same. -/
namespace Go.Proofs.YtlgnahpfggagoaaGreatDoor
open Go.RowKit Go.Lib
set_option linter.unusedSimpArgs false
set_option linter.unusedVariables false
attribute [local go_sem ↓] Go.wp_at_zero Go.wp_at_succ
theorem al_ref (v:Value) (w:World):(Instr.typeAssert (.iface 104 v) 76 106 true).run Tryz.prog w=.ok (.tuple #[.agg #[.string ⟨#[]⟩],.bool false]) w:=by kernel_rfl
theorem al_not (v:Value) (w:World):(Instr.typeAssert (.iface 104 v) 76 108 true).run Tryz.prog w=.ok (.tuple #[.agg #[.nilIface],.bool false]) w:=by kernel_rfl
theorem al_neg (v:Value) (w:World):(Instr.typeAssert (.iface 104 v) 76 109 true).run Tryz.prog w=.ok (.tuple #[.agg #[.nilIface],.bool false]) w:=by kernel_rfl
theorem al_bin (v:Value) (w:World):(Instr.typeAssert (.iface 104 v) 76 111 true).run Tryz.prog w=.ok (.tuple #[.agg #[.string ⟨#[]⟩,.nilIface,.nilIface],.bool false]) w:=by kernel_rfl
theorem an_ref (w:World):(Instr.typeAssert .nilIface 76 106 true).run Tryz.prog w=.ok (.tuple #[.agg #[.string ⟨#[]⟩],.bool false]) w:=by kernel_rfl
theorem an_not (w:World):(Instr.typeAssert .nilIface 76 108 true).run Tryz.prog w=.ok (.tuple #[.agg #[.nilIface],.bool false]) w:=by kernel_rfl
theorem an_neg (w:World):(Instr.typeAssert .nilIface 76 109 true).run Tryz.prog w=.ok (.tuple #[.agg #[.nilIface],.bool false]) w:=by kernel_rfl
theorem an_bin (w:World):(Instr.typeAssert .nilIface 76 111 true).run Tryz.prog w=.ok (.tuple #[.agg #[.string ⟨#[]⟩,.nilIface,.nilIface],.bool false]) w:=by kernel_rfl
attribute [local go_sem] as_ref_ref as_not_ref as_not_not as_neg_ref as_neg_not as_neg_neg as_bin_ref as_bin_not as_bin_neg as_bin_bin al_ref al_not al_neg al_bin an_ref an_not an_neg an_bin
theorem Below.nx {w wc w1:World}(h:Below w.heap.size w wc) (b:Below wc.heap.size wc w1):Below w.heap.size w w1:=h.trans (b.mono h.size)
end Go.Proofs.YtlgnahpfggagoaaGreatDoor
/- A row under construction: made, then written element by element. -/
namespace Go.Proofs.YtlgnahpfggagoaaGreatDoor
open Go.RowKit Go.Lib
set_option linter.unusedSimpArgs false
set_option linter.unusedVariables false
end Go.Proofs.YtlgnahpfggagoaaGreatDoor
/- What the program's copy of a set is, and of sets. -/
namespace Go.Proofs.YtlgnahpfggagoaaGreatDoor
open Go.RowKit Go.Lib
set_option linter.unusedSimpArgs false
set_option linter.unusedVariables false
attribute [local go_sem ↓] Go.wp_at_zero Go.wp_at_succ
def ExOk (x:Sx):Prop:=ClX x∧cntX x≤2000∧shrt 1000 x.1 x.2=true
def SetOk (s:List UInt8 × Sx):Prop:=s.1.length≤140737488351232∧ExOk s.2
theorem setQ_at {ok:Nat→Prop}{w:World}{l:List (List UInt8 × Sx)}{a:Option Addr}{n cap:Nat}(h:RdK ok w 2 (rSet ok w) l (.slice a n cap)) (j:Nat) (hj:j < l.length):∃ b off,a=some ⟨b,off,none⟩∧b < w.heap.size∧∀ i u,[sV l[j].1,exX l[j].2][i]?=some u→w.cell? ⟨b,off+j*2+i,none⟩=some u:=by
 obtain ⟨a1,cap1,he,h1,h2,h3⟩:=h
 simp only [Value.slice.injEq] at he
 obtain ⟨rfl,rfl,rfl⟩:=he
 obtain ⟨b,off,cs,ha,_,hb,hl,hr,hc⟩:=h3 j hj
 have hr:cs=[sV l[j].1,exX l[j].2]:=hr
 subst hr
 exact ⟨b,off,ha,hb,hc⟩
theorem mkHid {p:Prop}(h:p):Hid p:=h
end Go.Proofs.YtlgnahpfggagoaaGreatDoor
/- Words that are alike but for their places make charts that are alike but for theirs. Math alone. -/
namespace Go.Proofs.YtlgnahpfggagoaaGreatDoor
open Go.RowKit Go.Lib
set_option linter.unusedVariables false
end Go.Proofs.YtlgnahpfggagoaaGreatDoor
/- What the program's each is over ons. -/
namespace Go.Proofs.YtlgnahpfggagoaaGreatDoor
open Go.RowKit Go.Lib
set_option linter.unusedSimpArgs false
set_option linter.unusedVariables false
attribute [local go_sem ↓] Go.wp_at_zero Go.wp_at_succ
def OnOk (o:OnC):Prop:=o.1.length≤140737488351232∧o.2.2.1.length≤140737488351232∧(o.2.1.1=true→ExOk o.2.1.2)∧(∀ s∈o.2.2.2.1,SetOk s)∧o.2.2.2.1.length≤100000
theorem exOk_no:ExOk noX:=⟨cl_none (d:=0),by show cntX noX≤2000;decide,rfl⟩
theorem onQ_at {ok:Nat→Prop}{w:World}{l:List OnC}{a:Option Addr}{n cap:Nat}(h:RdK ok w 6 (rOn ok w) l (.slice a n cap)) (j:Nat) (hj:j < l.length):∃ b off s1 s3,a=some ⟨b,off,none⟩∧b < w.heap.size∧RdK ok w 2 (rSet ok w) l[j].2.2.2.1 (.slice s1 l[j].2.2.2.1.length s3)∧∀ i u,(onV l[j] (.slice s1 l[j].2.2.2.1.length s3))[i]?=some u→w.cell? ⟨b,off+j*6+i,none⟩=some u:=by
 obtain ⟨a1,cap1,he,h1,h2,h3⟩:=h
 simp only [Value.slice.injEq] at he
 obtain ⟨rfl,rfl,rfl⟩:=he
 obtain ⟨b,off,cs,ha,_,hb,hl,⟨sl,rfl,hs⟩,hc⟩:=h3 j hj
 obtain ⟨s1,s3,rfl,_⟩:=hs.form
 exact ⟨b,off,s1,s3,ha,hb,hs,hc⟩
def HdOk (h:HdC):Prop:=h.1.1.length≤140737488351232∧h.2.2.1.1.length≤140737488351232∧h.2.2.1.2.length≤140737488351232∧h.2.2.2.2.length≤100000∧∀ o∈h.2.2.2.2,OnOk o
theorem stQ_at {ok:Nat→Prop}{w:World}{d:Nat}{l:List (St (d+1))}{a:Option Addr}{n cap:Nat}(h:RdK ok w 11 (rSt (d+1) ok w) l (.slice a n cap)) (j:Nat) (hj:j < l.length):∃ b off p1 p3 p4 p6,a=some ⟨b,off,none⟩∧b < w.heap.size∧RdK ok w 6 (rOn ok w) l[j].1.2.2.2.2 (.slice p1 l[j].1.2.2.2.2.length p3)∧RdK ok w 11 (rSt d ok w) l[j].2 (.slice p4 l[j].2.length p6)∧∀ i u,(hdV l[j].1 (.slice p1 l[j].1.2.2.2.2.length p3) (.slice p4 l[j].2.length p6))[i]?=some u→w.cell? ⟨b,off+j*11+i,none⟩=some u:=by
 obtain ⟨a1,cap1,he,h1,h2,h3⟩:=h
 simp only [Value.slice.injEq] at he
 obtain ⟨rfl,rfl,rfl⟩:=he
 obtain ⟨b,off,cs,ha,_,hb,hl,⟨so,si,rfl,hs,hi⟩,hc⟩:=h3 j hj
 obtain ⟨s1,s3,rfl,_⟩:=hs.form
 obtain ⟨s4,s6,rfl,_⟩:=hi.form
 exact ⟨b,off,s1,s3,s4,s6,ha,hb,hs,hi,hc⟩
/-- A state, as it lies flat. -/
def rSg (ok:Nat→Prop) (w:World) (x:Int × SgS) (cs:List Value):Prop:=rSt x.2.1 ok w x.2.2 cs
theorem kp_sg:Kp rSg:=fun _ _ _ _ x _ h hk=>kp_st x.2.1 h hk
/-- Its cells. -/
theorem sg_let {ok:Nat→Prop}{w:World}{x:Int × SgS}{cs:List Value}(h:rSg ok w x cs):∃ (sn:ByteArray) (sl sc:Int) (sb se:Bool) (sd su:ByteArray) (sw sr:Int) (p1:Option Addr) (p3:Nat) (p4:Option Addr) (p6:Nat),cs=[.string sn,.int .i64 sl,.int .i64 sc,.bool sb,.bool se,.string sd,.string su,.int .i64 sw,.int .i64 sr,.slice p1 (sgO x.2).length p3,.slice p4 (sgI x.2) p6]∧Hid (sn=sgN x.2∧(sl,sc)=sgP x.2∧sb=(sgH x.2).2.1.1∧se=(sgH x.2).2.1.2∧sd=⟨(sgH x.2).2.2.1.1.toArray⟩∧su=⟨(sgH x.2).2.2.1.2.toArray⟩∧sw=(sgH x.2).2.2.2.1.1∧sr=(sgH x.2).2.2.2.1.2)∧RdK ok w 6 (rOn ok w) (sgO x.2) (.slice p1 (sgO x.2).length p3):=by
 obtain ⟨k,e,t⟩:=x
 cases e with
 | zero=>exact Empty.elim t
 | succ e=>
  obtain ⟨so,si,rfl,h1,h2⟩:=h
  obtain ⟨p1,p3,rfl,_⟩:=h1.form
  obtain ⟨p4,p6,rfl,_⟩:=h2.form
  exact ⟨_,_,_,_,_,_,_,_,_,p1,p3,p4,p6,rfl,⟨rfl,rfl,rfl,rfl,rfl,rfl,rfl,rfl⟩,h1⟩
theorem rdK_at {α:Type}{ok:Nat→Prop}{w:World}{k:Nat}{R:α→List Value→Prop}{l:List α}{a:Option Addr}{n cap:Nat}(h:RdK ok w k R l (.slice a n cap)) (j:Nat) (hj:j < l.length):∃ b off cs,a=some ⟨b,off,none⟩∧ok b∧b < w.heap.size∧cs.length=k∧R l[j] cs∧∀ i u,cs[i]?=some u→w.cell? ⟨b,off+j*k+i,none⟩=some u:=by
 obtain ⟨a1,cap1,he,h1,h2,h3⟩:=h
 simp only [Value.slice.injEq] at he
 obtain ⟨rfl,rfl,rfl⟩:=he
 exact h3 j hj
set_option maxRecDepth 100000 in
set_option maxHeartbeats 8000000 in
theorem ixS_any {ok:Nat→Prop}{w:World}{l:List (Int × SgS)}{v:Value}(h:RdK ok w 11 (rSg ok w) l v) (hl:l.length≤1000000) (n1:Nat) (ba lb:Array Value) (p:Nat→Bool) (eg:∀ args W,(callFunc n1 args).run Tryz.prog W=.ok (.enter n1 args) W)
  (hcl:∀ (i:Nat) (hi:i < l.length) (cs:List Value) (W:World),rSg ok w l[i] cs→Below w.heap.size w W→Calls Tryz.prog n1 (ba++#[.agg cs.toArray]++lb) W fun e w'=>e=.returned (.bool (p i))∧Below W.heap.size W w') :
  Calls Tryz.prog 88 #[v,.func (.func n1) ba lb] w fun e w'=>e=.returned (.int .i64 (ixF p l.length 0))∧Below w.heap.size w w':=by
 obtain ⟨a,cap,rfl,hlc,hcm⟩:=h.form
 unfold maxLen at hcm
 have HR:=mkHid h
 obtain ⟨n,hn⟩:∃ n,l.length=n:=⟨_,rfl⟩
 have HC:=mkHid hcl
 rw [hn] at hlc hl HR ⊢
 have HN:Hid (l.length=n):=hn
 clear h hn hcl
 go_enter Tryz.func88,Tryz.ntmps88
 go_wp2
 go_loopw [8] (fun ix wr=>∃ (i:Nat),i≤n∧ix=.int .i64 (i:Int)∧Hid (ixF p n 0=ixF p (n - i) i)∧Below w.heap.size w wr) (fun ix _=>n - (RowKit.intOf ix).toNat)
 case atStart=>exact ⟨0,Nat.zero_le _,rfl,rfl,Below.refl _ _⟩
 case round=>
  obtain ⟨i,hi,rfl,HX,hb⟩:=hrel
  by_cases hlt:i < n
  ·have hil:i < l.length:=by rw [HN.out];exact hlt
   obtain ⟨b,off,cs,rfl,_,hbl,_,hr,hc⟩:=rdK_at HR.out i hil
   have hcall:=HC.out i hil cs
   obtain ⟨sn,sl,sc,sb,se,sd,su,sw,sr,p1,p3,p4,p6,rfl,_,_⟩:=sg_let hr
   have hcall2:=fun W hW=>hcall W hr hW
   clear hcall hr
   obtain ⟨no,hno⟩:∃ no,(sgO l[i].2).length=no:=⟨_,rfl⟩
   obtain ⟨ni,hni⟩:∃ no,sgI l[i].2=no:=⟨_,rfl⟩
   rw [hno,hni] at hc hcall2
   clear hno hni
   have i1:(i:Int) < (n:Int):=by omega
   have i2:(0:Int)≤(i:Int):=by omega
   have hfu:n - i=(n - (i+1))+1:=by omega
   have C0:=(hb.cell (p:=⟨b,off+i*11+0,none⟩) hbl).trans (hc 0 _ rfl)
   have C1:=(hb.cell (p:=⟨b,off+i*11+1,none⟩) hbl).trans (hc 1 _ rfl)
   have C2:=(hb.cell (p:=⟨b,off+i*11+2,none⟩) hbl).trans (hc 2 _ rfl)
   have C3:=(hb.cell (p:=⟨b,off+i*11+3,none⟩) hbl).trans (hc 3 _ rfl)
   have C4:=(hb.cell (p:=⟨b,off+i*11+4,none⟩) hbl).trans (hc 4 _ rfl)
   have C5:=(hb.cell (p:=⟨b,off+i*11+5,none⟩) hbl).trans (hc 5 _ rfl)
   have C6:=(hb.cell (p:=⟨b,off+i*11+6,none⟩) hbl).trans (hc 6 _ rfl)
   have C7:=(hb.cell (p:=⟨b,off+i*11+7,none⟩) hbl).trans (hc 7 _ rfl)
   have C8:=(hb.cell (p:=⟨b,off+i*11+8,none⟩) hbl).trans (hc 8 _ rfl)
   have C9:=(hb.cell (p:=⟨b,off+i*11+9,none⟩) hbl).trans (hc 9 _ rfl)
   have C10:=(hb.cell (p:=⟨b,off+i*11+10,none⟩) hbl).trans (hc 10 _ rfl)
   rw [Nat.add_zero] at C0
   clear hc
   cases hp:p i with
   | true=>
    have HE:Hid (ixF p n 0=(i:Int)):=by
     show _=_
     rw [HX.out,hfu]
     unfold ixF
     rw [if_pos hp]
    rw [hp] at hcall2
    clear hfu
    go_wp2_with (first | (refine (hcall2 _ hb).mono ?_;rintro e w1 ⟨rfl,b1⟩) | fail)
    go_ret
    exact ⟨by rw [HE.out];rfl,hb.trans (b1.mono hb.size)⟩
   | false=>
    have HE:Hid (ixF p n 0=ixF p (n - (i+1)) (i+1)):=by
     show _=_
     rw [HX.out,hfu]
     conv=>lhs;unfold ixF
     rw [if_neg (by rw [hp];simp)]
    rw [hp] at hcall2
    clear hfu
    go_wp2_with (first | (refine (hcall2 _ hb).mono ?_;rintro e w1 ⟨rfl,b1⟩) | fail)
    go_roundw
    case rel=>exact ⟨i+1,hlt,by go_num,HE,hb.trans (b1.mono hb.size)⟩
    case measure=>simp [RowKit.intOf];omega
  ·have i1:¬ (i:Int) < (n:Int):=by omega
   have HE:Hid (ixF p n 0 = -1):=by
    show _=_
    rw [HX.out,show n - i=0 by omega]
    rfl
   go_wp2
   go_ret
   exact ⟨by rw [HE.out];rfl,hb⟩
theorem cfS_any {ok:Nat→Prop}{w:World}{l:List (Int × SgS)}{v:Value}(h:RdK ok w 11 (rSg ok w) l v) (hl:l.length≤1000000) (n1:Nat) (ba lb:Array Value) (p:Nat→Bool) (eg:∀ args W,(callFunc n1 args).run Tryz.prog W=.ok (.enter n1 args) W)
  (hcl:∀ (i:Nat) (hi:i < l.length) (cs:List Value) (W:World),rSg ok w l[i] cs→Below w.heap.size w W→Calls Tryz.prog n1 (ba++#[.agg cs.toArray]++lb) W fun e w'=>e=.returned (.bool (p i))∧Below W.heap.size W w') :
  Calls Tryz.prog 114 #[v,.func (.func n1) ba lb] w fun e w'=>e=.returned (.bool (decide (0≤ixF p l.length 0)))∧Below w.heap.size w w':=by
 have hc:=ixS_any h hl n1 ba lb p eg hcl
 obtain ⟨a,cap,rfl,_⟩:=h.form
 obtain ⟨n,hn⟩:∃ n,l.length=n:=⟨_,rfl⟩
 rw [hn] at hc ⊢
 obtain ⟨x,hx⟩:∃ x,ixF p n 0=x:=⟨_,rfl⟩
 rw [hx] at hc ⊢
 clear hn hx h hcl
 go_enter Tryz.func114,Tryz.ntmps114
 by_cases h0:0≤x
 ·go_wp2_with (first | (go_at_call 88;refine hc.mono ?_;rintro e w1 ⟨rfl,b1⟩) | fail)
  go_ret
  exact ⟨by simp [h0],b1⟩
 ·go_wp2_with (first | (go_at_call 88;refine hc.mono ?_;rintro e w1 ⟨rfl,b1⟩) | fail)
  go_ret
  exact ⟨by simp [h0],b1⟩
theorem str_is2 (s:ByteArray) (x:List UInt8):(s.toList == x)=(bl s == x):=by rw [ByteArray.toList_eq]
set_option maxHeartbeats 1000000 in
theorem pOperator_any (s:ByteArray) (w:World):Calls Tryz.prog 155 #[.string s] w fun e w'=>e=.returned (.bool (opr s))∧w=w':=by
 have hS:=str_is2 s
 obtain ⟨l,hl⟩:∃ l,bl s=l:=⟨_,rfl⟩
 have ho:opr s=ops9.any (fun x=>l == x):=by rw [← hl];rfl
 rw [ho]
 simp only [hl] at hS
 clear hl ho
 obtain ⟨L,hL⟩:∃ L,s.toList=L:=⟨_,rfl⟩
 have q0:(s.toList == [43])=(l == [43]):=hS _
 have q1:(s.toList == [45])=(l == [45]):=hS _
 have q2:(s.toList == [42])=(l == [42]):=hS _
 have q3:(s.toList == [60])=(l == [60]):=hS _
 have q4:(s.toList == [60,61])=(l == [60,61]):=hS _
 have q5:(s.toList == [61,61])=(l == [61,61]):=hS _
 have q6:(s.toList == [33,61])=(l == [33,61]):=hS _
 have q7:(s.toList == [38,38])=(l == [38,38]):=hS _
 have q8:(s.toList == [124,124])=(l == [124,124]):=hS _
 clear hS hL
 simp only [ops9,List.any_cons,List.any_nil,Bool.or_false]
 cases r0:(l == [43])
 case true=>rw [r0] at q0;clear q1 q2 q3 q4 q5 q6 q7 q8;go_enter Tryz.func155,Tryz.ntmps155;go_wp2;go_ret;exact ⟨ret_bool (by simp),rfl⟩
 cases r1:(l == [45])
 case true=>rw [r0] at q0;rw [r1] at q1;clear q2 q3 q4 q5 q6 q7 q8;go_enter Tryz.func155,Tryz.ntmps155;go_wp2;go_ret;exact ⟨ret_bool (by simp),rfl⟩
 rw [r0] at q0;rw [r1] at q1
 cases r2:(l == [42])
 case true=>rw [r2] at q2;clear q3 q4 q5 q6 q7 q8;go_enter Tryz.func155,Tryz.ntmps155;go_wp2;go_ret;exact ⟨ret_bool (by simp),rfl⟩
 rw [r2] at q2
 cases r3:(l == [60])
 case true=>rw [r3] at q3;clear q4 q5 q6 q7 q8;go_enter Tryz.func155,Tryz.ntmps155;go_wp2;go_ret;exact ⟨ret_bool (by simp),rfl⟩
 rw [r3] at q3
 cases r4:(l == [60,61])
 case true=>rw [r4] at q4;clear q5 q6 q7 q8;go_enter Tryz.func155,Tryz.ntmps155;go_wp2;go_ret;exact ⟨ret_bool (by simp),rfl⟩
 rw [r4] at q4
 cases r5:(l == [61,61])
 case true=>rw [r5] at q5;clear q6 q7 q8;go_enter Tryz.func155,Tryz.ntmps155;go_wp2;go_ret;exact ⟨ret_bool (by simp),rfl⟩
 rw [r5] at q5
 cases r6:(l == [33,61])
 case true=>rw [r6] at q6;clear q7 q8;go_enter Tryz.func155,Tryz.ntmps155;go_wp2;go_ret;exact ⟨ret_bool (by simp),rfl⟩
 rw [r6] at q6
 cases r7:(l == [38,38])
 case true=>rw [r7] at q7;clear q8;go_enter Tryz.func155,Tryz.ntmps155;go_wp2;go_ret;exact ⟨ret_bool (by simp),rfl⟩
 rw [r7] at q7
 cases r8:(l == [124,124])
 case true=>rw [r8] at q8;go_enter Tryz.func155,Tryz.ntmps155;go_wp2;go_ret;exact ⟨ret_bool (by simp),rfl⟩
 rw [r8] at q8
 go_enter Tryz.func155,Tryz.ntmps155
 go_wp2
 go_ret
 exact ⟨ret_bool (by simp),rfl⟩
/-- What an expression is by itself is right. -/
def rtC (k n:Int) (s:ByteArray):Bool:=if k=1 then decide (0≤n) && decide (n≤1000000000) else if k=2 then nameS (bl s) else if k=3∨k=4 then true else if k=5 then opr s else false
set_option maxRecDepth 100000 in
set_option maxHeartbeats 4000000 in
theorem rightTop_any (k n:Int) (s:ByteArray) (a:Option Addr) (m:Nat) (hs:s.size≤1000) (w:World) :
  Calls Tryz.prog 135 #[.agg #[.int .i64 k,.int .i64 n,.string s,.slice a m m]] w fun e w'=>e=.returned (.bool (rtC k n s))∧Below w.heap.size w w':=by
 have hb:Below w.heap.size w (w.alloc (.cells #[.int .i64 k,.int .i64 n,.string s,.slice a m m] 172)):=(Below.refl _ _).alloc (Nat.le_refl _) _
 have h1:=fun w1=>pName_any s w1 (by omega)
 have h2:=fun w1=>pOperator_any s w1
 unfold rtC
 by_cases k1:k=1
 ·subst k1
  rw [if_pos rfl]
  clear h1 h2
  by_cases c1:0≤n
  ·by_cases c2:n≤1000000000
   ·rw [decide_eq_true c1,decide_eq_true c2]
    go_enter Tryz.func135,Tryz.ntmps135
    go_wp2
    go_ret
    exact ⟨rfl,hb⟩
   ·rw [decide_eq_true c1,decide_eq_false c2]
    go_enter Tryz.func135,Tryz.ntmps135
    go_wp2
    go_ret
    exact ⟨rfl,hb⟩
  ·rw [decide_eq_false c1,Bool.false_and]
   go_enter Tryz.func135,Tryz.ntmps135
   go_wp2
   go_ret
   exact ⟨rfl,hb⟩
 rw [if_neg k1]
 have e1:(k == 1)=false:=beq_eq_false_iff_ne.2 k1
 by_cases k2:k=2
 ·subst k2
  rw [if_pos rfl]
  clear h2 k1 e1
  go_enter Tryz.func135,Tryz.ntmps135
  go_wp2_with (first
   | (go_at_call 40;refine (h1 _).mono ?_;rintro e w1 ⟨rfl,b1⟩))
  go_ret
  exact ⟨rfl,hb.trans (b1.mono hb.size)⟩
 rw [if_neg k2]
 have e2:(k == 2)=false:=beq_eq_false_iff_ne.2 k2
 by_cases k34:k=3∨k=4
 ·rw [if_pos k34]
  clear h1 h2
  rcases k34 with rfl | rfl
  ·go_enter Tryz.func135,Tryz.ntmps135
   go_wp2
   go_ret
   exact ⟨rfl,hb⟩
  ·go_enter Tryz.func135,Tryz.ntmps135
   go_wp2
   go_ret
   exact ⟨rfl,hb⟩
 rw [if_neg k34]
 have e3:(k == 3)=false:=beq_eq_false_iff_ne.2 (by omega)
 have e4:(k == 4)=false:=beq_eq_false_iff_ne.2 (by omega)
 clear k34
 by_cases k5:k=5
 ·subst k5
  rw [if_pos rfl]
  clear h1 k1 k2 e1 e2 e3 e4
  go_enter Tryz.func135,Tryz.ntmps135
  go_wp2_with (first
   | (go_at_call 155;refine (h2 _).mono ?_;rintro e w1 ⟨rfl,rfl⟩))
  go_ret
  exact ⟨rfl,hb⟩
 rw [if_neg k5]
 have e5:(k == 5)=false:=beq_eq_false_iff_ne.2 k5
 clear h1 h2
 go_enter Tryz.func135,Tryz.ntmps135
 go_wp2
 go_ret
 exact ⟨rfl,hb⟩
end Go.Proofs.YtlgnahpfggagoaaGreatDoor
/- What is asked of the program's Formed. -/
namespace Go.Proofs.YtlgnahpfggagoaaGreatDoor
open Go.RowKit Go.Lib
set_option linter.unusedSimpArgs false
set_option linter.unusedVariables false
/-- The program's Formed answers as the document says. -/
def FormedP:Prop:=∀ (d:Nat) (t:T d) (w:World),Cl d t→cnt d t≤100000→shrt 1000 d t=true→Calls Tryz.prog 110 #[exV d t] w fun r w'=>r=.returned (.bool (fmC d t))∧Below w.heap.size w w'
theorem bthen {a b c:World}(h:Below a.heap.size a b) (k:Below b.heap.size b c):Below a.heap.size a c:=h.trans (k.mono h.size)
/-- A small tree, cleaned. -/
theorem small_cln {d:Nat}{t:T d}(h:0≤sml d t 0 200):cnt (d+1) (cln d t)≤1000∧shrt 1000 (d+1) (cln d t)=true:=by
 obtain ⟨h1,h2⟩:=sml_ok d t 0 200 h
 have h3:=cnt_cln d t
 exact ⟨by omega,shrt_cln 1000 d t h2⟩
end Go.Proofs.YtlgnahpfggagoaaGreatDoor
/- What the program's rightWithin and Formed do. -/
namespace Go.Proofs.YtlgnahpfggagoaaGreatDoor
open Go.RowKit Go.Lib
set_option linter.unusedSimpArgs false
set_option linter.unusedVariables false
attribute [local go_sem ↓] Go.wp_at_zero Go.wp_at_succ
theorem ndC_cnt:∀ (d:Nat) (t:T d),ndC d t=min (cnt d t) 41
 | 0,t=>Empty.elim t
 | d+1,t=>by
  obtain ⟨k,n,s,ps,rfl⟩:=T.open t
  rw [ndC_mk,cnt_mk]
  have:∀ l:List (T d),min ((l.map (ndC d)).sum+1) 41=min ((l.map (cnt d)).sum+1) 41:=fun l=>by
   induction l with
   | nil=>rfl
   | cons p r ih=>
    have:=ndC_cnt d p
    simp only [List.map_cons,List.sum_cons]
    omega
  exact this ps
theorem foldl_max_iff {m:Nat}:∀ (l:List Nat) (a:Nat),l.foldl max a≤m↔a≤m∧∀ x∈l,x≤m
 | [],a=>by simp
 | x :: r,a=>by
  rw [List.foldl_cons,foldl_max_iff r,Nat.max_le]
  simp only [List.mem_cons,forall_eq_or_imp,and_assoc]
theorem sd_rt {d:Nat}{k n:Int}{s:ByteArray}{ps:List (T d)}(h:Cl (d+1) (mkT k n s ps)):sdC (d+1) (mkT k n s ps)=(rtC k n s && ps.all (sdC d)):=by
 rw [sdC_mk]
 unfold rtC
 rcases h with ⟨h1,h2,h3⟩ | ⟨h1,h2,h3⟩ | ⟨h1,h2,h3,p,h4,h5⟩ | ⟨h1,h2,p,q,h3,h4,h5⟩ | ⟨h1,h2,h3,h4⟩
 ·simp only at h1 h3;subst h1 h3;simp
 ·simp only at h1 h3;subst h1 h3;simp
 ·simp only at h1 h4;rcases h1 with rfl | rfl <;> simp
 ·simp only at h1 h3;subst h1 h3;simp
 ·simp only at h1 h4;subst h1 h4;simp
theorem within_all {d:Nat}{k n:Int}{s:ByteArray}{ps:List (T d)}(h:Cl (d+1) (mkT k n s ps)) (r:Nat) :
  (decide (dpC (d+1) (mkT k n s ps)≤r+1) && sdC (d+1) (mkT k n s ps))=(rtC k n s && ps.all (fun p=>decide (dpC d p≤r) && sdC d p)):=by
 rw [sd_rt h,dpC_mk]
 have e1:decide ((ps.map (dpC d)).foldl max 0+1≤r+1)=ps.all (fun p=>decide (dpC d p≤r)):=by
  rw [Bool.eq_iff_iff]
  simp only [decide_eq_true_eq,List.all_eq_true]
  rw [Nat.add_le_add_iff_right,foldl_max_iff]
  simp
 have e2:ps.all (fun p=>decide (dpC d p≤r) && sdC d p)=(ps.all (fun p=>decide (dpC d p≤r)) && ps.all (sdC d)):=by
  induction ps with
  | nil=>rfl
  | cons p q ih=>
   simp only [List.all_cons]
   have:q.all (fun p=>decide (dpC d p≤r) && sdC d p)=(q.all (fun p=>decide (dpC d p≤r)) && q.all (sdC d)):=by
    clear ih e1 h
    induction q with
    | nil=>rfl
    | cons a b ih=>simp only [List.all_cons];rw [ih];cases decide (dpC d a≤r) <;> cases sdC d a <;> simp
   rw [this]
   cases decide (dpC d p≤r) <;> cases sdC d p <;> simp
 rw [e1,e2]
 cases rtC k n s <;> simp
theorem dpC_pos (d:Nat) (t:T d):1≤dpC d t:=by
 match d,t with
 | 0,t=>exact Empty.elim t
 | d+1,t=>
  obtain ⟨k,n,s,ps,rfl⟩:=T.open t
  rw [dpC_mk];omega
def RightC (d:Nat):Prop:=∀ (t:T d) (r:Nat) (w:World),Cl d t→shrt 1000 d t=true→r≤12→
 Calls Tryz.prog 122 #[exV d t,.int .i64 (r:Int)] w fun e w'=>e=.returned (.bool (decide (dpC d t≤r) && sdC d t))∧Below w.heap.size w w'
set_option maxRecDepth 100000 in
set_option maxHeartbeats 4000000 in
theorem right_step (d:Nat) (IH:RightC d):RightC (d+1):=by
 intro t r w hc hs hr
 obtain ⟨k,n,s,ps,rfl,htop⟩:=top_any hc
 rw [shrt_mk] at hs
 simp only [Bool.and_eq_true,decide_eq_true_eq,List.all_eq_true] at hs
 obtain ⟨hs1,hs2⟩:=hs
 obtain ⟨x,hx⟩:∃ x,exV (d+1) (mkT k n s ps)=x:=⟨_,rfl⟩
 rw [hx] at htop ⊢
 have htop':∀ w1,Calls Tryz.prog 123 #[x] w1 fun e w'=>∃ sl,e=.returned (.agg #[.int .i64 k,.int .i64 n,.string s,sl])∧Kids w' sl (ps.map (exV d))∧Below w1.heap.size w1 w':=htop
 cases r with
 | zero=>
  have e1:(((0:Nat):Int) < 1):=by omega
  have hd:=dpC_pos (d+1) (mkT k n s ps)
  rw [decide_eq_false (by omega),Bool.false_and]
  go_enter Tryz.func122,Tryz.ntmps122
  go_wp2_with (first
   | (go_at_call 123;refine (htop' _).mono ?_;rintro e w1 ⟨sl,rfl,hk1,b1⟩;obtain ⟨a1,rfl⟩:=hk1.form))
  go_ret
  exact ⟨rfl,b1.alloc b1.size _⟩
 | succ r=>
 rw [within_all hc]
 obtain ⟨L,hL⟩:∃ L,ps.map (exV d)=L:=⟨_,rfl⟩
 have hkid:Hid (∀ (j:Nat) (h:j < L.length) (h':j < ps.length) (w1:World),Calls Tryz.prog 122 #[L[j],.int .i64 (r:Int)] w1 fun e w'=>e=.returned (.bool (decide (dpC d ps[j]≤r) && sdC d ps[j]))∧Below w1.heap.size w1 w'):=
  fun j h h' w1=>by
   have:=IH ps[j] r w1 ((Cl.parts hc).2 _ (List.getElem_mem h')) (hs2 _ (List.getElem_mem h')) (by omega)
   subst hL
   simpa using this
 have hrt:=fun a m w1=>rightTop_any k n s a m hs1 w1
 have hpl:L.length≤2:=by rw [← hL];simpa using (Cl.parts hc).1
 have hLl:Hid (L.length=ps.length):=by rw [← hL];show _=_;simp
 have i0:¬ ((r:Int)+1 < 1):=by omega
 have i1:(((r+1:Nat):Int))=(r:Int)+1:=by omega
 rw [i1]
 obtain ⟨g,hg⟩:∃ g,rtC k n s=g:=⟨_,rfl⟩
 simp only [hg] at hrt
 simp only [hL] at htop'
 rw [hg]
 clear hg i1 htop hs1 hs2 hc hx hL
 cases g with
 | false=>
  rw [Bool.false_and]
  go_enter Tryz.func122,Tryz.ntmps122
  go_wp2_with (first
   | (go_at_call 123;refine (htop' _).mono ?_;rintro e w1 ⟨sl,rfl,hk1,b1⟩;obtain ⟨a1,rfl⟩:=hk1.form;have b2:=b1.alloc b1.size (.cells #[.int .i64 k,.int .i64 n,.string s,.slice a1 L.length L.length] 172))
   | (go_at_call 135;refine (hrt _ _ _).mono ?_;rintro e w2 ⟨rfl,b3⟩))
  go_ret
  exact ⟨rfl,b2.trans (b3.mono b2.size)⟩
 | true=>
  rw [Bool.true_and]
  obtain ⟨V,hV⟩:∃ V,ps.all (fun p=>decide (dpC d p≤r) && sdC d p)=V:=⟨_,rfl⟩
  rw [hV]
  have HV:Hid (ps.all (fun p=>decide (dpC d p≤r) && sdC d p)=V):=hV
  clear hV
  go_enter Tryz.func122,Tryz.ntmps122
  go_wp2_with (first
   | (go_at_call 123;refine (htop' _).mono ?_;rintro e w1 ⟨sl,rfl,hk1,b1⟩;obtain ⟨a1,rfl⟩:=hk1.form;have b2:=b1.alloc b1.size (.cells #[.int .i64 k,.int .i64 n,.string s,.slice a1 L.length L.length] 172))
   | (go_at_call 135;refine (hrt _ _ _).mono ?_;rintro e w2 ⟨rfl,b3⟩;obtain ⟨y0,y1,y2,y3⟩:=(At4.new w1 (.int .i64 k) (.int .i64 n) (.string s) (.slice a1 L.length L.length) 172).keepB b3 (by simp)))
  have b4:=b2.trans (b3.mono b2.size)
  have hk2:=(hk1.below ((Below.refl _ _).alloc (Nat.le_refl _) _) (Nat.le_refl _)).below b3 (Nat.le_refl _)
  clear hrt htop' hk1 b1 b2 b3
  go_loopw [20] (fun i wr=>∃ j:Nat,j≤L.length∧i=.int .i64 (j:Int)∧Hid ((ps.take j).all (fun p=>decide (dpC d p≤r) && sdC d p)=true)∧Hid (Kids wr (.slice a1 L.length L.length) L)∧Below w.heap.size w wr) (fun i _=>L.length - (RowKit.intOf i).toNat)
  case atStart=>exact ⟨0,Nat.zero_le _,rfl,rfl,hk2,b4⟩
  case round=>
   obtain ⟨j,hj,rfl,hA,hK,hb⟩:=hrel
   have i2:(0:Int)≤(j:Int):=by omega
   have hll:=hLl.out
   by_cases hlt:j < L.length
   ·have i3:(j:Int) < (L.length:Int):=by omega
    obtain ⟨gg,hgg,hcell⟩:=hK.out.at hlt
    have hc2:=hkid.out j hlt (by omega)
    have h1:=all_take_succ (fun p=>decide (dpC d p≤r) && sdC d p) ps j (by omega) hA.out
    have h2:=all_not (fun p=>decide (dpC d p≤r) && sdC d p) ps j (by omega)
    obtain ⟨z,hz⟩:∃ z,L[j]=z:=⟨_,rfl⟩
    obtain ⟨q,hq⟩:∃ q,(decide (dpC d (ps[j]'(by omega))≤r) && sdC d (ps[j]'(by omega)))=q:=⟨_,rfl⟩
    rw [hz] at hcell
    simp only [hz,hq] at hc2
    simp only [hq] at h1 h2
    subst hgg
    have hK2:=fun w3 (b:Below wr.heap.size wr w3)=>hK.out.below b (Nat.le_refl _)
    have hS:Hid (_→_):=h1
    have hN:Hid (_→_):=h2
    clear hz hq h1 h2 hll hK hA
    cases q with
    | false=>
     have hF:V=false:=by rw [← HV.out];exact hN.out rfl
     subst hF
     go_wp2_with (first
      | (go_at_call 122;refine (hc2 _).mono ?_;rintro e w3 ⟨rfl,b5⟩))
     go_ret
     exact ⟨rfl,hb.trans (b5.mono hb.size)⟩
    | true=>
     have hT:=hS.out rfl
     have HT:Hid ((ps.take (j+1)).all (fun p=>decide (dpC d p≤r) && sdC d p)=true):=hT
     clear hT hS hN
     go_wp2_with (first
      | (go_at_call 122;refine (hc2 _).mono ?_;rintro e w3 ⟨rfl,b5⟩))
     have hK3:Hid _:=hK2 _ b5
     have b6:=hb.trans (b5.mono hb.size)
     go_roundw
     case rel=>exact ⟨j+1,hlt,by go_num,HT,hK3,b6⟩
     case measure=>simp [RowKit.intOf];omega
   ·have i3:¬ (j:Int) < (L.length:Int):=by omega
    have hF:V=true:=by
     rw [← HV.out,← hA.out,List.take_of_length_le (by omega)]
    subst hF
    clear hll
    go_wp2
    go_ret
    exact ⟨rfl,hb⟩
theorem right_any:∀ (d:Nat),RightC d
 | 0=>fun t=>Empty.elim t
 | d+1=>right_step d (right_any d)
theorem pNodes_any (d:Nat) (t:T d) (w:World) (hc:Cl d t) (hn:cnt d t≤100000):Calls Tryz.prog 121 #[exV d t] w fun r w'=>r=.returned (.int .i64 (ndC d t:Int))∧Below w.heap.size w w':=by
 rw [ndC_cnt]
 exact pNodes_cnt d t w hc hn
theorem formedP:FormedP:=by
 intro d t w hc hn hs
 have h1:=pNodes_any d t w hc hn
 have h2:=fun w1=>right_any d t 12 w1 hc hs (Nat.le_refl _)
 unfold fmC
 obtain ⟨N,hN⟩:∃ N,ndC d t=N:=⟨_,rfl⟩
 obtain ⟨q,hq⟩:∃ q,(decide (dpC d t≤12) && sdC d t)=q:=⟨_,rfl⟩
 obtain ⟨x,hx⟩:∃ x,exV d t=x:=⟨_,rfl⟩
 rw [Bool.and_assoc,hN,hq]
 rw [hN] at h1
 simp only [hq] at h2
 rw [hx] at h1 ⊢
 simp only [hx] at h2
 clear hN hq hx hc hn hs
 by_cases h40:N≤40
 ·have e1:(N:Int)≤40:=by omega
  rw [decide_eq_true h40,Bool.true_and]
  go_enter Tryz.func110,Tryz.ntmps110
  go_wp2_with (first
   | (go_at_call 121;refine h1.mono ?_;rintro e w1 ⟨rfl,b1⟩)
   | (go_at_call 122;refine (h2 _).mono ?_;rintro e w2 ⟨rfl,b2⟩))
  go_ret
  exact ⟨rfl,bthen b1 b2⟩
 ·have e1:¬ (N:Int)≤40:=by omega
  rw [decide_eq_false h40,Bool.false_and]
  go_enter Tryz.func110,Tryz.ntmps110
  go_wp2_with (first
   | (go_at_call 121;refine h1.mono ?_;rintro e w1 ⟨rfl,b1⟩))
  go_ret
  exact ⟨rfl,b1⟩
end Go.Proofs.YtlgnahpfggagoaaGreatDoor
/- Names in their order. Math, and rows of texts. -/
namespace Go.Proofs.YtlgnahpfggagoaaGreatDoor
open Go.RowKit Go.Lib
set_option linter.unusedSimpArgs false
set_option linter.unusedVariables false
def lss (a b:ByteArray):Bool:=Op.bytesLess a.toList b.toList
def lead (ls:List ByteArray) (s:ByteArray):Nat:=(ls.takeWhile (fun x=>lss x s)).length
/-- A name into rising ones, once. -/
def adS (ls:List ByteArray) (s:ByteArray):List ByteArray:=if ls[lead ls s]?=some s then ls else ls.take (lead ls s)++[s]++ls.drop (lead ls s)
def cS (ls:List ByteArray):List Value:=ls.map .string
/-- The slice v, made by calls of ours, holds the texts ls. -/
def RdS (w:World) (v:Value) (ls:List ByteArray):Prop:=w.ownsRow 0 9 1 v ls.length (cS ls)
theorem rdS_nil (w:World):RdS w (.slice none 0 0) []:=World.ownsRow_nil w 0 9 1
theorem RdS.form {w:World}{v:Value}{ls:List ByteArray}(h:RdS w v ls):(v=.slice none 0 0∧ls=[])∨∃ g cap,v=.slice (some ⟨g,0,none⟩) ls.length cap∧ls.length≤cap∧cap≤maxLen∧∀ (i:Nat) (hi:i < ls.length),w.cell? ⟨g,i,none⟩=some (.string ls[i]):=by
 rcases h.2 with ⟨h1,h2⟩ | ⟨g,cap,cur,rfl,hb,hg,hnc,hcm,_⟩
 ·exact .inl ⟨h1,List.eq_nil_of_length_eq_zero h2⟩
 ·refine .inr ⟨g,cap,rfl,hnc,hcm,fun i hi=>?_⟩
  have h1:=World.ownsRow.cells h (g:=g) rfl i (.string ls[i]) (by simp [cS,hi])
  have hp:(⟨g,0,none⟩:Addr).add i=⟨g,i,none⟩:=by unfold Addr.add;split <;> simp_all
  rw [hp] at h1
  exact h1
theorem lead_le (ls:List ByteArray) (s:ByteArray):lead ls s≤ls.length:=by
 unfold lead
 exact (List.takeWhile_prefix _).length_le
theorem src_texts {P:Program}{t:TypeId}(ht:P.underlying t=some (.slice 9)) {w:World}{a:Addr}{n c:Nat}{ls:List ByteArray}(hl:ls.length=n) (h:∀ (i:Nat) (hi:i < ls.length),w.cell? (a.add i)=some (.string ls[i])):Src P 1 t (.slice (some a) n c) n (cS ls) w:=by
 refine Src.ofSlice w ht a n c (cS ls) (by simp [cS,hl]) (fun j u hu=>?_) (fun u hu=>?_)
 ·have hj:j < ls.length:=by
   rcases Nat.lt_or_ge j ls.length with h | h
   ·exact h
   ·rw [List.getElem?_eq_none (by simp [cS];omega)] at hu;cases hu
  have:u=.string ls[j]:=by simpa [cS,hj] using hu.symm
  rw [this];exact h j hj
 ·obtain ⟨x,_,rfl⟩:=List.mem_map.1 hu
  rfl
theorem Tryz.infoStr:(Tryz.prog.info? 9).map (fun i=>(i.zero,i.size,i.bytes))=some (some (.string ⟨#[]⟩),1,16):=by kernel_rfl
theorem cS_append (a b:List ByteArray):cS (a++b)=cS a++cS b:=by simp [cS]
theorem ownsRow_zero {w:World}{base e size:Nat}{v:Value}{n:Nat}{xs:List Value}(h:w.ownsRow base e size v n xs):w.ownsRow 0 e size v n xs:=
 ⟨h.1,h.2.elim Or.inl (fun ⟨g,cap,cur,hv,hg,r⟩=>Or.inr ⟨g,cap,cur,hv,Nat.zero_le _,r⟩)⟩
/-- The names of an expression, behind those that are there. -/
def rfC:(d:Nat)→T d→List ByteArray→List ByteArray:=fold (fun k _ s fs l=>fs.foldl (fun a f=>f a) (if k=2 then adS l s else l))
theorem rfC_mk {d:Nat}(k n:Int) (s:ByteArray) (ps:List (T d)) (l:List ByteArray):rfC (d+1) (mkT k n s ps) l=ps.foldl (fun a p=>rfC d p a) (if k=2 then adS l s else l):=by
 show (ps.map (rfC d)).foldl (fun a f=>f a) (if k=2 then adS l s else l)=_
 rw [List.foldl_map]
theorem adS_len (l:List ByteArray) (s:ByteArray):(adS l s).length≤l.length+1:=by
 have:=lead_le l s
 unfold adS
 split
 ·omega
 ·simp;omega
theorem foldl_len {d:Nat}(H:∀ (p:T d) (l:List ByteArray),(rfC d p l).length≤l.length+cnt d p):∀ (ps:List (T d)) (l:List ByteArray),(ps.foldl (fun a p=>rfC d p a) l).length≤l.length+(ps.map (cnt d)).sum
 | [],l=>by simp
 | p :: r,l=>by
  have h1:=H p l
  have h2:=foldl_len H r (rfC d p l)
  simp only [List.foldl_cons,List.map_cons,List.sum_cons]
  omega
theorem rfC_len:∀ (d:Nat) (t:T d) (l:List ByteArray),(rfC d t l).length≤l.length+cnt d t
 | 0,t,_=>Empty.elim t
 | d+1,t,l=>by
  obtain ⟨k,n,s,ps,rfl⟩:=T.open t
  rw [rfC_mk,cnt_mk]
  have h1:=foldl_len (rfC_len d) ps (if k=2 then adS l s else l)
  have h2:=adS_len l s
  split at h1 <;> rename_i hk
  ·rw [if_pos hk];omega
  ·rw [if_neg hk];omega
def rfT (d:Nat) (t:T d):List ByteArray:=if fmC d t=true then rfC d t [] else []
/-- The names, from the left to the right. -/
def nmC:(d:Nat)→T d→List ByteArray:=fold (fun k _ s l=>(if k=2 then [s] else [])++l.flatten)
theorem nmC_mk {d:Nat}(k n:Int) (s:ByteArray) (ps:List (T d)):nmC (d+1) (mkT k n s ps)=(if k=2 then [s] else [])++(ps.map (nmC d)).flatten:=rfl
theorem rf_nm:∀ (d:Nat) (t:T d) (l:List ByteArray),rfC d t l=(nmC d t).foldl adS l
 | 0,t,_=>Empty.elim t
 | d+1,t,l=>by
  obtain ⟨k,n,s,ps,rfl⟩:=T.open t
  rw [rfC_mk,nmC_mk,List.foldl_append]
  have e1:(if k=2 then [s] else []).foldl adS l=if k=2 then adS l s else l:=by split <;> rfl
  rw [e1]
  generalize (if k=2 then adS l s else l)=a
  induction ps generalizing a with
  | nil=>rfl
  | cons p r ih=>
   simp only [List.foldl_cons,List.map_cons,List.flatten_cons,List.foldl_append]
   rw [rf_nm d p a]
   exact ih _
theorem nm_len:∀ (d:Nat) (t:T d),(nmC d t).length≤cnt d t
 | 0,t=>Empty.elim t
 | d+1,t=>by
  obtain ⟨k,n,s,ps,rfl⟩:=T.open t
  rw [nmC_mk,cnt_mk,List.length_append]
  have h1:(if k=2 then [s] else []).length≤1:=by split <;> simp
  have h2:((ps.map (nmC d)).flatten).length≤(ps.map (cnt d)).sum:=by
   induction ps with
   | nil=>simp
   | cons p r ih=>
    have:=nm_len d p
    simp only [List.map_cons,List.flatten_cons,List.length_append,List.sum_cons]
    omega
  omega
abbrev Bs:=List UInt8
def Up (l:List Bs):Prop:=l.Pairwise (· < ·)
theorem up_eq:∀ {a b:List Bs},Up a→Up b→(∀ x,x∈a↔x∈b)→a=b
 | [],[],_,_,_=>rfl
 | [],y :: b,_,_,h=>by have:=(h y).2 (by simp);simp at this
 | x :: a,[],_,_,h=>by have:=(h x).1 (by simp);simp at this
 | x :: a,y :: b,ha,hb,h=>by
  obtain ⟨ha1,ha2⟩:=List.pairwise_cons.1 ha
  obtain ⟨hb1,hb2⟩:=List.pairwise_cons.1 hb
  have hxy:x=y:=by
   rcases List.mem_cons.1 ((h x).1 (by simp)) with e | e
   ·exact e
   ·rcases List.mem_cons.1 ((h y).2 (by simp)) with e' | e'
    ·exact e'.symm
    ·exact absurd (List.lt_trans (hb1 _ e) (ha1 _ e')) (List.lt_irrefl _)
  subst hxy
  have:a=b:=up_eq ha2 hb2 (fun z=>by
   constructor
   ·intro hz
    rcases List.mem_cons.1 ((h z).1 (by simp [hz])) with e | e
    ·subst e;exact absurd (ha1 _ hz) (List.lt_irrefl _)
    ·exact e
   ·intro hz
    rcases List.mem_cons.1 ((h z).2 (by simp [hz])) with e | e
    ·subst e;exact absurd (hb1 _ hz) (List.lt_irrefl _)
    ·exact e)
  rw [this]
theorem lss_lt (a b:ByteArray):lss a b=decide (bl a < bl b):=by
 unfold lss
 rw [bytesLess_eq,ByteArray.toList_eq,ByteArray.toList_eq]
theorem bl_inj {a b:ByteArray}(h:bl a=bl b):a=b:=ByteArray.ext (Array.toList_inj.1 h)
/-- A name put into rising ones: they rise; it is there, and what was. -/
theorem adS_up {ls:List ByteArray}(s:ByteArray) (h:Up (ls.map bl)):Up ((adS ls s).map bl)∧∀ x,x∈(adS ls s).map bl↔x∈ls.map bl∨x=bl s:=by
 induction ls with
 | nil=>
  have e:adS [] s=[s]:=rfl
  rw [e]
  exact ⟨by simp [Up],fun x=>by simp⟩
 | cons y r ih=>
  obtain ⟨h1,h2⟩:=List.pairwise_cons.1 h
  obtain ⟨i1,i2⟩:=ih h2
  by_cases hl:bl y < bl s
  ·have e1:lss y s=true:=by rw [lss_lt];exact decide_eq_true hl
   have e2:lead (y :: r) s=lead r s+1:=by unfold lead;rw [List.takeWhile_cons,if_pos e1];rfl
   have e3:adS (y :: r) s=y :: adS r s:=by
    unfold adS
    rw [e2,List.getElem?_cons_succ]
    split
    ·rfl
    ·simp
   rw [e3]
   refine ⟨List.pairwise_cons.2 ⟨fun x hx=>?_,i1⟩,fun x=>?_⟩
   ·rcases (i2 x).1 hx with e | e
    ·exact h1 x e
    ·rw [e];exact hl
   ·simp only [List.map_cons,List.mem_cons]
    rw [i2 x]
    constructor
    ·rintro (e | e | e)
     ·exact .inl (.inl e)
     ·exact .inl (.inr e)
     ·exact .inr e
    ·rintro ((e | e) | e)
     ·exact .inl e
     ·exact .inr (.inl e)
     ·exact .inr (.inr e)
  ·have e1:lss y s=false:=by rw [lss_lt];exact decide_eq_false hl
   have e2:lead (y :: r) s=0:=by unfold lead;rw [List.takeWhile_cons,if_neg (by rw [e1];decide)];rfl
   by_cases he:y=s
   ·subst he
    have e3:adS (y :: r) y=y :: r:=by unfold adS;rw [e2];simp
    rw [e3]
    exact ⟨h,fun x=>⟨.inl,fun e=>e.elim id (fun e=>by rw [e];simp)⟩⟩
   ·have e3:adS (y :: r) s=s :: y :: r:=by
     unfold adS
     rw [e2,if_neg (by simpa using he)]
     rfl
    rw [e3]
    have hlt:bl s < bl y:=by
     rcases List.le_total (bl s) (bl y) with q | q
     ·by_cases hq:bl s < bl y
      ·exact hq
      ·exact absurd (bl_inj (List.le_antisymm (List.not_lt.1 hq) q)) he
     ·exact absurd (bl_inj (List.le_antisymm q (List.not_lt.1 hl))) he
    refine ⟨List.pairwise_cons.2 ⟨fun x hx=>?_,h⟩,fun x=>?_⟩
    ·rcases List.mem_cons.1 hx with e | e
     ·rw [e];exact hlt
     ·exact List.lt_trans hlt (h1 x e)
    ·simp only [List.map_cons,List.mem_cons]
     constructor
     ·rintro (e | e)
      ·exact .inr e
      ·exact .inl e
     ·rintro (e | e)
      ·exact .inr e
      ·exact .inl e
theorem fold_up:∀ (ns ls:List ByteArray),Up (ls.map bl)→Up ((ns.foldl adS ls).map bl)∧∀ x,x∈(ns.foldl adS ls).map bl↔x∈ls.map bl∨x∈ns.map bl
 | [],ls,h=>⟨h,fun x=>by simp⟩
 | s :: r,ls,h=>by
  obtain ⟨a1,a2⟩:=adS_up s h
  obtain ⟨b1,b2⟩:=fold_up r (adS ls s) a1
  refine ⟨b1,fun x=>?_⟩
  rw [List.foldl_cons,b2 x,a2 x]
  simp only [List.map_cons,List.mem_cons]
  constructor
  ·rintro ((e | e) | e)
   ·exact .inl e
   ·exact .inr (.inl e)
   ·exact .inr (.inr e)
  ·rintro (e | e | e)
   ·exact .inl (.inl e)
   ·exact .inl (.inr e)
   ·exact .inr e
def lrB (x y:Bs):Bool:=decide (x≤y)
theorem comp_up (zs:List Bs) (h:zs.Pairwise (fun a b=>lrB a b=true)):∀ m,m≤zs.length→Up (compactUpTo zs.toArray m)∧∀ x,x∈compactUpTo zs.toArray m↔∃ j,j < m∧zs.toArray[j]! = x
 | 0,_=>⟨List.Pairwise.nil,fun x=>by simp [compactUpTo]⟩
 | m+1,hm=>by
  obtain ⟨a1,a2⟩:=comp_up zs h m (by omega)
  have hle:∀ i j,i < j→j < zs.length→zs.toArray[i]!≤zs.toArray[j]!:=fun i j hij hj=>by
   have:=List.pairwise_iff_getElem.1 h i j (by omega) hj hij
   unfold lrB at this
   rw [decide_eq_true_eq] at this
   simpa [getElem!_pos,show i < zs.length by omega,hj] using this
  rw [compactUpTo_succ]
  by_cases hk:keeps zs.toArray m=true
  ·rw [if_pos hk]
   refine ⟨List.pairwise_append.2 ⟨a1,by simp,fun x hx y hy=>?_⟩,fun x=>?_⟩
   ·simp at hy
    subst hy
    obtain ⟨j,hj,rfl⟩:=(a2 x).1 hx
    have hm0:m≠0:=by omega
    have hne:zs.toArray[m]!≠zs.toArray[m - 1]!:=by simpa [keeps,hm0] using hk
    have l1:=hle (m - 1) m (by omega) (by omega)
    have l2:zs.toArray[m - 1]! < zs.toArray[m]!:=by
     by_cases q:zs.toArray[m - 1]! < zs.toArray[m]!
     ·exact q
     ·exact absurd (List.le_antisymm (List.not_lt.1 q) l1) hne
    have l3:zs.toArray[j]!≤zs.toArray[m - 1]!:=by
     rcases Nat.lt_or_ge j (m - 1) with q | q
     ·exact hle j (m - 1) q (by omega)
     ·have:j=m - 1:=by omega
      subst this
      exact List.not_lt.1 (List.lt_irrefl _)
    have l4:=List.lt_of_le_of_lt l3 l2
    simpa using l4
   ·rw [List.mem_append,a2 x]
    constructor
    ·rintro (⟨j,hj,e⟩ | e)
     ·exact ⟨j,by omega,e⟩
     ·exact ⟨m,by omega,(List.mem_singleton.1 e).symm⟩
    ·rintro ⟨j,hj,e⟩
     rcases Nat.lt_or_ge j m with q | q
     ·exact .inl ⟨j,q,e⟩
     ·have:j=m:=by omega
      subst this
      exact .inr (by rw [e];simp)
  ·rw [if_neg hk,List.append_nil]
   refine ⟨a1,fun x=>?_⟩
   rw [a2 x]
   have hk':m≠0∧zs.toArray[m]! = zs.toArray[m - 1]!:=by
    simp only [keeps,decide_eq_true_eq] at hk
    exact ⟨fun e=>hk (.inl e),Classical.byContradiction (fun q=>hk (.inr q))⟩
   constructor
   ·rintro ⟨j,hj,e⟩
    exact ⟨j,by omega,e⟩
   ·rintro ⟨j,hj,e⟩
    rcases Nat.lt_or_ge j m with q | q
    ·exact ⟨j,q,e⟩
    ·have:j=m:=by omega
     subst this
     exact ⟨j - 1,by omega,by rw [← hk'.2];exact e⟩
theorem get_bang (zs:List Bs) (j:Nat) (hj:j < zs.length):zs.toArray[j]! = zs[j]:=by simp [getElem!_pos,hj]
/-- Sorted, and each once: what the document's names are. -/
theorem sort_names (ns:List ByteArray):compact ((ns.map bl).mergeSort lrB)=(ns.foldl adS []).map bl:=by
 have tr:∀ a b c:Bs,lrB a b=true→lrB b c=true→lrB a c=true:=fun a b c h1 h2=>by
  unfold lrB at *
  rw [decide_eq_true_eq] at *
  exact List.le_trans h1 h2
 have tot:∀ a b:Bs,(lrB a b || lrB b a)=true:=fun a b=>by
  unfold lrB
  rw [Bool.or_eq_true,decide_eq_true_eq,decide_eq_true_eq]
  exact List.le_total a b
 obtain ⟨a1,a2⟩:=comp_up ((ns.map bl).mergeSort lrB) (List.pairwise_mergeSort tr tot _) _ (Nat.le_refl _)
 obtain ⟨b1,b2⟩:=fold_up ns [] (by simp [Up])
 refine up_eq a1 b1 (fun x=>?_)
 rw [show compact ((ns.map bl).mergeSort lrB)=compactUpTo ((ns.map bl).mergeSort lrB).toArray ((ns.map bl).mergeSort lrB).length from rfl,a2 x,b2 x]
 simp only [List.map_nil,List.not_mem_nil,false_or]
 rw [← List.mem_mergeSort (le:=lrB) (l:=ns.map bl)]
 constructor
 ·rintro ⟨j,hj,e⟩
  rw [← e,get_bang _ j hj]
  exact List.getElem_mem hj
 ·intro hx
  obtain ⟨j,hj,e⟩:=List.mem_iff_getElem.1 hx
  exact ⟨j,hj,by rw [get_bang _ j hj,e]⟩
end Go.Proofs.YtlgnahpfggagoaaGreatDoor
/- Contracts of the library at this program. -/
namespace Go.Proofs.YtlgnahpfggagoaaGreatDoor
open Go.Shelf
set_option linter.unusedVariables false
def renS:Ren:={ f:=fun x=>match x with | 190=>112 | 125=>125 | 258=>124 | 128=>145 | 129=>146 | 302=>136 | 303=>137 | 304=>138 | 305=>139 | 306=>140 | 307=>141 | 308=>142 | 309=>143 | 310=>144 | 333=>156 | 329=>157 | 330=>158 | 334=>159 | 335=>160 | 336=>161 | 344=>172 | n=>n,t:=fun x=>match x with | 31=>143 | 9=>9 | 3=>3 | 46=>176 | 0=>0 | 51=>204 | 53=>206 | 4=>4 | 183=>196 | 182=>195 | 131=>201 | 5=>5 | 218=>217 | 222=>221 | 228=>233 | 229=>126 | n=>n,g:=fun x=>x }
theorem laysS:Lays.n190 Tryz.prog renS:=
 {mixed:=by kernel_rfl,f125:=Tryz.func125.trans (congrArg some (by kernel_rfl)),f128:=Tryz.func145.trans (congrArg some (by kernel_rfl)),f129:=Tryz.func146.trans (congrArg some (by kernel_rfl)),f190:=Tryz.func112.trans (congrArg some (by kernel_rfl)),f258:=Tryz.func124.trans (congrArg some (by kernel_rfl)),f302:=Tryz.func136.trans (congrArg some (by kernel_rfl)),f303:=Tryz.func137.trans (congrArg some (by kernel_rfl)),f304:=Tryz.func138.trans (congrArg some (by kernel_rfl)),f305:=Tryz.func139.trans (congrArg some (by kernel_rfl)),f306:=Tryz.func140.trans (congrArg some (by kernel_rfl)),f307:=Tryz.func141.trans (congrArg some (by kernel_rfl)),f308:=Tryz.func142.trans (congrArg some (by kernel_rfl)),f309:=Tryz.func143.trans (congrArg some (by kernel_rfl)),f310:=Tryz.func144.trans (congrArg some (by kernel_rfl)),f329:=Tryz.func157.trans (congrArg some (by kernel_rfl)),f330:=Tryz.func158.trans (congrArg some (by kernel_rfl)),f333:=Tryz.func156.trans (congrArg some (by kernel_rfl)),f334:=Tryz.func159.trans (congrArg some (by kernel_rfl)),f335:=Tryz.func160.trans (congrArg some (by kernel_rfl)),f336:=Tryz.func161.trans (congrArg some (by kernel_rfl)),f344:=Tryz.func172.trans (congrArg some (by kernel_rfl)),t0:=Tryz.underlying0,a0:=Tryz.isAgg0,z0:=Tryz.sizeOf0,v0:=Tryz.zeroValue0,t3:=Tryz.underlying3,a3:=Tryz.isAgg3,z3:=Tryz.sizeOf3,v3:=Tryz.zeroValue3,t4:=Tryz.underlying4,a4:=Tryz.isAgg4,z4:=Tryz.sizeOf4,v4:=Tryz.zeroValue4,t5:=Tryz.underlying5,a5:=Tryz.isAgg5,z5:=Tryz.sizeOf5,v5:=Tryz.zeroValue5,t9:=Tryz.underlying9,a9:=Tryz.isAgg9,z9:=Tryz.sizeOf9,v9:=Tryz.zeroValue9,t31:=Tryz.underlying143,a31:=Tryz.isAgg143,z31:=Tryz.sizeOf143,v31:=Tryz.zeroValue143,t46:=Tryz.underlying176,a46:=Tryz.isAgg176,z46:=Tryz.sizeOf176,v46:=Tryz.zeroValue176,t51:=Tryz.underlying204,a51:=Tryz.isAgg204,z51:=Tryz.sizeOf204,v51:=Tryz.zeroValue204,t53:=Tryz.underlying206,a53:=Tryz.isAgg206,z53:=Tryz.sizeOf206,v53:=Tryz.zeroValue206,t131:=Tryz.underlying201,a131:=Tryz.isAgg201,z131:=Tryz.sizeOf201,v131:=Tryz.zeroValue201,t182:=Tryz.underlying195,a182:=Tryz.isAgg195,z182:=Tryz.sizeOf195,v182:=Tryz.zeroValue195,t183:=Tryz.underlying196,a183:=Tryz.isAgg196,z183:=Tryz.sizeOf196,v183:=Tryz.zeroValue196,t218:=Tryz.underlying217,a218:=Tryz.isAgg217,z218:=Tryz.sizeOf217,v218:=Tryz.zeroValue217,t222:=Tryz.underlying221,a222:=Tryz.isAgg221,z222:=Tryz.sizeOf221,v222:=Tryz.zeroValue221,t228:=Tryz.underlying233,a228:=Tryz.isAgg233,z228:=Tryz.sizeOf233,v228:=Tryz.zeroValue233,t229:=Tryz.underlying126,a229:=Tryz.isAgg126,z229:=Tryz.sizeOf126,v229:=Tryz.zeroValue126 }
def renK:Ren:={ f:=fun x=>match x with | 194=>113 | n=>n,t:=fun x=>match x with | 31=>143 | 9=>9 | 3=>3 | 4=>4 | 0=>0 | n=>n,g:=fun x=>x }
theorem laysK:Lays.n194 Tryz.prog renK:=
 {mixed:=by kernel_rfl,f194:=Tryz.func113.trans (congrArg some (by kernel_rfl)),t0:=Tryz.underlying0,a0:=Tryz.isAgg0,z0:=Tryz.sizeOf0,v0:=Tryz.zeroValue0,t3:=Tryz.underlying3,a3:=Tryz.isAgg3,z3:=Tryz.sizeOf3,v3:=Tryz.zeroValue3,t4:=Tryz.underlying4,a4:=Tryz.isAgg4,z4:=Tryz.sizeOf4,v4:=Tryz.zeroValue4,t9:=Tryz.underlying9,a9:=Tryz.isAgg9,z9:=Tryz.sizeOf9,v9:=Tryz.zeroValue9,t31:=Tryz.underlying143,a31:=Tryz.isAgg143,z31:=Tryz.sizeOf143,v31:=Tryz.zeroValue143 }
end Go.Proofs.YtlgnahpfggagoaaGreatDoor
