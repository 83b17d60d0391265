import Derived.Test.YtlkdaldfklaicaaGreatDoorWvc07
import Derived.Test.YtlkdaldfklaicaaGreatDoorRows
import Derived.Test.YtlkdaldfklaicaaGreatDoorWvc01
import Derived.Test.YtlkdaldfklaicaaGreatDoorWvc02
import Derived.Deep.RegionHeld
import Derived.Deep.DrawnRows
import Derived.Deep.RegionHeldLaw
import Derived.Deep.RegionLaw
import Derived.Test.YtlkdaldfklaicaaGreatDoorWvc05
import Derived.Test.YtlkdaldfklaicaaGreatDoorWvc03
import Derived.Deep.DeepCutAuto
import Derived.Test.YtlkdaldfklaicaaGreatDoorWvc04
import Derived.Laws.MakeOwn
set_option maxRecDepth 100000
set_option maxHeartbeats 32000000
namespace Go.Proofs.YtlkdaldfklaicaaGreatDoor
open Go.RowKit Go.Lib
set_option linter.unusedSimpArgs false
set_option linter.unusedVariables false
attribute [local go_sem ↓] Go.wp_at_zero Go.wp_at_succ
theorem zag {α:Type}{P:Program}(w:World) {ops:Array Oper}{rest:List Oper}{o:Oper}{a:Act}{Q:Exit->Act->World->Prop}(hgd:o.guard=none) (s x:Operand) (t:TypeId)
  (ho:o.op=.call { callee:=.builtin .append,args:=#[s,x],argTypes:=#[t,t] })
  (base:Nat) (bad:Nat->Prop) (e:TypeId) (i:TypeInfo) (z:Value) (k bytes:Nat) (ht:P.underlying t=some (.slice e)) (hi:P.info? e=some i) (hz:i.zero=some z)
  (hsize:i.size=k) (hby:i.bytes=bytes) (hzs:z.cells.size=k) {R:(Nat->Prop)->World->α->List Value->Prop}(hR:Kp R)
  (v:Value) (l:List α) (p:α) (cs:List Value) (lo:Nat) (hs:a.eval s=v) (hx:a.eval x=.slice (some ⟨w.heap.size,0,none⟩) 1 1) (hk:cs.length=k) (h1:∀ u∈cs,u.oneCell'=true)
  (hown:OwnB w base bad e k R v l) (hp:R (fun b=>lo<=b) w p cs) (hlo:base<=lo) (hv:∀ x,v.ownBlock=some x->x < lo) (hbad:∀ b,bad b->b < lo/\b < w.heap.size) (hroom:(l.length+1+(l.length+1) / 4+192)*bytes<=281474976710656)
  (h63:l.length+1<=maxLen) (hbase:base<=w.heap.size)
  (h:∀ v' w',OwnB w' base bad e k R v' (l++[p])->(w.alloc (.cells cs.toArray e)).grownBy w' v.ownBlock->Below base w w'->(v'.ownBlock=v.ownBlock∨v'.ownBlock=some (w.alloc (.cells cs.toArray e)).heap.size)->wpList P ops Q rest (a.put o.dst v') w') :
  wpList P ops Q (o :: rest) a (w.alloc (.cells cs.toArray e)):=by
 have hal:Below w.heap.size w (w.alloc (.cells cs.toArray e)):=zn3.alloc zn2 _
 obtain ⟨qs,ho1,hl1,hr1,hg1⟩:=hown.on hR hal
 refine za8 _ hgd s x t t ho base e i z k bytes ht hi hz hsize hby hzs v l.length qs.flatten hs ho1 _ 1 cs hx (zds ht w cs hk h1) 1 (.inr hroom) zn2 h63 (zn5 hbase hal.size) ?_
 intro v' w' hown' hg hat
 refine h v' w' (OwnB.snoc hR hk rfl ho1 hl1 hr1 hown' hg hat (hR hp (fun b hb hlt=>⟨hb,hal.block b hlt⟩)) hlo hv (fun b q=>⟨(hbad b q).1,zn4 (hbad b q).2 hal.size⟩) hg1) hg ?_ hat
 exact ((Below.refl base w).alloc hbase _).grown hg (zn5 hbase hal.size) (fun k hk=>(World.ownsRow.lt ho1 k hk).1)
def sD (l:List UInt8):Value:=.string ⟨l.toArray⟩
def zbf (ok:Nat->Prop) (w:World) (x:List UInt8 × Sx) (cs:List Value):Prop:=∃ c0 c1 c2 c3,cs=[sD x.1,c0,c1,c2,c3]/\RdX ok w x.2 (.agg #[c0,c1,c2,c3])
theorem zU:Kp zbf:=fun _ _ _ _ _ _ ⟨c0,c1,c2,c3,h,hr⟩ hk=>⟨c0,c1,c2,c3,h,hr.keep hk⟩
def zba (ok:Nat->Prop) (w:World) (o:OnC) (cs:List Value):Prop:=∃ c0 c1 c2 c3 sl,cs=[sD o.1,.bool o.2.1.1,c0,c1,c2,c3,sD o.2.2.1,sl,.int .i64 o.2.2.2.2.1,.int .i64 o.2.2.2.2.2]/\RdX ok w o.2.1.2 (.agg #[c0,c1,c2,c3])/\RdK ok w 5 (zbf ok w) o.2.2.2.1 sl
theorem zap:Kp zba:=fun _ _ _ _ _ _ ⟨c0,c1,c2,c3,sl,h,hr,hs⟩ hk=>⟨c0,c1,c2,c3,sl,h,hr.keep hk,hs.stay zU hk⟩
def hdD (h:HdC) (so si:Value):List Value:=[sD h.1.1,.int .i64 h.1.2.1,.int .i64 h.1.2.2,.bool h.2.1.1,.bool h.2.1.2,sD h.2.2.1.1,sD h.2.2.1.2,.int .i64 h.2.2.2.1.1,.int .i64 h.2.2.2.1.2,so,si]
def zad:(d:Nat)->(Nat->Prop)->World->St d->List Value->Prop
 | 0,_,_,t,_=>Empty.elim t
 | d+1,ok,w,t,cs=>∃ so si,cs=hdD t.1 so si/\RdK ok w 10 (zba ok w) t.1.2.2.2.2 so/\RdK ok w 11 (zad d ok w) t.2 si
theorem zy:∀ d,Kp (zad d)
 | 0=>fun _ _ _ _ x _ _ _=>Empty.elim x
 | d+1=>fun _ _ _ _ _ _ ⟨so,si,h,h1,h2⟩ hk=>⟨so,si,h,h1.stay zap hk,h2.stay (zy d) hk⟩
def zll (x:List UInt8 × Int × Pl):List Value:=[sD x.1,.int .i64 x.2.1,.int .i64 x.2.2.1,.int .i64 x.2.2.2]
def zb0 (ok:Nat->Prop) (w:World) (x:List UInt8 × Int × Pl) (cs:List Value):Prop:=cs=zll x
theorem za4:Kp zb0:=fun _ _ _ _ _ _ h _=>h
abbrev ChD (d:Nat):=(List UInt8 × Pl) × Int × List (List UInt8 × Int × Pl) × List (St d)
def RdD (ok:Nat->Prop) (w:World) (d:Nat) (c:ChD d) (v:Value):Prop:=
 ∃ sv ss,v=.agg #[sD c.1.1,.int .i64 c.2.1,.int .i64 c.1.2.1,.int .i64 c.1.2.2,sv,ss]/\RdK ok w 4 (zb0 ok w) c.2.2.1 sv/\RdK ok w 11 (zad d ok w) c.2.2.2 ss
theorem RdD.keep {ok ok':Nat->Prop}{w w':World}{d:Nat}{c:ChD d}{v:Value}(h:RdD ok w d c v) (hk:∀ b,ok b->b < w.heap.size->ok' b/\w'.heap[b]?=w.heap[b]?):RdD ok' w' d c v:=by
 obtain ⟨sv,ss,h1,h2,h3⟩:=h
 exact ⟨sv,ss,h1,h2.stay za4 hk,h3.stay (zy d) hk⟩
theorem Fx.andD {X B:Nat}{a b c:World}(h:Fx X a b) (k:Below B b c) (hB:a.heap.size<=B):Fx X a c:=
 ⟨k.os.trans h.os,k.tape.trans h.tape,k.output.trans h.output,zn5 h.size k.size,fun j hj h1=>(k.block j (by omega)).trans (h.block j hj h1)⟩
abbrev zcu:Obj:=.cells #[.string ⟨#[]⟩,.bool false,.int .i64 0,.int .i64 0,.string ⟨#[]⟩,.slice none 0 0,.string ⟨#[]⟩,.slice none 0 0,.int .i64 0,.int .i64 0] 82
theorem Tryz.infoSetD:(Tryz.prog.info? 85).map (fun i=>(i.zero,i.size,i.bytes))=some (some (.agg #[.string ⟨#[]⟩,.int .i64 0,.int .i64 0,.string ⟨#[]⟩,.slice none 0 0]),5,72):=by kernel_rfl
def zkp (d:Nat):Prop:=∀ (ok ok':Nat->Prop) (e:Nat) (t:T d) (u:T e) (v v':Value) (w:World),RdT ok w d t v->RdT ok' w e u v'->
 Calls Tryz.prog 58 #[v,v'] w fun r w'=>r=.returned (.bool (zaL d e t u))/\Below w.heap.size w w'
theorem ziV (d:Nat) (IH:zkp d):zkp (d+1):=by
 intro ok ok' e t u v v' w h h'
 match e,u,h' with
 | 0,u,_=>exact Empty.elim u
 | e+1,u,h'=>
 obtain ⟨k,n,s,ps,rfl⟩:=T.open t
 obtain ⟨sl,rfl,hp⟩:=zaT.1 h
 obtain ⟨a,cap,rfl,hlc,hcm,hcell⟩:=hp.form
 obtain ⟨k',n',s',qs,rfl⟩:=T.open u
 obtain ⟨sl',rfl,hp'⟩:=zaT.1 h'
 obtain ⟨a',cap',rfl,hlc',hcm',hcell'⟩:=hp'.form
 rw [zca]
 have HC:Hid (∀ (i:Nat) (hi:i < ps.length),∃ b off c0 c1 c2 c3,a=some ⟨b,off,none⟩/\b < w.heap.size/\RdT ok w d ps[i] (.agg #[c0,c1,c2,c3])/\w.cell? ⟨b,off+i*4,none⟩=some c0/\w.cell? ⟨b,off+i*4+1,none⟩=some c1/\w.cell? ⟨b,off+i*4+2,none⟩=some c2/\w.cell? ⟨b,off+i*4+3,none⟩=some c3):=hcell
 have HC':Hid (∀ (i:Nat) (hi:i < qs.length),∃ b off c0 c1 c2 c3,a'=some ⟨b,off,none⟩/\b < w.heap.size/\RdT ok' w e qs[i] (.agg #[c0,c1,c2,c3])/\w.cell? ⟨b,off+i*4,none⟩=some c0/\w.cell? ⟨b,off+i*4+1,none⟩=some c1/\w.cell? ⟨b,off+i*4+2,none⟩=some c2/\w.cell? ⟨b,off+i*4+3,none⟩=some c3):=hcell'
 clear hcell h hp hcell' h' hp'
 have hb0:=((Below.refl w.heap.size w).alloc zn2 (.cells #[.int .i64 k,.int .i64 n,.string s,.slice a ps.length cap] 79)).alloc (by simp) (.cells #[.int .i64 k',.int .i64 n',.string s',.slice a' qs.length cap'] 79)
 by_cases c1:k=k'
 case neg=>
  have f1:(k != k')=true:=by simpa using c1
  rw [decide_eq_false c1]
  clear HC HC'
  go_enter Tryz.func58,Tryz.ntmps58
  go_wp2
  go_ret
  exact ⟨zT (by simp),hb0⟩
 by_cases c2:n=n'
 case neg=>
  have f2:(n != n')=true:=by simpa using c2
  subst c1
  rw [decide_eq_false c2]
  clear HC HC'
  go_enter Tryz.func58,Tryz.ntmps58
  go_wp2
  go_ret
  exact ⟨zT (by simp),hb0⟩
 by_cases c3:s=s'
 case neg=>
  have f3:=zge c3
  subst c1 c2
  rw [decide_eq_false c3]
  clear HC HC'
  go_enter Tryz.func58,Tryz.ntmps58
  go_wp2
  go_ret
  exact ⟨zT (by simp),hb0⟩
 subst c1 c2 c3
 by_cases c4:ps.length=qs.length
 case neg=>
  have f4:((ps.length:Int) != (qs.length:Int))=true:=by simp;omega
  rw [decide_eq_false c4]
  clear HC HC'
  go_enter Tryz.func58,Tryz.ntmps58
  go_wp2
  go_ret
  exact ⟨zT (by simp),hb0⟩
 rw [decide_eq_true c4,decide_eq_true rfl,decide_eq_true rfl,decide_eq_true rfl]
 simp only [Bool.true_and]
 obtain ⟨V,hV⟩:∃ V,zax (zaL d e) ps qs=V:=⟨_,rfl⟩
 rw [hV]
 have HV:Hid (zax (zaL d e) (ps.drop 0) (qs.drop 0)=V):=hV
 have HQ:Hid (ps.length=qs.length):=c4
 have f4:((ps.length:Int) != (qs.length:Int))=false:=by rw [c4];simp
 clear hV c4
 go_enter Tryz.func58,Tryz.ntmps58
 go_wp2
 go_loopw [37] (fun i wr=>∃ (j:Nat),j<=ps.length/\i=.int .i64 (j:Int)/\Hid (zax (zaL d e) (ps.drop j) (qs.drop j)=V)/\At4 wr w.heap.size (.int .i64 k) (.int .i64 n) (.string s) (.slice a ps.length cap)/\At4 wr (w.heap.size+1) (.int .i64 k) (.int .i64 n) (.string s) (.slice a' qs.length cap')/\Below w.heap.size w wr) (fun i _=>ps.length - (RowKit.intOf i).toNat)
 case atStart=>exact ⟨0,Nat.zero_le _,rfl,HV,(At4.new w (.int .i64 k) (.int .i64 n) (.string s) (.slice a ps.length cap) 79).keepB (B:=w.heap.size+1) (zn3.alloc (by simp) _) (by omega),At4.newAt _ _ _ _ _ _ _ (by simp),hb0⟩
 case round=>
  obtain ⟨j,hj,rfl,hal,hA,hA',hb⟩:=hrel
  obtain ⟨y0,y1,y2,y3⟩:=id hA
  obtain ⟨z0,z1,z2,z3⟩:=id hA'
  have hlq:=HQ.out
  by_cases hlt:j < ps.length
  ·obtain ⟨b,off,c0,c1,c2,c3,rfl,hbl,hr,k0,k1,k2,k3⟩:=HC.out j hlt
   obtain ⟨b',off',d0,d1,d2,d3,rfl,hbl',hr',l0,l1,l2,l3⟩:=HC'.out j (by omega)
   have C0:=(hb.cell (p:=⟨b,off+j*4,none⟩) hbl).trans k0
   have C1:=(hb.cell (p:=⟨b,off+j*4+1,none⟩) hbl).trans k1
   have C2:=(hb.cell (p:=⟨b,off+j*4+2,none⟩) hbl).trans k2
   have C3:=(hb.cell (p:=⟨b,off+j*4+3,none⟩) hbl).trans k3
   have D0:=(hb.cell (p:=⟨b',off'+j*4,none⟩) hbl').trans l0
   have D1:=(hb.cell (p:=⟨b',off'+j*4+1,none⟩) hbl').trans l1
   have D2:=(hb.cell (p:=⟨b',off'+j*4+2,none⟩) hbl').trans l2
   have D3:=(hb.cell (p:=⟨b',off'+j*4+3,none⟩) hbl').trans l3
   have hcall:=IH ok ok' e ps[j] (qs[j]'(by omega)) _ _ wr.drew (RdT.below hb.drew zn2 hr) (RdT.below hb.drew zn2 hr')
   have hst:=ziM (zaL d e) ps qs j hlt (by omega)
   rw [hal.out] at hst
   obtain ⟨z,hz⟩:∃ z,zaL d e ps[j] (qs[j]'(by omega))=z:=⟨_,rfl⟩
   rw [hz] at hcall hst
   have i1:(j:Int) < (ps.length:Int):=by omega
   have i3:(j:Int) < (qs.length:Int):=by omega
   have i2:(0:Int)<=(j:Int):=by omega
   clear k0 k1 k2 k3 hr hbl hz l0 l1 l2 l3 hr' hbl' hlq
   cases z with
   | true=>
    have hN:Hid (zax (zaL d e) (ps.drop (j+1)) (qs.drop (j+1))=V):=by show zax (zaL d e) (ps.drop (j+1)) (qs.drop (j+1))=V;rw [hst];simp
    clear hst
    go_wp2
    go_region_held (fun w'=>w'.cell? ⟨w.heap.size,3,none⟩=some (.slice (some ⟨b,off,none⟩) ps.length cap)/\w'.cell? ⟨w.heap.size+1,3,none⟩=some (.slice (some ⟨b',off',none⟩) qs.length cap')/\w'.cell? ⟨b,off+j*4,none⟩=some c0/\w'.cell? ⟨b,off+j*4+1,none⟩=some c1/\w'.cell? ⟨b,off+j*4+2,none⟩=some c2/\w'.cell? ⟨b,off+j*4+3,none⟩=some c3/\w'.cell? ⟨b',off'+j*4,none⟩=some d0/\w'.cell? ⟨b',off'+j*4+1,none⟩=some d1/\w'.cell? ⟨b',off'+j*4+2,none⟩=some d2/\w'.cell? ⟨b',off'+j*4+3,none⟩=some d3)
     (first|exact ⟨y3,z3,C0,C1,C2,C3,D0,D1,D2,D3⟩|exact ⟨kc _ _ y3,kc _ _ z3,kc _ _ C0,kc _ _ C1,kc _ _ C2,kc _ _ C3,kc _ _ D0,kc _ _ D1,kc _ _ D2,kc _ _ D3⟩|go_keep)
     (first|(go_at_call 58;refine hcall.mono ?_;rintro r w1 ⟨rfl,b1⟩;have bw:Below wr.heap.size wr w1:=((Below.refl _ wr).drew).trans b1;have kc:∀ p u,wr.cell? p=some u->w1.cell? p=some u:=fun p u hp=>(by rw [bw.cell (World.block_lt_of_cell? wr _ hp)];exact hp)))
    go_wp2
    go_roundw
    case rel=>exact ⟨j+1,hlt,by go_num,hN,hA.keepB bw (World.block_lt_of_cell? wr _ y0),hA'.keepB bw (World.block_lt_of_cell? wr _ z0),hb.trans (bw.mono hb.size)⟩
    case measure=>simp [RowKit.intOf];omega
   | false=>
    have hF:V=false:=by rw [hst];simp
    subst hF
    clear hst
    go_wp2
    go_region_held (fun w'=>w'.cell? ⟨w.heap.size,3,none⟩=some (.slice (some ⟨b,off,none⟩) ps.length cap)/\w'.cell? ⟨w.heap.size+1,3,none⟩=some (.slice (some ⟨b',off',none⟩) qs.length cap')/\w'.cell? ⟨b,off+j*4,none⟩=some c0/\w'.cell? ⟨b,off+j*4+1,none⟩=some c1/\w'.cell? ⟨b,off+j*4+2,none⟩=some c2/\w'.cell? ⟨b,off+j*4+3,none⟩=some c3/\w'.cell? ⟨b',off'+j*4,none⟩=some d0/\w'.cell? ⟨b',off'+j*4+1,none⟩=some d1/\w'.cell? ⟨b',off'+j*4+2,none⟩=some d2/\w'.cell? ⟨b',off'+j*4+3,none⟩=some d3)
     (first|exact ⟨y3,z3,C0,C1,C2,C3,D0,D1,D2,D3⟩|exact ⟨kc _ _ y3,kc _ _ z3,kc _ _ C0,kc _ _ C1,kc _ _ C2,kc _ _ C3,kc _ _ D0,kc _ _ D1,kc _ _ D2,kc _ _ D3⟩|go_keep)
     (first|(go_at_call 58;refine hcall.mono ?_;rintro r w1 ⟨rfl,b1⟩;have bw:Below wr.heap.size wr w1:=((Below.refl _ wr).drew).trans b1;have kc:∀ p u,wr.cell? p=some u->w1.cell? p=some u:=fun p u hp=>(by rw [bw.cell (World.block_lt_of_cell? wr _ hp)];exact hp)))
    go_wp2
    go_ret
    exact ⟨rfl,hb.trans (bw.mono hb.size)⟩
  ·have i1:¬ (j:Int) < (ps.length:Int):=by omega
   have hll:=hal.out
   rw [List.drop_eq_nil_of_le (by omega)] at hll
   have hTV:V=true:=by rw [<- hll];rfl
   subst hTV
   clear hlq hll
   go_wp2
   go_ret
   exact ⟨rfl,hb⟩
theorem zd9:∀ (d:Nat),zkp d
 | 0=>fun _ _ _ t=>Empty.elim t
 | d+1=>ziV d (zd9 d)
theorem zeJ {ok:Nat->Prop}{w:World}{l:List (List UInt8 × Sx)}{v:Value}(h:RdK ok w 5 (zbf ok w) l v):∃ a cap,v=.slice a l.length cap/\l.length<=cap/\cap<=maxLen/\∀ (j:Nat) (hj:j < l.length),∃ b off nm k0 k1 k2 k3 k4 k5,a=some ⟨b,off,none⟩/\b < w.heap.size/\sD l[j].1=.string nm/\RdX ok w l[j].2 (.agg #[.int .i64 k0,.int .i64 k1,.string k2,.slice k3 k4 k5])/\w.cell? ⟨b,off+j*5,none⟩=some (.string nm)/\w.cell? ⟨b,off+j*5+1,none⟩=some (.int .i64 k0)/\w.cell? ⟨b,off+j*5+2,none⟩=some (.int .i64 k1)/\w.cell? ⟨b,off+j*5+3,none⟩=some (.string k2)/\w.cell? ⟨b,off+j*5+4,none⟩=some (.slice k3 k4 k5):=by
 obtain ⟨a,cap,rfl,h1,h2,h3⟩:=h
 refine ⟨a,cap,rfl,h1,h2,fun j hj=>?_⟩
 obtain ⟨b,off,cs,ha,_,hb,hl,⟨c0,c1,c2,c3,rfl,hx⟩,hc⟩:=h3 j hj
 obtain ⟨k0,k1,k2,k3,k4,k5,he⟩:=hx.form
 simp only [Value.agg.injEq,Array.mk.injEq,List.cons.injEq,and_true] at he
 obtain ⟨rfl,rfl,rfl,rfl⟩:=he
 exact ⟨b,off,_,k0,k1,k2,k3,k4,k5,ha,hb,rfl,hx,hc 0 _ rfl,hc 1 _ rfl,hc 2 _ rfl,hc 3 _ rfl,hc 4 _ rfl⟩
theorem zfn {ok:Nat->Prop}{w:World}{d:Nat}{l:List (St (d+1))}{v:Value}(h:RdK ok w 11 (zad (d+1) ok w) l v):∃ a cap,v=.slice a l.length cap/\l.length<=cap/\cap<=maxLen/\∀ (j:Nat) (hj:j < l.length),∃ b off p1 p3 p4 p6,a=some ⟨b,off,none⟩/\b < w.heap.size/\RdK ok w 10 (zba ok w) l[j].1.2.2.2.2 (.slice p1 l[j].1.2.2.2.2.length p3)/\RdK ok w 11 (zad d ok w) l[j].2 (.slice p4 l[j].2.length p6)/\∀ i u,(hdD l[j].1 (.slice p1 l[j].1.2.2.2.2.length p3) (.slice p4 l[j].2.length p6))[i]?=some u->w.cell? ⟨b,off+j*11+i,none⟩=some u:=by
 obtain ⟨a,cap,rfl,h1,h2,h3⟩:=h
 refine ⟨a,cap,rfl,h1,h2,fun j hj=>?_⟩
 obtain ⟨b,off,cs,ha,_,hb,hl,⟨so,si,rfl,hx,hy⟩,hc⟩:=h3 j hj
 obtain ⟨p1,p3,rfl,_⟩:=hx.form
 obtain ⟨p4,p6,rfl,_⟩:=hy.form
 exact ⟨b,off,p1,p3,p4,p6,ha,hb,hx,hy,hc⟩
theorem ze4 {ok:Nat->Prop}{w:World}{l:List OnC}{a:Option Addr}{n cap:Nat}(h:RdK ok w 10 (zba ok w) l (.slice a n cap)) (j:Nat) (hj:j < l.length):∃ b off e0 e1 e2 e3 e4 e5 e6 e7 e8 e9,a=some ⟨b,off,none⟩/\b < w.heap.size/\zba ok w l[j] [e0,e1,e2,e3,e4,e5,e6,e7,e8,e9]/\∀ i u,[e0,e1,e2,e3,e4,e5,e6,e7,e8,e9][i]?=some u->w.cell? ⟨b,off+j*10+i,none⟩=some u:=by
 obtain ⟨a1,cap1,he,h1,h2,h3⟩:=h
 simp only [Value.slice.injEq] at he
 obtain ⟨rfl,rfl,rfl⟩:=he
 obtain ⟨b,off,cs,ha,_,hb,hl,hr,hc⟩:=h3 j hj
 have hr2:=hr
 obtain ⟨c0,c1,c2,c3,sl,rfl,_,_⟩:=hr
 exact ⟨b,off,_,_,_,_,_,_,_,_,_,_,ha,hb,hr2,hc⟩
theorem zeH {ok:Nat->Prop}{w:World}{l:List (List UInt8 × Int × Pl)}{a:Option Addr}{n cap:Nat}(h:RdK ok w 4 (zb0 ok w) l (.slice a n cap)) (j:Nat) (hj:j < l.length):∃ b off,a=some ⟨b,off,none⟩/\b < w.heap.size/\∀ i u,(zll l[j])[i]?=some u->w.cell? ⟨b,off+j*4+i,none⟩=some u:=by
 obtain ⟨a1,cap1,he,h1,h2,h3⟩:=h
 simp only [Value.slice.injEq] at he
 obtain ⟨rfl,rfl,rfl⟩:=he
 obtain ⟨b,off,cs,ha,_,hb,hl,hr,hc⟩:=h3 j hj
 have hr:cs=zll l[j]:=hr
 subst hr
 exact ⟨b,off,ha,hb,hc⟩
theorem zns (v:Value) (w:World):(Instr.typeAssert (.iface 117 v) 87 119 true).run Tryz.prog w=.ok (.tuple #[.agg #[.string ⟨#[]⟩],.bool false]) w:=by kernel_rfl
theorem zmT (v:Value) (w:World):(Instr.typeAssert (.iface 117 v) 87 121 true).run Tryz.prog w=.ok (.tuple #[.agg #[.nilIface],.bool false]) w:=by kernel_rfl
theorem zmO (v:Value) (w:World):(Instr.typeAssert (.iface 117 v) 87 122 true).run Tryz.prog w=.ok (.tuple #[.agg #[.nilIface],.bool false]) w:=by kernel_rfl
theorem znz (v:Value) (w:World):(Instr.typeAssert (.iface 117 v) 87 124 true).run Tryz.prog w=.ok (.tuple #[.agg #[.string ⟨#[]⟩,.nilIface,.nilIface],.bool false]) w:=by kernel_rfl
theorem zmL (w:World):(Instr.typeAssert .nilIface 87 119 true).run Tryz.prog w=.ok (.tuple #[.agg #[.string ⟨#[]⟩],.bool false]) w:=by kernel_rfl
theorem znj (w:World):(Instr.typeAssert .nilIface 87 121 true).run Tryz.prog w=.ok (.tuple #[.agg #[.nilIface],.bool false]) w:=by kernel_rfl
theorem znu (w:World):(Instr.typeAssert .nilIface 87 122 true).run Tryz.prog w=.ok (.tuple #[.agg #[.nilIface],.bool false]) w:=by kernel_rfl
theorem znm (w:World):(Instr.typeAssert .nilIface 87 124 true).run Tryz.prog w=.ok (.tuple #[.agg #[.string ⟨#[]⟩,.nilIface,.nilIface],.bool false]) w:=by kernel_rfl
attribute [local go_sem] zbI zbN zbF zbx zbK zbz zbM zbL zbE zbA zns zmT zmO znz zmL znj znu znm
def CwC (v:Value):Prop:=∀ w,Calls Tryz.prog 76 #[v] w fun e w'=>e=.returned v/\Below w.heap.size w w'
theorem zng (n:Int):CwC (.iface 117 (.agg #[.int .i64 n])):=by
 intro w
 go_enter Tryz.func76,Tryz.ntmps76
 go_wp2
 go_ret
 exact ⟨rfl,Below.refl _ _⟩
theorem zm1:CwC .nilIface:=by
 intro w
 go_enter Tryz.func76,Tryz.ntmps76
 go_wp2
 go_ret
 exact ⟨rfl,Below.refl _ _⟩
theorem zna (s:ByteArray) (hs:s.size<=140737488351232):CwC (.iface 119 (.agg #[.string s])):=by
 intro w
 have h1:=fun w1=>zQ s w1 hs
 go_enter Tryz.func76,Tryz.ntmps76
 go_wp2_with (first
  | (go_at_call 22;refine (h1 _).mono ?_;rintro e w1 ⟨rfl,b1⟩))
 go_ret
 exact ⟨rfl,((Below.refl w.heap.size w).alloc zn2 _).trans (b1.mono (by simp))⟩
theorem zmJ (v:Value) (hv:Ifc v) (h:CwC v):CwC (.iface 121 (.agg #[v])):=by
 intro w
 rcases hv with rfl|⟨u,y,rfl⟩
 ·go_enter Tryz.func76,Tryz.ntmps76
  go_wp2_with (first
   | (go_at_call 76;refine (h _).mono ?_;rintro e w1 ⟨rfl,b1⟩))
  go_ret
  exact ⟨rfl,((Below.refl w.heap.size w).alloc zn2 _).trans (b1.mono (by simp))⟩
 ·go_enter Tryz.func76,Tryz.ntmps76
  go_wp2_with (first
   | (go_at_call 76;refine (h _).mono ?_;rintro e w1 ⟨rfl,b1⟩))
  go_ret
  exact ⟨rfl,((Below.refl w.heap.size w).alloc zn2 _).trans (b1.mono (by simp))⟩
theorem zmF (v:Value) (hv:Ifc v) (h:CwC v):CwC (.iface 122 (.agg #[v])):=by
 intro w
 rcases hv with rfl|⟨u,y,rfl⟩
 ·go_enter Tryz.func76,Tryz.ntmps76
  go_wp2_with (first
   | (go_at_call 76;refine (h _).mono ?_;rintro e w1 ⟨rfl,b1⟩))
  go_ret
  exact ⟨rfl,((Below.refl w.heap.size w).alloc zn2 _).trans (b1.mono (by simp))⟩
 ·go_enter Tryz.func76,Tryz.ntmps76
  go_wp2_with (first
   | (go_at_call 76;refine (h _).mono ?_;rintro e w1 ⟨rfl,b1⟩))
  go_ret
  exact ⟨rfl,((Below.refl w.heap.size w).alloc zn2 _).trans (b1.mono (by simp))⟩
theorem Below.nx {w wc w1:World}(h:Below w.heap.size w wc) (b:Below wc.heap.size wc w1):Below w.heap.size w w1:=h.trans (b.mono h.size)
theorem Below.nxd {w wc w1:World}(h:Below w.heap.size w wc) (b:Below wc.drew.heap.size wc.drew w1):Below w.heap.size w w1:=(h.drew).trans (b.mono h.size)
theorem zmX (s:ByteArray) (hs:s.size<=140737488351232) (u v:Value) (hu:Ifc u) (hv:Ifc v) (h:CwC u) (h':CwC v):CwC (.iface 124 (.agg #[.string s,u,v])):=by
 intro w
 have h1:=fun w1=>zQ s w1 hs
 have hal:=(Below.refl w.heap.size w).alloc zn2 (.cells #[.string s,u,v] 124)
 have c0:(w.alloc (.cells #[.string s,u,v] 124)).cell? ⟨w.heap.size,0,none⟩=some (.string s):=by simp
 have c1:(w.alloc (.cells #[.string s,u,v] 124)).cell? ⟨w.heap.size,1,none⟩=some u:=by simp
 have c2:(w.alloc (.cells #[.string s,u,v] 124)).cell? ⟨w.heap.size,2,none⟩=some v:=by simp
 have hlt:w.heap.size < (w.alloc (.cells #[.string s,u,v] 124)).heap.size:=by simp
 rcases hu with rfl|⟨u1,y1,rfl⟩<;>rcases hv with rfl|⟨u2,y2,rfl⟩
 ·have g1:∀ w1,Calls Tryz.prog 76 #[.nilIface] w1 fun e w'=>e=.returned (.nilIface)/\Below w1.heap.size w1 w':=h
  have g2:∀ w1,Calls Tryz.prog 76 #[.nilIface] w1 fun e w'=>e=.returned (.nilIface)/\Below w1.heap.size w1 w':=h'
  clear h h'
  go_enter Tryz.func76,Tryz.ntmps76
  go_upto_region 13 with fail
  generalize w.alloc (.cells #[.string s,.nilIface,.nilIface] 124)=wx at *
  have hB:Below wx.heap.size wx wx:=Below.refl _ _
  obtain ⟨S,hS⟩:∃ S,w.heap.size=S:=⟨_,rfl⟩
  rw [hS] at c0 c1 c2 hlt ⊢
  go_region_held_law (fun w'=>w'.cell? ⟨S,0,none⟩=some (.string s)/\w'.cell? ⟨S,1,none⟩=some (.nilIface)/\w'.cell? ⟨S,2,none⟩=some (.nilIface))
   (exact ⟨(hB.cell (p:=⟨S,0,none⟩) hlt).trans c0,(hB.cell (p:=⟨S,1,none⟩) hlt).trans c1,(hB.cell (p:=⟨S,2,none⟩) hlt).trans c2⟩)
   (first
    | (go_at_call 22;(with_reducible refine (h1 _).mono ?_);rintro e w1 ⟨rfl,b1⟩;first|have hB:=Below.nxd hB b1|have hB:=Below.nx hB b1)
    | (go_at_call 76;(with_reducible refine (g1 _).mono ?_);rintro e w1 ⟨rfl,b1⟩;first|have hB:=Below.nxd hB b1|have hB:=Below.nx hB b1)
    | (go_at_call 76;(with_reducible refine (g2 _).mono ?_);rintro e w1 ⟨rfl,b1⟩;first|have hB:=Below.nxd hB b1|have hB:=Below.nx hB b1)
    | fail)
  all_goals (
   go_wp2
   go_ret
   exact ⟨rfl,hal.trans (hB.mono (by rw [hS];omega))⟩)
 ·have g1:∀ w1,Calls Tryz.prog 76 #[.nilIface] w1 fun e w'=>e=.returned (.nilIface)/\Below w1.heap.size w1 w':=h
  have g2:∀ w1,Calls Tryz.prog 76 #[.iface u2 y2] w1 fun e w'=>e=.returned (.iface u2 y2)/\Below w1.heap.size w1 w':=h'
  clear h h'
  go_enter Tryz.func76,Tryz.ntmps76
  go_upto_region 13 with fail
  generalize w.alloc (.cells #[.string s,.nilIface,.iface u2 y2] 124)=wx at *
  have hB:Below wx.heap.size wx wx:=Below.refl _ _
  obtain ⟨S,hS⟩:∃ S,w.heap.size=S:=⟨_,rfl⟩
  rw [hS] at c0 c1 c2 hlt ⊢
  go_region_held_law (fun w'=>w'.cell? ⟨S,0,none⟩=some (.string s)/\w'.cell? ⟨S,1,none⟩=some (.nilIface)/\w'.cell? ⟨S,2,none⟩=some (.iface u2 y2))
   (exact ⟨(hB.cell (p:=⟨S,0,none⟩) hlt).trans c0,(hB.cell (p:=⟨S,1,none⟩) hlt).trans c1,(hB.cell (p:=⟨S,2,none⟩) hlt).trans c2⟩)
   (first
    | (go_at_call 22;(with_reducible refine (h1 _).mono ?_);rintro e w1 ⟨rfl,b1⟩;first|have hB:=Below.nxd hB b1|have hB:=Below.nx hB b1)
    | (go_at_call 76;(with_reducible refine (g1 _).mono ?_);rintro e w1 ⟨rfl,b1⟩;first|have hB:=Below.nxd hB b1|have hB:=Below.nx hB b1)
    | (go_at_call 76;(with_reducible refine (g2 _).mono ?_);rintro e w1 ⟨rfl,b1⟩;first|have hB:=Below.nxd hB b1|have hB:=Below.nx hB b1)
    | fail)
  all_goals (
   go_wp2
   go_ret
   exact ⟨rfl,hal.trans (hB.mono (by rw [hS];omega))⟩)
 ·have g1:∀ w1,Calls Tryz.prog 76 #[.iface u1 y1] w1 fun e w'=>e=.returned (.iface u1 y1)/\Below w1.heap.size w1 w':=h
  have g2:∀ w1,Calls Tryz.prog 76 #[.nilIface] w1 fun e w'=>e=.returned (.nilIface)/\Below w1.heap.size w1 w':=h'
  clear h h'
  go_enter Tryz.func76,Tryz.ntmps76
  go_upto_region 13 with fail
  generalize w.alloc (.cells #[.string s,.iface u1 y1,.nilIface] 124)=wx at *
  have hB:Below wx.heap.size wx wx:=Below.refl _ _
  obtain ⟨S,hS⟩:∃ S,w.heap.size=S:=⟨_,rfl⟩
  rw [hS] at c0 c1 c2 hlt ⊢
  go_region_held_law (fun w'=>w'.cell? ⟨S,0,none⟩=some (.string s)/\w'.cell? ⟨S,1,none⟩=some (.iface u1 y1)/\w'.cell? ⟨S,2,none⟩=some (.nilIface))
   (exact ⟨(hB.cell (p:=⟨S,0,none⟩) hlt).trans c0,(hB.cell (p:=⟨S,1,none⟩) hlt).trans c1,(hB.cell (p:=⟨S,2,none⟩) hlt).trans c2⟩)
   (first
    | (go_at_call 22;(with_reducible refine (h1 _).mono ?_);rintro e w1 ⟨rfl,b1⟩;first|have hB:=Below.nxd hB b1|have hB:=Below.nx hB b1)
    | (go_at_call 76;(with_reducible refine (g1 _).mono ?_);rintro e w1 ⟨rfl,b1⟩;first|have hB:=Below.nxd hB b1|have hB:=Below.nx hB b1)
    | (go_at_call 76;(with_reducible refine (g2 _).mono ?_);rintro e w1 ⟨rfl,b1⟩;first|have hB:=Below.nxd hB b1|have hB:=Below.nx hB b1)
    | fail)
  all_goals (
   go_wp2
   go_ret
   exact ⟨rfl,hal.trans (hB.mono (by rw [hS];omega))⟩)
 ·have g1:∀ w1,Calls Tryz.prog 76 #[.iface u1 y1] w1 fun e w'=>e=.returned (.iface u1 y1)/\Below w1.heap.size w1 w':=h
  have g2:∀ w1,Calls Tryz.prog 76 #[.iface u2 y2] w1 fun e w'=>e=.returned (.iface u2 y2)/\Below w1.heap.size w1 w':=h'
  clear h h'
  go_enter Tryz.func76,Tryz.ntmps76
  go_upto_region 13 with fail
  generalize w.alloc (.cells #[.string s,.iface u1 y1,.iface u2 y2] 124)=wx at *
  have hB:Below wx.heap.size wx wx:=Below.refl _ _
  obtain ⟨S,hS⟩:∃ S,w.heap.size=S:=⟨_,rfl⟩
  rw [hS] at c0 c1 c2 hlt ⊢
  go_region_held_law (fun w'=>w'.cell? ⟨S,0,none⟩=some (.string s)/\w'.cell? ⟨S,1,none⟩=some (.iface u1 y1)/\w'.cell? ⟨S,2,none⟩=some (.iface u2 y2))
   (exact ⟨(hB.cell (p:=⟨S,0,none⟩) hlt).trans c0,(hB.cell (p:=⟨S,1,none⟩) hlt).trans c1,(hB.cell (p:=⟨S,2,none⟩) hlt).trans c2⟩)
   (first
    | (go_at_call 22;(with_reducible refine (h1 _).mono ?_);rintro e w1 ⟨rfl,b1⟩;first|have hB:=Below.nxd hB b1|have hB:=Below.nx hB b1)
    | (go_at_call 76;(with_reducible refine (g1 _).mono ?_);rintro e w1 ⟨rfl,b1⟩;first|have hB:=Below.nxd hB b1|have hB:=Below.nx hB b1)
    | (go_at_call 76;(with_reducible refine (g2 _).mono ?_);rintro e w1 ⟨rfl,b1⟩;first|have hB:=Below.nxd hB b1|have hB:=Below.nx hB b1)
    | fail)
  all_goals (
   go_wp2
   go_ret
   exact ⟨rfl,hal.trans (hB.mono (by rw [hS];omega))⟩)
theorem zfG (d:Nat) (t:T d):Ifc (exV d t):=zaz d t
theorem zd7:∀ (d:Nat) (t:T d),Cl d t->zb6 1000 d t=true->CwC (exV d t)
 | 0,t,_,_=>Empty.elim t
 | d+1,t,hc,hs=>by
  rcases hc.cases with ⟨n,rfl⟩|⟨s,rfl⟩|⟨k,p,hk,rfl,hp⟩|⟨s,p,q,rfl,hp,hq⟩|rfl
  ·exact zng n
  ·rw [zaH,Bool.and_eq_true,decide_eq_true_eq] at hs
   exact zna s (by omega)
  ·rw [zaH,Bool.and_eq_true,List.all_cons,Bool.and_eq_true] at hs
   have h:=zd7 d p hp hs.2.1
   rcases hk with rfl|rfl
   ·exact zmJ _ (zfG d p) h
   ·exact zmF _ (zfG d p) h
  ·rw [zaH,Bool.and_eq_true,decide_eq_true_eq,List.all_cons,Bool.and_eq_true,List.all_cons,Bool.and_eq_true] at hs
   exact zmX s (by omega) _ _ (zfG d p) (zfG d q) (zd7 d p hp hs.2.1) (zd7 d q hq hs.2.2.1)
  ·exact zm1
theorem zhV {d:Nat}{t:T d}(hc:Cl d t) (hn:cnt d t<=100000) (hs:zb6 1000 d t=true) (w:World):Calls Tryz.prog 59 #[exV d t] w fun e w'=>e=.returned (exV d t)/\Below w.heap.size w w':=by
 have h1:=fun w1=>zeD d t w1 hc hn
 have h2:∀ w1,Calls Tryz.prog 76 #[exV d t] w1 fun e w'=>e=.returned (exV d t)/\Below w1.heap.size w1 w':=zd7 d t hc hs
 generalize exV d t=v at *
 obtain ⟨n,hn⟩:∃ n,min (cnt d t) 41=n:=⟨_,rfl⟩
 rw [hn] at h1
 clear hn
 by_cases hq:40 < n
 ·have i1:(40:Int) < (n:Int):=by omega
  go_enter Tryz.func59,Tryz.ntmps59
  go_wp2_with (first
   | (go_at_call 75;refine (h1 _).mono ?_;rintro e w1 ⟨rfl,b1⟩))
  go_ret
  exact ⟨rfl,b1⟩
 ·have i1:¬ (40:Int) < (n:Int):=by omega
  go_enter Tryz.func59,Tryz.ntmps59
  go_wp2_with (first
   | (go_at_call 75;refine (h1 _).mono ?_;rintro e w1 ⟨rfl,b1⟩)
   | (go_at_call 76;refine (h2 _).mono ?_;rintro e w2 ⟨rfl,b2⟩))
  go_ret
  exact ⟨rfl,Below.nx b1 b2⟩
def sV (l:List UInt8):Value:=.string ⟨l.toArray⟩
def zaq (ok:Nat->Prop) (w:World) (x:List UInt8 × Sx) (cs:List Value):Prop:=cs=[sV x.1,exX x.2]
theorem zk:Kp zaq:=fun _ _ _ _ _ _ h _=>h
def gdV (g:Bool × Sx):Value:=if g.1=true then exX g.2 else .nilIface
theorem zc6 (g:Bool × Sx):gdV g=.nilIface∨∃ u y,gdV g=.iface u y:=by
 unfold gdV
 split
 ·exact zY _
 ·exact .inl rfl
def onV (o:OnC) (sl:Value):List Value:=[sV o.1,gdV o.2.1,sV o.2.2.1,sl,.int .i64 o.2.2.2.2.1,.int .i64 o.2.2.2.2.2]
def rOn (ok:Nat->Prop) (w:World) (o:OnC) (cs:List Value):Prop:=∃ sl,cs=onV o sl/\RdK ok w 2 (zaq ok w) o.2.2.2.1 sl
theorem zB:Kp rOn:=fun _ _ _ _ _ _ ⟨sl,h,hr⟩ hk=>⟨sl,h,hr.stay zk hk⟩
def hdV (h:HdC) (so si:Value):List Value:=[sV h.1.1,.int .i64 h.1.2.1,.int .i64 h.1.2.2,.bool h.2.1.1,.bool h.2.1.2,sV h.2.2.1.1,sV h.2.2.1.2,.int .i64 h.2.2.2.1.1,.int .i64 h.2.2.2.1.2,so,si]
def rSt:(d:Nat)->(Nat->Prop)->World->St d->List Value->Prop
 | 0,_,_,t,_=>Empty.elim t
 | d+1,ok,w,t,cs=>∃ so si,cs=hdV t.1 so si/\RdK ok w 6 (rOn ok w) t.1.2.2.2.2 so/\RdK ok w 11 (rSt d ok w) t.2 si
theorem zp:∀ d,Kp (rSt d)
 | 0=>fun _ _ _ _ x _ _ _=>Empty.elim x
 | d+1=>fun _ _ _ _ _ _ ⟨so,si,h,h1,h2⟩ hk=>⟨so,si,h,h1.stay zB hk,h2.stay (zp d) hk⟩
def zcy (x:List UInt8 × Int × Pl):List Value:=[sV x.1,.int .i64 x.2.1,.int .i64 x.2.2.1,.int .i64 x.2.2.2]
def zbo (ok:Nat->Prop) (w:World) (x:List UInt8 × Int × Pl) (cs:List Value):Prop:=cs=zcy x
theorem zI:Kp zbo:=fun _ _ _ _ _ _ h _=>h
abbrev ChG (d:Nat):=(List UInt8 × Pl) × Int × List (List UInt8 × Int × Pl) × List (St d)
def RdC (ok:Nat->Prop) (w:World) (d:Nat) (c:ChG d) (v:Value):Prop:=
 ∃ sv ss,v=.agg #[sV c.1.1,.int .i64 c.2.1,.int .i64 c.1.2.1,.int .i64 c.1.2.2,sv,ss]/\RdK ok w 4 (zbo ok w) c.2.2.1 sv/\RdK ok w 11 (rSt d ok w) c.2.2.2 ss
theorem RdC.keep {ok ok':Nat->Prop}{w w':World}{d:Nat}{c:ChG d}{v:Value}(h:RdC ok w d c v) (hk:∀ b,ok b->b < w.heap.size->ok' b/\w'.heap[b]?=w.heap[b]?):RdC ok' w' d c v:=by
 obtain ⟨sv,ss,h1,h2,h3⟩:=h
 exact ⟨sv,ss,h1,h2.stay zI hk,h3.stay (zp d) hk⟩
theorem zhL (ok:Nat->Prop) (w:World):RdC ok w 7 noC (.agg #[.string ⟨#[]⟩,.int .i64 0,.int .i64 0,.int .i64 0,.slice none 0 0,.slice none 0 0]):=⟨_,_,rfl,zaO _ _ _ _,zaO _ _ _ _⟩
def RowG {α:Type}(w:World) (G k n:Nat) (R:(Nat->Prop)->World->α->List Value->Prop) (l:List α):Prop:=
 (∀ j,j < n*k->(∃ u,w.cell? ⟨G,j,none⟩=some u)/\w.frozen? ⟨G,j,none⟩=false)/\
 ∀ (i:Nat) (h:i < l.length),∃ cs,cs.length=k/\R (fun b=>G < b) w l[i] cs/\∀ j u,cs[j]?=some u->w.cell? ⟨G,i*k+j,none⟩=some u
theorem RowG.made {α:Type}(w:World) (z:Array Value) (k n:Nat) (e:TypeId) (R:(Nat->Prop)->World->α->List Value->Prop):RowG (w.alloc (.cells (madeCells z (n*k)) e)) w.heap.size k n R ([]:List α):=by
 refine ⟨fun j hj=>⟨?_,by simp⟩,fun i h=>absurd h (by simp)⟩
 rw [World.cell?_alloc_new]
 have hs:j < (madeCells z (n*k)).size:=by rw [size_madeCells];exact hj
 exact ⟨_,Array.getElem?_eq_getElem hs⟩
theorem RowG.on {α:Type}{w w':World}{G k n:Nat}{R:(Nat->Prop)->World->α->List Value->Prop}{l:List α}(hR:Kp R) (hG:G < w.heap.size) (h:RowG w G k n R l) (hb:Below w.heap.size w w'):RowG w' G k n R l:=by
 refine ⟨fun j hj=>?_,fun i hi=>?_⟩
 ·obtain ⟨⟨u,hu⟩,hf⟩:=h.1 j hj
  exact ⟨⟨u,(hb.cell (p:=⟨G,j,none⟩) hG).trans hu⟩,(hb.frozen (p:=⟨G,j,none⟩) hG).trans hf⟩
 ·obtain ⟨cs,h1,h2,h3⟩:=h.2 i hi
  exact ⟨cs,h1,hR h2 (fun b hb' hl=>⟨hb',hb.block b hl⟩),fun j u hu=>(hb.cell (p:=⟨G,i*k+j,none⟩) hG).trans (h3 j u hu)⟩
theorem zfm:∀ (cs:List Value) (w:World) (G o j:Nat),(∀ i,i < cs.length->∃ u,w.cell? ⟨G,o+i,none⟩=some u)->(zV w G o cs).cell? ⟨G,j,none⟩=if o<=j/\j < o+cs.length then cs[j - o]? else w.cell? ⟨G,j,none⟩
 | [],w,G,o,j,_=>by rw [if_neg (by simp only [List.length_nil];omega)];rfl
 | c :: cs,w,G,o,j,h=>by
  have h':∀ i,i < cs.length->∃ u,(w.setCell ⟨G,o,none⟩ c).cell? ⟨G,o+1+i,none⟩=some u:=fun i hi=>by
   obtain ⟨u,hu⟩:=h (i+1) (by simp;omega)
   exact ⟨u,za (by omega) (by rw [show o+1+i=o+(i+1) by omega];exact hu)⟩
  show (zV (w.setCell ⟨G,o,none⟩ c) G (o+1) cs).cell? ⟨G,j,none⟩=_
  rw [zfm cs _ G (o+1) j h']
  obtain ⟨u,hu⟩:=h 0 (by simp)
  rw [Nat.add_zero] at hu
  by_cases hj:o+1<=j/\j < o+1+cs.length
  ·rw [if_pos hj,if_pos (by simp only [List.length_cons];omega),show j - o=(j - (o+1))+1 by omega,List.getElem?_cons_succ]
  ·rw [if_neg hj]
   by_cases he:o=j
   ·subst he
    rw [if_pos (by simp only [List.length_cons];omega),Nat.sub_self,List.getElem?_cons_zero]
    exact zas hu
   ·rw [if_neg (by simp only [List.length_cons];omega)]
    cases hw:w.cell? ⟨G,j,none⟩ with
    | some v=>exact za (by omega) hw
    | none=>
     unfold World.setCell World.cell? at *
     simp only [Array.getElem?_modify] at hw ⊢
     by_cases hb:w.heap[G]?=none
     ·simp [hb]
     ·obtain ⟨x,hx⟩:=Option.ne_none_iff_exists'.1 hb
      simp only [hx] at hw ⊢
      cases x<;>simp_all [Array.getElem?_set]
theorem zdV:∀ (cs:List Value) (w:World) (G o:Nat) (p:Addr),(zV w G o cs).frozen? p=w.frozen? p
 | [],w,G,o,p=>rfl
 | c :: cs,w,G,o,p=>by
  show (zV (w.setCell ⟨G,o,none⟩ c) G (o+1) cs).frozen? p=_
  rw [zdV cs _ G (o+1) p]
  exact World.frozen?_setCell _ _ _ _
theorem zM {i j k m:Nat}(hi:i < m) (hj:j < k):i*k+j < m*k:=by
 have:(i+1)*k<=m*k:=Nat.mul_le_mul_right k hi
 rw [Nat.succ_mul] at this
 omega
theorem RowG.put {α:Type}{w:World}{G k n:Nat}{R:(Nat->Prop)->World->α->List Value->Prop}{l:List α}{x:α}{cs:List Value}(hR:Kp R) (h:RowG w G k n R l) (hl:l.length < n) (hk:cs.length=k) (hp:R (fun b=>G < b) w x cs):RowG (zV w G (l.length*k) cs) G k n R (l++[x]):=by
 have hin:∀ i,i < cs.length->∃ u,w.cell? ⟨G,l.length*k+i,none⟩=some u:=fun i hi=>(h.1 _ (zM hl (by omega))).1
 have hc:=fun j=>zfm cs w G (l.length*k) j hin
 have hkp:∀ b,G < b->b < w.heap.size->G < b/\(zV w G (l.length*k) cs).heap[b]?=w.heap[b]?:=fun b hb _=>⟨hb,zt cs w G _ b (by omega)⟩
 refine ⟨fun j hj=>⟨?_,(zdV cs w G _ _).trans (h.1 j hj).2⟩,fun i hi=>?_⟩
 ·rw [hc]
  split
  ·next hr=>exact ⟨_,List.getElem?_eq_getElem (by omega)⟩
  ·exact (h.1 j hj).1
 ·rcases Nat.lt_or_ge i l.length with hlt|hge
  ·obtain ⟨cs',h1,h2,h3⟩:=h.2 i hlt
   rw [List.getElem_append_left hlt]
   refine ⟨cs',h1,hR h2 hkp,fun j u hu=>?_⟩
   have hjk:j < k:=by
    have:=(List.getElem?_eq_some_iff.1 hu).1
    omega
   have:=zM hlt hjk
   rw [hc,if_neg (by omega)]
   exact h3 j u hu
  ·have:i=l.length:=by simp at hi;omega
   subst this
   have e1:(l++[x])[l.length]=x:=by simp
   rw [e1]
   refine ⟨cs,hk,hR hp hkp,fun j u hu=>?_⟩
   have hjk:j < k:=by
    have:=(List.getElem?_eq_some_iff.1 hu).1
    omega
   rw [hc,if_pos (by omega),Nat.add_sub_cancel_left]
   exact hu
theorem RowG.rd {α:Type}{w:World}{G k n:Nat}{R:(Nat->Prop)->World->α->List Value->Prop}{l:List α}(hR:Kp R) (h:RowG w G k n R l) (hG:G < w.heap.size) (hn:l.length=n) (hm:n<=maxLen):RdK (fun b=>G<=b) w k (R (fun b=>G<=b) w) l (.slice (some ⟨G,0,none⟩) n n):=by
 subst hn
 refine ⟨some ⟨G,0,none⟩,l.length,rfl,Nat.le_refl _,hm,fun i hi=>?_⟩
 obtain ⟨cs,h1,h2,h3⟩:=h.2 i hi
 refine ⟨G,0,cs,rfl,Nat.le_refl _,hG,h1,hR h2 (fun b hb _=>⟨by omega,rfl⟩),fun j u hu=>?_⟩
 rw [Nat.zero_add]
 exact h3 j u hu
def zgx (x:Sx):Prop:=ClX x/\zb5 x<=2000/\zb6 1000 x.1 x.2=true
def zdS (s:List UInt8 × Sx):Prop:=s.1.length<=140737488351232/\zgx s.2
theorem znt {x:Sx}(h:zgx x) (w:World):Calls Tryz.prog 59 #[exX x] w fun e w'=>e=.returned (exX x)/\Below w.heap.size w w':=zhV h.1 (by have:=h.2.1;unfold zb5 at this;omega) h.2.2 w
theorem zfx {ok:Nat->Prop}{w:World}{l:List (List UInt8 × Sx)}{a:Option Addr}{n cap:Nat}(h:RdK ok w 2 (zaq ok w) l (.slice a n cap)) (j:Nat) (hj:j < l.length):∃ b off,a=some ⟨b,off,none⟩/\b < w.heap.size/\∀ i u,[sV l[j].1,exX l[j].2][i]?=some u->w.cell? ⟨b,off+j*2+i,none⟩=some u:=by
 obtain ⟨a1,cap1,he,h1,h2,h3⟩:=h
 simp only [Value.slice.injEq] at he
 obtain ⟨rfl,rfl,rfl⟩:=he
 obtain ⟨b,off,cs,ha,_,hb,hl,hr,hc⟩:=h3 j hj
 have hr:cs=[sV l[j].1,exX l[j].2]:=hr
 subst hr
 exact ⟨b,off,ha,hb,hc⟩
theorem zg0 {w4:World}{R:Nat}{a b:Value}{tmps:Array Value}(hR:Bn w4 R [a,b]) (ht:tmps.getD 2 undef=.pointer (some ⟨R,0,none⟩)):(results Tryz.f61 tmps).run Tryz.prog w4=.ok (.agg #[a,b]) w4:=by
 have ht':tmps[2]?.getD undef=.pointer (some ⟨R,0,none⟩):=by simpa using ht
 have c0:=(hR 0 _ rfl).1
 have c1:=(hR 1 _ rfl).1
 simp [results,Tryz.results61,go_sem,ht',c0,c1]
def CsC (s0:ByteArray) (v:Value):Prop:=∀ w,Calls Tryz.prog 61 #[.agg #[.string s0,v]] w fun e w'=>e=.returned (.agg #[.string s0,v])/\Below w.heap.size w w'
theorem zmN (s0:ByteArray) (hs:s0.size<=140737488351232) (h2:∀ w1,Calls Tryz.prog 59 #[.nilIface] w1 fun e w'=>e=.returned (.nilIface)/\Below w1.heap.size w1 w'):CsC s0 (.nilIface):=by
 intro w
 have h1:=fun w1=>zQ s0 w1 hs
 have hal:Below w.heap.size w ((w.alloc (.cells #[.string s0,.nilIface] 93)).alloc (.cells #[.string ⟨#[]⟩,.nilIface] 93)):=((Below.refl w.heap.size w).alloc zn2 _).alloc (by simp) _
 have hX:Bn ((w.alloc (.cells #[.string s0,.nilIface] 93)).alloc (.cells #[.string ⟨#[]⟩,.nilIface] 93)) w.heap.size [.string s0,.nilIface]:=(Bn.new w [.string s0,.nilIface] 93 _ rfl).on (zn3.alloc zn2 _)
 have hR:Bn ((w.alloc (.cells #[.string s0,.nilIface] 93)).alloc (.cells #[.string ⟨#[]⟩,.nilIface] 93)) (w.heap.size+1) [.string ⟨#[]⟩,.nilIface]:=Bn.new (w.alloc (.cells #[.string s0,.nilIface] 93)) [.string ⟨#[]⟩,.nilIface] 93 _ (by simp)
 go_enter Tryz.func61,Tryz.ntmps61
 go_upto_region 1 with fail
 generalize (w.alloc (.cells #[.string s0,.nilIface] 93)).alloc (.cells #[.string ⟨#[]⟩,.nilIface] 93)=wx at *
 have hB:Below wx.heap.size wx wx:=Below.refl _ _
 have c0:=(hX 0 _ rfl).1
 have c1:=(hX 1 _ rfl).1
 have hlt:=hX.lt
 obtain ⟨S,hS⟩:∃ S,w.heap.size=S:=⟨_,rfl⟩
 rw [hS] at c0 c1 hlt hR ⊢
 go_region_held_law (fun w'=>w'.cell? ⟨S,0,none⟩=some (.string s0)/\w'.cell? ⟨S,1,none⟩=some (.nilIface))
  (first|exact ⟨(hB.cell (p:=⟨S,0,none⟩) hlt).trans c0,(hB.cell (p:=⟨S,1,none⟩) hlt).trans c1⟩|exact ⟨za (by omega) (za (by omega) ((hB.cell (p:=⟨S,0,none⟩) hlt).trans c0)),za (by omega) (za (by omega) ((hB.cell (p:=⟨S,1,none⟩) hlt).trans c1))⟩)
  (first
   | (go_at_call 22;(with_reducible refine (h1 _).mono ?_);rintro e w1 ⟨rfl,b1⟩;(first|have hB:=Below.nxd hB b1|have hB:=Below.nx hB b1);have hR1:=hR.on hB;obtain ⟨r0,f0⟩:=hR1 0 _ rfl;obtain ⟨r1,f1⟩:=hR1 1 _ rfl)
   | (go_at_call 59;(with_reducible refine (h2 _).mono ?_);rintro e w1 ⟨rfl,b1⟩;(first|have hB:=Below.nxd hB b1|have hB:=Below.nx hB b1);have hR1:=hR.on hB;obtain ⟨r0,f0⟩:=hR1 0 _ rfl;obtain ⟨r1,f1⟩:=hR1 1 _ rfl)
   | fail)
 all_goals (
  have hR2:=(hR1.set (i:=0) (by simp) (.string s0)).set (i:=1) (by simp) (.nilIface)
  have hb2:=((hal.trans (hB.mono (by have:=hal.size;rw [hS] at this;omega))).setCell (p:=⟨S+1,0,none⟩) (by show w.heap.size<=S+1;omega) (.string s0)).setCell (p:=⟨S+1,1,none⟩) (by show w.heap.size<=S+1;omega) (.nilIface)
  go_wp2
  exact bodyPost_ret (zg0 hR2 rfl) rfl ⟨rfl,hb2⟩)
theorem zmM (s0:ByteArray) (u:TypeId) (y:Value) (hs:s0.size<=140737488351232) (h2:∀ w1,Calls Tryz.prog 59 #[.iface u y] w1 fun e w'=>e=.returned (.iface u y)/\Below w1.heap.size w1 w'):CsC s0 (.iface u y):=by
 intro w
 have h1:=fun w1=>zQ s0 w1 hs
 have hal:Below w.heap.size w ((w.alloc (.cells #[.string s0,.iface u y] 93)).alloc (.cells #[.string ⟨#[]⟩,.nilIface] 93)):=((Below.refl w.heap.size w).alloc zn2 _).alloc (by simp) _
 have hX:Bn ((w.alloc (.cells #[.string s0,.iface u y] 93)).alloc (.cells #[.string ⟨#[]⟩,.nilIface] 93)) w.heap.size [.string s0,.iface u y]:=(Bn.new w [.string s0,.iface u y] 93 _ rfl).on (zn3.alloc zn2 _)
 have hR:Bn ((w.alloc (.cells #[.string s0,.iface u y] 93)).alloc (.cells #[.string ⟨#[]⟩,.nilIface] 93)) (w.heap.size+1) [.string ⟨#[]⟩,.nilIface]:=Bn.new (w.alloc (.cells #[.string s0,.iface u y] 93)) [.string ⟨#[]⟩,.nilIface] 93 _ (by simp)
 go_enter Tryz.func61,Tryz.ntmps61
 go_upto_region 1 with fail
 generalize (w.alloc (.cells #[.string s0,.iface u y] 93)).alloc (.cells #[.string ⟨#[]⟩,.nilIface] 93)=wx at *
 have hB:Below wx.heap.size wx wx:=Below.refl _ _
 have c0:=(hX 0 _ rfl).1
 have c1:=(hX 1 _ rfl).1
 have hlt:=hX.lt
 obtain ⟨S,hS⟩:∃ S,w.heap.size=S:=⟨_,rfl⟩
 rw [hS] at c0 c1 hlt hR ⊢
 go_region_held_law (fun w'=>w'.cell? ⟨S,0,none⟩=some (.string s0)/\w'.cell? ⟨S,1,none⟩=some (.iface u y))
  (first|exact ⟨(hB.cell (p:=⟨S,0,none⟩) hlt).trans c0,(hB.cell (p:=⟨S,1,none⟩) hlt).trans c1⟩|exact ⟨za (by omega) (za (by omega) ((hB.cell (p:=⟨S,0,none⟩) hlt).trans c0)),za (by omega) (za (by omega) ((hB.cell (p:=⟨S,1,none⟩) hlt).trans c1))⟩)
  (first
   | (go_at_call 22;(with_reducible refine (h1 _).mono ?_);rintro e w1 ⟨rfl,b1⟩;(first|have hB:=Below.nxd hB b1|have hB:=Below.nx hB b1);have hR1:=hR.on hB;obtain ⟨r0,f0⟩:=hR1 0 _ rfl;obtain ⟨r1,f1⟩:=hR1 1 _ rfl)
   | (go_at_call 59;(with_reducible refine (h2 _).mono ?_);rintro e w1 ⟨rfl,b1⟩;(first|have hB:=Below.nxd hB b1|have hB:=Below.nx hB b1);have hR1:=hR.on hB;obtain ⟨r0,f0⟩:=hR1 0 _ rfl;obtain ⟨r1,f1⟩:=hR1 1 _ rfl)
   | fail)
 all_goals (
  have hR2:=(hR1.set (i:=0) (by simp) (.string s0)).set (i:=1) (by simp) (.iface u y)
  have hb2:=((hal.trans (hB.mono (by have:=hal.size;rw [hS] at this;omega))).setCell (p:=⟨S+1,0,none⟩) (by show w.heap.size<=S+1;omega) (.string s0)).setCell (p:=⟨S+1,1,none⟩) (by show w.heap.size<=S+1;omega) (.iface u y)
  go_wp2
  exact bodyPost_ret (zg0 hR2 rfl) rfl ⟨rfl,hb2⟩)
theorem zeM {s:List UInt8 × Sx}(h:zdS s) (w:World):Calls Tryz.prog 61 #[.agg #[sV s.1,exX s.2]] w fun e w'=>e=.returned (.agg #[sV s.1,exX s.2])/\Below w.heap.size w w':=by
 have hx:=znt h.2
 rcases zY s.2 with hq|⟨u,y,hq⟩
 ·rw [hq] at hx ⊢
  exact zmN _ (by show s.1.toArray.size<=_;simpa using h.1) hx w
 ·rw [hq] at hx ⊢
  exact zmM _ _ _ (by show s.1.toArray.size<=_;simpa using h.1) hx w
theorem Tryz.infoESet:(Tryz.prog.info? 93).map (fun i=>(i.zero,i.size,i.bytes))=some (some (.agg #[.string ⟨#[]⟩,.nilIface]),2,32):=by kernel_rfl
theorem zm {p:Prop}(h:p):Hid p:=h
theorem zdT {ok:Nat->Prop}{w:World}{l:List (List UInt8 × Sx)}{v:Value}(h:RdK ok w 2 (zaq ok w) l v) (hl:l.length<=100000) (hok:∀ s∈l,zdS s) :
  Calls Tryz.prog 60 #[v,.func (.func 61) #[] #[]] w fun e w'=>∃ u,e=.returned u/\RdK (fun b=>w.heap.size<=b) w' 2 (zaq (fun b=>w.heap.size<=b) w') (l) u/\Below w.heap.size w w':=by
 obtain ⟨ie,hie,hie0,hie1,hie2⟩:=info_parts Tryz.infoESet
 obtain ⟨a,cap,rfl,hlc,hcm⟩:=h.form
 unfold maxLen at hcm
 have HC:=zm h
 have HK:=zm hok
 obtain ⟨n,hn⟩:∃ n,l.length=n:=⟨_,rfl⟩
 rw [hn] at hlc hl ⊢
 have HN:Hid (l.length=n):=hn
 clear h hok hn
 have hmk:=run_make (P:=Tryz.prog) w 88 93 ie _ Tryz.underlying88 hie hie0 .i64 .i64 (n:Int) (n:Int) (by omega) (by omega) (by rw [hie2];omega) (by omega)
 rw [Int.toNat_natCast,hie1] at hmk
 have hG0:RowG (w.alloc (.cells (madeCells (.agg #[.string ⟨#[]⟩,.nilIface]:Value).cells (n*2)) 93)) w.heap.size 2 n zaq ([]:List (List UInt8 × Sx)):=RowG.made w _ 2 n _ _
 have hb0:Below w.heap.size w (w.alloc (.cells (madeCells (.agg #[.string ⟨#[]⟩,.nilIface]:Value).cells (n*2)) 93)):=zn3.alloc zn2 _
 have hs0:(w.alloc (.cells (madeCells (.agg #[.string ⟨#[]⟩,.nilIface]:Value).cells (n*2)) 93)).heap.size=w.heap.size+1:=by simp
 generalize w.alloc (.cells (madeCells (.agg #[.string ⟨#[]⟩,.nilIface]:Value).cells (n*2)) 93)=w0 at *
 go_enter Tryz.func60,Tryz.ntmps60
 go_wp2
 go_loopw [13] (fun ix wr=>∃ (i:Nat),i<=n/\ix=.int .i64 (i:Int)/\RowG wr w.heap.size 2 n zaq ((l).take i)/\Below w.heap.size w wr/\w.heap.size < wr.heap.size) (fun ix _=>n - (RowKit.intOf ix).toNat)
 case atStart=>exact ⟨0,Nat.zero_le _,rfl,hG0,hb0,by omega⟩
 case round=>
  obtain ⟨i,hi,rfl,hRow,hb,hGs⟩:=hrel
  clear hG0 hb0 hs0 hmk
  by_cases hlt:i < n
  ·have hil:i < l.length:=by rw [HN.out];exact hlt
   obtain ⟨b,off,rfl,hbl,hc⟩:=zfx HC.out i hil
   have hks:=HK.out _ (List.getElem_mem hil)
   have hcall0:=zeM hks
   obtain ⟨q,hq⟩:∃ q,l[i]=q:=⟨_,rfl⟩
   rw [hq] at hc hcall0
   have HQ:Hid (l[i]=q):=hq
   clear hq hks
   obtain ⟨s0,hs0⟩:∃ s0,sV q.1=.string s0:=⟨_,rfl⟩
   have hform:=zY q.2
   obtain ⟨tv,htv⟩:∃ tv,exX q.2=tv:=⟨_,rfl⟩
   rw [hs0,htv] at hc hcall0
   rw [htv] at hform
   have HS:Hid (sV q.1=.string s0):=hs0
   have HTV:Hid (exX q.2=tv):=htv
   clear hs0 htv
   obtain ⟨acc,hac⟩:∃ acc,(l).take i=acc:=⟨_,rfl⟩
   have hla:acc.length=i:=by rw [<- hac];simp [HN.out];omega
   rw [hac] at hRow
   have HAC:Hid ((l).take i=acc):=hac
   clear hac
   have i1:(i:Int) < (n:Int):=by omega
   have i2:(0:Int)<=(i:Int):=by omega
   have C0:=(hb.cell (p:=⟨b,off+i*2+0,none⟩) hbl).trans (hc 0 _ rfl)
   have C1:=(hb.cell (p:=⟨b,off+i*2+1,none⟩) hbl).trans (hc 1 _ rfl)
   rw [Nat.add_zero] at C0
   clear hc
   rcases hform with rfl|⟨tu,ty,rfl⟩
   ·have hal:=(Below.refl wr.heap.size wr).alloc zn2 (.cells #[.string s0,.nilIface] 93)
    have hX:=Bn.new wr [.string s0,.nilIface] 93 _ rfl
    have hRx:=hRow.on zk hGs hal
    have hbx:=hb.trans (hal.mono hb.size)
    have hGx:=zn4 hGs hal.size
    have hcall:∀ w1,Below w.heap.size w w1->Calls Tryz.prog 61 #[.agg #[.string s0,.nilIface]] w1 fun e w'=>e=.returned (.agg #[.string s0,.nilIface])/\Below w1.heap.size w1 w':=fun w1 _=>hcall0 w1
    go_upto_region 5 with fail
    clear C0 C1 hal
    generalize wr.alloc (.cells #[.string s0,.nilIface] 93)=wx at *
    obtain ⟨X,hXX⟩:∃ X,wr.heap.size=X:=⟨_,rfl⟩
    rw [hXX] at hX ⊢
    have HXX:Hid (wr.heap.size=X):=hXX
    clear hXX
    have x0:=(hX 0 _ rfl).1
    have x1:=(hX 1 _ rfl).1
    go_wp2_with (first
     | (go_at_call 61;refine (hcall _ hbx).mono ?_;rintro e w1 ⟨rfl,b1⟩;have hp:zaq (fun b=>w.heap.size < b) w1 q [.string s0,.nilIface]:=(by show _=_;rw [HS.out,HTV.out]);have hR1:=hRx.on zk hGx b1;obtain ⟨⟨r0,q0⟩,z0⟩:=hR1.1 (i*2+0) (zM hlt (by omega));obtain ⟨⟨r1,q1⟩,z1⟩:=hR1.1 (i*2+1) (zM hlt (by omega));rw [Nat.add_zero] at q0 z0)
     | fail)
    have hP:=hR1.put zk (x:=q) (cs:=[.string s0,.nilIface]) (by rw [hla];exact hlt) rfl hp
    rw [hla] at hP
    have hb2:=zx [.string s0,.nilIface] w1 w.heap.size (i*2) (hbx.trans (b1.mono (Nat.le_of_lt hGx))) zn2
    have hs2:w.heap.size < (zV w1 w.heap.size (i*2) [.string s0,.nilIface]).heap.size:=by rw [za7];exact zn4 hGx b1.size
    have hac2:(l).take (i+1)=acc++[q]:=by
     rw [List.take_succ_eq_append_getElem (by simp [HN.out];omega),HAC.out]
     simp [HQ.out]
    clear x0 r0 q0 z0 x1 r1 q1 z1 hR1 hRx hp
    go_wp2
    go_roundw
    case rel=>exact ⟨i+1,hlt,by go_num,by rw [hac2];exact hP,hb2,hs2⟩
    case measure=>simp [RowKit.intOf];omega
   ·have hal:=(Below.refl wr.heap.size wr).alloc zn2 (.cells #[.string s0,.iface tu ty] 93)
    have hX:=Bn.new wr [.string s0,.iface tu ty] 93 _ rfl
    have hRx:=hRow.on zk hGs hal
    have hbx:=hb.trans (hal.mono hb.size)
    have hGx:=zn4 hGs hal.size
    have hcall:∀ w1,Below w.heap.size w w1->Calls Tryz.prog 61 #[.agg #[.string s0,.iface tu ty]] w1 fun e w'=>e=.returned (.agg #[.string s0,.iface tu ty])/\Below w1.heap.size w1 w':=fun w1 _=>hcall0 w1
    go_upto_region 5 with fail
    clear C0 C1 hal
    generalize wr.alloc (.cells #[.string s0,.iface tu ty] 93)=wx at *
    obtain ⟨X,hXX⟩:∃ X,wr.heap.size=X:=⟨_,rfl⟩
    rw [hXX] at hX ⊢
    have HXX:Hid (wr.heap.size=X):=hXX
    clear hXX
    have x0:=(hX 0 _ rfl).1
    have x1:=(hX 1 _ rfl).1
    go_wp2_with (first
     | (go_at_call 61;refine (hcall _ hbx).mono ?_;rintro e w1 ⟨rfl,b1⟩;have hp:zaq (fun b=>w.heap.size < b) w1 q [.string s0,.iface tu ty]:=(by show _=_;rw [HS.out,HTV.out]);have hR1:=hRx.on zk hGx b1;obtain ⟨⟨r0,q0⟩,z0⟩:=hR1.1 (i*2+0) (zM hlt (by omega));obtain ⟨⟨r1,q1⟩,z1⟩:=hR1.1 (i*2+1) (zM hlt (by omega));rw [Nat.add_zero] at q0 z0)
     | fail)
    have hP:=hR1.put zk (x:=q) (cs:=[.string s0,.iface tu ty]) (by rw [hla];exact hlt) rfl hp
    rw [hla] at hP
    have hb2:=zx [.string s0,.iface tu ty] w1 w.heap.size (i*2) (hbx.trans (b1.mono (Nat.le_of_lt hGx))) zn2
    have hs2:w.heap.size < (zV w1 w.heap.size (i*2) [.string s0,.iface tu ty]).heap.size:=by rw [za7];exact zn4 hGx b1.size
    have hac2:(l).take (i+1)=acc++[q]:=by
     rw [List.take_succ_eq_append_getElem (by simp [HN.out];omega),HAC.out]
     simp [HQ.out]
    clear x0 r0 q0 z0 x1 r1 q1 z1 hR1 hRx hp
    go_wp2
    go_roundw
    case rel=>exact ⟨i+1,hlt,by go_num,by rw [hac2];exact hP,hb2,hs2⟩
    case measure=>simp [RowKit.intOf];omega
  ·have i1:¬ (i:Int) < (n:Int):=by omega
   have hin:i=n:=by omega
   have hfull:(l).take i=l:=List.take_of_length_le (by simp [HN.out];omega)
   rw [hfull] at hRow
   have hrd:=hRow.rd zk hGs (by simp [HN.out]) (by unfold maxLen;omega)
   go_wp2
   go_ret
   exact ⟨_,rfl,hrd,hb⟩
end Go.Proofs.YtlkdaldfklaicaaGreatDoor
namespace Go.Proofs.YtlkdaldfklaicaaGreatDoor
open Go.RowKit Go.Lib
set_option linter.unusedSimpArgs false
set_option linter.unusedVariables false
attribute [local go_sem ↓] Go.wp_at_zero Go.wp_at_succ
attribute [local go_sem] zcl zcb zbI zcc zbN zbF zcj zbx zbK zbz zcm zbM zbL zbE zbA
def KidsN (lo:Nat) (w:World) (v:Value) (l:List Value):Prop:=Kids w v l/\∀ g,v.ownBlock=some g->lo<=g
theorem zhl (lo:Nat) (w:World):KidsN lo w (.slice none 0 0) []:=⟨zia w,fun g hg=>by cases hg⟩
theorem zfK {lo:Nat}{w:World}{g:Nat}{x:Value}(hl:lo<=g) (h:w.cell? ⟨g,0,none⟩=some x):KidsN lo w (.slice (some ⟨g,0,none⟩) 1 1) [x]:=⟨zgp h,fun g' hg=>by simp [Value.ownBlock] at hg;omega⟩
theorem zfF {lo:Nat}{w:World}{g:Nat}{x y:Value}(hl:lo<=g) (h:w.cell? ⟨g,0,none⟩=some x) (h':w.cell? ⟨g,1,none⟩=some y):KidsN lo w (.slice (some ⟨g,0,none⟩) 2 2) [x,y]:=⟨zf3 h h',fun g' hg=>by simp [Value.ownBlock] at hg;omega⟩
theorem zlj (w:World):Calls Tryz.prog 73 #[.nilIface] w fun e w'=>∃ sl,e=.returned (zaD 0 0 ⟨#[]⟩ sl)/\KidsN w.heap.size w' sl []/\Below w.heap.size w w':=by
 go_enter Tryz.func73,Tryz.ntmps73
 go_wp2
 refine bodyPost_ret (v:=zaD 0 0 ⟨#[]⟩ (.slice none 0 0)) (by simp [results,Tryz.results73,go_sem]) rfl ⟨_,rfl,zhl _ _,?_⟩
 ·(repeat (refine Below.alloc ?_ (by simp<;>omega) _));exact Below.refl _ _
theorem zla (n:Int) (w:World):Calls Tryz.prog 73 #[.iface 117 (.agg #[.int .i64 n])] w fun e w'=>∃ sl,e=.returned (zaD 1 n ⟨#[]⟩ sl)/\KidsN w.heap.size w' sl []/\Below w.heap.size w w':=by
 go_enter Tryz.func73,Tryz.ntmps73
 go_wp2
 refine bodyPost_ret (v:=zaD 1 n ⟨#[]⟩ (.slice none 0 0)) (by simp [results,Tryz.results73,go_sem]) rfl ⟨_,rfl,zhl _ _,?_⟩
 ·(repeat (refine Below.alloc ?_ (by simp<;>omega) _));exact Below.refl _ _
theorem zlc (s:ByteArray) (w:World):Calls Tryz.prog 73 #[.iface 119 (.agg #[.string s])] w fun e w'=>∃ sl,e=.returned (zaD 2 0 s sl)/\KidsN w.heap.size w' sl []/\Below w.heap.size w w':=by
 go_enter Tryz.func73,Tryz.ntmps73
 go_wp2
 refine bodyPost_ret (v:=zaD 2 0 s (.slice none 0 0)) (by simp [results,Tryz.results73,go_sem]) rfl ⟨_,rfl,zhl _ _,?_⟩
 ·(repeat (refine Below.alloc ?_ (by simp<;>omega) _));exact Below.refl _ _
theorem zkf (x:Value) (hx:Ifc x) (w:World):Calls Tryz.prog 73 #[.iface 121 (.agg #[x])] w fun e w'=>∃ sl,e=.returned (zaD 3 0 ⟨#[]⟩ sl)/\KidsN w.heap.size w' sl [x]/\Below w.heap.size w w':=by
 rcases hx with rfl|⟨u,y,rfl⟩
 ·go_enter Tryz.func73,Tryz.ntmps73
  go_wp2
  refine bodyPost_ret (v:=zaD 3 0 ⟨#[]⟩ (.slice (some ⟨w.heap.size+4,0,none⟩) 1 1)) (by simp [results,Tryz.results73,go_sem]) rfl ⟨_,rfl,zfK ?_ ?_,?_⟩
  ·simp
  ·exact zG _ _ _ _ (by simp)
  ·(repeat (refine Below.alloc ?_ (by simp<;>omega) _));exact Below.refl _ _
 ·go_enter Tryz.func73,Tryz.ntmps73
  go_wp2
  refine bodyPost_ret (v:=zaD 3 0 ⟨#[]⟩ (.slice (some ⟨w.heap.size+4,0,none⟩) 1 1)) (by simp [results,Tryz.results73,go_sem]) rfl ⟨_,rfl,zfK ?_ ?_,?_⟩
  ·simp
  ·exact zG _ _ _ _ (by simp)
  ·(repeat (refine Below.alloc ?_ (by simp<;>omega) _));exact Below.refl _ _
theorem zks (x:Value) (hx:Ifc x) (w:World):Calls Tryz.prog 73 #[.iface 122 (.agg #[x])] w fun e w'=>∃ sl,e=.returned (zaD 4 0 ⟨#[]⟩ sl)/\KidsN w.heap.size w' sl [x]/\Below w.heap.size w w':=by
 rcases hx with rfl|⟨u,y,rfl⟩
 ·go_enter Tryz.func73,Tryz.ntmps73
  go_wp2
  refine bodyPost_ret (v:=zaD 4 0 ⟨#[]⟩ (.slice (some ⟨w.heap.size+5,0,none⟩) 1 1)) (by simp [results,Tryz.results73,go_sem]) rfl ⟨_,rfl,zfK ?_ ?_,?_⟩
  ·simp
  ·exact zG _ _ _ _ (by simp)
  ·(repeat (refine Below.alloc ?_ (by simp<;>omega) _));exact Below.refl _ _
 ·go_enter Tryz.func73,Tryz.ntmps73
  go_wp2
  refine bodyPost_ret (v:=zaD 4 0 ⟨#[]⟩ (.slice (some ⟨w.heap.size+5,0,none⟩) 1 1)) (by simp [results,Tryz.results73,go_sem]) rfl ⟨_,rfl,zfK ?_ ?_,?_⟩
  ·simp
  ·exact zG _ _ _ _ (by simp)
  ·(repeat (refine Below.alloc ?_ (by simp<;>omega) _));exact Below.refl _ _
theorem zjL (s:ByteArray) (x x':Value) (hx:Ifc x) (hx':Ifc x') (w:World):Calls Tryz.prog 73 #[.iface 124 (.agg #[.string s,x,x'])] w fun e w'=>∃ sl,e=.returned (zaD 5 0 s sl)/\KidsN w.heap.size w' sl [x,x']/\Below w.heap.size w w':=by
 rcases hx with rfl|⟨u,y,rfl⟩<;>rcases hx' with rfl|⟨u',y',rfl⟩
 ·go_enter Tryz.func73,Tryz.ntmps73
  go_wp2
  refine bodyPost_ret (v:=zaD 5 0 s (.slice (some ⟨w.heap.size+6,0,none⟩) 2 2)) (by simp [results,Tryz.results73,go_sem]) rfl ⟨_,rfl,zfF ?_ ?_ ?_,?_⟩
  ·simp
  ·exact (zW _ _ _ _ _ (by simp)).1
  ·exact (zW _ _ _ _ _ (by simp)).2
  ·(repeat (refine Below.alloc ?_ (by simp<;>omega) _));exact Below.refl _ _
 ·go_enter Tryz.func73,Tryz.ntmps73
  go_wp2
  refine bodyPost_ret (v:=zaD 5 0 s (.slice (some ⟨w.heap.size+6,0,none⟩) 2 2)) (by simp [results,Tryz.results73,go_sem]) rfl ⟨_,rfl,zfF ?_ ?_ ?_,?_⟩
  ·simp
  ·exact (zW _ _ _ _ _ (by simp)).1
  ·exact (zW _ _ _ _ _ (by simp)).2
  ·(repeat (refine Below.alloc ?_ (by simp<;>omega) _));exact Below.refl _ _
 ·go_enter Tryz.func73,Tryz.ntmps73
  go_wp2
  refine bodyPost_ret (v:=zaD 5 0 s (.slice (some ⟨w.heap.size+6,0,none⟩) 2 2)) (by simp [results,Tryz.results73,go_sem]) rfl ⟨_,rfl,zfF ?_ ?_ ?_,?_⟩
  ·simp
  ·exact (zW _ _ _ _ _ (by simp)).1
  ·exact (zW _ _ _ _ _ (by simp)).2
  ·(repeat (refine Below.alloc ?_ (by simp<;>omega) _));exact Below.refl _ _
 ·go_enter Tryz.func73,Tryz.ntmps73
  go_wp2
  refine bodyPost_ret (v:=zaD 5 0 s (.slice (some ⟨w.heap.size+6,0,none⟩) 2 2)) (by simp [results,Tryz.results73,go_sem]) rfl ⟨_,rfl,zfF ?_ ?_ ?_,?_⟩
  ·simp
  ·exact (zW _ _ _ _ _ (by simp)).1
  ·exact (zW _ _ _ _ _ (by simp)).2
  ·(repeat (refine Below.alloc ?_ (by simp<;>omega) _));exact Below.refl _ _
theorem zbh {d:Nat}{t:T (d+1)}(hc:Cl (d+1) t):∃ k n s ps,t=mkT k n s ps/\∀ w,Calls Tryz.prog 73 #[exV (d+1) t] w fun e w'=>∃ sl,e=.returned (.agg #[.int .i64 k,.int .i64 n,.string s,sl])/\KidsN w.heap.size w' sl (ps.map (exV d))/\Below w.heap.size w w':=by
 rcases hc.cases with ⟨n,rfl⟩|⟨s,rfl⟩|⟨k,p,hk,rfl,hp⟩|⟨s,p,q,rfl,hp,hq⟩|rfl
 ·exact ⟨1,n,_,[],rfl,fun w=>zla n w⟩
 ·exact ⟨2,0,s,[],rfl,fun w=>zlc s w⟩
 ·rcases hk with rfl|rfl
  ·exact ⟨3,0,_,[p],rfl,fun w=>zkf (exV d p) (zch p) w⟩
  ·exact ⟨4,0,_,[p],rfl,fun w=>zks (exV d p) (zch p) w⟩
 ·exact ⟨5,0,s,[p,q],rfl,fun w=>zjL s (exV d p) (exV d q) (zch p) (zch q) w⟩
 ·exact ⟨0,0,_,[],rfl,fun w=>zlj w⟩
