import Derived.Test.YtppefcdkgejfbaaGreatDoorXac06
import Derived.Test.YtppefcdkgejfbaaGreatDoorXac02
import Derived.Shelf.Abstract
import Derived.Shelf.RegionOpen
import Derived.WalkKit
import Derived.OwnWalkIn
import Derived.TacticsInMore
import Derived.LoopNIn
import Derived.LoopIn
import Derived.Sort.LoopGhostIn
import Derived.Maps.OwnIn
import Derived.WalkSmall
import Derived.OrdersIn
import Derived.OrdersHeld
import Derived.Deep.RegionHeldLaw
import Derived.TacticsIn
import Derived.Test.YtppefcdkgejfbaaGreatDoorXac04
import Derived.Test.YtppefcdkgejfbaaGreatDoorXac01
import Derived.Test.YtppefcdkgejfbaaGreatDoorXac05
import Derived.Deep.RegionLaw
import Derived.Deep.LoopGhost
import Derived.Deep.DeepCutAuto
set_option maxRecDepth 100000
set_option maxHeartbeats 32000000
namespace Go.Proofs.YtppefcdkgejfbaaGreatDoor
open Go.RowKit Go.Lib Go.Shelf
set_option linter.unusedSimpArgs false
set_option linter.unusedVariables false
attribute [local go_sem] Oper.semAt_some
def encS (x:Fx3):Array Value:=#[.int .i64 (x.1:Int),.agg x.2.2.toArray]
theorem Tryz.infoStk:(Tryz.prog.info? 40).map (fun i=>(i.zero,i.size,i.bytes))=some (some (.slice none 0 0),1,24):=by kernel_rfl
def stkV (st:List Ent):List Value:=st.reverse.map (fun e=>e.2.2)
theorem states_in (F:Fence) (n:Nat) (hf:F.fn 35) (hro:F.round=none) (a b c e f g:Value) (w:World) :
  CallsIn F n Tryz.prog 35 #[.agg #[a,b,c,e,f,g]] w fun r w'=>r=.returned (.func (.func 56) #[] #[.pointer (some ⟨w.heap.size,0,none⟩)])/\w'=w.alloc (.cells #[a,b,c,e,f,g] 42):=by
 refine callsIn_of_wp Tryz.func35 rfl hf ?_ hro
 simp only [Tryz.ntmps35,List.size_toArray,List.length_cons,List.length_nil,Nat.reduceAdd,Nat.reduceSub,Array.replicate_succ,Array.replicate_zero,List.push_toArray,List.append_toArray,List.nil_append,List.cons_append]
 gi_wp2
 go_ret
 exact ⟨rfl,rfl⟩
theorem states1_in (F:Fence) (n:Nat) (hf:F.fn 56) (hro:F.round=none) (hn:1<=n) (l X m d:Nat) (ls:List (St d)) (sv:Value) (xs:List Fx3) (J Jx:List Fx3->(Nat->Prop)->World->Prop) (ok:Nat->Prop) (o:Nat->Prop) (W:World)
  (hJl:∀ s o A,J s o A->∀ k,o k->k < A.heap.size/\m<=k) (hJ:Stb m J) (hJx:Stb m Jx)
  (hY:∀ pre x rest o W1,xs=pre++x :: rest->J pre o W1->YieldAt F (n - 1) Tryz.prog l (encS x) W1 fun e W'=>
   (e=.returned (.bool true)/\∃ o',J (pre++[x]) o' W'/\Fp m o o' W1 W')∨(e=.returned (.bool false)/\∃ o',Jx (pre++[x]) o' W'))
  (hX:W.cell? ⟨X,5,none⟩=some sv) (hok:∀ b,ok b->b < m) (hm:m<=W.heap.size) (hrd:RdK ok W 11 (rSt d ok W) ls sv) (hxs:xs=flX W d 0 ls sv) (hlen:xs.length<=1000000) (h0:J [] o W) :
  CallsIn F n Tryz.prog 56 (#[.func (.yield l) #[] #[],.pointer (some ⟨X,0,none⟩)]) W fun e W'=>(∃ v,e=.returned v)/\((∃ o,J xs o W')∨(∃ pre o,pre <+: xs/\Jx pre o W')):=by
 obtain ⟨i0,hi,hz0,hz1,hz2⟩:=info_parts Tryz.infoStk
 obtain ⟨sa,scap,rfl,hsc,hscm⟩:=hrd.form
 have HR:=hidOf hrd
 have HX:=hidOf hxs
 clear hrd hxs
 refine callsIn_of_wp Tryz.func56 rfl hf ?_ hro
 simp only [Tryz.ntmps56,List.size_toArray,List.length_cons,List.length_nil,Nat.reduceAdd,Nat.reduceSub,Array.replicate_succ,Array.replicate_zero,List.push_toArray,List.append_toArray,List.nil_append,List.cons_append]
 have bW:Below W.heap.size W (W.alloc (.cells #[.slice sa ls.length scap] 40)):=(Below.refl _ _).alloc Nat.le.refl _
 have c0:J [] o (W.alloc (.cells #[.slice sa ls.length scap] 40)):=hJ _ _ _ _ h0 (Sm.alloc _ _ _)
 have r0:(W.alloc (.cells #[.slice sa ls.length scap] 40)).ownsRow W.heap.size 40 1 (.slice (some ⟨W.heap.size,0,none⟩) 1 1) 1 (stkV [⟨d,ls,.slice sa ls.length scap⟩]):=World.ownsRow_lit W #[.slice sa ls.length scap] 1 Nat.le.refl (by simp [maxLen]) rfl
 gi_wp2
 obtain ⟨w0,hw0⟩:∃ w0,W.alloc (.cells #[.slice sa ls.length scap] 40)=w0:=⟨_,rfl⟩
 have hg0:W.heap.size < w0.heap.size:=by rw [<- hw0];simp
 rw [hw0] at bW c0 r0 ⊢
 clear hw0
 have hno:¬ o W.heap.size:=fun h=>by have:=(hJl _ _ _ h0 _ h).1;omega
 gi_loopg [3] (2*xs.length+1) (fun gk lv wr=>∃ (pre rest:List Fx3) (o:Nat->Prop) (st:List Ent) (g cap:Nat),xs=pre++rest/\Hid (rest=remT W st)/\(∀ e∈st,EntOk ok W e)/\lv=.slice (some ⟨g,0,none⟩) st.length cap/\wr.ownsRow W.heap.size 40 1 (.slice (some ⟨g,0,none⟩) st.length cap) st.length (stkV st)/\J pre o wr/\¬ o g/\Below m W wr/\W.heap.size<=wr.heap.size/\st.length<=pre.length+1/\gk=2*rest.length+st.length)
 case atStart=>exact ⟨[],xs,o,[⟨d,ls,.slice sa ls.length scap⟩],W.heap.size,1,rfl,by rw [HX.out];simp [Hid,remT],fun e he=>by simp at he;subst he;exact HR.out,rfl,r0,c0,hno,bW.mono hm,bW.size,by simp,by simp⟩
 case round=>
  obtain ⟨pre,rest,o,st,g,cap,hxs,HS,hst,rfl,hown,hj,hng,hB,hsz,hlen2,hgk⟩:=hrel
  have hlt:=World.ownsRow.lt hown g rfl
  have HG:=hidOf hgk
  have HXS:=hidOf hxs
  clear hgk hxs
  cases st with
  | nil=>
   have hr:rest=[]:=by rw [HS.out];rfl
   simp only [List.length_nil]
   gi_wp2
   go_end0
   refine ⟨⟨_,rfl⟩,.inl ⟨o,?_⟩⟩
   rw [HXS.out,hr,List.append_nil]
   exact hj
  | cons e r=>
   obtain ⟨ed,el,ev⟩:=e
   have hE:RdK ok W 11 (rSt ed ok W) el ev:=hst _ List.mem_cons_self
   have hst':∀ e∈r,EntOk ok W e:=fun e he=>hst e (List.mem_cons_of_mem _ he)
   obtain ⟨ea,ecap,rfl,hec,hecm⟩:=hE.form
   simp only [List.length_cons] at hown hlen2 HG ⊢
   obtain ⟨k,hk⟩:∃ k,r.length=k:=⟨_,rfl⟩
   have hs1:stkV (⟨ed,el,.slice ea el.length ecap⟩ :: r)=stkV r++[.slice ea el.length ecap]:=by simp [stkV]
   have hsl:(stkV r).length=k:=by simp [stkV,hk]
   rw [hs1,hk] at hown
   rw [hk] at hlen2
   have hcap:k+1<=cap/\cap<=maxLen:=by
    rcases hown.2 with ⟨h,_⟩|⟨g',cap',cur,h1,_,_,h3,h4,_⟩
    ·cases h
    ·simp only [Value.slice.injEq,Option.some.injEq,Addr.mk.injEq,and_true,true_and] at h1
     obtain ⟨_,rfl⟩:=h1
     exact ⟨h3,h4⟩
   obtain ⟨hcap1,hcap2⟩:=hcap
   unfold maxLen at hcap2 hecm
   have hck:wr.cell? ⟨g,k,none⟩=some (.slice ea el.length ecap):=by
    have:=World.ownsRow.cells hown (g:=g) rfl k (.slice ea el.length ecap) (by simp [hsl])
    rwa [add_plain,Nat.zero_add] at this
   have hpop:=ownsRow_pop (by rw [hsl,Nat.mul_one]) hown
   rw [hk]
   have w1:IntKind.i64.wrap (((k+1:Nat):Int) - 1)=(k:Int):=by rw [wrap_small]<;>omega
   have w2:IntKind.i64.wrap ((k:Int)+1 - 1)=(k:Int):=by rw [wrap_small]<;>omega
   cases el with
   | nil=>
    simp only [List.length_nil] at hck ⊢
    gi_wp2
    gi_roundg (2*rest.length+k)
    case measure=>rw [HG.out,hk];omega
    case rel=>
     exact ⟨pre,rest,o,r,g,cap,HXS.out,by have:=HS.out;rw [remT_nil] at this;exact this,hst',by rw [hk],by rw [hk];exact hpop,hj,hng,hB,hsz,by omega,by rw [hk]⟩
   | cons t el=>
    cases ed with
    | zero=>exact Empty.elim t
    | succ ed=>
     obtain ⟨b,off,cap',hv,h1,h2,hob,hb,⟨so,si,hcs,hso,hsi⟩,hcells,htail⟩:=rdK_head hE
     simp only [List.length_cons,Value.slice.injEq,true_and] at hv
     obtain ⟨rfl,rfl⟩:=hv
     simp only [List.length_cons] at hck hec ⊢
     have hbm:=hok b hob
     have hcc:∀ j u,(hdV t.1 so si)[j]?=some u->wr.cell? ⟨b,off+j,none⟩=some u:=fun j u hu=>(hB.cell (p:=⟨b,off+j,none⟩) hbm).trans (hcells j u (by rw [hcs];exact hu))
     have q0:=hcc 0 _ rfl
     have q1:=hcc 1 _ rfl
     have q2:=hcc 2 _ rfl
     have q3:=hcc 3 _ rfl
     have q4:=hcc 4 _ rfl
     have q5:=hcc 5 _ rfl
     have q6:=hcc 6 _ rfl
     have q7:=hcc 7 _ rfl
     have q8:=hcc 8 _ rfl
     have q9:=hcc 9 _ rfl
     have q10:=hcc 10 _ rfl
     clear hcc
     rw [Nat.add_zero] at q0
     obtain ⟨siA,siC,rfl,hsi1,hsi2⟩:=hsi.form
     obtain ⟨x,hx⟩:∃ x:Fx3,(k,(⟨ed+1,t⟩:SgS),hdV t.1 so (.slice siA t.2.length siC))=x:=⟨_,rfl⟩
     have HS2:∀ a',(el≠[]->a'=some ⟨b,off+11,none⟩)->Hid (rest=x :: remT W (⟨ed,t.2,.slice siA t.2.length siC⟩ :: ⟨ed+1,el,.slice a' el.length (ecap - 1)⟩ :: r)):=fun a' ha'=>by
      have h:=HS.out
      rw [List.length_cons,remT_cons (ok:=ok) (a':=a') (n':=el.length) (c':=ecap - 1) r ha',hcs,hk] at h
      rw [<- hx]
      exact h
     obtain ⟨rest',hrest'⟩:∃ rest',rest=x :: rest':=⟨_,(HS2 (some ⟨b,off+11,none⟩) (fun _=>rfl)).out⟩
     obtain ⟨fn,tmps,assign,body,hy,hR⟩:=hY pre x rest' o wr (by rw [HXS.out,hrest']) hj
     have hex:encS x=#[.int .i64 (k:Int),.agg (hdV t.1 so (.slice siA t.2.length siC)).toArray]:=by rw [<- hx];rfl
     rw [hex] at hy
     unfold hdV at hy
     have hgm:m<=g:=by omega
     gi_wp2
     refine hR.mono ?_
     rintro e W3 (⟨rfl,o',hj3,hf3⟩|⟨rfl,o',hjx3⟩)
     ·have hg3:W3.heap[g]?=wr.heap[g]?:=hf3.1.block g hlt.2 (.inr hng)
      have hng3:¬ o' g:=fun h=>by rcases hf3.2 g h with h|h;exact hng h;omega
      have hB3:Below m W W3:=hB.trans (hf3.1.below (by omega) (fun i hi=>.inl hi))
      have hown3:=ownsRow_keep hown (w':=W3) (fun g' e=>by cases e;exact hg3)
      have hck3:W3.cell? ⟨g,k,none⟩=some (.slice (some ⟨b,off,none⟩) (el.length+1) ecap):=(World.cell?_of_block (a:=⟨g,k,none⟩) hg3).trans hck
      have hfz3:=World.ownsRow.frozenAt hown3 k
      obtain ⟨a1,ha1⟩:∃ a1:Option Addr,(if ecap=1 then some (⟨b,off,none⟩:Addr) else some ⟨b,off+11,none⟩)=a1:=⟨_,rfl⟩
      have ha2:el≠[]->a1=some ⟨b,off+11,none⟩:=fun h=>by
       rw [<- ha1,if_neg]
       have:0 < el.length:=List.length_pos_iff.2 h
       omega
      have hst4:=World.ownsRow.stored hown3 k (.slice a1 el.length (ecap - 1))
      have e4:(stkV r++[Value.slice (some ⟨b,off,none⟩) (el.length+1) ecap]).set k (.slice a1 el.length (ecap - 1))=stkV r++[.slice a1 el.length (ecap - 1)]:=by
       rw [<- hsl];simp
      rw [List.length_cons,e4] at hst4
      obtain ⟨hown4,hg4⟩:=hst4
      have c10:W3.cell? ⟨b,off+10,none⟩=some (.slice siA t.2.length siC):=(hB3.cell (p:=⟨b,off+10,none⟩) hbm).trans (by rw [<- hB.cell (p:=⟨b,off+10,none⟩) hbm];exact q10)
      have c10':(W3.setCell ⟨g,k,none⟩ (.slice a1 el.length (ecap - 1))).cell? ⟨b,off+10,none⟩=some (.slice siA t.2.length siC):=hg4.cell c10 (by simp;omega)
      have hsz3:W.heap.size<=W3.heap.size:=Nat.le_trans hsz hf3.1.size
      clear q0 q1 q2 q3 q4 q5 q6 q7 q8 q9 q10
      have hpl:pre.length+1<=1000000:=by
       have:=congrArg List.length HXS.out
       rw [hrest'] at this
       simp at this
       omega
      have hs4:(W3.setCell ⟨g,k,none⟩ (.slice a1 el.length (ecap - 1))).heap.size=W3.heap.size:=by simp [World.setCell]
      have hsrc:∀ j u,[Value.slice siA t.2.length siC][j]?=some u->((W3.setCell ⟨g,k,none⟩ (.slice a1 el.length (ecap - 1))).alloc (.cells #[.slice siA t.2.length siC] 40)).cell? ((⟨W3.heap.size,0,none⟩:Addr).add j)=some u:=by
       rw [<- hs4]
       exact cell_one_new _ _ _
      have hkm:k+1+1<=maxLen:=by unfold maxLen;omega
      have hba:W.heap.size<=((W3.setCell ⟨g,k,none⟩ (.slice a1 el.length (ecap - 1))).alloc (.cells #[.slice siA t.2.length siC] 40)).heap.size:=by simp;omega
      gi_wp2_with (gi_at_builtin;refine wpListIn_append_own_at _ rfl _ _ 150 rfl W.heap.size 40 i0 (.slice none 0 0) 1 24 Tryz.underlying150 hi hz0 hz1 hz2 rfl (by decide) _ _ _ rfl (hown4.alloc _) ⟨W3.heap.size,0,none⟩ 1 1 [.slice siA t.2.length siC] rfl rfl hsrc (by simp [Value.oneCell']) hkm (by omega) hba ?_;intro v' w5 hown5 hg5 hnil5 hat5)
      obtain ⟨g5,cap5,rfl⟩:=ownsRow_succ hown5
      have hg5':((W3.setCell ⟨g,k,none⟩ (.slice a1 el.length (ecap - 1))).alloc (.cells #[.slice siA t.2.length siC] 40)).grownBy w5 (some g):=hg5
      have hat:g5=g∨g5=W3.heap.size+1:=by
       rcases hat5 with h|h
       ·left
        have h':some g5=some g:=h
        exact Option.some.inj h'
       ·right
        have h':some g5=some ((W3.setCell ⟨g,k,none⟩ (.slice a1 el.length (ecap - 1))).alloc (.cells #[.slice siA t.2.length siC] 40)).heap.size:=h
        rw [Option.some.inj h',World.size_alloc,hs4]
      have hown5':w5.ownsRow W.heap.size 40 1 (.slice (some ⟨g5,0,none⟩) (k+1+1) cap5) (k+1+1) (stkV r++[.slice a1 el.length (ecap - 1)]++[.slice siA t.2.length siC]):=hown5
      clear hown5 hg5 hnil5 hat5
      have hsm:∀ K:Nat->Prop,¬ K g->Sm K W3 w5:=fun K hK=>((Sm.setCell K W3 ⟨g,k,none⟩ (.slice a1 el.length (ecap - 1)) hK).trans (Sm.alloc K _ _) (fun _ _ h=>h)).trans (Sm.of_grown (K:=K) hg5' (fun i _ hi e=>hK (by cases e;exact hi))) (fun _ _ h=>h)
      have hj5:J (pre++[x]) o' w5:=hJ _ _ _ _ hj3 (hsm _ (fun h=>by rcases h with h|h;omega;exact hng3 h))
      have hng5:¬ o' g5:=by
       rcases hat with rfl|rfl
       ·exact hng3
       ·exact fun h=>by have:=(hJl _ _ _ hj3 _ h).1;omega
      have hB5:Below m W w5:=hB3.trans ((hsm (fun i=>i < m) (by omega)).below (by omega) (fun i hi=>hi))
      gi_roundg (2*rest'.length+(k+1+1))
      case measure=>rw [HG.out,hrest',hk];simp;omega
      case rel=>
       refine ⟨pre++[x],rest',o',⟨ed,t.2,.slice siA t.2.length siC⟩ :: ⟨ed+1,el,.slice a1 el.length (ecap - 1)⟩ :: r,g5,cap5,?_,?_,?_,?_,?_,hj5,hng5,hB5,Nat.le_trans hsz3 ((hsm (fun _=>False) (fun h=>h)).size),?_,?_⟩
       ·rw [HXS.out,hrest'];simp
       ·have h:=(HS2 a1 ha2).out
        rw [hrest'] at h
        exact (List.cons.inj h).2
       ·intro e he
        rcases List.mem_cons.1 he with rfl|he
        ·exact hsi
        ·rcases List.mem_cons.1 he with rfl|he
         ·exact htail a1 ha2
         ·exact hst' e he
       ·rw [List.length_cons,List.length_cons,hk]
       ·rw [List.length_cons,List.length_cons,hk]
        have e5:stkV (⟨ed,t.2,.slice siA t.2.length siC⟩ :: ⟨ed+1,el,.slice a1 el.length (ecap - 1)⟩ :: r)=stkV r++[.slice a1 el.length (ecap - 1)]++[.slice siA t.2.length siC]:=by simp [stkV]
        rw [e5]
        exact hown5'
       ·simp [hk];omega
       ·simp [hk]
     ·gi_wp2
      refine bodyPost_ret (results_none rfl _ _ _) rfl ?_
      exact ⟨⟨_,rfl⟩,.inr ⟨pre++[x],o',⟨rest',by rw [HXS.out,hrest'];simp⟩,hjx3⟩⟩
theorem states_owns {F:Fence}{n:Nat}(hf:F.fn 56) (hro:F.round=none) (hn:1<=n) {X m d:Nat}{ls:List (St d)}{sv:Value}{ok:Nat->Prop}{w:World}
  (hX:w.cell? ⟨X,5,none⟩=some sv) (hok:∀ b,ok b->b < m) (hm:m<=w.heap.size) (hrd:RdK ok w 11 (rSt d ok w) ls sv) (hlen:(flX w d 0 ls sv).length<=1000000) :
  SeqOwns F n Tryz.prog 56 #[.pointer (some ⟨X,0,none⟩)] encS m (flX w d 0 ls sv) w:=fun l J Jx o W hW hJl hJ hJx hY h0=>by
 have hXl:X < w.heap.size:=World.block_lt_of_cell? w _ hX
 have key:∀ (d k:Nat) (ls:List (St d)) (sv:Value),RdK ok w 11 (rSt d ok w) ls sv->flX W d k ls sv=flX w d k ls sv:=by
  intro d
  induction d with
  | zero=>intro _ _ _ _;rfl
  | succ d ih=>
   intro k ls sv h
   have k2:∀ (l:List (St (d+1))) (v:Value) (b off:Nat),RdK ok w 11 (rSt (d+1) ok w) l v->(l≠[]->vB v=b/\vO v=off)->flN W d k b (flX W d (k+1)) l off=flN w d k b (flX w d (k+1)) l off:=by
    intro l
    induction l with
    | nil=>intro v b off _ _;rfl
    | cons t r ih2=>
     intro v b off h hv
     obtain ⟨b',off',cap,rfl,_,_,_,hb,⟨so,si,e1,h1,h2⟩,hc,ht⟩:=rdK_head h
     obtain ⟨rfl,rfl⟩:=hv (by simp)
     have e2:rdc W b' off'=rdc w b' off':=by
      unfold rdc
      apply List.map_congr_left
      intro j _
      rw [hW.cell (p:=⟨b',off'+j,none⟩) hb]
     simp only [vB,vO,flN,e2]
     rw [e1]
     rw [show (hdV t.1 so si).getD 10 .nilIface=si from rfl,ih (k+1) t.2 si h2]
     rw [ih2 (.slice (some ⟨b',off'+11,none⟩) r.length (cap - 1)) b' (off'+11) (ht _ (fun _=>rfl)) (fun _=>⟨rfl,rfl⟩)]
   exact k2 ls sv _ _ h (fun _=>⟨rfl,rfl⟩)
 have e:=key d 0 ls sv hrd
 rw [<- e] at hlen hY ⊢
 exact states1_in F n hf hro hn l X m d ls sv _ J Jx ok o W hJl hJ hJx hY ((hW.cell (p:=⟨X,5,none⟩) hXl).trans hX) hok (Nat.le_trans hm hW.size) (hrd.stay (kp_st d) (fun b hb hl=>⟨hb,hW.block b hl⟩)) rfl hlen h0
end Go.Proofs.YtppefcdkgejfbaaGreatDoor
namespace Go.Proofs.YtppefcdkgejfbaaGreatDoor
open Go.RowKit
set_option linter.unusedSimpArgs false
set_option linter.unusedVariables false
theorem wpOpIn_of_plain {n l:Nat}{P:Program}{ops:Array Oper}{Q:Exit->Act->World->Prop}(hlo:¬ LetsOut Q) (hd:∀ (i:Nat) (o:Oper),ops[i]?=some o->∀ c,o.op≠.defer c)
  {i:Nat}{K K':Act->World->Prop}{a:Act}{w:World}(hK:∀ a w,K a w->K' a w) (h:wpOp P ops Q i K a w):wpOpIn (Fence.wide.inRound l) n P ops Q i K' a w:=by
 unfold wpOp at h
 unfold wpOpIn
 cases ho:ops[i]? with
 | none=>simp only [ho] at h ⊢;exact hK _ _ h
 | some o=>
  simp only [ho] at h ⊢
  split
  ·rename_i hw
   simp only [hw,if_true] at h
   rcases h with h|h
   ·refine ⟨fun _ _=>trivial,?_⟩
    rw [Oper.semAt_eq _ _ _ (hd i o ho)]
    unfold Oper.wp at h
    generalize (execOp a.eval o).run P w=r at h ⊢
    cases r with
    | ok x w'=>
     cases x with
     | value v=>exact hK _ _ h
     | skip=>exact hK _ _ h
     | defer d=>exact hK _ _ h
     | enter f args=>
      refine ⟨fun e=>by simp [Fence.wide,Fence.inRound] at e,CallsIn.inRound l (callsIn_wide.2 (Calls.mono h fun e w'' he=>?_))⟩
      cases e with
      | returned v=>exact hK _ _ he
      | panicked c=>exact he
      | outgrown=>exact he
     | row row args=>
      refine ⟨fun e=>by simp [Fence.wide,Fence.inRound] at e,fun c cs _=>?_⟩
      obtain ⟨v,w2,hv,hs⟩:=h c cs
      exact ⟨v,w2,hK _ _ hv,stepsIn_wide.2 hs⟩
     | _=>exact h.elim
    | halt x w'=>cases x<;>first|exact h|exact h.elim
   ·exact absurd h.2 hlo
  ·rename_i hw
   simp only [hw,Bool.false_eq_true,if_false] at h
   exact ⟨fun _ _=>trivial,hK _ _ h⟩
theorem wpAnyIn_of_plain {n l:Nat}{P:Program}{md:Region.Mode}{ops:Array Oper}{Q:Exit->Act->World->Prop}(hlo:¬ LetsOut Q) (hd:∀ (i:Nat) (o:Oper),ops[i]?=some o->∀ c,o.op≠.defer c) :
  ∀ (fuel:Nat) (listed:Array Bool) (a:Act) (w:World),wpAny P md ops Q fuel listed a w->wpAnyIn (Fence.wide.inRound l) n P md ops Q fuel listed a w
 | 0,_,_,_,h=>h
 | fuel+1,_,_,_,h=>⟨h.1,fun i hi=>wpOpIn_of_plain hlo hd (fun a' w' h'=>wpAnyIn_of_plain hlo hd fuel _ a' w' h') (h.2 i hi)⟩
def noDefer (ops:Array Oper):Bool:=ops.all fun o=>match o.op with
 | .defer _=>false
 | _=>true
theorem noDefer_at {ops:Array Oper}(h:noDefer ops=true) (i:Nat) (o:Oper) (hi:ops[i]?=some o) (c:Call):o.op≠.defer c:=fun e=>by
 have h2:=Array.all_eq_true.1 h i (Array.getElem?_eq_some_iff.1 hi).1
 rw [(Array.getElem?_eq_some_iff.1 hi).2,e] at h2
 cases h2
theorem wpIn_region_round {n l:Nat}{P:Program}{ops:Array Oper}{Q:Exit->Act->World->Prop}{S:World->Prop}{id:Nat}{a:Act}{w:World}(hm:P.follows .mixedOrders=true) (hd:noDefer ops=true) (hlo:¬ LetsOut Q) (hS:S w.drew)
  (h:S w.drew->wpAnyH P .any ops Q S ops.size (Array.replicate ops.size false) a w.drew):(Code.region id ops true).wpIn (Fence.wide.inRound l) n P Q a w:=
 wpIn_region_any hm (wpAnyIn_of_plain hlo (noDefer_at hd) _ _ _ _ (wpAny_of_held _ _ _ _ (h hS)))
end Go.Proofs.YtppefcdkgejfbaaGreatDoor
namespace Go.Proofs.YtppefcdkgejfbaaGreatDoor
open Go.RowKit Go.Lib
set_option linter.unusedSimpArgs false
set_option linter.unusedVariables false
attribute [local go_sem ↓] Go.wp_at_zero Go.wp_at_succ
theorem cell_al {w:World}{p:Addr}{v:Value}{O:Obj}(h:w.cell? p=some v):(w.alloc O).cell? p=some v:=(((Below.refl w.heap.size w).alloc Nat.le.refl O).cell (World.block_lt_of_cell? w _ h)).trans h
abbrev z4 (w:World) (X:Nat):Prop:=B4 w X (.int .i64 0) (.int .i64 0) (.string ⟨#[]⟩) (.slice none 0 0)
theorem cell_dr {w:World}{p:Addr}{v:Value}(h:w.cell? p=some v):w.drew.cell? p=some v:=h
theorem ne_pt {X Y i j:Nat}(h:Y≠X):¬ (X=Y/\i=j):=fun e=>h e.1.symm
abbrev O0:Obj:=.cells #[.int .i64 0,.int .i64 0,.string ⟨#[]⟩,.slice none 0 0] 158
section
variable {wr w2:World}{X Y:Nat}{a b c sl a' b' c' sl':Value}{L M:List Value}
end
