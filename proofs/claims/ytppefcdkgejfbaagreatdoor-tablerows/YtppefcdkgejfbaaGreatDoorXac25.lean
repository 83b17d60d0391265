import Derived.Test.YtppefcdkgejfbaaGreatDoorXac23
import Derived.Test.YtppefcdkgejfbaaGreatDoorXac08
import Derived.Test.YtppefcdkgejfbaaGreatDoorXac06
import Derived.Test.YtppefcdkgejfbaaGreatDoorXac01
import Derived.Test.YtppefcdkgejfbaaGreatDoorRows
import Derived.Test.YtppefcdkgejfbaaGreatDoorXac05
import Derived.Test.YtppefcdkgejfbaaGreatDoorXac03
import Derived.BigQuiet
import Derived.Deep.QuietTactic
import Derived.Test.YtppefcdkgejfbaaGreatDoorXac09
import Derived.Test.YtppefcdkgejfbaaGreatDoorXac12
import Derived.Test.YtppefcdkgejfbaaGreatDoorXac10
import Derived.Test.YtppefcdkgejfbaaGreatDoorXac19
import Derived.Test.YtppefcdkgejfbaaGreatDoorXac24
import Derived.ProofKit
import Derived.OpenShut
import Derived.ShutString
import Derived.ChangeOld
import Derived.SizedLaws
import Derived.Below
import Derived.Test.YtppefcdkgejfbaaGreatDoorXac15
import Derived.Lib.LaidU8
import Derived.Lib.LaidTab
import Derived.MakeChecks
set_option maxRecDepth 100000
set_option maxHeartbeats 32000000
namespace Go.Proofs.YtppefcdkgejfbaaGreatDoor
open Go.RowKit Go.Lib
set_option linter.unusedSimpArgs false
set_option linter.unusedVariables false
attribute [local go_sem ↓] Go.wp_at_zero Go.wp_at_succ
theorem mem_rwL {L:List Nd}{i:Nat}{ons:List OnC}{r:Rw}(h:r∈rwL L i ons):∃ (k:Nat) (hk:k < ons.length),r=rwO L i k ons[k]:=by
 obtain ⟨k,hk,rfl⟩:=List.getElem_of_mem h
 have hk':k < ons.length:=by rw [rwL_len] at hk;exact hk
 exact ⟨k,hk',by simp [rwL]⟩
theorem mem_rwsA {L:List Nd}{fl:List (Nat × SgS)}{ord:List Nat}{r:Rw}(h:r∈rwsA L fl ord):∃ (i k:Nat) (hk:k < (onsI fl i).length),i∈ord/\r=rwO L i k (onsI fl i)[k]:=by
 obtain ⟨i,hi,hr⟩:=List.mem_flatMap.1 h
 obtain ⟨k,hk,rfl⟩:=mem_rwL hr
 exact ⟨i,k,hk,hi,rfl⟩
def RwP (L:List Nd) (r s:Rw):Prop:=¬ (r.1=s.1/\r.2.1=s.2.1)/\nD L s.1<=nD L r.1
theorem rwL_pair (L:List Nd) (i:Nat) (ons:List OnC):(rwL L i ons).Pairwise (RwP L):=by
 rw [List.pairwise_iff_getElem]
 intro a b ha hb hab
 have e1:(rwL L i ons)[a]=rwO L i a (ons[a]'(by rw [rwL_len] at ha;exact ha)):=by simp [rwL]
 have e2:(rwL L i ons)[b]=rwO L i b (ons[b]'(by rw [rwL_len] at hb;exact hb)):=by simp [rwL]
 rw [e1,e2]
 refine ⟨fun h=>?_,Int.le_refl _⟩
 have:a=b:=h.2
 omega
theorem rwsA_pair {L:List Nd}{fl:List (Nat × SgS)}{ord:List Nat}(h:Dpf L ord):(rwsA L fl ord).Pairwise (RwP L):=by
 have hnd:ord.Nodup:=(List.Perm.nodup_iff h.perm).2 List.nodup_range
 unfold rwsA
 rw [List.pairwise_flatMap]
 refine ⟨fun i _=>rwL_pair L i _,?_⟩
 rw [List.pairwise_iff_getElem]
 intro a b ha hb hab x hx y hy
 obtain ⟨k,hk,rfl⟩:=mem_rwL hx
 obtain ⟨k',hk',rfl⟩:=mem_rwL hy
 refine ⟨fun e=>?_,h.deep a b ha hb hab⟩
 have e1:ord[a]=ord[b]:=e.1
 have:=(List.getElem_inj hnd).1 e1
 omega
theorem rwsA_sum (L:List Nd) (fl:List (Nat × SgS)):∀ ord:List Nat,(rwsA L fl ord).length=(ord.map (fun i=>(onsI fl i).length)).sum
 | []=>by simp [rwsA]
 | i :: ord=>by
  have h1:=rwsA_sum L fl ord
  unfold rwsA at h1 ⊢
  rw [List.flatMap_cons,List.length_append,rwL_len,List.map_cons,List.sum_cons,h1]
theorem onsI_range (fl:List (Nat × SgS)):(List.range fl.length).map (fun i=>(onsI fl i).length)=fl.map (fun x=>(onsA x.2).length):=by
 apply List.ext_getElem
 ·simp
 ·intro i h1 h2
  have hi:i < fl.length:=by simpa using h1
  simp only [List.getElem_map,List.getElem_range]
  unfold onsI
  rw [List.getElem?_eq_getElem hi]
theorem rwsA_all {L:List Nd}{fl:List (Nat × SgS)}{ord:List Nat}(h:Dpf L ord) (hL:L.length=fl.length):(rwsA L fl ord).length=(fl.map (fun x=>(onsA x.2).length)).sum:=by
 rw [rwsA_sum,<- onsI_range,<- hL]
 exact (h.perm.map _).sum_nat
theorem wi_meet {l:List Nd}(hf:fmB l=true) {i j:Nat}(hi:i < l.length) (hj:j < l.length):wiB l i (mtB l i j)=true/\wiB l j (mtB l i j)=true:=by
 obtain ⟨m1,m2,_⟩:=mtB_spec hf hi hj
 exact ⟨wiB_of hf hi m1 (fun h=>(m2 h).1),wiB_of hf hj m1 (fun h=>(m2 h).2)⟩
theorem fdF_found (l:List Nd) (s:ByteArray):∀ (f j m:Nat),j<=m->m < j+f->(nAt l m).1=s->∃ k:Nat,fdF l s f j=(k:Int)/\j<=k/\k < j+f
 | 0,j,m,h1,h2,_=>by omega
 | f+1,j,m,h1,h2,h3=>by
  unfold fdF
  by_cases h:(nAt l j).1=s
  ·rw [if_pos h]
   exact ⟨j,rfl,by omega,by omega⟩
  ·rw [if_neg h]
   have hne:j≠m:=fun e=>h (e ▸ h3)
   obtain ⟨k,a,b,c⟩:=fdF_found l s f (j+1) m (by omega) (by omega) h3
   exact ⟨k,a,by omega,by omega⟩
theorem fdB_found {l:List Nd}(hf:fmB l=true) {s:ByteArray}{m:Nat}(hm:m < l.length) (h:(nAt l m).1=s):∃ k:Nat,fdB l s=(k:Int)/\k < l.length:=by
 obtain ⟨k,a,b,c⟩:=fdF_found l s l.length 0 m (Nat.zero_le _) (by omega) h
 refine ⟨k,?_,by omega⟩
 unfold fdB
 rw [if_pos hf,a]
end Go.Proofs.YtppefcdkgejfbaaGreatDoor
namespace Go.Proofs.YtppefcdkgejfbaaGreatDoor
open Go.RowKit
set_option linter.unusedSimpArgs false
set_option linter.unusedVariables false
end Go.Proofs.YtppefcdkgejfbaaGreatDoor
namespace Go.Proofs.YtppefcdkgejfbaaGreatDoor
open Go.RowKit Go.Lib
set_option linter.unusedSimpArgs false
set_option linter.unusedVariables false
attribute [local go_sem ↓] Go.wp_at_zero Go.wp_at_succ
theorem rdV_nil (w:World):RdV w (.slice none 0 0) []:=⟨none,0,rfl,by simp,by simp [maxLen],fun _=>rfl,fun x hx=>by cases hx⟩
theorem awakeTc (w:World):Calls Tryz.prog 4 #[] w fun e w'=>e=.returned (.bool true)/\Below w.heap.size w w':=by
 have hc:=codeP_any (w:=w) (d:=1) (t:=mkT 1 5 ⟨#[]⟩ []) (vs:=[]) (.inl ⟨rfl,rfl,rfl⟩) (by decide) (by decide) (rdV_nil w) (by simp)
 have e1:cdE [] 1 (mkT 1 5 ⟨#[]⟩ [])=([(wPush,5)],0):=by kernel_rfl
 rw [e1] at hc
 have e2:exV 1 (mkT 1 5 ⟨#[]⟩ [])=.iface 67 (.agg #[.int .i64 5]):=rfl
 rw [e2] at hc
 clear e1 e2
 go_enter Tryz.func4,Tryz.ntmps4
 go_upto_region 2 with (first
  | (go_at_call 10;refine hc.mono ?_;rintro e w1 ⟨a,n,c,rfl,hO,b1⟩)
  | fail)
 obtain ⟨_,_,he,hlc,hcm⟩:=hO.form
 simp only [Value.slice.injEq] at he
 obtain ⟨rfl,rfl,rfl⟩:=he
 obtain ⟨g,rfl,hgl,c0,c1⟩:=hO.at 0 (by simp)
 simp only [List.getElem_cons_zero] at c0 c1
 unfold wPush at c0
 clear hO hc
 go_wp2
 go_ret
 exact ⟨rfl,b1⟩
theorem flA_snoc (d:Nat) (rc:Int->Nat->List (St d)->List (Int × SgS)) (p:Int) (t:St (d+1)):∀ (l:List (St (d+1))) (m:Nat),flA d rc p m (l++[t])=flA d rc p m l++((p,⟨d+1,t⟩) :: rc ((m+(flA d rc p m l).length:Nat):Int) (m+(flA d rc p m l).length+1) t.2)
 | [],m=>by simp [flA]
 | x :: r,m=>by
  have h:=flA_snoc d rc p t r (m+1+(rc m (m+1) x.2).length)
  have e:m+(flA d rc p m (x :: r)).length=m+1+(rc m (m+1) x.2).length+(flA d rc p (m+1+(rc m (m+1) x.2).length) r).length:=by
   simp only [flA,List.length_cons,List.length_append]
   omega
  rw [e]
  simp only [List.cons_append,flA,h,List.append_assoc]
theorem flP_snoc (d:Nat) (p:Int) (m:Nat) (t:St (d+1)) (l:List (St (d+1))):flP (d+1) p m (l++[t])=flP (d+1) p m l++((p,⟨d+1,t⟩) :: flP d ((m+(flP (d+1) p m l).length:Nat):Int) (m+(flP (d+1) p m l).length+1) t.2):=flA_snoc d (flP d) p t l m
theorem flM_take (d:Nat) (l:List (St (d+1))) (j:Nat):(flM (d+1) 0 (l.take j)).length<=(flM (d+1) 0 l).length:=by
 have e:flM (d+1) 0 l=flM (d+1) 0 (l.take j)++flM (d+1) 0 (l.drop j):=by
  show l.flatMap _=(l.take j).flatMap _++(l.drop j).flatMap _
  rw [<- List.flatMap_append,List.take_append_drop]
 rw [e,List.length_append]
 omega
def rSgD (ok:Nat->Prop) (W:World):SgS->List Value->Prop
 | ⟨d,t⟩,cs=>rStD d ok W t cs
def rFl (ok:Nat->Prop) (W:World) (_:Nat->Prop) (_:World) (x:Int × SgS) (cs:List Value):Prop:=∃ cs0,rSgD ok W x.2 cs0/\cs=cs0++[.int .i64 x.1]
theorem kp_fl (ok:Nat->Prop) (W:World):Kp (rFl ok W):=fun _ _ _ _ _ _ h _=>h
theorem fl_one {ok ok':Nat->Prop}{W W':World}{x:Int × SgS}{cs:List Value}(h:rFl ok W ok' W' x cs):∀ u∈cs,u.oneCell'=true:=by
 obtain ⟨p,d,t⟩:=x
 obtain ⟨cs0,h1,rfl⟩:=h
 cases d with
 | zero=>exact Empty.elim t
 | succ d=>
  obtain ⟨so,si,rfl,h2,h3⟩:=h1
  obtain ⟨a,c,rfl,_⟩:=h2.form
  obtain ⟨a',c',rfl,_⟩:=h3.form
  intro u hu
  simp only [hdD,List.mem_append,List.mem_cons,List.not_mem_nil,or_false] at hu
  rcases hu with (rfl|rfl|rfl|rfl|rfl|rfl|rfl|rfl|rfl|rfl|rfl)|rfl<;>rfl
theorem src_own {w:World}{base e k n:Nat}{tx:TypeId}{v:Value}{xs:List Value}(h:w.ownsRow base e k v n xs) (ht:Tryz.prog.underlying tx=some (.slice e)) (h1:∀ u∈xs,u.oneCell'=true):Src Tryz.prog k tx v n xs w:=by
 have hc:=fun g=>World.ownsRow.cells h (g:=g)
 have hl:=h.1
 rcases h.2 with ⟨rfl,hn⟩|⟨g,cap,cur,rfl,hb,hg,hnc,hcm,hcs,htake⟩
 ·subst hn
  have hx:xs=[]:=List.eq_nil_of_length_eq_zero (by rw [hl];simp)
  subst hx
  exact Src.ofNil w ht 0
 ·exact Src.ofSlice w ht _ n cap xs hl (hc g rfl) h1
theorem own_app {α:Type}{w:World}{base e k:Nat}{R:(Nat->Prop)->World->α->List Value->Prop}{v:Value}{l l2:List α}{qs qs2:List (List Value)}(ho:w.ownsRow base e k v (l.length+l2.length) (qs.flatten++qs2.flatten)) (h1:qs.length=l.length) (h2:qs2.length=l2.length)
  (r1:∀ (i:Nat) (h:i < l.length) (h':i < qs.length),(qs[i]).length=k/\∀ ok w,R ok w l[i] qs[i]) (r2:∀ (i:Nat) (h:i < l2.length) (h':i < qs2.length),(qs2[i]).length=k/\∀ ok w,R ok w l2[i] qs2[i]):OwnK w base e k R v (l++l2):=by
 refine ⟨qs++qs2,?_,by simp [h1,h2],fun i h h'=>?_⟩
 ·rw [List.flatten_append,List.length_append]
  exact ho
 ·by_cases hi:i < l.length
  ·rw [List.getElem_append_left (by omega),List.getElem_append_left hi]
   exact ⟨(r1 i hi (by omega)).1,(r1 i hi (by omega)).2 _ _⟩
  ·simp only [List.length_append] at h h'
   have:=r2 (i - l.length) (by omega) (by omega)
   rw [List.getElem_append_right (by omega),List.getElem_append_right (by omega)]
   simp only [h1]
   exact ⟨this.1,this.2 _ _⟩
theorem Tryz.infoFl:(Tryz.prog.info? 50).map (fun i=>(i.zero,i.size,i.bytes))=some (some (.agg #[.string ⟨#[]⟩,.int .i64 0,.int .i64 0,.bool false,.bool false,.string ⟨#[]⟩,.string ⟨#[]⟩,.int .i64 0,.int .i64 0,.slice none 0 0,.slice none 0 0,.int .i64 0]),12,144):=by kernel_rfl
theorem fl_all {ok ok':Nat->Prop}{W W':World}{l:List (Int × SgS)}{qs:List (List Value)}(h1:qs.length=l.length) (h2:∀ (i:Nat) (h:i < l.length) (h':i < qs.length),(qs[i]).length=12/\rFl ok W ok' W' l[i] qs[i]):∀ u∈qs.flatten,u.oneCell'=true:=by
 intro u hu
 obtain ⟨q,hq,hu⟩:=List.mem_flatten.1 hu
 obtain ⟨i,hi,rfl⟩:=List.getElem_of_mem hq
 exact fl_one (h2 i (by omega) hi).2 u hu
def AlC (d:Nat):Prop:=∀ (ok:Nat->Prop) (W w:World) (l:List (St d)) (v:Value) (p:Int) (m:Nat),RdK ok W 11 (rStD d ok W) l v->Below W.heap.size W w->m+(flM d 0 l).length<=100000->
 Calls Tryz.prog 19 #[v,.int .i64 p,.int .i64 (m:Int)] w fun e w'=>∃ a n c,e=.returned (.slice a n c)/\OwnK w' w.heap.size 50 12 (rFl ok W) (.slice a n c) (flP d p m l)/\Below w.heap.size w w'
theorem al_step (d:Nat) (IH:AlC d):AlC (d+1):=by
 intro ok W w l v p m h hW hbd
 obtain ⟨a,cap,rfl,hlc,hcm⟩:=h.form
 unfold maxLen at hcm
 have HC:=mkHid h
 have HSN:=mkHid (fun t j (hj:l.take (j+1)=l.take j++[t])=>by have:=flP_snoc d p m t (l.take j);rw [<- hj] at this;exact this)
 have HLE:∀ j,(flP (d+1) p m (l.take j)).length<=(flM (d+1) 0 l).length:=fun j=>by rw [flP_len (d+1) 0];exact flM_take d l j
 have HLN:Hid (∀ (q:Nat) (x:List (St d)),(flP d (q:Int) (q+1) x).length=(flM d 0 x).length):=fun q x=>flP_len d 0 _ _ _
 obtain ⟨L,hL⟩:∃ L,(flM (d+1) 0 l).length=L:=⟨_,rfl⟩
 rw [hL] at hbd
 simp only [hL] at HLE
 obtain ⟨n,hn⟩:∃ n,l.length=n:=⟨_,rfl⟩
 rw [hn] at hlc ⊢
 have HN:Hid (l.length=n):=hn
 obtain ⟨i0,hi,hz0,hz1,hz2⟩:=info_parts Tryz.infoFl
 clear h hn hL
 go_enter Tryz.func19,Tryz.ntmps19
 go_wp2
 go_loopw [7,12] (fun t ix wr=>∃ (j:Nat),j<=n/\ix=.int .i64 (j:Int)/\OwnK wr w.heap.size 50 12 (rFl ok W) t (flP (d+1) p m (l.take j))/\Below w.heap.size w wr) (fun _ ix _=>n - (RowKit.intOf ix).toNat)
 case atStart=>exact ⟨0,Nat.zero_le _,rfl,ownK_nil _ _ _ _ _,Below.refl _ _⟩
 case round=>
  obtain ⟨j,hj,rfl,hO,hb⟩:=hrel
  obtain ⟨va,vc,hv,hvl,hvm⟩:=hO.form
  obtain ⟨q,hq⟩:∃ q,(flP (d+1) p m (l.take j)).length=q:=⟨_,rfl⟩
  have hql:=HLE j
  rw [hq] at hv hvl hql
  subst hv
  by_cases hlt:j < n
  ·have hjl:j < l.length:=by rw [HN.out];exact hlt
   have hWr:Below W.heap.size W wr:=hW.trans (hb.mono hW.size)
   obtain ⟨b,off,p1,p3,p4,p6,rfl,_,hbl,hOn,hIn,hc⟩:=stD_at HC.out j hjl
   obtain ⟨t,ht⟩:∃ t,l[j]=t:=⟨_,rfl⟩
   rw [ht] at hOn hIn hc
   have hsn:=HSN.out t j (by rw [List.take_succ_eq_append_getElem hjl,ht])
   have hle2:=HLE (j+1)
   rw [hq] at hsn
   rw [hsn,List.length_append,List.length_cons,hq,HLN.out] at hle2
   have HSN2:=mkHid hsn
   have hr0:rFl ok W (fun b=>wr.heap.size<=b) wr (p,⟨d+1,t⟩) (hdD t.1 (.slice p1 t.1.2.2.2.2.length p3) (.slice p4 t.2.length p6)++[.int .i64 p]):=⟨_,⟨_,_,rfl,hOn,hIn⟩,rfl⟩
   obtain ⟨sn,sl,sc,sb,se,sd,su,sw,sr,hsv,_,_,_⟩:=hdD_let t.1
   rw [hsv] at hc hr0
   have HR0:=mkHid hr0
   have hcall:=IH ok W
   have hIn2:=mkHid hIn
   have C0:=(hWr.cell (p:=⟨b,off+j*11+0,none⟩) hbl).trans (hc 0 _ rfl)
   have C1:=(hWr.cell (p:=⟨b,off+j*11+1,none⟩) hbl).trans (hc 1 _ rfl)
   have C2:=(hWr.cell (p:=⟨b,off+j*11+2,none⟩) hbl).trans (hc 2 _ rfl)
   have C3:=(hWr.cell (p:=⟨b,off+j*11+3,none⟩) hbl).trans (hc 3 _ rfl)
   have C4:=(hWr.cell (p:=⟨b,off+j*11+4,none⟩) hbl).trans (hc 4 _ rfl)
   have C5:=(hWr.cell (p:=⟨b,off+j*11+5,none⟩) hbl).trans (hc 5 _ rfl)
   have C6:=(hWr.cell (p:=⟨b,off+j*11+6,none⟩) hbl).trans (hc 6 _ rfl)
   have C7:=(hWr.cell (p:=⟨b,off+j*11+7,none⟩) hbl).trans (hc 7 _ rfl)
   have C8:=(hWr.cell (p:=⟨b,off+j*11+8,none⟩) hbl).trans (hc 8 _ rfl)
   have C9:=(hWr.cell (p:=⟨b,off+j*11+9,none⟩) hbl).trans (hc 9 _ rfl)
   have C10:=(hWr.cell (p:=⟨b,off+j*11+10,none⟩) hbl).trans (hc 10 _ rfl)
   rw [Nat.add_zero] at C0
   have HCX:Hid (W.cell? ⟨b,off+j*11+10,none⟩=some (.slice p4 t.2.length p6)):=hc 10 _ rfl
   obtain ⟨z,hz⟩:∃ z,t.2.length=z:=⟨_,rfl⟩
   obtain ⟨y,hy⟩:∃ y,t.1.2.2.2.2.length=y:=⟨_,rfl⟩
   rw [hz] at C10 HCX HR0
   rw [hy] at C9 HR0
   obtain ⟨M,hM⟩:∃ M,m+q=M:=⟨_,rfl⟩
   have eM:(m:Int)+(q:Int)=(M:Int):=by omega
   have i1:(j:Int) < (n:Int):=by omega
   have i2:(0:Int)<=(j:Int):=by omega
   have HQ:=mkHid hq
   clear hc hsv hOn hIn hr0 HSN HLE ht hsn hq
   go_upto_region 7 with (first
    | (at_builtin;refine wpList_pushK wr rfl _ _ 44 rfl w.heap.size 50 i0 (.agg #[.string ⟨#[]⟩,.int .i64 0,.int .i64 0,.bool false,.bool false,.string ⟨#[]⟩,.string ⟨#[]⟩,.int .i64 0,.int .i64 0,.slice none 0 0,.slice none 0 0,.int .i64 0]) 12 144 Tryz.underlying44 hi hz0 hz1 hz2 rfl (kp_fl ok W) (.slice va q vc) (flP (d+1) p m (l.take j)) (p,⟨d+1,t⟩) [.string sn,.int .i64 sl,.int .i64 sc,.bool sb,.bool se,.string sd,.string su,.int .i64 sw,.int .i64 sr,.slice p1 y p3,.slice p4 z p6,.int .i64 p] wr.heap.size rfl rfl rfl (by simp [Value.oneCell']) hO HR0.out hb.size (fun x hx=>(hO.blk x hx).2) (by rw [HQ.out];omega) (by rw [HQ.out];unfold maxLen;omega) hb.size ?_;intro vb wb hOb hgb hbb)
    | fail)
   obtain ⟨qs,ho,hqs,hqr⟩:=hOb
   obtain ⟨ua,uc,hu,hul,hum⟩:=OwnK.form ⟨qs,ho,hqs,hqr⟩
   have e1:(flP (d+1) p m (l.take j)++[(p,(⟨d+1,t⟩:SgS))]).length=q+1:=by rw [List.length_append,HQ.out];rfl
   rw [e1] at hu hul
   subst hu
   have hb2:=hb.trans hbb
   have hW2:=hW.trans (hb2.mono hW.size)
   have C10b:=(hW2.cell (p:=⟨b,off+j*11+10,none⟩) hbl).trans HCX.out
   have hcall2:=hcall wb t.2 (.slice p4 z p6) (M:Int) (M+1) (by rw [<- hz];exact hIn2.out) hW2 (by omega)
   have eM1:((M+1:Nat):Int)=(M:Int)+1:=by omega
   rw [eM1] at hcall2
   have HO:=mkHid ho
   have HQS:=mkHid hqs
   have HQR:=mkHid hqr
   have HE1:=mkHid e1
   clear hcall C0 C1 C2 C3 C4 C5 C6 C7 C8 C9 C10 hO hb hWr hgb hbb ho hqs hqr e1 eM1
   go_wp2_with (first
    | (go_at_call 19;refine hcall2.mono ?_;rintro e w2 ⟨sa,sn2,sc2,rfl,⟨qs2,ho2,hqs2,hqr2⟩,b2⟩;have hok:=ownsRow_keep HO.out (fun g hg=>b2.block g (ownsRow_lt HO.out g hg).2);rw [HE1.out] at hok;have hsrc:=src_own (tx:=44) ho2 Tryz.underlying44 (fl_all hqs2 hqr2);have hln:=HLN.out M t.2;have hsb:wb.heap.size<=w2.heap.size:=b2.size;rw [hln] at hsrc)
    | (at_builtin;refine wpList_append_at _ rfl _ _ 44 44 rfl w.heap.size 50 i0 (.agg #[.string ⟨#[]⟩,.int .i64 0,.int .i64 0,.bool false,.bool false,.string ⟨#[]⟩,.string ⟨#[]⟩,.int .i64 0,.int .i64 0,.slice none 0 0,.slice none 0 0,.int .i64 0]) 12 144 Tryz.underlying44 hi hz0 hz1 hz2 rfl (.slice ua (q+1) uc) (q+1) qs.flatten rfl hok _ _ _ rfl hsrc (flM d 0 t.2).length (.inr (by omega)) Nat.le.refl (by unfold maxLen;omega) (Nat.le_trans hb2.size hsb) ?_;intro vd wd hOd hgd hat)
    | fail)
   have hOe:OwnK wd w.heap.size 50 12 (rFl ok W) vd (flP (d+1) p m (l.take (j+1))):=by
    have e2:flP (d+1) p m (l.take (j+1))=(flP (d+1) p m (l.take j)++[(p,(⟨d+1,t⟩:SgS))])++flP d (M:Int) (M+1) t.2:=by
     rw [HSN2.out,hM,List.append_assoc]
     rfl
    rw [e2]
    refine own_app (qs:=qs) (qs2:=qs2) ?_ HQS.out hqs2 (fun i h h'=>⟨(HQR.out i h h').1,fun _ _=>(HQR.out i h h').2⟩) (fun i h h'=>⟨(hqr2 i h h').1,fun _ _=>(hqr2 i h h').2⟩)
    rw [HE1.out,hln]
    exact hOd
   have hbd2:Below w.heap.size w wd:=(hb2.trans (b2.mono hb2.size)).grown hgd (Nat.le_trans hb2.size hsb) (fun k hk=>(ownsRow_lt hok k hk).1)
   clear hok hsrc hOd hgd hat ho2 hqs2 hqr2
   go_wp2
   go_roundw
   case rel=>exact ⟨j+1,hlt,by go_num,hOe,hbd2⟩
   case measure=>simp [RowKit.intOf];omega
  ·have i1:¬ (j:Int) < (n:Int):=by omega
   have hjn:l.take j=l:=List.take_of_length_le (by rw [HN.out];omega)
   rw [hjn] at hO
   go_wp2
   go_ret
   exact ⟨_,_,_,rfl,hO,hb⟩
theorem al_all:∀ d,AlC d
 | 0=>by
  intro ok W w l v p m h hW hbd
  cases l with
  | cons t r=>exact Empty.elim t
  | nil=>
   obtain ⟨a,cap,rfl,hlc,hcm⟩:=h.form
   unfold maxLen at hcm
   simp only [List.length_nil] at hlc ⊢
   go_enter Tryz.func19,Tryz.ntmps19
   go_wp2
   go_loopw [7,12] (fun t ix wr=>t=.slice none 0 0/\ix=.int .i64 0/\wr=w) (fun _ _ _=>0)
   case atStart=>exact ⟨rfl,rfl,rfl⟩
   case round=>
    obtain ⟨rfl,rfl,rfl⟩:=hrel
    go_wp2
    go_ret
    exact ⟨_,_,_,rfl,ownK_nil _ _ _ _ _,Below.refl _ _⟩
 | d+1=>al_step d (al_all d)
theorem allD_any {ok:Nat->Prop}{W w:World}{d:Nat}{l:List (St d)}{v:Value}(h:RdK ok W 11 (rStD d ok W) l v) (hW:Below W.heap.size W w) (hn:(flM d 0 l).length<=90000) :
  Calls Tryz.prog 8 #[v] w fun e w'=>∃ a n c,e=.returned (.slice a n c)/\OwnK w' w.heap.size 50 12 (rFl ok W) (.slice a n c) (flP d (-1) 0 l)/\Below w.heap.size w w':=by
 have hc:=al_all d ok W w l v (-1) 0 h hW (by omega)
 obtain ⟨a,cap,rfl,hlc,hcm⟩:=h.form
 go_enter Tryz.func8,Tryz.ntmps8
 go_wp2_with (first|(go_at_call 19;refine hc.mono ?_;rintro e w1 ⟨ra,rn,rc,rfl,hO,b1⟩)|fail)
 go_ret
 exact ⟨_,_,_,rfl,hO,b1⟩
theorem ckL_zero:∀ (l:List (Int × Option Pl)),(∀ x∈l,x.1≠0)->(ckL l).2=0->∀ x∈l,x.2=none
 | [],_,_,x,hx=>by cases hx
 | (n,some a) :: r,h,h0,_,_=>absurd h0 (h _ List.mem_cons_self)
 | (n,none) :: r,h,h0,x,hx=>by
  rcases List.mem_cons.1 hx with rfl|hx
  ·rfl
  ·exact ckL_zero r (fun y hy=>h y (List.mem_cons_of_mem _ hy)) h0 x hx
theorem ckC_zero {d:Nat}{c:ChG d}(h:(ckC c).2=0):chF d c=true/\tmR c (fsC c)=none/\ntR c (fsC c)=none/\miR (fsC c)=none/\asR (fsC c)=none/\bwR (fsC c)=none:=by
 unfold ckC at h
 by_cases hf:chF d c=true
 ·rw [if_pos hf] at h
  have hz:=ckL_zero (rdsC c (fsC c)) (by simp [rdsC]) h
  have m0:∀ (x:Int × Option Pl) (i:Nat),(rdsC c (fsC c))[i]?=some x->x.2=none:=fun x i e=>hz x (List.mem_of_getElem? e)
  exact ⟨hf,m0 (4,_) 0 rfl,m0 (14,_) 1 rfl,m0 (16,_) 4 rfl,m0 (15,_) 5 rfl,m0 (17,_) 6 rfl⟩
 ·rw [if_neg hf] at h
  exact absurd h (by decide)
theorem frO_none (q:Nat->Bool):∀ (l:List OnC) (j:Nat),frO q l j=none->∀ i,i < l.length->q (j+i)=false
 | [],_,_,i,hi=>by simp at hi
 | o :: r,j,h,i,hi=>by
  unfold frO at h
  by_cases hq:q j=true
  ·rw [if_pos hq] at h;cases h
  ·rw [if_neg hq] at h
   cases i with
   | zero=>simpa using hq
   | succ i=>
    have:=frO_none q r (j+1) h i (by simpa using hi)
    rwa [show j+1+i=j+(i+1) by omega] at this
theorem frS_none (p:Nat->Bool) (q:Nat->Nat->Bool):∀ (l:List (Int × SgS)) (k:Nat),frS p q l k=none->∀ i (h:i < l.length),p (k+i)=false/\∀ j,j < (sgO (l[i]).2).length->q (k+i) j=false
 | [],_,_,i,hi=>by simp at hi
 | x :: r,k,h,i,hi=>by
  unfold frS at h
  by_cases hp:p k=true
  ·rw [if_pos hp] at h;cases h
  ·rw [if_neg hp] at h
   cases ho:frO (q k) (sgO x.2) 0 with
   | some a=>rw [ho] at h;cases h
   | none=>
    rw [ho] at h
    cases i with
    | zero=>
     refine ⟨by simpa using hp,fun j hj=>?_⟩
     have:=frO_none (q k) (sgO x.2) 0 ho j hj
     simpa using this
    | succ i=>
     have:=frS_none p q r (k+1) h i (by simpa using hi)
     rw [show k+1+i=k+(i+1) by omega] at this
     exact this
theorem tm_none {d:Nat}{c:ChG d}{fs:List (Int × SgS)}(h:tmR c fs=none):c.2.2.1[8]?=none/\0 < fs.length/\fs.length<=40/\frS (fun i=>(i:Int) == 40) (qO fs (fun _ j _ o=>decide ((j:Int)=6) || decide (4 < o.2.2.2.1.length))) fs 0=none:=by
 unfold tmR at h
 cases h8:c.2.2.1[8]? with
 | some x=>rw [h8] at h;cases h
 | none=>
  rw [h8] at h
  simp only [] at h
  by_cases hz:fs.length=0
  ·rw [if_pos hz] at h;cases h
  ·rw [if_neg hz] at h
   refine ⟨rfl,by omega,?_,h⟩
   by_cases hl:fs.length<=40
   ·exact hl
   ·have:=(frS_none _ _ fs 0 h 40 (by omega)).1
    simp at this
def thP (x:Int × SgS):Int × SgS:=(x.1,⟨x.2.1,thS x.2.1 x.2.2⟩)
theorem flA_thP (d:Nat) (ih:∀ p m l,flP d p m (l.map (thS d))=(flP d p m l).map thP) (p:Int):∀ (l:List (St (d+1))) (m:Nat),flA d (flP d) p m (l.map (thS (d+1)))=(flA d (flP d) p m l).map thP
 | [],_=>rfl
 | t :: r,m=>by
  show (p,(⟨d+1,thS (d+1) t⟩:SgS)) :: (flP d m (m+1) (t.2.map (thS d))++flA d (flP d) p (m+1+(flP d m (m+1) (t.2.map (thS d))).length) (r.map (thS (d+1))))=((p,(⟨d+1,t⟩:SgS)) :: (flP d m (m+1) t.2++flA d (flP d) p (m+1+(flP d m (m+1) t.2).length) r)).map thP
  rw [ih,List.length_map,flA_thP d ih p r,List.map_cons,List.map_append]
  rfl
theorem flP_thP:∀ (d:Nat) (p:Int) (m:Nat) (l:List (St d)),flP d p m (l.map (thS d))=(flP d p m l).map thP
 | 0,_,_,_=>rfl
 | d+1,p,m,l=>flA_thP d (fun p m l=>flP_thP d p m l) p l m
theorem flM_fm:∀ (d k n:Nat) (l:List (St d)),l.all (stF d n)=true->∀ y∈flM d k l,∃ n',stF y.2.1 n' y.2.2=true
 | 0,k,n,l,_,y,hy=>by simp [flM] at hy
 | d+1,k,n,l,h,y,hy=>by
  simp only [flM,List.mem_flatMap,List.mem_cons] at hy
  obtain ⟨t,ht,rfl|hy⟩:=hy
  ·exact ⟨n,List.all_eq_true.1 h t ht⟩
  ·have h1:=List.all_eq_true.1 h t ht
   have h2:t.2.all (stF d (n+1))=true:=by
    simp only [stF,Bool.and_eq_true] at h1
    exact h1.2
   exact flM_fm d (k+1) (n+1) t.2 h2 y hy
theorem flP_fm {d:Nat}{l:List (St d)}(h:l.all (stF d 1)=true):∀ x∈flP d (-1) 0 l,∃ n',stF x.2.1 n' x.2.2=true:=fun x hx=>by
 have h2:x.2∈(flM d 0 l).map (fun x=>x.2):=by rw [<- flP_st d 0 (-1) 0];exact List.mem_map.2 ⟨x,hx,rfl⟩
 obtain ⟨y,hy,he⟩:=List.mem_map.1 h2
 have:=flM_fm d 0 1 l h y hy
 rw [he] at this
 exact this
theorem flM_sm:∀ (d k:Nat) (l:List (St d)),(∀ t∈l,SmS d t)->∀ y∈flM d k l,SmS y.2.1 y.2.2
 | 0,k,l,_,y,hy=>by simp [flM] at hy
 | d+1,k,l,h,y,hy=>by
  simp only [flM,List.mem_flatMap,List.mem_cons] at hy
  obtain ⟨t,ht,rfl|hy⟩:=hy
  ·exact h t ht
  ·exact flM_sm d (k+1) t.2 (h t ht).2 y hy
theorem flP_sm {d:Nat}{l:List (St d)}(h:∀ t∈l,SmS d t):∀ x∈flP d (-1) 0 l,SmS x.2.1 x.2.2:=fun x hx=>by
 have h2:x.2∈(flM d 0 l).map (fun x=>x.2):=by rw [<- flP_st d 0 (-1) 0];exact List.mem_map.2 ⟨x,hx,rfl⟩
 obtain ⟨y,hy,he⟩:=List.mem_map.1 h2
 have:=flM_sm d 0 l h y hy
 rw [he] at this
 exact this
theorem thP_n (x:Int × SgS):sgN (thP x).2=sgN x.2:=by
 obtain ⟨k,e,t⟩:=x
 cases e with
 | zero=>exact Empty.elim t
 | succ e=>rfl
theorem thP_h (x:Int × SgS):sgH (thP x).2=thH (sgH x.2):=by
 obtain ⟨k,e,t⟩:=x
 cases e with
 | zero=>exact Empty.elim t
 | succ e=>rfl
theorem thP_i (x:Int × SgS):sgI (thP x).2=sgI x.2:=by
 obtain ⟨k,e,t⟩:=x
 cases e with
 | zero=>exact Empty.elim t
 | succ e=>exact List.length_map ..
theorem thP_o (x:Int × SgS):sgO (thP x).2=(sgO x.2).map thO:=by
 obtain ⟨k,e,t⟩:=x
 cases e with
 | zero=>exact Empty.elim t
 | succ e=>rfl
theorem fsC_th {d:Nat}(c:ChD d):fsC (thC d c)=((flP d (-1) 0 c.2.2.2).map thP).take 41:=by
 show (flP d (-1) 0 (c.2.2.2.map (thS d))).take 41=_
 rw [flP_thP]
structure Rg (l:List (Int × SgS)):Prop where
 n1:1<=l.length
 n40:l.length<=40
 lf:∀ i (h:i < l.length),sgI (l[i]).2=0->((sgH (l[i]).2).2.1.2 == stpB (sgD (l[i]).2))=false
 go:∀ i (h:i < l.length),∀ o∈sgO (l[i]).2,∃ m,∃ hm:m < l.length,(sgN (l[m]).2).toList=(onTg o).toList/\(dnB (onEv o)=true->i < m)
theorem right_fs {d:Nat}{c:ChD d}(h:(ckC (thC d c)).2=0):(flP d (-1) 0 c.2.2.2).length<=40/\fsC (thC d c)=(flP d (-1) 0 c.2.2.2).map thP:=by
 obtain ⟨_,h1,_⟩:=ckC_zero h
 obtain ⟨_,h2,h3,_⟩:=tm_none h1
 rw [fsC_th,List.length_take,List.length_map] at h3
 have h4:(flP d (-1) 0 c.2.2.2).length<=40:=by omega
 exact ⟨h4,by rw [fsC_th,List.take_of_length_le (by rw [List.length_map];omega)]⟩
theorem right_is {d:Nat}{c:ChD d}(h:(ckC (thC d c)).2=0):Rg (flP d (-1) 0 c.2.2.2):=by
 obtain ⟨h40,hfs⟩:=right_fs h
 obtain ⟨hf,htm,hnt,hmi,has,hbw⟩:=ckC_zero h
 rw [hfs] at htm hnt hmi has hbw
 obtain ⟨_,hpos,_,_⟩:=tm_none htm
 rw [List.length_map] at hpos
 have hfm:∀ x∈flP d (-1) 0 (c.2.2.2.map (thS d)),∃ n',stF x.2.1 n' x.2.2=true:=flP_fm (by
  have hf':(plainB c.1.1 && nbB c.2.1 && c.2.2.1.all varF && (c.2.2.2.map (thS d)).all (stF d 1))=true:=hf
  simp only [Bool.and_eq_true] at hf'
  exact hf'.2)
 rw [flP_thP] at hfm
 generalize flP d (-1) 0 c.2.2.2=l at *
 have hlm:(l.map thP).length=l.length:=List.length_map ..
 refine ⟨hpos,h40,fun i hi h0=>?_,fun i hi o ho=>?_⟩
 ·have h1:=(frS_none _ _ _ 0 hmi i (by omega)).1
  rw [Nat.zero_add,atB_of (by omega),List.getElem_map] at h1
  obtain ⟨n',h2⟩:=hfm (thP l[i]) (List.mem_map.2 ⟨_,List.getElem_mem hi,rfl⟩)
  have h3:kndF (sgH (thP l[i]).2)=true:=by
   generalize thP l[i]=y at h2 ⊢
   obtain ⟨k,e,t⟩:=y
   cases e with
   | zero=>exact Empty.elim t
   | succ e=>
    simp only [stF,Bool.and_eq_true] at h2
    exact h2.1.1.2
  unfold miK at h1
  simp only [thP_i,thP_h,h0] at h1
  rw [thP_h] at h3
  have e1:stpB (sgD (thP l[i]).2)=stpB (sgD l[i].2):=by unfold sgD;rw [thP_h];rfl
  rw [e1] at h1
  obtain ⟨H,hH⟩:∃ H,sgH l[i].2=H:=⟨_,rfl⟩
  rw [hH] at h1 h3 ⊢
  simp only [Bool.or_eq_false_iff] at h1
  have h4:=h1.1.1
  have h5:(thH H).2.1.2=H.2.1.2:=rfl
  rw [h5] at h4
  obtain ⟨q,hq⟩:∃ q,stpB (sgD l[i].2)=q:=⟨_,rfl⟩
  have h6:q=true->H.2.2.1.1≠[]:=fun e e2=>by
   rw [e] at hq
   unfold stpB sgD at hq
   rw [hH,e2,ByteArray.toList_eq] at hq
   exact absurd hq (by decide)
  rw [hq] at h4 ⊢
  cases q with
  | false=>
   cases he:H.2.1.2 with
   | false=>rw [he] at h4;exact absurd h4 (by decide)
   | true=>rfl
  | true=>
   have h7:stepB (thH H)=true:=by
    have e3:stepB (thH H)=stepB H:=rfl
    rw [e3]
    unfold stepB
    have:=h6 rfl
    simp [this]
   unfold kndF at h3
   rw [if_pos h7] at h3
   simp only [Bool.and_eq_true] at h3
   have h8:(thH H).2.1.2=H.2.1.2:=rfl
   rw [h8] at h3
   have h9:=h3.1.1.1.1.2
   cases he:H.2.1.2 with
   | false=>rfl
   | true=>rw [he] at h9;exact absurd h9 (by decide)
 ·obtain ⟨j,hj,rfl⟩:=List.getElem_of_mem ho
  have hjo:j < (sgO ((l.map thP)[i]'(by omega)).2).length:=by rw [List.getElem_map,thP_o,List.length_map];exact hj
  have h1:=(frS_none _ _ _ 0 has i (by omega)).2 j hjo
  have h2:=(frS_none _ _ _ 0 hbw i (by omega)).2 j hjo
  rw [Nat.zero_add,qO_of (by omega) hjo] at h1 h2
  have eo:(sgO ((l.map thP)[i]'(by omega)).2)[j]=thO (sgO (l[i]).2)[j]:=by
   have key:∀ (L:List OnC) (hL:j < L.length),L=(sgO (l[i]).2).map thO->L[j]=thO (sgO (l[i]).2)[j]:=fun L hL e=>by subst e;exact List.getElem_map ..
   exact key _ hjo (by rw [List.getElem_map,thP_o])
  rw [eo] at h1 h2
  have et:onTg (thO (sgO (l[i]).2)[j])=onTg (sgO (l[i]).2)[j]:=rfl
  have ev:onEv (thO (sgO (l[i]).2)[j])=onEv (sgO (l[i]).2)[j]:=rfl
  rw [et] at h1 h2
  rw [ev] at h2
  generalize (sgO (l[i]).2)[j]=o at *
  unfold asB at h1
  simp only [Bool.or_eq_false_iff,decide_eq_false_iff_not,Int.not_lt] at h1
  obtain ⟨m,hm⟩:∃ m:Nat,fdS (l.map thP) (onTg o)=m:=⟨(fdS (l.map thP) (onTg o)).toNat,by omega⟩
  obtain ⟨h3,h4,h5,_⟩:=ixF_at _ _ _ m (show ixF _ _ 0=_ from hm)
  have hml:m < l.length:=by omega
  rw [atB_of (by omega),List.getElem_map,thP_n] at h5
  refine ⟨m,hml,by simpa using h5,fun hd=>?_⟩
  rw [hd,hm] at h2
  simp at h2
  exact h2
def smL (L:List (Int × SgS)) (j:Nat):Nat:=((L.take j).map (fun x=>(sgO x.2).length)).sum
theorem smL_succ {L:List (Int × SgS)}{j:Nat}(h:j < L.length):smL L (j+1)=smL L j+(sgO (L[j]).2).length:=by
 unfold smL
 rw [List.take_succ_eq_append_getElem h,List.map_append,List.sum_append]
 simp
theorem smL_le {L:List (Int × SgS)}(h:∀ x∈L,(sgO x.2).length<=400):∀ j,j<=L.length->smL L j<=j*400
 | 0,_=>by simp [smL]
 | j+1,hj=>by
  rw [smL_succ (by omega)]
  have h1:=smL_le h j (by omega)
  have h2:=h _ (List.getElem_mem (show j < L.length by omega))
  omega
theorem fl_letT {ok ok':Nat->Prop}{W w:World}{l:List (Int × SgS)}{a:Option Addr}{n cap:Nat}(h:RdK ok' w 12 (rFl ok W ok' w) l (.slice a n cap)) (j:Nat) (hj:j < l.length):∃ (b off:Nat) (sn:ByteArray) (sl sc:Int) (sb se:Bool) (sd su:ByteArray) (sw sr:Int) (p1:Option Addr) (p3:Nat) (p4:Option Addr) (p6:Nat),a=some ⟨b,off,none⟩/\b < w.heap.size/\Hid (sn=sgN (l[j]).2/\se=(sgH (l[j]).2).2.1.2/\sd=sgD (l[j]).2)/\RdK ok W 10 (rOnD ok W) (sgO (l[j]).2) (.slice p1 (sgO (l[j]).2).length p3)/\∀ i u,[.string sn,.int .i64 sl,.int .i64 sc,.bool sb,.bool se,.string sd,.string su,.int .i64 sw,.int .i64 sr,.slice p1 (sgO (l[j]).2).length p3,.slice p4 (sgI (l[j]).2) p6,.int .i64 (l[j]).1][i]?=some u->w.cell? ⟨b,off+j*12+i,none⟩=some u:=by
 obtain ⟨a1,cap1,he,h1,h2,h3⟩:=h
 simp only [Value.slice.injEq] at he
 obtain ⟨rfl,rfl,rfl⟩:=he
 obtain ⟨b,off,cs,ha,ho,hb,hl,⟨cs0,hs,rfl⟩,hc⟩:=h3 j hj
 generalize l[j]=x at *
 obtain ⟨p,e,t⟩:=x
 cases e with
 | zero=>exact Empty.elim t
 | succ e=>
  obtain ⟨so,si,rfl,ho',hi'⟩:=hs
  obtain ⟨s1,s3,rfl,_⟩:=ho'.form
  obtain ⟨s4,s6,rfl,_⟩:=hi'.form
  exact ⟨b,off,_,_,_,_,_,_,_,_,_,s1,s3,s4,s6,ha,hb,⟨rfl,rfl,rfl⟩,ho',hc⟩
theorem onsA_sg:∀ x:SgS,onsA x=sgO x
 | ⟨0,t⟩=>Empty.elim t
 | ⟨_+1,_⟩=>rfl
theorem sum_doc (d:Nat) (l:List (St d)):((flM d 0 (l.map (thS d))).map (fun x=>(onsA x.2).length)).sum=smL (flP d (-1) 0 l) (flP d (-1) 0 l).length:=by
 have h1:=flP_st d 0 (-1) 0 (l.map (thS d))
 rw [flP_thP] at h1
 have h2:(flM d 0 (l.map (thS d))).map (fun x=>(onsA x.2).length)=((flM d 0 (l.map (thS d))).map (fun x=>x.2)).map (fun s=>(onsA s).length):=by rw [List.map_map];rfl
 rw [h2,<- h1]
 unfold smL
 rw [List.take_length]
 congr 1
 simp only [List.map_map]
 apply List.map_congr_left
 intro x _
 show (onsA (thP x).2).length=_
 rw [onsA_sg,thP_o,List.length_map]
theorem flM_doc (d:Nat) (l:List (St d)):(flM d 0 (l.map (thS d))).length=(flP d (-1) 0 l).length:=by
 have h1:=congrArg List.length (flP_st d 0 (-1) 0 (l.map (thS d)))
 rw [flP_thP] at h1
 simpa using h1.symm
theorem onsI_doc {d:Nat}{l:List (St d)}{i:Nat}(hi:i < (flP d (-1) 0 l).length):onsI (flM d 0 (l.map (thS d))) i=(sgO ((flP d (-1) 0 l)[i]).2).map thO:=by
 have hl:i < (flM d 0 (l.map (thS d))).length:=by rw [flM_doc];exact hi
 have h1:=flP_st d 0 (-1) 0 (l.map (thS d))
 rw [flP_thP] at h1
 have h3:((flM d 0 (l.map (thS d)))[i]).2=(thP ((flP d (-1) 0 l)[i])).2:=by
  have h2:=congrArg (fun z=>z[i]?) h1
  simp only [List.getElem?_map,List.getElem?_eq_getElem hl,List.getElem?_eq_getElem hi,Option.map_some] at h2
  exact (Option.some.inj h2).symm
 rw [onsI_at hl,h3,onsA_sg,thP_o]
theorem toList_eqT {a b:ByteArray}(h:a.toList=b.toList):a=b:=by
 rw [ByteArray.toList_eq,ByteArray.toList_eq] at h
 exact ByteArray.ext (Array.toList_inj.1 h)
theorem nd0_th (x:Nat × SgS) (y:Int × SgS) (h:x.2=(thP y).2):(nd0 x).1=sgN y.2:=by
 obtain ⟨p,s⟩:=x
 obtain ⟨q,e,t⟩:=y
 cases e with
 | zero=>exact Empty.elim t
 | succ e=>
  have h:s=⟨e+1,thS (e+1) t⟩:=h
  subst h
  rfl
theorem flM_at {d:Nat}{l:List (St d)}{i:Nat}(hi:i < (flP d (-1) 0 l).length) (hl:i < (flM d 0 (l.map (thS d))).length):((flM d 0 (l.map (thS d)))[i]).2=(thP ((flP d (-1) 0 l)[i])).2:=by
 have h1:=flP_st d 0 (-1) 0 (l.map (thS d))
 rw [flP_thP] at h1
 have h2:=congrArg (fun z=>z[i]?) h1
 simp only [List.getElem?_map,List.getElem?_eq_getElem hl,List.getElem?_eq_getElem hi,Option.map_some] at h2
 exact (Option.some.inj h2).symm
theorem nd_nm {d:Nat}{l:List (St d)}(h40:(flM d 0 (l.map (thS d))).length<=40) {m:Nat}(hm:m < (flP d (-1) 0 l).length):(nAt (ndsM (flM d 0 (l.map (thS d)))) m).1=sgN ((flP d (-1) 0 l)[m]).2:=by
 have hl:m < (flM d 0 (l.map (thS d))).length:=by rw [flM_doc];exact hm
 unfold ndsM
 rw [if_pos h40,nAt_get (by simpa using hl),List.getElem_map,List.getElem_range]
 show (nAt ((flM d 0 (l.map (thS d))).map nd0) m).1=_
 rw [nAt_get (by simpa using hl),List.getElem_map]
 exact nd0_th _ _ (flM_at hm hl)
theorem row_doc {d:Nat}{l:List (St d)}(hG:Rg (flP d (-1) 0 l)) (hne:ndsM (flM d 0 (l.map (thS d)))≠[]) {ord:List Nat}(hd:Dpf (ndsM (flM d 0 (l.map (thS d)))) ord) {r:Rw}(h:r∈rwsA (ndsM (flM d 0 (l.map (thS d)))) (flM d 0 (l.map (thS d))) ord) :
  ∃ (i k:Nat) (hi:i < (flP d (-1) 0 l).length) (hk:k < (sgO ((flP d (-1) 0 l)[i]).2).length),r.1=i/\r.2.1=k/\r.2.2.1=⟨((sgO ((flP d (-1) 0 l)[i]).2)[k]).1.toArray⟩/\wiB (ndsM (flM d 0 (l.map (thS d)))) r.2.2.2.1 r.2.2.2.2=true/\wiB (ndsM (flM d 0 (l.map (thS d)))) (i:Int) r.2.2.2.2=true:=by
 obtain ⟨hln,h40⟩:=ndsM_len hne
 obtain ⟨i,k,hk,hi,rfl⟩:=mem_rwsA h
 have hi0:i < (ndsM (flM d 0 (l.map (thS d)))).length:=List.mem_range.1 (hd.perm.mem_iff.1 hi)
 have hi2:i < (flP d (-1) 0 l).length:=by rw [hln,flM_doc] at hi0;exact hi0
 have e1:=onsI_doc hi2
 have hk2:k < (sgO ((flP d (-1) 0 l)[i]).2).length:=by rw [e1,List.length_map] at hk;exact hk
 obtain ⟨o,ho⟩:∃ o,(sgO ((flP d (-1) 0 l)[i]).2)[k]=o:=⟨_,rfl⟩
 have e2:(onsI (flM d 0 (l.map (thS d))) i)[k]=thO o:=by simp only [e1,List.getElem_map,ho]
 have hmem:o∈sgO ((flP d (-1) 0 l)[i]).2:=by rw [<- ho];exact List.getElem_mem hk2
 obtain ⟨m,hm,hnm,_⟩:=hG.go i hi2 o hmem
 have hf:=ndsM_formed d (l.map (thS d))
 have hmN:m < (ndsM (flM d 0 (l.map (thS d)))).length:=by rw [hln,flM_doc];exact hm
 obtain ⟨t,ht,htl⟩:=fdB_found hf (s:=onTg o) hmN (by rw [nd_nm h40 hm];exact toList_eqT hnm)
 have hw:=wi_meet hf hi0 htl
 refine ⟨i,k,hi2,hk2,rfl,rfl,?_,?_,?_⟩
 ·show (⟨((onsI (flM d 0 (l.map (thS d))) i)[k]).1.toArray⟩:ByteArray)=_
  rw [e2,ho]
  rfl
 ·show wiB _ (fdB _ ⟨((onsI (flM d 0 (l.map (thS d))) i)[k]).2.2.1.toArray⟩) (mtB _ i (fdB _ ⟨((onsI (flM d 0 (l.map (thS d))) i)[k]).2.2.1.toArray⟩))=true
  rw [e2]
  show wiB _ (fdB _ (onTg o)) (mtB _ i (fdB _ (onTg o)))=true
  rw [ht]
  exact hw.2
 ·show wiB _ _ (mtB _ i (fdB _ ⟨((onsI (flM d 0 (l.map (thS d))) i)[k]).2.2.1.toArray⟩))=true
  rw [e2]
  show wiB _ _ (mtB _ i (fdB _ (onTg o)))=true
  rw [ht]
  exact hw.1
theorem rw_at {ok:Nat->Prop}{w:World}{l:List Rw}{a:Option Addr}{n cap:Nat}(h:RdK ok w 7 (rRw ok w) l (.slice a n cap)) (j:Nat) (hj:j < l.length):∃ (b off:Nat) (ga:Option Addr) (gn gc:Nat) (sa:Option Addr) (sn sc:Nat),a=some ⟨b,off,none⟩/\b < w.heap.size/\∀ i u,[Value.int .i64 ((l[j]).1:Int),.int .i64 ((l[j]).2.1:Int),.string (l[j]).2.2.1,.slice ga gn gc,.int .i64 (l[j]).2.2.2.1,.int .i64 (l[j]).2.2.2.2,.slice sa sn sc][i]?=some u->w.cell? ⟨b,off+j*7+i,none⟩=some u:=by
 obtain ⟨a1,cap1,he,h1,h2,h3⟩:=h
 simp only [Value.slice.injEq] at he
 obtain ⟨rfl,rfl,rfl⟩:=he
 obtain ⟨b,off,cs,ha,_,hb,hl,hr,hc⟩:=h3 j hj
 obtain ⟨ga,gn,gc,sa,sn,sc,rfl⟩:=hr
 exact ⟨b,off,ga,gn,gc,sa,sn,sc,ha,hb,hc⟩
theorem tableRows_walk {w:World}(hPw:Pow w) {d:Nat}{c:ChD d}{v:Value}(hr:RdD (fun _=>True) w d c v) (hwf:WfC d c) :
  Calls Tryz.prog 3 #[v] w fun e w'=>e=.returned (.bool true)/\Below w.heap.size w w':=by
 obtain ⟨g0,g1,g2,g3,g4,g5,g6,g7,g8,g9,rfl⟩:=rdD_letT hr
 have h1:=fun w1=>awakeTc w1
 have hal:Below w.heap.size w (w.alloc (.cells #[.string g0,.int .i64 g1,.int .i64 g2,.int .i64 g3,.slice g4 g5 g6,.slice g7 g8 g9] 27)):=(Below.refl w.heap.size w).alloc Nat.le.refl _
 have hX:Bn (w.alloc (.cells #[.string g0,.int .i64 g1,.int .i64 g2,.int .i64 g3,.slice g4 g5 g6,.slice g7 g8 g9] 27)) w.heap.size [.string g0,.int .i64 g1,.int .i64 g2,.int .i64 g3,.slice g4 g5 g6,.slice g7 g8 g9]:=Bn.new w [.string g0,.int .i64 g1,.int .i64 g2,.int .i64 g3,.slice g4 g5 g6,.slice g7 g8 g9] 27 _ rfl
 have h2:=fun w1 (b:Below w.heap.size w w1)=>small_any (hr.keep (ok':=fun _=>True) (fun k hk hl=>⟨trivial,b.block k hl⟩)) hwf (w:=w1)
 go_enter Tryz.func3,Tryz.ntmps3
 go_upto_region 1 with fail
 generalize (w.alloc (.cells #[.string g0,.int .i64 g1,.int .i64 g2,.int .i64 g3,.slice g4 g5 g6,.slice g7 g8 g9] 27))=wx at *
 have x0:=(hX 0 _ rfl).1
 have x1:=(hX 1 _ rfl).1
 have x2:=(hX 2 _ rfl).1
 have x3:=(hX 3 _ rfl).1
 have x4:=(hX 4 _ rfl).1
 have x5:=(hX 5 _ rfl).1
 go_upto_if 17 with (first
  | (go_at_call 4;refine (h1 _).mono ?_;rintro e w1 ⟨rfl,b1⟩;have x0:=(b1.cell (p:=⟨w.heap.size,0,none⟩) hX.lt).trans x0;have x1:=(b1.cell (p:=⟨w.heap.size,1,none⟩) hX.lt).trans x1;have x2:=(b1.cell (p:=⟨w.heap.size,2,none⟩) hX.lt).trans x2;have x3:=(b1.cell (p:=⟨w.heap.size,3,none⟩) hX.lt).trans x3;have x4:=(b1.cell (p:=⟨w.heap.size,4,none⟩) hX.lt).trans x4;have x5:=(b1.cell (p:=⟨w.heap.size,5,none⟩) hX.lt).trans x5)
  | (go_at_call 5;refine (h2 _ (hal.trans (b1.mono hal.size))).mono ?_;rintro e w2 ⟨bb,rfl,hsm,b2⟩)
  | fail)
 have hb1:=hal.trans (b1.mono hal.size)
 have hb2:=hb1.trans (b2.mono hb1.size)
 have hX2:=(hX.on b1).on b2
 clear b1 b2 hX hal h2 hb1 x0 x1 x2 x3 x4 x5
 cases bb with
 | false=>
  go_wp2_with (first
   | (go_at_call 4;refine (h1 _).mono ?_;rintro e w3 ⟨rfl,b3⟩)
   | fail)
  go_ret
  exact ⟨rfl,hb2.trans (b3.mono hb2.size)⟩
 | true=>
  replace hsm:=hsm rfl
  have hth:∀ w1,Below w.heap.size w w1->Calls Tryz.prog 7 #[.agg #[.string g0,.int .i64 g1,.int .i64 g2,.int .i64 g3,.slice g4 g5 g6,.slice g7 g8 g9]] w1 fun e w'=>∃ e0 e1 e2 e3 e4 e5 e6 e7 e8 e9,e=.returned (.agg #[.string e0,.int .i64 e1,.int .i64 e2,.int .i64 e3,.slice e4 e5 e6,.slice e7 e8 e9])/\Hid (RdC (fun b=>w1.heap.size<=b/\b < w'.heap.size) w' d (thC d c) (.agg #[.string e0,.int .i64 e1,.int .i64 e2,.int .i64 e3,.slice e4 e5 e6,.slice e7 e8 e9]))/\Below w1.heap.size w1 w':=fun w1 b=>(theirs_ch (hr.keep (ok':=fun _=>True) (w':=w1) (fun k hk hl=>⟨trivial,b.block k hl⟩)) hsm.2.2.2 hsm.2.2.1 (by have:=hsm.2.1;omega)).mono (fun e w' hh=>by
   obtain ⟨u,q1,q2,q3⟩:=hh
   obtain ⟨e0,e1,e2,e3,e4,e5,e6,e7,e8,e9,rfl⟩:=rdC_letT q2
   exact ⟨e0,e1,e2,e3,e4,e5,e6,e7,e8,e9,q1,q2.keep (fun k hk hl=>⟨⟨hk,hl⟩,rfl⟩),q3⟩)
  have hmk:∀ {ok:Nat->Prop} w1 v,RdC ok w1 d (thC d c) v->(∀ b,ok b->b < w1.heap.size)->Below w.heap.size w w1->Calls Tryz.prog 6 #[v] w1 fun e w'=>∃ (nm:ByteArray) (ve:Int) (na:Option Addr) (nn nc:Nat) (va:Option Addr) (vn vc:Nat) (sa:Option Addr) (sn sc:Nat) (ra:Option Addr) (rn rc:Nat) (er:Int),e=.returned (.tuple #[.agg #[.string nm,.int .i64 ve,.slice na nn nc,.slice va vn vc,.slice sa sn sc,.slice ra rn rc],.int .i64 er])/\Hid (MkQ d c w1.heap.size w' er (.slice na nn nc) (.slice ra rn rc) rn)/\Below w1.heap.size w1 w':=fun w1 v h hok b=>make_any hsm hwf h hok (hPw.below b)
  have hss:RdK (fun _=>True) w 11 (rStD d (fun _=>True) w) c.2.2.2 (.slice g7 g8 g9):=by
   obtain ⟨sv,ss,he,q1,q2⟩:=hr
   simp only [Value.agg.injEq,Array.mk.injEq,List.cons.injEq,and_true] at he
   rw [he.2.2.2.2.2]
   exact q2
  have hlenM:(flM d 0 c.2.2.2).length<=400:=by
   rw [<- flP_len d 0 (-1) 0]
   have h9:=hsm.2.2.1
   rw [<- flM_len d 0] at h9
   have e9:(flM d 0 (c.2.2.2.map (thS d))).length=(flP d (-1) 0 (c.2.2.2.map (thS d))).length:=(flP_len d 0 (-1) 0 _).symm
   rw [e9,flP_thP,List.length_map] at h9
   exact h9
  have hall:=fun w1 (b1:Below w.heap.size w w1)=>allD_any hss b1 (by omega)
  have htx:=hth w2 hb2
  have x0:=(hX2 0 _ rfl).1
  have x1:=(hX2 1 _ rfl).1
  have x2:=(hX2 2 _ rfl).1
  have x3:=(hX2 3 _ rfl).1
  have x4:=(hX2 4 _ rfl).1
  have x5:=(hX2 5 _ rfl).1
  have HSM:=hidOf hsm
  have HWF:=hidOf hwf
  have HHR:=hidOf hr
  have HSS:=hidOf hss
  clear hth hss hsm hwf hr hPw
  go_upto_region 4 with (first
   | (go_at_call 7;refine htx.mono ?_;rintro e w3 ⟨e0,e1,e2,e3,e4,e5,e6,e7,e8,e9,rfl,HTC,b3⟩;have hb3:=hb2.trans (b3.mono hb2.size);have hmx:=hmk w3 _ HTC.out (fun b hb=>hb.2) hb3)
   | (go_at_call 6;refine hmx.mono ?_;rintro e w4 ⟨nm,ve,na,nn,nc,va,vn,vc,sa,sn,sc,ra,rn,rc,er,rfl,HMQ,b4⟩)
   | fail)
  have hb4:=hb3.trans (b4.mono hb3.size)
  have hal5:Below w4.heap.size w4 (w4.alloc (.cells #[.string nm,.int .i64 ve,.slice na nn nc,.slice va vn vc,.slice sa sn sc,.slice ra rn rc] 35)):=(Below.refl _ _).alloc Nat.le.refl _
  have hB5:=Bn.new w4 [.string nm,.int .i64 ve,.slice na nn nc,.slice va vn vc,.slice sa sn sc,.slice ra rn rc] 35 _ rfl
  have hb5:=hb4.trans (hal5.mono hb4.size)
  have hX5:=((hX2.on b3).on b4).on hal5
  clear x0 x1 x2 x3 x4 x5 htx hmx hmk
  obtain ⟨B3,hB3e⟩:∃ B3,w4.heap.size=B3:=⟨_,rfl⟩
  rw [hB3e] at hB5 ⊢
  rcases HMQ.out with ⟨rfl,hck,hfm,hne,hnd,ord,hdp,hrw⟩|⟨hne,rfl⟩
  ·have HND:=hidOf (hnd.on kp_nd hal5)
   have HRW:=hidOf (hrw.stay kp_rw (fun b hb hl=>⟨hb,hal5.block b hl⟩))
   have HCK:=hidOf hck
   have HFM:=hidOf hfm
   have HNE:=hidOf hne
   have HDP:=hidOf hdp
   clear hck hfm hne hnd hdp hrw HMQ hal5
   generalize (w4.alloc (.cells #[.string nm,.int .i64 ve,.slice na nn nc,.slice va vn vc,.slice sa sn sc,.slice ra rn rc] 35))=w5 at *
   have hax:=hall w5 hb5
   have x5:=(hX5 5 _ rfl).1
   go_upto_region 8 with (first
    | (go_at_call 8;refine hax.mono ?_;rintro e w6 ⟨aa,an,ac,rfl,hown,b6⟩)
    | fail)
   have hL:=hown.rd (kp_fl _ _)
   have hb6:=hb5.trans (b6.mono hb5.size)
   have hG:=right_is HCK.out
   have hR1:∀ r∈rwsA (ndsM (flM d 0 (thC d c).2.2.2)) (flM d 0 (thC d c).2.2.2) ord,∃ (i k:Nat) (hi:i < (flP d (-1) 0 c.2.2.2).length) (hk:k < (sgO ((flP d (-1) 0 c.2.2.2)[i]).2).length),r.1=i/\r.2.1=k/\r.2.2.1=⟨((sgO ((flP d (-1) 0 c.2.2.2)[i]).2)[k]).1.toArray⟩/\wiB (ndsM (flM d 0 (thC d c).2.2.2)) r.2.2.2.1 r.2.2.2.2=true/\wiB (ndsM (flM d 0 (thC d c).2.2.2)) (i:Int) r.2.2.2.2=true:=fun r hr=>row_doc hG HNE.out HDP.out hr
   have hR2:=rwsA_pair (fl:=flM d 0 (thC d c).2.2.2) HDP.out
   have hR3:(rwsA (ndsM (flM d 0 (thC d c).2.2.2)) (flM d 0 (thC d c).2.2.2) ord).length=smL (flP d (-1) 0 c.2.2.2) (flP d (-1) 0 c.2.2.2).length:=(rwsA_all HDP.out (ndsM_len HNE.out).1).trans (sum_doc d c.2.2.2)
   have hN1:(ndsM (flM d 0 (thC d c).2.2.2)).length=(flP d (-1) 0 c.2.2.2).length:=(ndsM_len HNE.out).1.trans (flM_doc d c.2.2.2)
   have HRW6:=hidOf (HRW.out.stay (w':=w6) (ok':=fun _=>True) kp_rw (fun b hb hl=>⟨trivial,b6.block b hl⟩))
   have HND6:=hidOf (HND.out.stay (w':=w6) (ok':=fun _=>True) kp_nd (fun b hb hl=>⟨trivial,b6.block b hl⟩))
   obtain ⟨R,hRe⟩:∃ R,rwsA (ndsM (flM d 0 (thC d c).2.2.2)) (flM d 0 (thC d c).2.2.2) ord=R:=⟨_,rfl⟩
   obtain ⟨N,hNe⟩:∃ N,ndsM (flM d 0 (thC d c).2.2.2)=N:=⟨_,rfl⟩
   rw [hRe] at HRW6 hR1 hR2 hR3
   rw [hNe] at HND6 hR1 hR2 hN1
   clear HRW HND HCK HFM HNE HDP hRe hNe
   have hO4:∀ x∈flP d (-1) 0 c.2.2.2,(sgO x.2).length<=400:=fun x hx=>by
    have h9:=flP_sm HSM.out.2.2.2 x hx
    obtain ⟨p,e,t⟩:=x
    cases e with
    | zero=>exact Empty.elim t
    | succ e=>exact h9.1.2.2.2.1
   obtain ⟨L,hLe⟩:∃ L,flP d (-1) 0 c.2.2.2=L:=⟨_,rfl⟩
   rw [hLe] at hL hG hO4 hR1 hR3 hN1
   obtain ⟨ya,yc,hv,hlc,hcm⟩:=hL.form
   simp only [Value.slice.injEq] at hv
   obtain ⟨rfl,rfl,rfl⟩:=hv
   obtain ⟨n,hn⟩:∃ n,L.length=n:=⟨_,rfl⟩
   have n1:=hG.n1
   have n40:=hG.n40
   have HL:=hidOf hL
   rw [hn] at hlc n1 n40 HL ⊢
   have HN:=hidOf hn
   have HG:=hidOf hG
   have HLE:=hidOf hLe
   have HO4:=hidOf hO4
   unfold maxLen at hcm
   have hB6:=hB5.on b6
   clear hn hL hown hax hG hLe hO4 x5 hall
   go_wp2
   go_loopw [5,36] (fun sv ix wr=>∃ (j:Nat),j<=n/\sv=.int .i64 (smL L j:Int)/\ix=.int .i64 (j:Int)/\w6=wr) (fun _ ix _=>n - (RowKit.intOf ix).toNat)
   case atStart=>exact ⟨0,Nat.zero_le _,by simp [smL],rfl,rfl⟩
   case round=>
    obtain ⟨j,hj,rfl,rfl,rfl⟩:=hrel
    by_cases hlt:j < n
    ·have hjl:j < L.length:=by rw [HN.out];exact hlt
     obtain ⟨b,off,zn,zl,zc,zb,ze,zd,zu,zw,zr,p1,p3,p4,p6,rfl,hbl,_,_,hc⟩:=fl_letT HL.out j hjl
     have hs1:=smL_succ hjl
     have hs2:=smL_le HO4.out (j+1) (by omega)
     obtain ⟨no,hno⟩:∃ no,(sgO (L[j]).2).length=no:=⟨_,rfl⟩
     rw [hno] at hc hs1
     have C9:=hc 9 _ rfl
     have i1:(j:Int) < (n:Int):=by omega
     have i2:(0:Int)<=(j:Int):=by omega
     have hs3:smL L j+no<=20000:=by omega
     have HS1:=hidOf hs1
     clear hc hs1 hs2 hno
     go_wp2
     go_roundw
     case rel=>exact ⟨j+1,hlt,by rw [HS1.out];go_num,by go_num,by trivial⟩
     case measure=>simp [RowKit.intOf];omega
    ·have i1:¬ (j:Int) < (n:Int):=by omega
     have hje:j=n:=by omega
     subst hje
     have HR1:=hidOf hR1
     have HR2:=hidOf hR2
     have HR3:=hidOf hR3
     obtain ⟨va2,vc2,hv2,hlc2,hcm2⟩:=HRW6.out.form
     simp only [Value.slice.injEq] at hv2
     obtain ⟨rfl,hrn,rfl⟩:=hv2
     obtain ⟨na2,nc2,hv3,hlc3,hcm3⟩:=HND6.out.form
     simp only [Value.slice.injEq] at hv3
     obtain ⟨rfl,hnn,rfl⟩:=hv3
     have HRN:=hidOf hrn
     have HNN:=hidOf hnn
     rw [<- hrn] at hlc2
     rw [<- hnn] at hlc3
     unfold maxLen at hcm2 hcm3
     have y2:=(hB6 2 _ rfl).1
     have y5:=(hB6 5 _ rfl).1
     have h1':=h1
     have hTW:=fun w1 (b1:Below w6.heap.size w6 w1) (i k:Int)=>twithin_any (HND6.out.stay (w':=w1) (ok':=fun _=>True) kp_nd (fun b hb hl=>⟨trivial,b1.block b hl⟩)) i k
     clear hR1 hR2 hR3 hrn hnn h1 h1'
     go_upto_region 10 with fail
     go_loopw [52] (fun ix wr=>∃ (i:Nat),i<=rn/\ix=.int .i64 (i:Int)/\Below w6.heap.size w6 wr) (fun ix _=>rn - (RowKit.intOf ix).toNat)
     case atStart=>exact ⟨0,Nat.zero_le _,rfl,Below.refl _ _⟩
     case round=>
      obtain ⟨i,hi,rfl,hbw⟩:=hrel
      by_cases hlt:i < rn
      ·have hil:i < R.length:=by rw [<- HRN.out];exact hlt
       obtain ⟨sti,oni,hst,hon,er1,er2,er3,ew1,ew2⟩:=HR1.out _ (List.getElem_mem hil)
       obtain ⟨b,off,ga,gn,gc,sa2,sn2,sc2,rfl,hbl,hc⟩:=rw_at (HRW6.out.stay (w':=wr) (ok':=fun _=>True) kp_rw (fun b hb hl=>⟨trivial,hbw.block b hl⟩)) i hil
       obtain ⟨tg,htg⟩:∃ t,(R[i]).2.2.2.1=t:=⟨_,rfl⟩
       obtain ⟨sp,hsp⟩:∃ t,(R[i]).2.2.2.2=t:=⟨_,rfl⟩
       have HE1:=hidOf er1
       have HE2:=hidOf er2
       rw [er1,er2,er3,htg,hsp] at hc
       rw [htg,hsp] at ew1
       rw [hsp] at ew2
       clear htg hsp er1 er2 er3
       have C0:wr.cell? ⟨b,off+i*7,none⟩=_:=hc 0 _ rfl
       have C1:=hc 1 _ rfl
       have C2:=hc 2 _ rfl
       have C3:=hc 3 _ rfl
       have C4:=hc 4 _ rfl
       have C5:=hc 5 _ rfl
       have C6:=hc 6 _ rfl
       have hBw:=hB6.on hbw
       have v2:=(hBw 2 _ rfl).1
       have v5:=(hBw 5 _ rfl).1
       have i1':(i:Int) < (rn:Int):=by omega
       have i2':(0:Int)<=(i:Int):=by omega
       clear hc y2 y5
       have hal7:Below wr.heap.size wr (wr.alloc (.cells #[.int .i64 (sti:Int),.int .i64 (oni:Int),.string ⟨((sgO (L[sti]).2)[oni]).1.toArray⟩,.slice ga gn gc,.int .i64 tg,.int .i64 sp,.slice sa2 sn2 sc2] 54)):=(Below.refl _ _).alloc Nat.le.refl _
       have hB7:=Bn.new wr [.int .i64 (sti:Int),.int .i64 (oni:Int),.string ⟨((sgO (L[sti]).2)[oni]).1.toArray⟩,.slice ga gn gc,.int .i64 tg,.int .i64 sp,.slice sa2 sn2 sc2] 54 _ rfl
       have hbz:=hbw.trans (hal7.mono hbw.size)
       go_upto_region 17 with fail
       generalize (wr.alloc (.cells #[.int .i64 (sti:Int),.int .i64 (oni:Int),.string ⟨((sgO (L[sti]).2)[oni]).1.toArray⟩,.slice ga gn gc,.int .i64 tg,.int .i64 sp,.slice sa2 sn2 sc2] 54))=wz at *
       have hBz:=hBw.on hal7
       obtain ⟨b2,off2,zn,zl,zc,zb,ze,zd,zu,zw,zr,p1,p3,p4,p6,rfl,hbl2,_,hro,hc2⟩:=fl_letT (HL.out.stay (w':=wz) (ok':=fun _=>True) (kp_fl _ _) (fun b hb hl=>⟨trivial,hbz.block b hl⟩)) sti hst
       obtain ⟨a1',cap1',he',h1',h2',h3'⟩:=hro
       simp only [Value.slice.injEq] at he'
       obtain ⟨rfl,hno',rfl⟩:=he'
       obtain ⟨b3,off3,cs3,rfl,_,hbl3,_,⟨c0',c1',c2',c3',sl',rfl,_,_⟩,hc3⟩:=h3' oni hon
       have hb3w:=hb6.trans (hbz.mono hb6.size)
       have E0:wz.cell? ⟨b3,off3+oni*10,none⟩=_:=(hb3w.cell (p:=⟨b3,off3+oni*10,none⟩) hbl3).trans (hc3 0 _ rfl)
       unfold sD at E0
       obtain ⟨ev,hev⟩:∃ ev:ByteArray,ev=⟨((sgO (L[sti]).2)[oni]).1.toArray⟩:=⟨_,rfl⟩
       obtain ⟨no,hno⟩:∃ no,(sgO (L[sti]).2).length=no:=⟨_,rfl⟩
       rw [<- hev] at E0 hB7
       rw [hno] at hc2 h1'
       have F9:=hc2 9 _ rfl
       obtain ⟨Rb,hRb⟩:∃ Rb,wr.heap.size=Rb:=⟨_,rfl⟩
       have hlR:=hB7.lt
       rw [hRb] at hB7 hlR ⊢
       have R0:=(hB7 0 _ rfl).1
       have R1:=(hB7 1 _ rfl).1
       have R2:=(hB7 2 _ rfl).1
       have R4:=(hB7 4 _ rfl).1
       have R5:=(hB7 5 _ rfl).1
       have Z2:=(hBz 2 _ rfl).1
       have hlB:=hBz.lt
       have hst':sti < j:=by rw [<- HN.out];exact hst
       have hon':oni < no:=by rw [<- hno];exact hon
       have k1:¬ (sti:Int) < 0:=by omega
       have k2:¬ (sti:Int)≥(j:Int):=by omega
       have k3:¬ (oni:Int) < 0:=by omega
       have k4:¬ (oni:Int)≥(no:Int):=by omega
       have k5:(sti:Int) < (j:Int):=by omega
       have k6:(oni:Int) < (no:Int):=by omega
       have k7:(0:Int)<=(sti:Int):=by omega
       have k8:(0:Int)<=(oni:Int):=by omega
       have t1:=fun w1 (b1:Below wz.heap.size wz w1)=>hTW w1 (hbz.trans (b1.mono hbz.size)) tg sp
       have t2:=fun w1 (b1:Below wz.heap.size wz w1)=>hTW w1 (hbz.trans (b1.mono hbz.size)) (sti:Int) sp
       rw [ew1] at t1
       rw [ew2] at t2
       have hl3:b3 < wz.heap.size:=Nat.lt_of_lt_of_le hbl3 hb3w.size
       clear C0 C1 C2 C3 C4 C5 C6 v2 v5 hc2 hc3 h2' h3' hev hRb
       have hB:Below wz.heap.size wz wz:=Below.refl _ _
       have r0:=R0
       have r1:=R1
       have r2:=R2
       have r4:=R4
       have r5:=R5
       have z2:=Z2
       have f9:=F9
       have x9:=E0
       go_region_held_law (fun w'=>w'.cell? ⟨Rb,0,none⟩=some (.int .i64 (sti:Int))/\w'.cell? ⟨Rb,1,none⟩=some (.int .i64 (oni:Int))/\w'.cell? ⟨Rb,2,none⟩=some (.string ev)/\w'.cell? ⟨Rb,4,none⟩=some (.int .i64 tg)/\w'.cell? ⟨Rb,5,none⟩=some (.int .i64 sp)/\w'.cell? ⟨B3,2,none⟩=some (.slice na nn nc)/\w'.cell? ⟨b2,off2+sti*12+9,none⟩=some (.slice (some ⟨b3,off3,none⟩) no p3)/\w'.cell? ⟨b3,off3+oni*10,none⟩=some (.string ev))
        ((refine ⟨?_,?_,?_,?_,?_,?_,?_,?_⟩<;>(repeat (with_reducible first|exact r0|exact r1|exact r2|exact r4|exact r5|exact z2|exact f9|exact x9|refine cell_dr ?_))<;>done))
        (first
         | (go_at_call 9;(with_reducible first|refine (t1 _ hB).mono ?_|refine (t1 _ hB.drew).mono ?_|refine (t2 _ hB).mono ?_|refine (t2 _ hB.drew).mono ?_);rintro e wn ⟨rfl,bb⟩;(first|have hB:=Below.nxd hB bb|have hB:=Below.nx hB bb);have r0:=(hB.cell (p:=⟨Rb,0,none⟩) hlR).trans R0;have r1:=(hB.cell (p:=⟨Rb,1,none⟩) hlR).trans R1;have r2:=(hB.cell (p:=⟨Rb,2,none⟩) hlR).trans R2;have r4:=(hB.cell (p:=⟨Rb,4,none⟩) hlR).trans R4;have r5:=(hB.cell (p:=⟨Rb,5,none⟩) hlR).trans R5;have z2:=(hB.cell (p:=⟨B3,2,none⟩) hlB).trans Z2;have f9:=(hB.cell (p:=⟨b2,off2+sti*12+9,none⟩) hbl2).trans F9;have x9:=(hB.cell (p:=⟨b3,off3+oni*10,none⟩) hl3).trans E0)
         | fail)
       have hbn:=hbz.trans (hB.mono hbz.size)
       have hBn:=hBz.on hB
       have hB7n:=hB7.on hB
       have hstN:sti < N.length:=by rw [hN1,HN.out];exact hst'
       obtain ⟨nb,noff,rfl,_,_,_,_,_,_,_,_⟩:=nd_at HND6.out sti hstN
       have hrS:R[i].1=sti:=HE1.out
       have hrO:R[i].2.1=oni:=HE2.out
       have HDI:Hid (∀ k (hk:k < R.length),k < i->¬ ((R[k]).1=sti/\(R[k]).2.1=oni)/\nD N sti<=nD N (R[k]).1):=fun k hk hki=>by
        have h9:=(List.pairwise_iff_getElem.1 HR2.out) k i hk hil hki
        unfold RwP at h9
        rw [hrS,hrO] at h9
        exact h9
       clear hrS hrO r0 r1 r2 r4 r5 z2 f9 x9 R0 R1 R2 R4 R5 Z2 F9 E0 t1 t2
       go_upto_region 10 with fail
       go_loopw [126] (fun ix wr=>∃ (k:Nat),k<=i/\ix=.int .i64 (k:Int)/\Below wn.heap.size wn wr) (fun ix _=>i - (RowKit.intOf ix).toNat)
       case atStart=>exact ⟨0,Nat.zero_le _,rfl,Below.refl _ _⟩
       case round=>
        obtain ⟨k,hk,rfl,hbv⟩:=hrel
        have hbv6:=hbn.trans (hbv.mono hbn.size)
        by_cases hki:k < i
        ·have hkl:k < R.length:=by omega
         obtain ⟨stk,onk,hstk,_,eq1,eq2,_,_,_⟩:=HR1.out _ (List.getElem_mem hkl)
         obtain ⟨hd1,hd2⟩:=HDI.out k hkl hki
         obtain ⟨b',off',_,_,_,_,_,_,ha',_,hck⟩:=rw_at (HRW6.out.stay (w':=wr) (ok':=fun _=>True) kp_rw (fun b hb hl=>⟨trivial,hbv6.block b hl⟩)) k hkl
         simp only [Option.some.injEq,Addr.mk.injEq,and_true] at ha'
         obtain ⟨rfl,rfl⟩:=ha'
         rw [eq1,eq2] at hck hd1
         rw [eq1] at hd2
         have K0:wr.cell? ⟨b,off+k*7,none⟩=_:=hck 0 _ rfl
         have K1:=hck 1 _ rfl
         have hstkN:stk < N.length:=by rw [hN1];exact hstk
         have HN6:=HND6.out.stay (w':=wr) (ok':=fun _=>True) kp_nd (fun b hb hl=>⟨trivial,hbv6.block b hl⟩)
         obtain ⟨nb1,noff1,ha1,_,_,_,D1,_,_,_,_⟩:=nd_at HN6 stk hstkN
         simp only [Option.some.injEq,Addr.mk.injEq,and_true] at ha1
         obtain ⟨rfl,rfl⟩:=ha1
         obtain ⟨nb2,noff2,ha2,_,_,_,D2,_,_,_,_⟩:=nd_at HN6 sti hstN
         simp only [Option.some.injEq,Addr.mk.injEq,and_true] at ha2
         obtain ⟨rfl,rfl⟩:=ha2
         have m1:(k:Int) < (i:Int):=by omega
         have m2:(0:Int)<=(k:Int):=by omega
         have m3:(k:Int) < (rn:Int):=by omega
         have hnnN:=HNN.out
         have m4:(stk:Int) < (nn:Int):=by omega
         have m5:(0:Int)<=(stk:Int):=by omega
         have m6:(sti:Int) < (nn:Int):=by omega
         have m7:¬ nD N stk < nD N sti:=by omega
         have hBv:=hBn.on hbv
         have s2:=(hBv 2 _ rfl).1
         have s5:=(hBv 5 _ rfl).1
         have hB7v:=hB7n.on hbv
         have s0:=(hB7v 0 _ rfl).1
         have s1:=(hB7v 1 _ rfl).1
         obtain ⟨dk,hdk⟩:∃ x,nD N stk=x:=⟨_,rfl⟩
         obtain ⟨di,hdi⟩:∃ x,nD N sti=x:=⟨_,rfl⟩
         rw [hdk] at D1 m7
         rw [hdi] at D2 m7
         clear hck hnnN hdk hdi hd2 eq1 eq2 HN6
         by_cases hq:stk=sti
         ·have u1:((stk:Int) == (sti:Int))=true:=by rw [hq];simp
          have u2:((onk:Int) == (oni:Int))=false:=beq_eq_false_iff_ne.2 (fun h=>hd1 ⟨hq,by omega⟩)
          clear hq hd1
          go_upto_region 22 with fail
          go_quiet (fail)
          have hbq:Below wn.heap.size wn (wr.drewN nq):=⟨hbv.os,hbv.tape,hbv.output,hbv.size,hbv.block⟩
          go_wp2
          go_roundw
          case rel=>exact ⟨k+1,hki,by go_num,hbq⟩
          case measure=>simp [RowKit.intOf];omega
         ·have u1:((stk:Int) == (sti:Int))=false:=beq_eq_false_iff_ne.2 (fun h=>hq (by omega))
          clear hq hd1
          go_upto_region 22 with fail
          go_quiet (fail)
          have hbq:Below wn.heap.size wn (wr.drewN nq):=⟨hbv.os,hbv.tape,hbv.output,hbv.size,hbv.block⟩
          go_wp2
          go_roundw
          case rel=>exact ⟨k+1,hki,by go_num,hbq⟩
          case measure=>simp [RowKit.intOf];omega
        ·have m1:¬ (k:Int) < (i:Int):=by omega
         go_wp2
         go_roundw
         case rel=>exact ⟨i+1,hlt,by go_num,hbv6⟩
         case measure=>simp [RowKit.intOf];omega
      ·have i1':¬ (i:Int) < (rn:Int):=by omega
       obtain ⟨v5,_⟩:=(hB6.on hbw) 5 _ rfl
       have hie:i=rn:=by omega
       have e9:(rn:Int)=(smL L j:Int):=by rw [HRN.out,HR3.out,HN.out]
       clear y2 y5
       go_wp2
       go_ret
       exact ⟨rfl,hb6.trans (hbw.mono hb6.size)⟩
  ·clear HMQ hB3e hal5
   generalize (w4.alloc (.cells #[.string nm,.int .i64 ve,.slice na nn nc,.slice va vn vc,.slice sa sn sc,.slice ra 0 rc] 35))=w5 at *
   have i0:(er == 0)=false:=beq_eq_false_iff_ne.2 hne
   have y5:=(hB5 5 _ rfl).1
   go_wp2
   go_ret
   exact ⟨rfl,hb5⟩
end Go.Proofs.YtppefcdkgejfbaaGreatDoor
namespace Go.Proofs.YtppefcdkgejfbaaGreatDoor
open Go.ChangeShapes Go.WideShapes Go.ChangeAt Go.RowKit
end Go.Proofs.YtppefcdkgejfbaaGreatDoor
namespace Go.Proofs.YtppefcdkgejfbaaGreatDoor
open Go.RowKit Go.Lib
set_option linter.unusedSimpArgs false
set_option linter.unusedVariables false
attribute [local go_sem ↓] Go.wp_at_zero Go.wp_at_succ
theorem pow_of {w:World}{L:List (String × DataW Unit)}(h:laidMetH Tryz.prog L w) (hp:(L.all fun x=>x.2.handleName?.isNone)=true) (m:("internal/strconv.uint64pow10",Rows.laid_internal_strconv_uint64pow10)∈L):Pow w:=by
 rw [MakeChecks.laidMetH_plain _ _ _ hp] at h
 have h1:=Lib.laidMet.reads h m
 have d1:(Rows.laid_internal_strconv_uint64pow10:DataW Unit)=Lib.tabData .u64 Lib.pow10Tab:=by kernel_rfl
 rw [d1] at h1
 obtain ⟨g,t,cs,fuel,p,hg,ht,hvar,hd⟩:=h1
 have hg2:((Tryz.prog.globalNamed "internal/strconv.uint64pow10").bind fun g=>(Tryz.prog.globals[g]?).map (·.type))=some 259:=by kernel_rfl
 rw [hg,Option.bind_some,ht] at hg2
 obtain rfl:=Option.some.inj hg2
 unfold Pow Lib.TabIs
 rw [hvar,<- cells_of_tab Tryz.underlying259 Tryz.underlying181 (by kernel_rfl) (by kernel_rfl) hd]
