import Derived.Test.YtppefcdkgejfbaaGreatDoorXac04
import Derived.Deep.RegionLaw
import Derived.Test.YtppefcdkgejfbaaGreatDoorXac01
import Derived.Test.YtppefcdkgejfbaaGreatDoorRows
import Derived.Lib.SlicesCompact
import Derived.Sort.Walk0
import Derived.Shelf.Sort.Plain
import Derived.Shelf.Slices.In.SortNone
import Derived.Shelf.Slices.CompactS
import Derived.Sort.OwnSorted
import Derived.Lib.OwnBridge
import Derived.Deep.RegionHeld
import Derived.Deep.DrawnRows
set_option maxRecDepth 100000
set_option maxHeartbeats 32000000
namespace Go.Proofs.YtppefcdkgejfbaaGreatDoor
open Go.RowKit Go.Lib
set_option linter.unusedSimpArgs false
set_option linter.unusedVariables false
attribute [local go_sem ↓] Go.wp_at_zero Go.wp_at_succ
attribute [local go_sem] fld_i
theorem stk_len:∀ (st:List Sg),st.length<=(st.map cntS).sum
 | []=>by simp
 | x :: r=>by
  have:=stk_len r
  have h1:1<=cntS x:=cnt_pos x.1 x.2
  simp only [List.map_cons,List.sum_cons,List.length_cons]
  omega
theorem pNodes_cnt (d:Nat) (t:T d) (w:World) (hc:Cl d t) (hn:cnt d t<=100000):Calls Tryz.prog 43 #[exV d t] w fun r w'=>r=.returned (.int .i64 ((min (cnt d t) 41:Nat):Int))/\Below w.heap.size w w':=by
 obtain ⟨i0,hi,hz0,hz1,hz2⟩:=info_parts Tryz.infoE
 obtain ⟨x,hx⟩:∃ x,exV d t=x:=⟨_,rfl⟩
 have hf:=exV_form d t
 obtain ⟨N,hN⟩:∃ N,cnt d t=N:=⟨_,rfl⟩
 have hst:Hid (Stk (w.alloc (.cells #[x] 85)) w.heap.size (.slice (some ⟨w.heap.size,0,none⟩) 1 1) [(⟨d,t⟩:Sg)]):=by
  have:=World.ownsRow_lit (e:=85) (base:=w.heap.size) (size:=1) w #[x] 1 Nat.le.refl (by simp [maxLen]) (by simp)
  show Stk _ _ _ _
  unfold Stk
  simpa [exS,hx] using this
 have hcl:Hid (∀ y∈[(⟨d,t⟩:Sg)],ClS y):=fun y hy=>by simp at hy;subst hy;exact hc
 have hsum:Hid (0+(([(⟨d,t⟩:Sg)]).map cntS).sum=N):=by show 0+(cnt d t+0)=N;omega
 obtain ⟨V,hV⟩:∃ V,min (cnt d t) 41=V:=⟨_,rfl⟩
 rw [hV]
 have HV:Hid (min N 41=V):=by rw [<- hN];exact hV
 rw [hN] at hn
 rw [hx] at hf ⊢
 clear hx hN hc hV
 obtain ⟨S,hS⟩:∃ S,[(⟨d,t⟩:Sg)]=S:=⟨_,rfl⟩
 rw [hS] at hst hcl hsum
 clear hS t d
 rcases hf with rfl|⟨u,y,rfl⟩
 ·go_enter Tryz.func43,Tryz.ntmps43
  go_wp2
  go_loopw [3,4] (fun a v wr=>∃ (c:Nat) (st:List Sg),a=.int .i64 (c:Int)/\c<=41/\Stk wr w.heap.size v st/\Hid (∀ y∈st,ClS y)/\Hid (c+(st.map cntS).sum=N)/\Below w.heap.size w wr) (fun a _ _=>41 - (RowKit.intOf a).toNat)
  case atStart=>exact ⟨0,S,rfl,by omega,hst.out,hcl,hsum,(Below.refl _ _).alloc Nat.le.refl _⟩
  case round=>
   obtain ⟨c,st,rfl,hc41,hS,hC,hM,hb⟩:=hrel
   by_cases he:st=[]
   ·subst he
    obtain ⟨a,cap,rfl⟩:=hS.nil
    have hm:=hM.out
    simp only [List.map_nil,List.sum_nil,Nat.add_zero] at hm
    subst hm
    have hmin:V=c:=by rw [<- HV.out];omega
    subst hmin
    clear hsum
    go_wp2
    go_ret
    exact ⟨rfl,hb⟩
   obtain ⟨st',y,rfl⟩:=last_of he
   obtain ⟨g,cap,rfl,hcap,hcm,hgb,hgl,hcell,hS'⟩:=hS.pop
   have hm:=hM.out
   rw [List.map_append,List.sum_append,List.map_singleton,List.sum_singleton] at hm
   have hcl1:=hC.out y (by simp)
   obtain ⟨e,t⟩:=y
   cases e with
   | zero=>exact Empty.elim t
   | succ e=>
   obtain ⟨k,n,s,ps,rfl,htop⟩:=top_any (d:=e) (t:=t) hcl1
   have hcs:cntS ⟨e+1,mkT k n s ps⟩=(ps.map (cnt e)).sum+1:=cnt_mk k n s ps
   rw [hcs] at hm
   have i1:((st'.length:Int)+1 > 0):=by omega
   by_cases hc40:c=41
   ·have i2:¬ (c:Int)<=40:=by omega
    have hmin:V=c:=by rw [<- HV.out];omega
    subst hmin
    clear hsum htop hcell hm hcs hC hM hS hS' hcl1 hst HV
    go_wp2
    go_ret
    exact ⟨rfl,hb⟩
   have i2:(c:Int)<=40:=by omega
   have hS2:=fun w1 (b:Below wr.heap.size wr w1)=>hS'.on b Nat.le.refl
   have hq:=hb.size
   have i3:(0:Int)<=(st'.length:Int):=by omega
   have i4:(st'.length:Int)<=(cap:Int):=by omega
   have i5:(st'.length:Int) < (st'.length:Int)+1:=by omega
   have hpl:ps.length<=2:=(Cl.parts hcl1).1
   have hsl:st'.length<=100000:=by
    have:st'.length<=(st'.map cntS).sum:=stk_len st'
    omega
   have hNM:Hid (c+1+((st'++kidS ps).map cntS).sum=N):=by
    show _=_
    rw [List.map_append,List.sum_append,kidS_cnt];omega
   have hNC:Hid (∀ y∈st'++kidS ps,ClS y):=fun y hy=>by
    rcases List.mem_append.1 hy with h|h
    ·exact hC.out y (by simp [h])
    ·obtain ⟨p,hp,rfl⟩:=List.mem_map.1 h
     exact (Cl.parts hcl1).2 p hp
   obtain ⟨L,hL⟩:∃ L,ps.map (exV e)=L:=⟨_,rfl⟩
   obtain ⟨z,hz⟩:∃ z,exS ⟨e+1,mkT k n s ps⟩=z:=⟨_,rfl⟩
   have hzf:=exS_form ⟨e+1,mkT k n s ps⟩
   have hti:Hid (∀ v∈L,Ifc v):=by rw [<- hL];exact ifc_map ps
   have hLl:Hid (L.length=ps.length):=by rw [<- hL];show _=_;simp
   have hL2:L.length<=2:=by rw [hLl.out];exact hpl
   have htop':∀ w1,Calls Tryz.prog 62 #[z] w1 fun e w'=>∃ sl,e=.returned (.agg #[.int .i64 k,.int .i64 n,.string s,sl])/\Kids w' sl L/\Below w1.heap.size w1 w':=by rw [<- hz,<- hL];exact htop
   rw [hz] at hcell hzf
   have hLH:Hid (ps.map (exV e)=L):=hL
   clear hL hz htop hm hcs hC hM hS hcl1 hst hsum hS'
   go_wp2
   go_region_law (first
     | (refine step_append_both _ (by rfl) (.tmp 20) (.tmp 26) 156 156 (by rfl) w.heap.size 85 i0 .nilIface 1 16 Tryz.underlying156 hi hz0 hz1 hz2 rfl _ st'.length _ (by rfl) ho1 _ L.length L (by rfl) (hk1.src hti.out) L.length (.inr (by omega)) Nat.le.refl (by unfold maxLen;omega) (Nat.le_trans hq b1'.size) ?_;intro v4 w4 ho4 hg4 _)
     | (go_simp;refine (htop' _).mono ?_;rintro e w1 ⟨sl,rfl,hk1,b1⟩;obtain ⟨a1,rfl⟩:=hk1.form;have b1':Below wr.heap.size wr w1:=((Below.refl _ wr).drew).trans b1;have ho1:=hS2 w1 b1'))
   have bel4:Below w.heap.size w w4:=(hb.trans (b1'.mono hq)).grown hg4 (Nat.le_trans hq b1'.size) (fun k hk=>(World.ownsRow.lt ho1 k hk).1)
   have hS4:Stk w4 w.heap.size v4 (st'++kidS ps):=Stk.push (n:=st'.length+L.length) (by rw [hLl.out]) (by rw [hLH.out];exact ho4)
   clear ho4 hg4 ho1 hk1 b1 b1' hS2 hcell htop' hb
   go_wp2
   go_roundw
   case rel=>exact ⟨c+1,st'++kidS ps,by go_num,by omega,hS4,hNC,hNM,bel4⟩
   case measure=>simp [RowKit.intOf];omega
 ·go_enter Tryz.func43,Tryz.ntmps43
  go_wp2
  go_loopw [3,4] (fun a v wr=>∃ (c:Nat) (st:List Sg),a=.int .i64 (c:Int)/\c<=41/\Stk wr w.heap.size v st/\Hid (∀ y∈st,ClS y)/\Hid (c+(st.map cntS).sum=N)/\Below w.heap.size w wr) (fun a _ _=>41 - (RowKit.intOf a).toNat)
  case atStart=>exact ⟨0,S,rfl,by omega,hst.out,hcl,hsum,(Below.refl _ _).alloc Nat.le.refl _⟩
  case round=>
   obtain ⟨c,st,rfl,hc41,hS,hC,hM,hb⟩:=hrel
   by_cases he:st=[]
   ·subst he
    obtain ⟨a,cap,rfl⟩:=hS.nil
    have hm:=hM.out
    simp only [List.map_nil,List.sum_nil,Nat.add_zero] at hm
    subst hm
    have hmin:V=c:=by rw [<- HV.out];omega
    subst hmin
    clear hsum
    go_wp2
    go_ret
    exact ⟨rfl,hb⟩
   obtain ⟨st',y,rfl⟩:=last_of he
   obtain ⟨g,cap,rfl,hcap,hcm,hgb,hgl,hcell,hS'⟩:=hS.pop
   have hm:=hM.out
   rw [List.map_append,List.sum_append,List.map_singleton,List.sum_singleton] at hm
   have hcl1:=hC.out y (by simp)
   obtain ⟨e,t⟩:=y
   cases e with
   | zero=>exact Empty.elim t
   | succ e=>
   obtain ⟨k,n,s,ps,rfl,htop⟩:=top_any (d:=e) (t:=t) hcl1
   have hcs:cntS ⟨e+1,mkT k n s ps⟩=(ps.map (cnt e)).sum+1:=cnt_mk k n s ps
   rw [hcs] at hm
   have i1:((st'.length:Int)+1 > 0):=by omega
   by_cases hc40:c=41
   ·have i2:¬ (c:Int)<=40:=by omega
    have hmin:V=c:=by rw [<- HV.out];omega
    subst hmin
    clear hsum htop hcell hm hcs hC hM hS hS' hcl1 hst HV
    go_wp2
    go_ret
    exact ⟨rfl,hb⟩
   have i2:(c:Int)<=40:=by omega
   have hS2:=fun w1 (b:Below wr.heap.size wr w1)=>hS'.on b Nat.le.refl
   have hq:=hb.size
   have i3:(0:Int)<=(st'.length:Int):=by omega
   have i4:(st'.length:Int)<=(cap:Int):=by omega
   have i5:(st'.length:Int) < (st'.length:Int)+1:=by omega
   have hpl:ps.length<=2:=(Cl.parts hcl1).1
   have hsl:st'.length<=100000:=by
    have:st'.length<=(st'.map cntS).sum:=stk_len st'
    omega
   have hNM:Hid (c+1+((st'++kidS ps).map cntS).sum=N):=by
    show _=_
    rw [List.map_append,List.sum_append,kidS_cnt];omega
   have hNC:Hid (∀ y∈st'++kidS ps,ClS y):=fun y hy=>by
    rcases List.mem_append.1 hy with h|h
    ·exact hC.out y (by simp [h])
    ·obtain ⟨p,hp,rfl⟩:=List.mem_map.1 h
     exact (Cl.parts hcl1).2 p hp
   obtain ⟨L,hL⟩:∃ L,ps.map (exV e)=L:=⟨_,rfl⟩
   obtain ⟨z,hz⟩:∃ z,exS ⟨e+1,mkT k n s ps⟩=z:=⟨_,rfl⟩
   have hzf:=exS_form ⟨e+1,mkT k n s ps⟩
   have hti:Hid (∀ v∈L,Ifc v):=by rw [<- hL];exact ifc_map ps
   have hLl:Hid (L.length=ps.length):=by rw [<- hL];show _=_;simp
   have hL2:L.length<=2:=by rw [hLl.out];exact hpl
   have htop':∀ w1,Calls Tryz.prog 62 #[z] w1 fun e w'=>∃ sl,e=.returned (.agg #[.int .i64 k,.int .i64 n,.string s,sl])/\Kids w' sl L/\Below w1.heap.size w1 w':=by rw [<- hz,<- hL];exact htop
   rw [hz] at hcell hzf
   have hLH:Hid (ps.map (exV e)=L):=hL
   clear hL hz htop hm hcs hC hM hS hcl1 hst hsum hS'
   go_wp2
   go_region_law (first
     | (refine step_append_both _ (by rfl) (.tmp 20) (.tmp 26) 156 156 (by rfl) w.heap.size 85 i0 .nilIface 1 16 Tryz.underlying156 hi hz0 hz1 hz2 rfl _ st'.length _ (by rfl) ho1 _ L.length L (by rfl) (hk1.src hti.out) L.length (.inr (by omega)) Nat.le.refl (by unfold maxLen;omega) (Nat.le_trans hq b1'.size) ?_;intro v4 w4 ho4 hg4 _)
     | (go_simp;refine (htop' _).mono ?_;rintro e w1 ⟨sl,rfl,hk1,b1⟩;obtain ⟨a1,rfl⟩:=hk1.form;have b1':Below wr.heap.size wr w1:=((Below.refl _ wr).drew).trans b1;have ho1:=hS2 w1 b1'))
   have bel4:Below w.heap.size w w4:=(hb.trans (b1'.mono hq)).grown hg4 (Nat.le_trans hq b1'.size) (fun k hk=>(World.ownsRow.lt ho1 k hk).1)
   have hS4:Stk w4 w.heap.size v4 (st'++kidS ps):=Stk.push (n:=st'.length+L.length) (by rw [hLl.out]) (by rw [hLH.out];exact ho4)
   clear ho4 hg4 ho1 hk1 b1 b1' hS2 hcell htop' hb
   go_wp2
   go_roundw
   case rel=>exact ⟨c+1,st'++kidS ps,by go_num,by omega,hS4,hNC,hNM,bel4⟩
   case measure=>simp [RowKit.intOf];omega
end Go.Proofs.YtppefcdkgejfbaaGreatDoor
namespace Go.Proofs.YtppefcdkgejfbaaGreatDoor
open Go.RowKit Go.Lib
set_option linter.unusedSimpArgs false
set_option linter.unusedVariables false
attribute [local go_sem ↓] Go.wp_at_zero Go.wp_at_succ
def FormedP:Prop:=∀ (d:Nat) (t:T d) (w:World),Cl d t->cnt d t<=100000->shrt 1000 d t=true->Calls Tryz.prog 23 #[exV d t] w fun r w'=>r=.returned (.bool (fmC d t))/\Below w.heap.size w w'
theorem bthen {a b c:World}(h:Below a.heap.size a b) (k:Below b.heap.size b c):Below a.heap.size a c:=h.trans (k.mono h.size)
theorem small_cln {d:Nat}{t:T d}(h:0<=sml d t 0 200):cnt (d+1) (cln d t)<=1000/\shrt 1000 (d+1) (cln d t)=true:=by
 obtain ⟨h1,h2⟩:=sml_ok d t 0 200 h
 have h3:=cnt_cln d t
 exact ⟨by omega,shrt_cln 1000 d t h2⟩
theorem ndC_cnt:∀ (d:Nat) (t:T d),ndC d t=min (cnt d t) 41
 | 0,t=>Empty.elim t
 | d+1,t=>by
  obtain ⟨k,n,s,ps,rfl⟩:=T.open t
  rw [ndC_mk,cnt_mk]
  have:∀ l:List (T d),min ((l.map (ndC d)).sum+1) 41=min ((l.map (cnt d)).sum+1) 41:=fun l=>by
   induction l with
   | nil=>rfl
   | cons p r ih=>
    have:=ndC_cnt d p
    simp only [List.map_cons,List.sum_cons]
    omega
  exact this ps
theorem foldl_max_iff {m:Nat}:∀ (l:List Nat) (a:Nat),l.foldl max a<=m↔a<=m/\∀ x∈l,x<=m
 | [],a=>by simp
 | x :: r,a=>by
  rw [List.foldl_cons,foldl_max_iff r,Nat.max_le]
  simp only [List.mem_cons,forall_eq_or_imp,and_assoc]
theorem sd_rt {d:Nat}{k n:Int}{s:ByteArray}{ps:List (T d)}(h:Cl (d+1) (mkT k n s ps)):sdC (d+1) (mkT k n s ps)=(rtC k n s && ps.all (sdC d)):=by
 rw [sdC_mk]
 unfold rtC
 rcases h with ⟨h1,h2,h3⟩|⟨h1,h2,h3⟩|⟨h1,h2,h3,p,h4,h5⟩|⟨h1,h2,p,q,h3,h4,h5⟩|⟨h1,h2,h3,h4⟩
 ·simp only at h1 h3;subst h1 h3;simp
 ·simp only at h1 h3;subst h1 h3;simp
 ·simp only at h1 h4;rcases h1 with rfl|rfl<;>simp
 ·simp only at h1 h3;subst h1 h3;simp
 ·simp only at h1 h4;subst h1 h4;simp
theorem within_all {d:Nat}{k n:Int}{s:ByteArray}{ps:List (T d)}(h:Cl (d+1) (mkT k n s ps)) (r:Nat) :
  (decide (dpC (d+1) (mkT k n s ps)<=r+1) && sdC (d+1) (mkT k n s ps))=(rtC k n s && ps.all (fun p=>decide (dpC d p<=r) && sdC d p)):=by
 rw [sd_rt h,dpC_mk]
 have e1:decide ((ps.map (dpC d)).foldl max 0+1<=r+1)=ps.all (fun p=>decide (dpC d p<=r)):=by
  rw [Bool.eq_iff_iff]
  simp only [decide_eq_true_eq,List.all_eq_true]
  rw [Nat.add_le_add_iff_right,foldl_max_iff]
  simp
 have e2:ps.all (fun p=>decide (dpC d p<=r) && sdC d p)=(ps.all (fun p=>decide (dpC d p<=r)) && ps.all (sdC d)):=by
  induction ps with
  | nil=>rfl
  | cons p q ih=>
   simp only [List.all_cons]
   have:q.all (fun p=>decide (dpC d p<=r) && sdC d p)=(q.all (fun p=>decide (dpC d p<=r)) && q.all (sdC d)):=by
    clear ih e1 h
    induction q with
    | nil=>rfl
    | cons a b ih=>simp only [List.all_cons];rw [ih];cases decide (dpC d a<=r)<;>cases sdC d a<;>simp
   rw [this]
   cases decide (dpC d p<=r)<;>cases sdC d p<;>simp
 rw [e1,e2]
 cases rtC k n s<;>simp
theorem dpC_pos (d:Nat) (t:T d):1<=dpC d t:=by
 match d,t with
 | 0,t=>exact Empty.elim t
 | d+1,t=>
  obtain ⟨k,n,s,ps,rfl⟩:=T.open t
  rw [dpC_mk];omega
def RightC (d:Nat):Prop:=∀ (t:T d) (r:Nat) (w:World),Cl d t->shrt 1000 d t=true->r<=12->
 Calls Tryz.prog 44 #[exV d t,.int .i64 (r:Int)] w fun e w'=>e=.returned (.bool (decide (dpC d t<=r) && sdC d t))/\Below w.heap.size w w'
theorem right_step (d:Nat) (IH:RightC d):RightC (d+1):=by
 intro t r w hc hs hr
 obtain ⟨k,n,s,ps,rfl,htop⟩:=top_any hc
 rw [shrt_mk] at hs
 simp only [Bool.and_eq_true,decide_eq_true_eq,List.all_eq_true] at hs
 obtain ⟨hs1,hs2⟩:=hs
 obtain ⟨x,hx⟩:∃ x,exV (d+1) (mkT k n s ps)=x:=⟨_,rfl⟩
 rw [hx] at htop ⊢
 have htop':∀ w1,Calls Tryz.prog 62 #[x] w1 fun e w'=>∃ sl,e=.returned (.agg #[.int .i64 k,.int .i64 n,.string s,sl])/\Kids w' sl (ps.map (exV d))/\Below w1.heap.size w1 w':=htop
 cases r with
 | zero=>
  have e1:(((0:Nat):Int) < 1):=by omega
  have hd:=dpC_pos (d+1) (mkT k n s ps)
  rw [decide_eq_false (by omega),Bool.false_and]
  go_enter Tryz.func44,Tryz.ntmps44
  go_wp2_with (first
   | (go_at_call 62;refine (htop' _).mono ?_;rintro e w1 ⟨sl,rfl,hk1,b1⟩;obtain ⟨a1,rfl⟩:=hk1.form))
  go_ret
  exact ⟨rfl,b1.alloc b1.size _⟩
 | succ r=>
 rw [within_all hc]
 obtain ⟨L,hL⟩:∃ L,ps.map (exV d)=L:=⟨_,rfl⟩
 have hkid:Hid (∀ (j:Nat) (h:j < L.length) (h':j < ps.length) (w1:World),Calls Tryz.prog 44 #[L[j],.int .i64 (r:Int)] w1 fun e w'=>e=.returned (.bool (decide (dpC d ps[j]<=r) && sdC d ps[j]))/\Below w1.heap.size w1 w'):=
  fun j h h' w1=>by
   have:=IH ps[j] r w1 ((Cl.parts hc).2 _ (List.getElem_mem h')) (hs2 _ (List.getElem_mem h')) (by omega)
   subst hL
   simpa using this
 have hrt:=fun a m w1=>rightTop_any k n s a m hs1 w1
 have hpl:L.length<=2:=by rw [<- hL];simpa using (Cl.parts hc).1
 have hLl:Hid (L.length=ps.length):=by rw [<- hL];show _=_;simp
 have i0:¬ ((r:Int)+1 < 1):=by omega
 have i1:(((r+1:Nat):Int))=(r:Int)+1:=by omega
 rw [i1]
 obtain ⟨g,hg⟩:∃ g,rtC k n s=g:=⟨_,rfl⟩
 simp only [hg] at hrt
 simp only [hL] at htop'
 rw [hg]
 clear hg i1 htop hs1 hs2 hc hx hL
 cases g with
 | false=>
  rw [Bool.false_and]
  go_enter Tryz.func44,Tryz.ntmps44
  go_wp2_with (first
   | (go_at_call 62;refine (htop' _).mono ?_;rintro e w1 ⟨sl,rfl,hk1,b1⟩;obtain ⟨a1,rfl⟩:=hk1.form;have b2:=b1.alloc b1.size (.cells #[.int .i64 k,.int .i64 n,.string s,.slice a1 L.length L.length] 158))
   | (go_at_call 63;refine (hrt _ _ _).mono ?_;rintro e w2 ⟨rfl,b3⟩))
  go_ret
  exact ⟨rfl,b2.trans (b3.mono b2.size)⟩
 | true=>
  rw [Bool.true_and]
  obtain ⟨V,hV⟩:∃ V,ps.all (fun p=>decide (dpC d p<=r) && sdC d p)=V:=⟨_,rfl⟩
  rw [hV]
  have HV:Hid (ps.all (fun p=>decide (dpC d p<=r) && sdC d p)=V):=hV
  clear hV
  go_enter Tryz.func44,Tryz.ntmps44
  go_wp2_with (first
   | (go_at_call 62;refine (htop' _).mono ?_;rintro e w1 ⟨sl,rfl,hk1,b1⟩;obtain ⟨a1,rfl⟩:=hk1.form;have b2:=b1.alloc b1.size (.cells #[.int .i64 k,.int .i64 n,.string s,.slice a1 L.length L.length] 158))
   | (go_at_call 63;refine (hrt _ _ _).mono ?_;rintro e w2 ⟨rfl,b3⟩;obtain ⟨y0,y1,y2,y3⟩:=(At4.new w1 (.int .i64 k) (.int .i64 n) (.string s) (.slice a1 L.length L.length) 158).keepB b3 (by simp)))
  have b4:=b2.trans (b3.mono b2.size)
  have hk2:=(hk1.below ((Below.refl _ _).alloc Nat.le.refl _) Nat.le.refl).below b3 Nat.le.refl
  clear hrt htop' hk1 b1 b2 b3
  go_loopw [20] (fun i wr=>∃ j:Nat,j<=L.length/\i=.int .i64 (j:Int)/\Hid ((ps.take j).all (fun p=>decide (dpC d p<=r) && sdC d p)=true)/\Hid (Kids wr (.slice a1 L.length L.length) L)/\Below w.heap.size w wr) (fun i _=>L.length - (RowKit.intOf i).toNat)
  case atStart=>exact ⟨0,Nat.zero_le _,rfl,rfl,hk2,b4⟩
  case round=>
   obtain ⟨j,hj,rfl,hA,hK,hb⟩:=hrel
   have i2:(0:Int)<=(j:Int):=by omega
   have hll:=hLl.out
   by_cases hlt:j < L.length
   ·have i3:(j:Int) < (L.length:Int):=by omega
    obtain ⟨gg,hgg,hcell⟩:=hK.out.at hlt
    have hc2:=hkid.out j hlt (by omega)
    have h1:=all_take_succ (fun p=>decide (dpC d p<=r) && sdC d p) ps j (by omega) hA.out
    have h2:=all_not (fun p=>decide (dpC d p<=r) && sdC d p) ps j (by omega)
    obtain ⟨z,hz⟩:∃ z,L[j]=z:=⟨_,rfl⟩
    obtain ⟨q,hq⟩:∃ q,(decide (dpC d (ps[j]'(by omega))<=r) && sdC d (ps[j]'(by omega)))=q:=⟨_,rfl⟩
    rw [hz] at hcell
    simp only [hz,hq] at hc2
    simp only [hq] at h1 h2
    subst hgg
    have hK2:=fun w3 (b:Below wr.heap.size wr w3)=>hK.out.below b Nat.le.refl
    have hS:Hid (_->_):=h1
    have hN:Hid (_->_):=h2
    clear hz hq h1 h2 hll hK hA
    cases q with
    | false=>
     have hF:V=false:=by rw [<- HV.out];exact hN.out rfl
     subst hF
     go_wp2_with (first
      | (go_at_call 44;refine (hc2 _).mono ?_;rintro e w3 ⟨rfl,b5⟩))
     go_ret
     exact ⟨rfl,hb.trans (b5.mono hb.size)⟩
    | true=>
     have hT:=hS.out rfl
     have HT:Hid ((ps.take (j+1)).all (fun p=>decide (dpC d p<=r) && sdC d p)=true):=hT
     clear hT hS hN
     go_wp2_with (first
      | (go_at_call 44;refine (hc2 _).mono ?_;rintro e w3 ⟨rfl,b5⟩))
     have hK3:Hid _:=hK2 _ b5
     have b6:=hb.trans (b5.mono hb.size)
     go_roundw
     case rel=>exact ⟨j+1,hlt,by go_num,HT,hK3,b6⟩
     case measure=>simp [RowKit.intOf];omega
   ·have i3:¬ (j:Int) < (L.length:Int):=by omega
    have hF:V=true:=by
     rw [<- HV.out,<- hA.out,List.take_of_length_le (by omega)]
    subst hF
    clear hll
    go_wp2
    go_ret
    exact ⟨rfl,hb⟩
theorem right_any:∀ (d:Nat),RightC d
 | 0=>fun t=>Empty.elim t
 | d+1=>right_step d (right_any d)
theorem pNodes_any (d:Nat) (t:T d) (w:World) (hc:Cl d t) (hn:cnt d t<=100000):Calls Tryz.prog 43 #[exV d t] w fun r w'=>r=.returned (.int .i64 (ndC d t:Int))/\Below w.heap.size w w':=by
 rw [ndC_cnt]
 exact pNodes_cnt d t w hc hn
theorem formedP:FormedP:=by
 intro d t w hc hn hs
 have h1:=pNodes_any d t w hc hn
 have h2:=fun w1=>right_any d t 12 w1 hc hs Nat.le.refl
 unfold fmC
 obtain ⟨N,hN⟩:∃ N,ndC d t=N:=⟨_,rfl⟩
 obtain ⟨q,hq⟩:∃ q,(decide (dpC d t<=12) && sdC d t)=q:=⟨_,rfl⟩
 obtain ⟨x,hx⟩:∃ x,exV d t=x:=⟨_,rfl⟩
 rw [Bool.and_assoc,hN,hq]
 rw [hN] at h1
 simp only [hq] at h2
 rw [hx] at h1 ⊢
 simp only [hx] at h2
 clear hN hq hx hc hn hs
 by_cases h40:N<=40
 ·have e1:(N:Int)<=40:=by omega
  rw [decide_eq_true h40,Bool.true_and]
  go_enter Tryz.func23,Tryz.ntmps23
  go_wp2_with (first
   | (go_at_call 43;refine h1.mono ?_;rintro e w1 ⟨rfl,b1⟩)
   | (go_at_call 44;refine (h2 _).mono ?_;rintro e w2 ⟨rfl,b2⟩))
  go_ret
  exact ⟨rfl,bthen b1 b2⟩
 ·have e1:¬ (N:Int)<=40:=by omega
  rw [decide_eq_false h40,Bool.false_and]
  go_enter Tryz.func23,Tryz.ntmps23
  go_wp2_with (first
   | (go_at_call 43;refine h1.mono ?_;rintro e w1 ⟨rfl,b1⟩))
  go_ret
  exact ⟨rfl,b1⟩
def lss (a b:ByteArray):Bool:=Op.bytesLess a.toList b.toList
def lead (ls:List ByteArray) (s:ByteArray):Nat:=(ls.takeWhile (fun x=>lss x s)).length
def adS (ls:List ByteArray) (s:ByteArray):List ByteArray:=if ls[lead ls s]?=some s then ls else ls.take (lead ls s)++[s]++ls.drop (lead ls s)
def cS (ls:List ByteArray):List Value:=ls.map .string
def RdS (w:World) (v:Value) (ls:List ByteArray):Prop:=w.ownsRow 0 9 1 v ls.length (cS ls)
theorem rdS_nil (w:World):RdS w (.slice none 0 0) []:=World.ownsRow_nil w 0 9 1
theorem RdS.form {w:World}{v:Value}{ls:List ByteArray}(h:RdS w v ls):(v=.slice none 0 0/\ls=[])∨∃ g cap,v=.slice (some ⟨g,0,none⟩) ls.length cap/\ls.length<=cap/\cap<=maxLen/\∀ (i:Nat) (hi:i < ls.length),w.cell? ⟨g,i,none⟩=some (.string ls[i]):=by
 rcases h.2 with ⟨h1,h2⟩|⟨g,cap,cur,rfl,hb,hg,hnc,hcm,_⟩
 ·exact .inl ⟨h1,List.eq_nil_of_length_eq_zero h2⟩
 ·refine .inr ⟨g,cap,rfl,hnc,hcm,fun i hi=>?_⟩
  have h1:=World.ownsRow.cells h (g:=g) rfl i (.string ls[i]) (by simp [cS,hi])
  have hp:(⟨g,0,none⟩:Addr).add i=⟨g,i,none⟩:=by unfold Addr.add;split<;>simp_all
  rw [hp] at h1
  exact h1
theorem lead_le (ls:List ByteArray) (s:ByteArray):lead ls s<=ls.length:=by
 unfold lead
 exact (List.takeWhile_prefix _).length_le
theorem src_texts {P:Program}{t:TypeId}(ht:P.underlying t=some (.slice 9)) {w:World}{a:Addr}{n c:Nat}{ls:List ByteArray}(hl:ls.length=n) (h:∀ (i:Nat) (hi:i < ls.length),w.cell? (a.add i)=some (.string ls[i])):Src P 1 t (.slice (some a) n c) n (cS ls) w:=by
 refine Src.ofSlice w ht a n c (cS ls) (by simp [cS,hl]) (fun j u hu=>?_) (fun u hu=>?_)
 ·have hj:j < ls.length:=by
   rcases Nat.lt_or_ge j ls.length with h|h
   ·exact h
   ·rw [List.getElem?_eq_none (by simp [cS];omega)] at hu;cases hu
  have:u=.string ls[j]:=by simpa [cS,hj] using hu.symm
  rw [this];exact h j hj
 ·obtain ⟨x,_,rfl⟩:=List.mem_map.1 hu
  rfl
theorem Tryz.infoStr:(Tryz.prog.info? 9).map (fun i=>(i.zero,i.size,i.bytes))=some (some (.string ⟨#[]⟩),1,16):=by kernel_rfl
theorem cS_append (a b:List ByteArray):cS (a++b)=cS a++cS b:=by simp [cS]
theorem ownsRow_zero {w:World}{base e size:Nat}{v:Value}{n:Nat}{xs:List Value}(h:w.ownsRow base e size v n xs):w.ownsRow 0 e size v n xs:=
 ⟨h.1,h.2.elim Or.inl (fun ⟨g,cap,cur,hv,hg,r⟩=>Or.inr ⟨g,cap,cur,hv,Nat.zero_le _,r⟩)⟩
def rfC:(d:Nat)->T d->List ByteArray->List ByteArray:=fold (fun k _ s fs l=>fs.foldl (fun a f=>f a) (if k=2 then adS l s else l))
theorem rfC_mk {d:Nat}(k n:Int) (s:ByteArray) (ps:List (T d)) (l:List ByteArray):rfC (d+1) (mkT k n s ps) l=ps.foldl (fun a p=>rfC d p a) (if k=2 then adS l s else l):=by
 show (ps.map (rfC d)).foldl (fun a f=>f a) (if k=2 then adS l s else l)=_
 rw [List.foldl_map]
theorem adS_len (l:List ByteArray) (s:ByteArray):(adS l s).length<=l.length+1:=by
 have:=lead_le l s
 unfold adS
 split
 ·omega
 ·simp;omega
theorem foldl_len {d:Nat}(H:∀ (p:T d) (l:List ByteArray),(rfC d p l).length<=l.length+cnt d p):∀ (ps:List (T d)) (l:List ByteArray),(ps.foldl (fun a p=>rfC d p a) l).length<=l.length+(ps.map (cnt d)).sum
 | [],l=>by simp
 | p :: r,l=>by
  have h1:=H p l
  have h2:=foldl_len H r (rfC d p l)
  simp only [List.foldl_cons,List.map_cons,List.sum_cons]
  omega
theorem rfC_len:∀ (d:Nat) (t:T d) (l:List ByteArray),(rfC d t l).length<=l.length+cnt d t
 | 0,t,_=>Empty.elim t
 | d+1,t,l=>by
  obtain ⟨k,n,s,ps,rfl⟩:=T.open t
  rw [rfC_mk,cnt_mk]
  have h1:=foldl_len (rfC_len d) ps (if k=2 then adS l s else l)
  have h2:=adS_len l s
  split at h1<;>rename_i hk
  ·rw [if_pos hk];omega
  ·rw [if_neg hk];omega
def rfT (d:Nat) (t:T d):List ByteArray:=if fmC d t=true then rfC d t [] else []
def nmC:(d:Nat)->T d->List ByteArray:=fold (fun k _ s l=>(if k=2 then [s] else [])++l.flatten)
theorem nmC_mk {d:Nat}(k n:Int) (s:ByteArray) (ps:List (T d)):nmC (d+1) (mkT k n s ps)=(if k=2 then [s] else [])++(ps.map (nmC d)).flatten:=rfl
theorem rf_nm:∀ (d:Nat) (t:T d) (l:List ByteArray),rfC d t l=(nmC d t).foldl adS l
 | 0,t,_=>Empty.elim t
 | d+1,t,l=>by
  obtain ⟨k,n,s,ps,rfl⟩:=T.open t
  rw [rfC_mk,nmC_mk,List.foldl_append]
  have e1:(if k=2 then [s] else []).foldl adS l=if k=2 then adS l s else l:=by split<;>rfl
  rw [e1]
  generalize (if k=2 then adS l s else l)=a
  induction ps generalizing a with
  | nil=>rfl
  | cons p r ih=>
   simp only [List.foldl_cons,List.map_cons,List.flatten_cons,List.foldl_append]
   rw [rf_nm d p a]
   exact ih _
theorem nm_len:∀ (d:Nat) (t:T d),(nmC d t).length<=cnt d t
 | 0,t=>Empty.elim t
 | d+1,t=>by
  obtain ⟨k,n,s,ps,rfl⟩:=T.open t
  rw [nmC_mk,cnt_mk,List.length_append]
  have h1:(if k=2 then [s] else []).length<=1:=by split<;>simp
  have h2:((ps.map (nmC d)).flatten).length<=(ps.map (cnt d)).sum:=by
   induction ps with
   | nil=>simp
   | cons p r ih=>
    have:=nm_len d p
    simp only [List.map_cons,List.flatten_cons,List.length_append,List.sum_cons]
    omega
  omega
abbrev Bs:=List UInt8
def Up (l:List Bs):Prop:=l.Pairwise (· < ·)
theorem up_eq:∀ {a b:List Bs},Up a->Up b->(∀ x,x∈a↔x∈b)->a=b
 | [],[],_,_,_=>rfl
 | [],y :: b,_,_,h=>by have:=(h y).2 (by simp);simp at this
 | x :: a,[],_,_,h=>by have:=(h x).1 (by simp);simp at this
 | x :: a,y :: b,ha,hb,h=>by
  obtain ⟨ha1,ha2⟩:=List.pairwise_cons.1 ha
  obtain ⟨hb1,hb2⟩:=List.pairwise_cons.1 hb
  have hxy:x=y:=by
   rcases List.mem_cons.1 ((h x).1 (by simp)) with e|e
   ·exact e
   ·rcases List.mem_cons.1 ((h y).2 (by simp)) with e' | e'
    ·exact e'.symm
    ·exact absurd (List.lt_trans (hb1 _ e) (ha1 _ e')) (List.lt_irrefl _)
  subst hxy
  have:a=b:=up_eq ha2 hb2 (fun z=>by
   constructor
   ·intro hz
    rcases List.mem_cons.1 ((h z).1 (by simp [hz])) with e|e
    ·subst e;exact absurd (ha1 _ hz) (List.lt_irrefl _)
    ·exact e
   ·intro hz
    rcases List.mem_cons.1 ((h z).2 (by simp [hz])) with e|e
    ·subst e;exact absurd (hb1 _ hz) (List.lt_irrefl _)
    ·exact e)
  rw [this]
theorem lss_lt (a b:ByteArray):lss a b=decide (bl a < bl b):=by
 unfold lss
 rw [bytesLess_eq,ByteArray.toList_eq,ByteArray.toList_eq]
theorem bl_inj {a b:ByteArray}(h:bl a=bl b):a=b:=ByteArray.ext (Array.toList_inj.1 h)
theorem adS_up {ls:List ByteArray}(s:ByteArray) (h:Up (ls.map bl)):Up ((adS ls s).map bl)/\∀ x,x∈(adS ls s).map bl↔x∈ls.map bl∨x=bl s:=by
 induction ls with
 | nil=>
  have e:adS [] s=[s]:=rfl
  rw [e]
  exact ⟨by simp [Up],fun x=>by simp⟩
 | cons y r ih=>
  obtain ⟨h1,h2⟩:=List.pairwise_cons.1 h
  obtain ⟨i1,i2⟩:=ih h2
  by_cases hl:bl y < bl s
  ·have e1:lss y s=true:=by rw [lss_lt];exact decide_eq_true hl
   have e2:lead (y :: r) s=lead r s+1:=by unfold lead;rw [List.takeWhile_cons,if_pos e1];rfl
   have e3:adS (y :: r) s=y :: adS r s:=by
    unfold adS
    rw [e2,List.getElem?_cons_succ]
    split
    ·rfl
    ·simp
   rw [e3]
   refine ⟨List.pairwise_cons.2 ⟨fun x hx=>?_,i1⟩,fun x=>?_⟩
   ·rcases (i2 x).1 hx with e|e
    ·exact h1 x e
    ·rw [e];exact hl
   ·simp only [List.map_cons,List.mem_cons]
    rw [i2 x]
    constructor
    ·rintro (e|e|e)
     ·exact .inl (.inl e)
     ·exact .inl (.inr e)
     ·exact .inr e
    ·rintro ((e|e)|e)
     ·exact .inl e
     ·exact .inr (.inl e)
     ·exact .inr (.inr e)
  ·have e1:lss y s=false:=by rw [lss_lt];exact decide_eq_false hl
   have e2:lead (y :: r) s=0:=by unfold lead;rw [List.takeWhile_cons,if_neg (by rw [e1];decide)];rfl
   by_cases he:y=s
   ·subst he
    have e3:adS (y :: r) y=y :: r:=by unfold adS;rw [e2];simp
    rw [e3]
    exact ⟨h,fun x=>⟨.inl,fun e=>e.elim id (fun e=>by rw [e];simp)⟩⟩
   ·have e3:adS (y :: r) s=s :: y :: r:=by
     unfold adS
     rw [e2,if_neg (by simpa using he)]
     rfl
    rw [e3]
    have hlt:bl s < bl y:=by
     rcases List.le_total (bl s) (bl y) with q|q
     ·by_cases hq:bl s < bl y
      ·exact hq
      ·exact absurd (bl_inj (List.le_antisymm (List.not_lt.1 hq) q)) he
     ·exact absurd (bl_inj (List.le_antisymm q (List.not_lt.1 hl))) he
    refine ⟨List.pairwise_cons.2 ⟨fun x hx=>?_,h⟩,fun x=>?_⟩
    ·rcases List.mem_cons.1 hx with e|e
     ·rw [e];exact hlt
     ·exact List.lt_trans hlt (h1 x e)
    ·simp only [List.map_cons,List.mem_cons]
     constructor
     ·rintro (e|e)
      ·exact .inr e
      ·exact .inl e
     ·rintro (e|e)
      ·exact .inr e
      ·exact .inl e
theorem fold_up:∀ (ns ls:List ByteArray),Up (ls.map bl)->Up ((ns.foldl adS ls).map bl)/\∀ x,x∈(ns.foldl adS ls).map bl↔x∈ls.map bl∨x∈ns.map bl
 | [],ls,h=>⟨h,fun x=>by simp⟩
 | s :: r,ls,h=>by
  obtain ⟨a1,a2⟩:=adS_up s h
  obtain ⟨b1,b2⟩:=fold_up r (adS ls s) a1
  refine ⟨b1,fun x=>?_⟩
  rw [List.foldl_cons,b2 x,a2 x]
  simp only [List.map_cons,List.mem_cons]
  constructor
  ·rintro ((e|e)|e)
   ·exact .inl e
   ·exact .inr (.inl e)
   ·exact .inr (.inr e)
  ·rintro (e|e|e)
   ·exact .inl (.inl e)
   ·exact .inl (.inr e)
   ·exact .inr e
def lrB (x y:Bs):Bool:=decide (x<=y)
theorem comp_up (zs:List Bs) (h:zs.Pairwise (fun a b=>lrB a b=true)):∀ m,m<=zs.length->Up (compactUpTo zs.toArray m)/\∀ x,x∈compactUpTo zs.toArray m↔∃ j,j < m/\zs.toArray[j]! = x
 | 0,_=>⟨List.Pairwise.nil,fun x=>by simp [compactUpTo]⟩
 | m+1,hm=>by
  obtain ⟨a1,a2⟩:=comp_up zs h m (by omega)
  have hle:∀ i j,i < j->j < zs.length->zs.toArray[i]!<=zs.toArray[j]!:=fun i j hij hj=>by
   have:=List.pairwise_iff_getElem.1 h i j (by omega) hj hij
   unfold lrB at this
   rw [decide_eq_true_eq] at this
   simpa [getElem!_pos,show i < zs.length by omega,hj] using this
  rw [compactUpTo_succ]
  by_cases hk:keeps zs.toArray m=true
  ·rw [if_pos hk]
   refine ⟨List.pairwise_append.2 ⟨a1,by simp,fun x hx y hy=>?_⟩,fun x=>?_⟩
   ·simp at hy
    subst hy
    obtain ⟨j,hj,rfl⟩:=(a2 x).1 hx
    have hm0:m≠0:=by omega
    have hne:zs.toArray[m]!≠zs.toArray[m - 1]!:=by simpa [keeps,hm0] using hk
    have l1:=hle (m - 1) m (by omega) (by omega)
    have l2:zs.toArray[m - 1]! < zs.toArray[m]!:=by
     by_cases q:zs.toArray[m - 1]! < zs.toArray[m]!
     ·exact q
     ·exact absurd (List.le_antisymm (List.not_lt.1 q) l1) hne
    have l3:zs.toArray[j]!<=zs.toArray[m - 1]!:=by
     rcases Nat.lt_or_ge j (m - 1) with q|q
     ·exact hle j (m - 1) q (by omega)
     ·have:j=m - 1:=by omega
      subst this
      exact List.not_lt.1 (List.lt_irrefl _)
    have l4:=List.lt_of_le_of_lt l3 l2
    simpa using l4
   ·rw [List.mem_append,a2 x]
    constructor
    ·rintro (⟨j,hj,e⟩|e)
     ·exact ⟨j,by omega,e⟩
     ·exact ⟨m,by omega,(List.mem_singleton.1 e).symm⟩
    ·rintro ⟨j,hj,e⟩
     rcases Nat.lt_or_ge j m with q|q
     ·exact .inl ⟨j,q,e⟩
     ·have:j=m:=by omega
      subst this
      exact .inr (by rw [e];simp)
  ·rw [if_neg hk,List.append_nil]
   refine ⟨a1,fun x=>?_⟩
   rw [a2 x]
   have hk':m≠0/\zs.toArray[m]! = zs.toArray[m - 1]!:=by
    simp only [keeps,decide_eq_true_eq] at hk
    exact ⟨fun e=>hk (.inl e),Classical.byContradiction (fun q=>hk (.inr q))⟩
   constructor
   ·rintro ⟨j,hj,e⟩
    exact ⟨j,by omega,e⟩
   ·rintro ⟨j,hj,e⟩
    rcases Nat.lt_or_ge j m with q|q
    ·exact ⟨j,q,e⟩
    ·have:j=m:=by omega
     subst this
     exact ⟨j - 1,by omega,by rw [<- hk'.2];exact e⟩
theorem get_bang (zs:List Bs) (j:Nat) (hj:j < zs.length):zs.toArray[j]! = zs[j]:=by simp [getElem!_pos,hj]
theorem sort_names (ns:List ByteArray):compact ((ns.map bl).mergeSort lrB)=(ns.foldl adS []).map bl:=by
 have tr:∀ a b c:Bs,lrB a b=true->lrB b c=true->lrB a c=true:=fun a b c h1 h2=>by
  unfold lrB at *
  rw [decide_eq_true_eq] at *
  exact List.le_trans h1 h2
 have tot:∀ a b:Bs,(lrB a b || lrB b a)=true:=fun a b=>by
  unfold lrB
  rw [Bool.or_eq_true,decide_eq_true_eq,decide_eq_true_eq]
  exact List.le_total a b
 obtain ⟨a1,a2⟩:=comp_up ((ns.map bl).mergeSort lrB) (List.pairwise_mergeSort tr tot _) _ Nat.le.refl
 obtain ⟨b1,b2⟩:=fold_up ns [] (by simp [Up])
 refine up_eq a1 b1 (fun x=>?_)
 rw [show compact ((ns.map bl).mergeSort lrB)=compactUpTo ((ns.map bl).mergeSort lrB).toArray ((ns.map bl).mergeSort lrB).length from rfl,a2 x,b2 x]
 simp only [List.map_nil,List.not_mem_nil,false_or]
 rw [<- List.mem_mergeSort (le:=lrB) (l:=ns.map bl)]
 constructor
 ·rintro ⟨j,hj,e⟩
  rw [<- e,get_bang _ j hj]
  exact List.getElem_mem hj
 ·intro hx
  obtain ⟨j,hj,e⟩:=List.mem_iff_getElem.1 hx
  exact ⟨j,hj,by rw [get_bang _ j hj,e]⟩
end Go.Proofs.YtppefcdkgejfbaaGreatDoor
namespace Go.Proofs.YtppefcdkgejfbaaGreatDoor
open Go.Shelf
set_option linter.unusedVariables false
def renS:Ren:={ f:=fun x=>match x with|190=>46|125=>54|258=>64|128=>77|129=>78|302=>86|303=>87|304=>88|305=>89|306=>90|307=>91|308=>92|309=>93|310=>94|333=>117|329=>109|330=>110|334=>118|335=>119|336=>120|344=>152|n=>n,t:=fun x=>match x with|31=>98|9=>9|3=>3|46=>147|0=>0|51=>179|53=>181|4=>4|183=>172|182=>171|131=>176|5=>5|218=>210|222=>214|228=>233|229=>234|n=>n,g:=fun x=>x }
theorem laysS:Lays.n190 Tryz.prog renS:=
 {mixed:=by kernel_rfl,f125:=Tryz.func54.trans (congrArg some (by kernel_rfl)),f128:=Tryz.func77.trans (congrArg some (by kernel_rfl)),f129:=Tryz.func78.trans (congrArg some (by kernel_rfl)),f190:=Tryz.func46.trans (congrArg some (by kernel_rfl)),f258:=Tryz.func64.trans (congrArg some (by kernel_rfl)),f302:=Tryz.func86.trans (congrArg some (by kernel_rfl)),f303:=Tryz.func87.trans (congrArg some (by kernel_rfl)),f304:=Tryz.func88.trans (congrArg some (by kernel_rfl)),f305:=Tryz.func89.trans (congrArg some (by kernel_rfl)),f306:=Tryz.func90.trans (congrArg some (by kernel_rfl)),f307:=Tryz.func91.trans (congrArg some (by kernel_rfl)),f308:=Tryz.func92.trans (congrArg some (by kernel_rfl)),f309:=Tryz.func93.trans (congrArg some (by kernel_rfl)),f310:=Tryz.func94.trans (congrArg some (by kernel_rfl)),f329:=Tryz.func109.trans (congrArg some (by kernel_rfl)),f330:=Tryz.func110.trans (congrArg some (by kernel_rfl)),f333:=Tryz.func117.trans (congrArg some (by kernel_rfl)),f334:=Tryz.func118.trans (congrArg some (by kernel_rfl)),f335:=Tryz.func119.trans (congrArg some (by kernel_rfl)),f336:=Tryz.func120.trans (congrArg some (by kernel_rfl)),f344:=Tryz.func152.trans (congrArg some (by kernel_rfl)),t0:=Tryz.underlying0,a0:=Tryz.isAgg0,z0:=Tryz.sizeOf0,v0:=Tryz.zeroValue0,t3:=Tryz.underlying3,a3:=Tryz.isAgg3,z3:=Tryz.sizeOf3,v3:=Tryz.zeroValue3,t4:=Tryz.underlying4,a4:=Tryz.isAgg4,z4:=Tryz.sizeOf4,v4:=Tryz.zeroValue4,t5:=Tryz.underlying5,a5:=Tryz.isAgg5,z5:=Tryz.sizeOf5,v5:=Tryz.zeroValue5,t9:=Tryz.underlying9,a9:=Tryz.isAgg9,z9:=Tryz.sizeOf9,v9:=Tryz.zeroValue9,t31:=Tryz.underlying98,a31:=Tryz.isAgg98,z31:=Tryz.sizeOf98,v31:=Tryz.zeroValue98,t46:=Tryz.underlying147,a46:=Tryz.isAgg147,z46:=Tryz.sizeOf147,v46:=Tryz.zeroValue147,t51:=Tryz.underlying179,a51:=Tryz.isAgg179,z51:=Tryz.sizeOf179,v51:=Tryz.zeroValue179,t53:=Tryz.underlying181,a53:=Tryz.isAgg181,z53:=Tryz.sizeOf181,v53:=Tryz.zeroValue181,t131:=Tryz.underlying176,a131:=Tryz.isAgg176,z131:=Tryz.sizeOf176,v131:=Tryz.zeroValue176,t182:=Tryz.underlying171,a182:=Tryz.isAgg171,z182:=Tryz.sizeOf171,v182:=Tryz.zeroValue171,t183:=Tryz.underlying172,a183:=Tryz.isAgg172,z183:=Tryz.sizeOf172,v183:=Tryz.zeroValue172,t218:=Tryz.underlying210,a218:=Tryz.isAgg210,z218:=Tryz.sizeOf210,v218:=Tryz.zeroValue210,t222:=Tryz.underlying214,a222:=Tryz.isAgg214,z222:=Tryz.sizeOf214,v222:=Tryz.zeroValue214,t228:=Tryz.underlying233,a228:=Tryz.isAgg233,z228:=Tryz.sizeOf233,v228:=Tryz.zeroValue233,t229:=Tryz.underlying234,a229:=Tryz.isAgg234,z229:=Tryz.sizeOf234,v229:=Tryz.zeroValue234 }
def renK:Ren:={ f:=fun x=>match x with|194=>47|n=>n,t:=fun x=>match x with|31=>98|9=>9|3=>3|4=>4|0=>0|n=>n,g:=fun x=>x }
theorem laysK:Lays.n194 Tryz.prog renK:=
 {mixed:=by kernel_rfl,f194:=Tryz.func47.trans (congrArg some (by kernel_rfl)),t0:=Tryz.underlying0,a0:=Tryz.isAgg0,z0:=Tryz.sizeOf0,v0:=Tryz.zeroValue0,t3:=Tryz.underlying3,a3:=Tryz.isAgg3,z3:=Tryz.sizeOf3,v3:=Tryz.zeroValue3,t4:=Tryz.underlying4,a4:=Tryz.isAgg4,z4:=Tryz.sizeOf4,v4:=Tryz.zeroValue4,t9:=Tryz.underlying9,a9:=Tryz.isAgg9,z9:=Tryz.sizeOf9,v9:=Tryz.zeroValue9,t31:=Tryz.underlying98,a31:=Tryz.isAgg98,z31:=Tryz.sizeOf98,v31:=Tryz.zeroValue98 }
end Go.Proofs.YtppefcdkgejfbaaGreatDoor
namespace Go.Proofs.YtppefcdkgejfbaaGreatDoor
open Go.RowKit Go.Lib
set_option linter.unusedSimpArgs false
set_option linter.unusedVariables false
attribute [local go_sem ↓] Go.wp_at_zero Go.wp_at_succ
theorem cell_al2 {w:World}{p:Addr}{v:Value}{O:Obj}(h:w.cell? p=some v):(w.alloc O).cell? p=some v:=(((Below.refl w.heap.size w).alloc Nat.le.refl O).cell (World.block_lt_of_cell? w _ h)).trans h
theorem cS_enc (ls:List ByteArray):(ls.map bl).map encStr=cS ls:=map_encStr ls
structure Fr (w w':World) (v u:Value):Prop where
 grown:w.grownBy w' v.ownBlock
 lies:∀ g,u.ownBlock=some g->v.ownBlock=some g∨w.heap.size<=g
theorem Fr.of {w w':World}{B:Nat}(h:Below B w w') (hB:w.heap.size<=B) (v:Value):Fr w w' v v:=⟨⟨h.os,h.tape,h.output,h.size,fun k hk _=>h.block k (by omega)⟩,fun g hg=>.inl hg⟩
theorem Fr.trans {w w1 w2:World}{v u t:Value}(h:Fr w w1 v u) (k:Fr w1 w2 u t):Fr w w2 v t:=by
 refine ⟨⟨k.grown.os.trans h.grown.os,k.grown.tape.trans h.grown.tape,k.grown.output.trans h.grown.output,Nat.le_trans h.grown.size k.grown.size,fun j hj hne=>?_⟩,fun g hg=>?_⟩
 ·rw [k.grown.block j (Nat.lt_of_lt_of_le hj h.grown.size) (fun e=>?_),h.grown.block j hj hne]
  rcases h.lies j e.symm with q|q
  ·exact hne q.symm
  ·omega
 ·rcases k.lies g hg with q|q
  ·exact h.lies g q
  ·exact .inr (Nat.le_trans h.grown.size q)
theorem Fr.below {w w':World}{v u:Value}{B:Nat}(h:Fr w w' v u) (hB:B<=w.heap.size) (hv:∀ g,v.ownBlock=some g->B<=g):Below B w w':=(Below.refl B w).grown h.grown hB (fun k hk=>hv k hk)
theorem Kids.fr {w w':World}{v u sl:Value}{l:List Value}(h:Kids w sl l) (f:Fr w w' v u) (ho:∀ g,v.ownBlock=some g->sl.ownBlock=some g->False):Kids w' sl l:=by
 rcases h with h|⟨g,hv,hc⟩
 ·exact .inl h
 ·refine .inr ⟨g,hv,fun i hi=>?_⟩
  refine f.grown.cell (hc i hi) (fun e=>?_)
  subst hv
  exact ho g e.symm rfl
theorem apart_fr {w w':World}{v u sl:Value}{l:List Value}(h:Kids w sl l) (hl:l≠[]) (f:Fr w w' v u) (ho:∀ g,v.ownBlock=some g->sl.ownBlock=some g->False):∀ g,u.ownBlock=some g->sl.ownBlock=some g->False:=by
 intro g h1 h2
 rcases f.lies g h1 with q|q
 ·exact ho g q h2
 ·rcases h with ⟨_,e⟩|⟨g',rfl,hc⟩
  ·exact hl e
  ·have e1:g'=g:=by simpa [Value.ownBlock] using h2
   subst e1
   cases l with
   | nil=>exact hl rfl
   | cons x r=>
    have:=World.block_lt_of_cell? w _ (hc 0 (by simp))
    simp only at this
    omega
theorem pSort_any {base:Nat}(ls:List ByteArray) (v:Value) (w:World) (h:w.ownsRow base 9 1 v ls.length (cS ls)) (hl:ls.length<=1000) :
  Calls Tryz.prog 46 #[v] w fun e w'=>e=.returned (.tuple #[])/\w'.ownsRow base 9 1 v ((ls.map bl).mergeSort lrB).length (((ls.map bl).mergeSort lrB).map encStr)/\Fr w w' v v:=by
 have hlen:((ls.map bl).mergeSort lrB).length=ls.length:=by simp
 rcases h.2 with ⟨rfl,h2⟩|⟨g,cap,cur,rfl,hbase,hb,h1,h2,h3,h4⟩
 ·have hx:ls=[]:=List.eq_nil_of_length_eq_zero h2
  subst hx
  refine (Any.slices_Sort_string_none laysS none 0 w).mono ?_
  rintro e w' ⟨rfl,rfl⟩
  exact ⟨rfl,by simpa using World.ownsRow_nil w' base 9 1,Fr.of (Below.refl _ _) Nat.le.refl _⟩
 ·have hh:Sort.Holds encStr w g 0 (ls.map bl).toArray:=holds_of_block hb (by rw [cS_enc,List.length_map];simpa using h4)
  have hc:=Any.slices_Sort_string laysS g 0 cap (ls.map bl) w hh (Array.getElem?_eq_some_iff.1 hb).1 (by simp;omega)
  rw [List.length_map] at hc
  refine Calls.mono hc ?_
  rintro e w' ⟨rfl,n,os,rfl⟩
  refine ⟨rfl,?_,grownBy_sorted _,fun g hg=>.inl hg⟩
  have:=ownsRow_sorted (n:=n) (os:=os) (ss:=ls.map bl) (ts:=(ls.map bl).mergeSort lrB) (by simp) hbase hb (by simpa using h1) h2 h3
  rw [List.length_map,<- hlen] at this
  rw [hlen]
  rw [hlen] at this
  exact this
theorem comp_len (zs:List Bs):(compact zs).length<=zs.length:=by
 unfold compact compactUpTo
 rw [List.length_map]
 have:=List.length_filter_le (keeps zs.toArray) (List.range zs.length)
 simpa using this
theorem pCompact_any {base:Nat}(zs:List Bs) (v:Value) (w:World) (h:w.ownsRow base 9 1 v zs.length (zs.map encStr)) (hl:zs.length<=1000) :
  Calls Tryz.prog 47 #[v] w fun e w'=>∃ u,e=.returned u/\w'.ownsRow base 9 1 u (compact zs).length ((compact zs).map encStr)/\Fr w w' v u:=by
 by_cases hv:v=.slice none 0 0
 ·subst hv
  have hz:zs=[]:=by
   rcases h.2 with ⟨_,h2⟩|⟨g,cap,cur,h0,_⟩
   ·exact List.eq_nil_of_length_eq_zero h2
   ·cases h0
  subst hz
  refine (Any.slices_Compact_string_empty laysK none 0 w).mono ?_
  rintro e w' ⟨rfl,rfl⟩
  exact ⟨_,rfl,by simpa [compact,compactUpTo] using World.ownsRow_nil w' base 9 1,Fr.of (Below.refl _ _) Nat.le.refl _⟩
 ·obtain ⟨g,cap,rfl,hbase,hg,h1,h2,h3,hH⟩:=holds_of_ownsRow h hv
  refine (Any.slices_Compact_string laysK g 0 cap zs w hH (by omega) h1).mono ?_
  rintro e w' ⟨rfl,q,rfl⟩
  have hcl:=comp_len zs
  have:=ownsRow_putRow (q:=q) (k:=(compact zs).length) (ys:=compact zs++List.replicate (zs.length - (compact zs).length) []) h (by simp;omega) hcl
  rw [List.take_left] at this
  refine ⟨_,rfl,this,⟨rfl,rfl,rfl,by simp [Sort.putRow,Sort.mapBlock,Sort.ahead],fun k hk hne=>?_⟩,fun g hg=>.inl hg⟩
  have:g≠k:=fun e=>hne (by rw [e];rfl)
  simp [Sort.putRow,Sort.mapBlock,Sort.ahead,Array.getElem?_modify,this]
def AddC (d:Nat):Prop:=∀ (base:Nat) (t:T d) (ls:List ByteArray) (v:Value) (w:World),Cl d t->shrt 1000 d t=true->w.ownsRow base 9 1 v ls.length (cS ls)->base<=w.heap.size->ls.length+cnt d t<=1000->
 Calls Tryz.prog 45 #[v,exV d t] w fun e w'=>∃ u,e=.returned u/\w'.ownsRow base 9 1 u (ls++nmC d t).length (cS (ls++nmC d t))/\Fr w w' v u
theorem add_step (d:Nat) (IH:AddC d):AddC (d+1):=by
 intro base t ls v w hc hs hown hbase hlen
 obtain ⟨i0,hi,hz0,hz1,hz2⟩:=info_parts Tryz.infoStr
 obtain ⟨k,n,s,ps,rfl,htop⟩:=topN_any hc
 rw [shrt_mk] at hs
 simp only [Bool.and_eq_true,decide_eq_true_eq,List.all_eq_true] at hs
 obtain ⟨hs1,hs2⟩:=hs
 rw [cnt_mk] at hlen
 obtain ⟨x,hx⟩:∃ x,exV (d+1) (mkT k n s ps)=x:=⟨_,rfl⟩
 obtain ⟨L,hL⟩:∃ L,ps.map (exV d)=L:=⟨_,rfl⟩
 rw [hx,hL] at htop
 rw [hx,nmC_mk]
 have hCl:=fun w1=>pClone_any s w1 (by omega)
 have hLl:Hid (L.length=ps.length):=by rw [<- hL];show _=_;simp
 by_cases k2:k=2
 ·subst k2
  rw [if_pos rfl]
  have hps:ps=[]:=by
   rcases hc with ⟨h1,_,_⟩|⟨_,_,h3⟩|⟨h1,_,_,_⟩|⟨h1,_⟩|⟨h1,_⟩
   ·simp at h1
   ·exact h3
   ·simp at h1
   ·simp at h1
   ·simp at h1
  subst hps
  simp only [List.map_nil] at hL
  subst hL
  simp only [List.map_nil,List.flatten_nil,List.append_nil,List.sum_nil] at hlen ⊢
  have hbg:∀ g,v.ownBlock=some g->g < w.heap.size:=fun g hg=>(World.ownsRow.lt hown g hg).2
  clear hc hs2 IH hLl
  go_enter Tryz.func45,Tryz.ntmps45
  go_wp2_with (first
   | (go_at_call 62;refine (htop _).mono ?_;rintro e w1 ⟨sl,rfl,hk1,b1⟩;obtain ⟨a1,rfl⟩:=hk1.1.form;have b2:=b1.alloc b1.size (.cells #[.int .i64 2,.int .i64 n,.string s,.slice a1 0 0] 158);have hA:=At4.new w1 (.int .i64 2) (.int .i64 n) (.string s) (.slice a1 0 0) 158)
   | (go_at_call 13;refine (hCl _).mono ?_;rintro e w2 ⟨rfl,b3⟩;have b4:=b2.trans (b3.mono b2.size);have hA2:=hA.keepB b3 (by simp);have ho2:=own_on hown b4 Nat.le.refl)
   | (at_builtin;refine wpList_append_at _ rfl (.tmp 13) (.tmp 17) 98 98 rfl base 9 i0 (.string ⟨#[]⟩) 1 16 Tryz.underlying98 hi hz0 hz1 hz2 rfl v ls.length _ rfl (World.ownsRow.alloc ho2 _) _ 1 (cS [s]) rfl (src_texts Tryz.underlying98 rfl (fun i hi=>by match i,hi with|0,_=>simp [Addr.add])) 1 (.inr (by omega)) Nat.le.refl (by unfold maxLen;omega) (by have:=b4.size;simp;omega) ?_;intro v5 w5 ho5 hg5 hl5;have x3:=hg5.cell (cell_al2 hA2.2.2.2) (by intro e;have:=hbg _ e.symm;have:=b1.size;simp only at *;omega)))
  have hF:Fr w w5 v v5:=(Fr.of (b4.alloc b4.size (.cells #[.string s] 9)) Nat.le.refl v).trans ⟨hg5,fun g hg=>by
   rcases hl5 with q|q
   ·exact .inl (by rw [<- q];exact hg)
   ·rw [q] at hg;exact .inr (by simp at hg;simp;omega)⟩
  rw [<- cS_append] at ho5
  clear hg5 hl5 ho2 hA2 hA b1 b2 b3 b4 hk1 htop hCl
  refine wp_loop_rounds 1 ?_
  rw [rounds_succ]
  go_wp2
  go_ret
  refine ⟨_,rfl,?_,hF⟩
  rw [List.length_append]
  exact ho5
 ·rw [if_neg k2,List.nil_append]
  have e2:(k == 2)=false:=beq_eq_false_iff_ne.2 k2
  have hkid:Hid (∀ (j:Nat) (h:j < L.length) (h':j < ps.length) (cur:List ByteArray) (p:Value) (w1:World),w1.ownsRow base 9 1 p cur.length (cS cur)->base<=w1.heap.size->cur.length+cnt d ps[j]<=1000->
    Calls Tryz.prog 45 #[p,L[j]] w1 fun e w'=>∃ u,e=.returned u/\w'.ownsRow base 9 1 u (cur++nmC d ps[j]).length (cS (cur++nmC d ps[j]))/\Fr w1 w' p u):=
   fun j h h' cur p w1 q1 q2 q3=>by
    have:=IH base ps[j] cur p w1 ((Cl.parts hc).2 _ (List.getElem_mem h')) (hs2 _ (List.getElem_mem h')) q1 q2 q3
    subst hL
    simpa using this
  have hL2:L.length<=2:=by rw [<- hL];simpa using (Cl.parts hc).1
  have HLE:Hid (ls.length+((ps.drop 0).map (cnt d)).sum<=1000):=by rw [List.drop_zero];show _<=_;omega
  have hbg:∀ g,v.ownBlock=some g->g < w.heap.size:=fun g hg=>(World.ownsRow.lt hown g hg).2
  obtain ⟨R,hR⟩:∃ R,ls++(ps.map (nmC d)).flatten=R:=⟨_,rfl⟩
  rw [hR]
  have HR:Hid (ls++(ps.map (nmC d)).flatten=R):=hR
  clear hc hs2 IH hL hx hR hCl hlen
  go_enter Tryz.func45,Tryz.ntmps45
  go_wp2_with (first
   | (go_at_call 62;refine (htop _).mono ?_;rintro e w1 ⟨sl,rfl,hk1,b1⟩;obtain ⟨a1,rfl⟩:=hk1.1.form))
  have b2:=b1.alloc b1.size (.cells #[.int .i64 k,.int .i64 n,.string s,.slice a1 L.length L.length] 158)
  have hK0:=hk1.1.below ((Below.refl _ w1).alloc Nat.le.refl (.cells #[.int .i64 k,.int .i64 n,.string s,.slice a1 L.length L.length] 158)) Nat.le.refl
  go_loopw [0,22] (fun p i wr=>∃ (j:Nat) (cur:List ByteArray),j<=L.length/\i=.int .i64 (j:Int)/\wr.ownsRow base 9 1 p cur.length (cS cur)/\Hid (cur=ls++((ps.take j).map (nmC d)).flatten)/\Hid (cur.length+((ps.drop j).map (cnt d)).sum<=1000)/\Hid (Kids wr (.slice a1 L.length L.length) L)/\Hid (∀ g,p.ownBlock=some g->(Value.slice a1 L.length L.length).ownBlock=some g->False)/\Hid (Fr w wr v p)) (fun _ i _=>L.length - (RowKit.intOf i).toNat)
  case atStart=>
   refine ⟨0,ls,Nat.zero_le _,rfl,own_on hown b2 Nat.le.refl,by show _=_;simp,HLE,hK0,fun g h1 h2=>?_,Fr.of b2 Nat.le.refl v⟩
   have q1:=hbg g h1
   have q2:=hk1.2 g h2
   omega
  case round=>
   obtain ⟨j,cur,hj,rfl,ho,hcur,hln,hK,hA,hF⟩:=hrel
   have i2:(0:Int)<=(j:Int):=by omega
   by_cases hlt:j < L.length
   ·have i3:(j:Int) < (L.length:Int):=by omega
    have hll:=hLl.out
    have hjp:j < ps.length:=by omega
    obtain ⟨gg,hgg,hcell⟩:=hK.out.at hlt
    have hl2:=hln.out
    rw [List.drop_eq_getElem_cons hjp,List.map_cons,List.sum_cons] at hl2
    have hc2:=hkid.out j hlt hjp cur u0 wr ho (Nat.le_trans hbase hF.out.grown.size) (by omega)
    have hnl:=nm_len d ps[j]
    have hnx:Hid (cur++nmC d ps[j]=ls++((ps.take (j+1)).map (nmC d)).flatten):=by
     show _=_
     rw [hcur.out,List.take_succ_eq_append_getElem hjp,List.map_append,List.flatten_append,List.map_singleton,List.flatten_singleton,List.append_assoc]
    have hln2:Hid ((cur++nmC d ps[j]).length+((ps.drop (j+1)).map (cnt d)).sum<=1000):=by
     show _<=_;rw [List.length_append];omega
    have hLne:Hid (L≠[]):=fun e=>by rw [e] at hlt;simp at hlt
    obtain ⟨z,hz⟩:∃ z,L[j]=z:=⟨_,rfl⟩
    obtain ⟨N,hN⟩:∃ N,cur++nmC d ps[j]=N:=⟨_,rfl⟩
    rw [hz] at hcell hc2
    simp only [hN] at hc2 hnx hln2
    subst hgg
    clear hz hN hll hl2 hnl
    go_wp2_with (first
     | (go_at_call 45;refine hc2.mono ?_;rintro e w3 ⟨u,rfl,ho3,hf3⟩))
    have hK3:Hid _:=hK.out.fr hf3 hA.out
    have hA3:Hid _:=apart_fr hK.out hLne.out hf3 hA.out
    have hF3:Hid (Fr w w3 v u):=hF.out.trans hf3
    go_roundw
    case rel=>exact ⟨j+1,N,hlt,by go_num,ho3,hnx,hln2,hK3,hA3,hF3⟩
    case measure=>simp [RowKit.intOf];omega
   ·have i3:¬ (j:Int) < (L.length:Int):=by omega
    have hE:cur=R:=by
     have hll:=hLl.out
     rw [hcur.out,<- HR.out,List.take_of_length_le (by omega)]
    subst hE
    go_wp2
    go_ret
    exact ⟨_,rfl,ho,hF.out⟩
theorem add_any2:∀ (d:Nat),AddC d
 | 0=>fun _ t=>Empty.elim t
 | d+1=>add_step d (add_any2 d)
theorem refs_anyP {d:Nat}{t:T d}(w:World) (hc:Cl d t) (hn:cnt d t<=1000) (hs:shrt 1000 d t=true) :
  Calls Tryz.prog 24 #[exV d t] w fun e w'=>∃ u,e=.returned u/\RdS w' u (rfT d t)/\Below w.heap.size w w':=by
 have h1:=formedP d t w hc (by omega) hs
 have h2:=fun w1 (b:w.heap.size<=w1.heap.size)=>add_any2 d w.heap.size t [] (.slice none 0 0) w1 hc hs (World.ownsRow_nil w1 _ 9 1) b (by simpa using hn)
 have hnl:=nm_len d t
 have hnm:=rf_nm d t []
 unfold rfT
 obtain ⟨x,hx⟩:∃ x,exV d t=x:=⟨_,rfl⟩
 rw [hx] at h1 ⊢
 simp only [hx,List.nil_append] at h2
 cases hf:fmC d t with
 | false=>
  rw [hf] at h1
  rw [if_neg (by decide)]
  clear h2 hc hn hs hf hx
  go_enter Tryz.func24,Tryz.ntmps24
  go_wp2_with (first
   | (go_at_call 23;refine h1.mono ?_;rintro e w1 ⟨rfl,b1⟩))
  go_ret
  exact ⟨_,rfl,rdS_nil _,b1⟩
 | true=>
  rw [hf] at h1
  rw [if_pos rfl,hnm]
  obtain ⟨N,hN⟩:∃ N,nmC d t=N:=⟨_,rfl⟩
  rw [hN] at hnl ⊢
  simp only [hN] at h2
  have hsn:=sort_names N
  have h3:=fun v w1 q=>pSort_any (base:=w.heap.size) N v w1 q (by omega)
  obtain ⟨Z,hZ⟩:∃ Z,(N.map bl).mergeSort lrB=Z:=⟨_,rfl⟩
  have hZl:Z.length<=1000:=by rw [<- hZ];simp;omega
  rw [hZ] at hsn
  simp only [hZ] at h3
  have h4:=fun v w1 q=>pCompact_any (base:=w.heap.size) Z v w1 q hZl
  clear hc hn hs hf hx hnm hN hZ hnl
  go_enter Tryz.func24,Tryz.ntmps24
  go_wp2_with (first
   | (go_at_call 23;refine h1.mono ?_;rintro e w1 ⟨rfl,b1⟩;have h2':=h2 w1 b1.size)
   | (go_at_call 45;refine h2'.mono ?_;rintro e w2 ⟨u2,rfl,ho2,hf2⟩;have h3':=h3 u2 w2 ho2)
   | (go_at_call 46;refine h3'.mono ?_;rintro e w3 ⟨rfl,ho3,hf3⟩;have h4':=h4 u2 w3 ho3)
   | (go_at_call 47;refine h4'.mono ?_;rintro e w4 ⟨u4,rfl,ho4,hf4⟩))
  go_ret
  have hF:=(hf2.trans hf3).trans hf4
  refine ⟨_,rfl,?_,b1.trans ((hF.below (B:=w.heap.size) b1.size (fun g hg=>by cases hg)))⟩
  rw [hsn,cS_enc,List.length_map] at ho4
  exact ownsRow_zero ho4
end Go.Proofs.YtppefcdkgejfbaaGreatDoor
namespace Go.Proofs.YtppefcdkgejfbaaGreatDoor
open Go.RowKit
set_option linter.unusedSimpArgs false
set_option linter.unusedVariables false
attribute [local go_sem ↓] Go.wp_at_zero Go.wp_at_succ
def TheirsC (d:Nat):Prop:=∀ (ok:Nat->Prop) (t:T d) (v:Value) (w:World),RdT ok w d t v->Calls Tryz.prog 40 #[v] w fun e w'=>e=.returned (exV d t)/\Below w.heap.size w w'
theorem part_any {ok:Nat->Prop}{d:Nat}(IH:TheirsC d) (X i:Nat) (k n:Int) (s:ByteArray) (sl:Value) (ps:List (T d)) (w:World) (hA:At4 w X (.int .i64 k) (.int .i64 n) (.string s) sl) (hp:RdP ok w (RdT ok w d) ps sl) :
  Calls Tryz.prog 61 #[.int .i64 (i:Int),.pointer (some ⟨X,0,none⟩)] w fun e w'=>e=.returned (exP ps i)/\Below w.heap.size w w':=by
 obtain ⟨a,cap,rfl,hlc,hcm,hcell⟩:=hp.form
 obtain ⟨y0,y1,y2,y3⟩:=id hA
 by_cases hlt:i < ps.length
 ·obtain ⟨b,off,c0,c1,c2,c3,rfl,hbl,hr,k0,k1,k2,k3⟩:=hcell i hlt
  have hcall:=IH ok ps[i] _ w hr
  have he:exP ps i=exV d ps[i]:=by unfold exP;rw [List.getD_eq_getElem?_getD,List.getElem?_map,List.getElem?_eq_getElem hlt];rfl
  rw [he]
  have i1:(i:Int) < (ps.length:Int):=by omega
  have i2:(0:Int)<=(i:Int):=by omega
  clear he hcell hr hp
  go_enter Tryz.func61,Tryz.ntmps61
  go_wp2_with (first
   | (go_at_call 40;refine hcall.mono ?_;rintro e w1 ⟨rfl,b1⟩))
  go_ret
  exact ⟨rfl,b1⟩
 ·have he:exP ps i=.nilIface:=by unfold exP;rw [List.getD_eq_getElem?_getD,List.getElem?_eq_none (by simp;omega)];rfl
  rw [he]
  have i1:¬ (i:Int) < (ps.length:Int):=by omega
  clear he hcell hp
  go_enter Tryz.func61,Tryz.ntmps61
  go_wp2
  go_ret
  exact ⟨rfl,Below.refl _ _⟩
theorem theirs_step (d:Nat) (IH:TheirsC d):TheirsC (d+1):=by
 intro ok t v w h
 obtain ⟨k,n,s,ps,rfl⟩:=T.open t
 obtain ⟨sl,rfl,hp⟩:=rdT_mk.1 h
 rw [exV_mk]
 have hb0:=(Below.refl w.heap.size w).alloc Nat.le.refl (.cells #[.int .i64 k,.int .i64 n,.string s,sl] 57)
 have hA:=At4.new w (.int .i64 k) (.int .i64 n) (.string s) sl 57
 have hp0:RdP ok (w.alloc (.cells #[.int .i64 k,.int .i64 n,.string s,sl] 57)) (RdT ok (w.alloc (.cells #[.int .i64 k,.int .i64 n,.string s,sl] 57)) d) ps sl:=hp.below hb0 Nat.le.refl
 have h0:=part_any IH w.heap.size 0 k n s sl ps _ hA hp0
 have h1:=fun w1 (b1:Below (w.alloc (.cells #[.int .i64 k,.int .i64 n,.string s,sl] 57)).heap.size (w.alloc (.cells #[.int .i64 k,.int .i64 n,.string s,sl] 57)) w1)=>
  part_any IH w.heap.size 1 k n s sl ps w1 (hA.keepB b1 (by simp)) (hp0.below b1 Nat.le.refl)
 have hmf:∀ (fn:Fn) (first cap:Array Value) (w:World),(Instr.makeFunc fn first cap).run Tryz.prog w=.ok (.func fn first cap) w:=fun _ _ _ _=>rfl
 by_cases k1:k=1
 ·subst k1
  rw [if_pos rfl]
  clear h0 h1 hp0 hA hp h
  go_enter Tryz.func40,Tryz.ntmps40
  go_wp2
  go_ret
  exact ⟨rfl,hb0⟩
 rw [if_neg k1]
 have e1:(k == 1)=false:=beq_eq_false_iff_ne.2 k1
 by_cases k2:k=2
 ·subst k2
  rw [if_pos rfl]
  clear h0 h1 hp0 hA hp h k1 e1
  go_enter Tryz.func40,Tryz.ntmps40
  go_wp2
  go_ret
  exact ⟨rfl,hb0⟩
 rw [if_neg k2]
 have e2:(k == 2)=false:=beq_eq_false_iff_ne.2 k2
 by_cases k3:k=3
 ·subst k3
  rw [if_pos rfl]
  have hf:=exP_form ps 0
  obtain ⟨x0,hx0⟩:∃ x,exP ps 0=x:=⟨_,rfl⟩
  rw [hx0] at h0 hf ⊢
  clear h1 hp0 hA hp h k1 k2 e1 e2 hx0
  rcases hf with rfl|⟨u,x,rfl⟩
  ·go_enter Tryz.func40,Tryz.ntmps40
   go_wp2_with (first
    | (go_at_call 61;refine h0.mono ?_;rintro e w1 ⟨rfl,b1⟩))
   go_ret
   exact ⟨rfl,hb0.trans (b1.mono hb0.size)⟩
  ·go_enter Tryz.func40,Tryz.ntmps40
   go_wp2_with (first
    | (go_at_call 61;refine h0.mono ?_;rintro e w1 ⟨rfl,b1⟩))
   go_ret
   exact ⟨rfl,hb0.trans (b1.mono hb0.size)⟩
 rw [if_neg k3]
 have e3:(k == 3)=false:=beq_eq_false_iff_ne.2 k3
 by_cases k4:k=4
 ·subst k4
  rw [if_pos rfl]
  have hf:=exP_form ps 0
  obtain ⟨x0,hx0⟩:∃ x,exP ps 0=x:=⟨_,rfl⟩
  rw [hx0] at h0 hf ⊢
  clear h1 hp0 hA hp h k1 k2 k3 e1 e2 e3 hx0
  rcases hf with rfl|⟨u,x,rfl⟩
  ·go_enter Tryz.func40,Tryz.ntmps40
   go_wp2_with (first
    | (go_at_call 61;refine h0.mono ?_;rintro e w1 ⟨rfl,b1⟩))
   go_ret
   exact ⟨rfl,hb0.trans (b1.mono hb0.size)⟩
  ·go_enter Tryz.func40,Tryz.ntmps40
   go_wp2_with (first
    | (go_at_call 61;refine h0.mono ?_;rintro e w1 ⟨rfl,b1⟩))
   go_ret
   exact ⟨rfl,hb0.trans (b1.mono hb0.size)⟩
 rw [if_neg k4]
 have e4:(k == 4)=false:=beq_eq_false_iff_ne.2 k4
 by_cases k5:k=5
 ·subst k5
  rw [if_pos rfl]
  have hf:=exP_form ps 0
  have hg:=exP_form ps 1
  have bd:Below (w.alloc (.cells #[.int .i64 5,.int .i64 n,.string s,sl] 57)).heap.size (w.alloc (.cells #[.int .i64 5,.int .i64 n,.string s,sl] 57)) (w.alloc (.cells #[.int .i64 5,.int .i64 n,.string s,sl] 57)).drew:=(Below.refl _ _).drew
  have hA':=hA.keepB bd (by simp)
  have h0':=part_any IH w.heap.size 0 5 n s sl ps _ hA' (hp0.below bd Nat.le.refl)
  have c2:=hA'.2.2.1
  obtain ⟨x0,hx0⟩:∃ x,exP ps 0=x:=⟨_,rfl⟩
  obtain ⟨x1,hx1⟩:∃ x,exP ps 1=x:=⟨_,rfl⟩
  rw [hx0] at h0' hf ⊢
  rw [hx1] at hg ⊢
  simp only [hx1] at h1
  clear h0 hp0 hp h k1 k2 k3 k4 hx0 hx1 e1 e2 e3 e4
  rcases hf with rfl|⟨u,x,rfl⟩
  ·rcases hg with rfl|⟨u',x',rfl⟩
   ·
    go_enter Tryz.func40,Tryz.ntmps40
    go_wp2
    go_region_held (fun w'=>w'.cell? ⟨w.heap.size,2,none⟩=some (.string s)) (first|exact c2|exact d2|exact f2|go_keep)
     (first
      | (go_at_call 61;refine h1'.mono ?_;rintro e w2 ⟨rfl,b2⟩;have bb:=bx.trans (b2.mono bx.size);have f2:=(hA1.keepB b2 (World.block_lt_of_cell? w1 _ hA1.1)).2.2.1;clear h1')
      | (go_at_call 61;refine h0'.mono ?_;rintro e w1 ⟨rfl,b1⟩;have bx:=(hb0.drew).trans (b1.mono (by simp));have hA1:=hA'.keepB b1 (World.block_lt_of_cell? _ _ hA'.1);have d2:=hA1.2.2.1;have h1':=h1 w1 (bd.trans b1);clear h0'))
    go_wp2
    go_ret
    exact ⟨rfl,bb⟩
   ·
    go_enter Tryz.func40,Tryz.ntmps40
    go_wp2
    go_region_held (fun w'=>w'.cell? ⟨w.heap.size,2,none⟩=some (.string s)) (first|exact c2|exact d2|exact f2|go_keep)
     (first
      | (go_at_call 61;refine h1'.mono ?_;rintro e w2 ⟨rfl,b2⟩;have bb:=bx.trans (b2.mono bx.size);have f2:=(hA1.keepB b2 (World.block_lt_of_cell? w1 _ hA1.1)).2.2.1;clear h1')
      | (go_at_call 61;refine h0'.mono ?_;rintro e w1 ⟨rfl,b1⟩;have bx:=(hb0.drew).trans (b1.mono (by simp));have hA1:=hA'.keepB b1 (World.block_lt_of_cell? _ _ hA'.1);have d2:=hA1.2.2.1;have h1':=h1 w1 (bd.trans b1);clear h0'))
    go_wp2
    go_ret
    exact ⟨rfl,bb⟩
  ·rcases hg with rfl|⟨u',x',rfl⟩
   ·
    go_enter Tryz.func40,Tryz.ntmps40
    go_wp2
    go_region_held (fun w'=>w'.cell? ⟨w.heap.size,2,none⟩=some (.string s)) (first|exact c2|exact d2|exact f2|go_keep)
     (first
      | (go_at_call 61;refine h1'.mono ?_;rintro e w2 ⟨rfl,b2⟩;have bb:=bx.trans (b2.mono bx.size);have f2:=(hA1.keepB b2 (World.block_lt_of_cell? w1 _ hA1.1)).2.2.1;clear h1')
      | (go_at_call 61;refine h0'.mono ?_;rintro e w1 ⟨rfl,b1⟩;have bx:=(hb0.drew).trans (b1.mono (by simp));have hA1:=hA'.keepB b1 (World.block_lt_of_cell? _ _ hA'.1);have d2:=hA1.2.2.1;have h1':=h1 w1 (bd.trans b1);clear h0'))
    go_wp2
    go_ret
    exact ⟨rfl,bb⟩
   ·
    go_enter Tryz.func40,Tryz.ntmps40
    go_wp2
    go_region_held (fun w'=>w'.cell? ⟨w.heap.size,2,none⟩=some (.string s)) (first|exact c2|exact d2|exact f2|go_keep)
     (first
      | (go_at_call 61;refine h1'.mono ?_;rintro e w2 ⟨rfl,b2⟩;have bb:=bx.trans (b2.mono bx.size);have f2:=(hA1.keepB b2 (World.block_lt_of_cell? w1 _ hA1.1)).2.2.1;clear h1')
      | (go_at_call 61;refine h0'.mono ?_;rintro e w1 ⟨rfl,b1⟩;have bx:=(hb0.drew).trans (b1.mono (by simp));have hA1:=hA'.keepB b1 (World.block_lt_of_cell? _ _ hA'.1);have d2:=hA1.2.2.1;have h1':=h1 w1 (bd.trans b1);clear h0'))
    go_wp2
    go_ret
    exact ⟨rfl,bb⟩
 rw [if_neg k5]
 have e5:(k == 5)=false:=beq_eq_false_iff_ne.2 k5
 clear h0 h1 hp0 hA hp h
 go_enter Tryz.func40,Tryz.ntmps40
 go_wp2
 go_ret
 exact ⟨rfl,hb0⟩
theorem theirs_any:∀ (d:Nat),TheirsC d
 | 0=>fun _ t=>Empty.elim t
 | d+1=>theirs_step d (theirs_any d)
theorem exV_cln:∀ (d:Nat) (t:T d),exV (d+1) (cln d t)=exV d t
 | 0,t=>Empty.elim t
 | d+1,t=>by
  obtain ⟨k,n,s,ps,rfl⟩:=T.open t
  have hp:∀ i,exV (d+1) (prt ps i)=exP ps i:=fun i=>by
   unfold prt exP
   rw [List.getD_eq_getElem?_getD,List.getElem?_map]
   cases ps[i]? with
   | none=>rfl
   | some p=>exact exV_cln d p
  rw [cln_mk,exV_mk]
  by_cases k1:k=1
  ·rw [if_pos k1,if_pos k1];rfl
  rw [if_neg k1,if_neg k1]
  by_cases k2:k=2
  ·rw [if_pos k2,if_pos k2];rfl
  rw [if_neg k2,if_neg k2]
  by_cases k3:k=3
  ·rw [if_pos k3,if_pos k3,exV_mk,<- hp];rfl
  rw [if_neg k3,if_neg k3]
  by_cases k4:k=4
  ·rw [if_pos k4,if_pos k4,exV_mk,<- hp];rfl
  rw [if_neg k4,if_neg k4]
  by_cases k5:k=5
  ·rw [if_pos k5,if_pos k5,exV_mk,<- hp,<- hp];rfl
  rw [if_neg k5,if_neg k5]
  rfl
