import Derived.Test.YtlkdaldfklaicaaGreatDoorWvc01
import Derived.Test.YtlkdaldfklaicaaGreatDoorWvc24
import Derived.Test.YtlkdaldfklaicaaGreatDoorWvc10
import Derived.Deep.LoopGhost
import Derived.Test.YtlkdaldfklaicaaGreatDoorWvc18
import Derived.Test.YtlkdaldfklaicaaGreatDoorWvc26
import Derived.Test.YtlkdaldfklaicaaGreatDoorWvc20
set_option maxRecDepth 100000
set_option maxHeartbeats 32000000
namespace Go.Proofs.YtlkdaldfklaicaaGreatDoor
open Go.RowKit Go.Lib
set_option linter.unusedSimpArgs false
set_option linter.unusedVariables false
attribute [local go_sem ↓] Go.wp_at_zero Go.wp_at_succ
structure Two (w:World) (base e:Nat) (p q:Value) (n1 n2:Nat) (xa xb:List Value):Prop where
 a:w.ownsRow base e 1 p n1 xa
 b:w.ownsRow base e 1 q n2 xb
 ne:∀ g,p.ownBlock=some g->q.ownBlock≠some g
theorem Two.symm {w:World}{base e:Nat}{p q:Value}{n1 n2:Nat}{xa xb:List Value}(h:Two w base e p q n1 n2 xa xb):Two w base e q p n2 n1 xb xa:=⟨h.b,h.a,fun g h1 h2=>h.ne g h2 h1⟩
theorem Two.alloc {w:World}{base e:Nat}{p q:Value}{n1 n2:Nat}{xa xb:List Value}(h:Two w base e p q n1 n2 xa xb) (O:Obj):Two (w.alloc O) base e p q n1 n2 xa xb:=⟨World.ownsRow.alloc h.a O,World.ownsRow.alloc h.b O,h.ne⟩
theorem Two.drew {w:World}{base e:Nat}{p q:Value}{n1 n2:Nat}{xa xb:List Value}(h:Two w base e p q n1 n2 xa xb):Two w.drew base e p q n1 n2 xa xb:=⟨h.a,h.b,h.ne⟩
theorem Two.on {w w':World}{base e:Nat}{p q:Value}{n1 n2:Nat}{xa xb:List Value}(h:Two w base e p q n1 n2 xa xb) (hb:Below w.heap.size w w'):Two w' base e p q n1 n2 xa xb:=⟨zdI h.a hb zn2,zdI h.b hb zn2,h.ne⟩
theorem zdH {w:World}{base e size:Nat}{v:Value}{n:Nat}{xs:List Value}(h:w.ownsRow base e size v n xs):∃ a cap,v=.slice a n cap/\n<=cap/\cap<=maxLen:=by
 rcases h.2 with ⟨h1,h2⟩|⟨g,cap,cur,h1,_,_,h3,h4,_⟩
 ·exact ⟨none,0,by rw [h1,h2],by omega,by simp [maxLen]⟩
 ·exact ⟨_,_,h1,h3,h4⟩
theorem zgO {P:Program}(w:World) {ops:Array Oper}{o:Oper}{a:Act}{K:Act->World->Prop}{Q:Exit->Act->World->Prop}{E:Prop}(hgd:o.guard=none) (s x:Operand) (t:TypeId)
  (ho:o.op=.call { callee:=.builtin .append,args:=#[s,x],argTypes:=#[t,t] })
  (base:Nat) (e:TypeId) (i:TypeInfo) (z:Value) (bytes:Nat) (ht:P.underlying t=some (.slice e)) (hi:P.info? e=some i) (hz:i.zero=some z)
  (hsize:i.size=1) (hby:i.bytes=bytes) (hzs:z.cells.size=1) (p q:Value) (n1 n2:Nat) (xa xb:List Value) (hs:a.eval s=p) (hT:Two w base e p q n1 n2 xa xb)
  (k:Nat) (u:Value) (hx:a.eval x=.slice (some ⟨k,0,none⟩) 1 1) (hc:w.cell? ⟨k,0,none⟩=some u) (h1:u.oneCell'=true) (hroom:(n1+1+(n1+1) / 4+192)*bytes<=281474976710656) (h63:n1+1<=maxLen) (hbase:base<=w.heap.size)
  (h:∀ a' cap' w',Two w' base e (.slice a' (n1+1) cap') q (n1+1) n2 (xa++[u]) xb->Below base w w'->(∀ b u',w.cell? ⟨b,0,none⟩=some u'->p.ownBlock≠some b->w'.cell? ⟨b,0,none⟩=some u')->K (a.put o.dst (.slice a' (n1+1) cap')) w') :
  if Region.wanted o (yielded ops a.tmps)=true then Oper.wp P o a w K Q else E:=by
 have hsrc:Src P 1 t (.slice (some ⟨k,0,none⟩) 1 1) 1 [u] w:=Src.ofSlice _ ht _ 1 1 _ rfl (fun j v hv=>by
  match j with
  | 0=>
   have:u=v:=by simpa using hv
   subst this
   rw [zbb]
   exact hc
  | j+1=>simp at hv) (fun v hv=>by
  have:v=u:=by simpa using hv
  subst this
  exact h1)
 refine zA _ hgd s x t t ho base e i z 1 bytes ht hi hz hsize hby hzs p n1 xa hs hT.a _ 1 [u] hx hsrc 1 (.inr hroom) zn2 h63 hbase ?_
 intro v' w' hown hg hat
 obtain ⟨a',cap',rfl,_⟩:=zdH hown
 have hqk:=zC hT.b
 refine h a' cap' w' ⟨hown,zaG hT.b (fun g hg'=>hg.block g (hqk g hg').2 (fun e=>hT.ne g e.symm hg')),fun g hg1 hg2=>?_⟩ ((Below.refl base w).grown hg hbase (fun k hk=>(zC hT.a k hk).1)) (fun b u' hb hne=>?_)
 ·rcases hat with h2|h2
  ·exact hT.ne g (h2 ▸ hg1) hg2
  ·rw [h2] at hg1
   have:w.heap.size=g:=Option.some.inj hg1
   have:=(hqk g hg2).2
   omega
 ·rw [World.cell?_of_block (w:=w) (a:=⟨b,0,none⟩) (hg.block b (World.block_lt_of_cell? w _ hb) (fun e=>hne e.symm))]
  exact hb
theorem Two.pop {w:World}{base e:Nat}{p q:Value}{n:Nat}{xa xb:List Value}{u u':Value}(hn:n=xa.length) (hn':n=xb.length) (h:Two w base e p q (n+1) (n+1) (xa++[u]) (xb++[u'])):∃ g cap g' cap',p=.slice (some ⟨g,0,none⟩) (n+1) cap/\q=.slice (some ⟨g',0,none⟩) (n+1) cap'/\n+1<=cap/\cap<=maxLen/\n+1<=cap'/\cap'<=maxLen/\g < w.heap.size/\g' < w.heap.size/\w.cell? ⟨g,n,none⟩=some u/\w.cell? ⟨g',n,none⟩=some u'/\Two w base e (.slice (some ⟨g,0,none⟩) n cap) (.slice (some ⟨g',0,none⟩) n cap') n n xa xb:=by
 obtain ⟨g,cap,rfl,h1,h2,h3,h4,h5,h6⟩:=zes hn h.a
 obtain ⟨g',cap',rfl,k1,k2,k3,k4,k5,k6⟩:=zes hn' h.b
 exact ⟨g,cap,g',cap',rfl,rfl,h1,h2,k1,k2,h4,k4,h5,k5,h6,k6,fun x hx=>h.ne x hx⟩
theorem Tryz.infoRS:(Tryz.prog.info? 31).map (fun i=>(i.zero,i.size,i.bytes))=some (some (.slice none 0 0),1,24):=by kernel_rfl
theorem ziK (w:World) (base e:Nat) (u u':Value) (hb:base<=w.heap.size):Two ((w.alloc (.cells #[u] e)).alloc (.cells #[u'] e)) base e (.slice (some ⟨w.heap.size,0,none⟩) 1 1) (.slice (some ⟨w.heap.size+1,0,none⟩) 1 1) 1 1 [u] [u']:=by
 have h1:=World.ownsRow_lit (e:=e) (base:=base) (size:=1) w #[u] 1 hb (by simp [maxLen]) (by simp)
 have h2:=World.ownsRow_lit (e:=e) (base:=base) (size:=1) (w.alloc (.cells #[u] e)) #[u'] 1 (by simp;omega) (by simp [maxLen]) (by simp)
 exact ⟨by simpa using World.ownsRow.alloc h1 _,by simpa using h2,fun g h1 h2=>by simp [Value.ownBlock] at h1 h2;omega⟩
theorem Below.al1 {B:Nat}{w wc:World}(h:Below B w wc) (O:Obj) (hB:B<=wc.heap.size:=by first|assumption|omega):Below B w (wc.alloc O):=h.alloc hB O
theorem Below.aft {B:Nat}{w wc w1:World}(h:Below B w wc) (b:Below B wc w1):Below B w w1:=h.trans b
theorem znG (a b:List UInt8 × Int × Pl):decide (a=b)=(decide (a.1=b.1) && ((a.2.1 == b.2.1) && ((a.2.2.1 == b.2.2.1) && (a.2.2.2 == b.2.2.2)))):=by
 obtain ⟨a1,a2,a3,a4⟩:=a
 obtain ⟨b1,b2,b3,b4⟩:=b
 rw [Bool.eq_iff_iff,decide_eq_true_eq]
 simp only [Bool.and_eq_true,decide_eq_true_eq,beq_iff_eq,Prod.mk.injEq]
theorem zjb {ok ok':Nat->Prop}{w:World}{l l':List (List UInt8 × Int × Pl)}{v v':Value}(h:RdK ok w 4 (zbo ok w) l v) (h':RdK ok' w 4 (zbo ok' w) l' v') :
  Calls Tryz.prog 16 #[v,v'] w fun e w'=>e=.returned (.bool (eqL sqV l l'))/\Below w.heap.size w w':=by
 obtain ⟨a,cap,rfl,hlc,hcm⟩:=h.form
 obtain ⟨a',cap',rfl,hlc',hcm'⟩:=h'.form
 unfold maxLen at hcm hcm'
 have HC:=zm h
 have HC':=zm h'
 obtain ⟨V,hV⟩:∃ V,eqL sqV l l'=V:=⟨_,rfl⟩
 rw [hV]
 by_cases hne:l.length=l'.length
 ·have hV0:Hid (eqL sqV (l.drop 0) (l'.drop 0)=V):=hV
  rw [<- hne] at hlc' ⊢
  have HNE:=zm hne
  obtain ⟨n,hn⟩:∃ n,l.length=n:=⟨_,rfl⟩
  rw [hn] at hlc hlc' HNE ⊢
  have HN:Hid (l.length=n):=hn
  clear h h' hn hV hne
  go_enter Tryz.func16,Tryz.ntmps16
  go_wp2
  go_loopw [13] (fun ix wr=>∃ (i:Nat),i<=n/\ix=.int .i64 (i:Int)/\Hid (eqL sqV (l.drop i) (l'.drop i)=V)/\Below w.heap.size w wr) (fun ix _=>n - (RowKit.intOf ix).toNat)
  case atStart=>exact ⟨0,Nat.zero_le _,rfl,hV0,Below.refl _ _⟩
  case round=>
   clear hV0
   obtain ⟨i,hi,rfl,HI,hb⟩:=hrel
   by_cases hlt:i < n
   ·have hil:i < l.length:=by rw [HN.out];exact hlt
    have hil':i < l'.length:=by rw [<- HNE.out];exact hlt
    have HI0:Hid ((sqV l[i] l'[i] && eqL sqV (l.drop (i+1)) (l'.drop (i+1)))=V):=by
     show _=_
     rw [<- zcB sqV hil hil'];exact HI.out
    clear HI
    obtain ⟨b,off,rfl,hbl,hc⟩:=zcL HC.out i hil
    obtain ⟨b',off',rfl,hbl',hc'⟩:=zcL HC'.out i hil'
    obtain ⟨q,hq⟩:∃ q,l[i]=q:=⟨_,rfl⟩
    obtain ⟨p,hp⟩:∃ q,l'[i]=q:=⟨_,rfl⟩
    rw [hq] at hc HI0
    rw [hp] at hc' HI0
    obtain ⟨nm,hnm,eb0,_⟩:=zal q.1
    obtain ⟨nm2,hnm2,eb1,_⟩:=zal p.1
    obtain ⟨x,hx⟩:∃ x,q.2.1=x:=⟨_,rfl⟩
    obtain ⟨pl,hpl⟩:∃ x,q.2.2.1=x:=⟨_,rfl⟩
    obtain ⟨pc,hpc⟩:∃ x,q.2.2.2=x:=⟨_,rfl⟩
    obtain ⟨x2,hx2⟩:∃ x,p.2.1=x:=⟨_,rfl⟩
    obtain ⟨pl2,hpl2⟩:∃ x,p.2.2.1=x:=⟨_,rfl⟩
    obtain ⟨pc2,hpc2⟩:∃ x,p.2.2.2=x:=⟨_,rfl⟩
    have hv1:zcy q=[.string nm,.int .i64 x,.int .i64 pl,.int .i64 pc]:=by unfold zcy;rw [hnm,hx,hpl,hpc]
    have hv2:zcy p=[.string nm2,.int .i64 x2,.int .i64 pl2,.int .i64 pc2]:=by unfold zcy;rw [hnm2,hx2,hpl2,hpc2]
    rw [hv1] at hc
    rw [hv2] at hc'
    obtain ⟨e0,he0⟩:∃ e,(nm.toList == nm2.toList)=e:=⟨_,rfl⟩
    obtain ⟨e1,he1⟩:∃ e,(x == x2)=e:=⟨_,rfl⟩
    obtain ⟨e2,he2⟩:∃ e,(pl == pl2)=e:=⟨_,rfl⟩
    obtain ⟨e3,he3⟩:∃ e,(pc == pc2)=e:=⟨_,rfl⟩
    have HI2:Hid (((e0 && (e1 && (e2 && e3))) && eqL sqV (l.drop (i+1)) (l'.drop (i+1)))=V):=by
     have:sqV q p=(e0 && (e1 && (e2 && e3))):=by
      unfold sqV
      rw [znG,<- he0,<- he1,<- he2,<- he3,zaK,eb0,eb1,hx,hx2,hpl,hpl2,hpc,hpc2]
     rw [<- this];exact HI0
    clear hq hp HI0 hnm hnm2 hx hpl hpc hx2 hpl2 hpc2 hv1 hv2 eb0 eb1
    have i1:(i:Int) < (n:Int):=by omega
    have i2:(0:Int)<=(i:Int):=by omega
    have C0:=(hb.cell (p:=⟨b,off+i*4+0,none⟩) hbl).trans (hc 0 _ rfl)
    have D0:=(hb.cell (p:=⟨b',off'+i*4+0,none⟩) hbl').trans (hc' 0 _ rfl)
    have C1:=(hb.cell (p:=⟨b,off+i*4+1,none⟩) hbl).trans (hc 1 _ rfl)
    have D1:=(hb.cell (p:=⟨b',off'+i*4+1,none⟩) hbl').trans (hc' 1 _ rfl)
    have C2:=(hb.cell (p:=⟨b,off+i*4+2,none⟩) hbl).trans (hc 2 _ rfl)
    have D2:=(hb.cell (p:=⟨b',off'+i*4+2,none⟩) hbl').trans (hc' 2 _ rfl)
    have C3:=(hb.cell (p:=⟨b,off+i*4+3,none⟩) hbl).trans (hc 3 _ rfl)
    have D3:=(hb.cell (p:=⟨b',off'+i*4+3,none⟩) hbl').trans (hc' 3 _ rfl)
    rw [Nat.add_zero] at C0 D0
    clear hc hc'
    cases e0 with
    | false=>
     go_wp2
     go_region_held_law (fun w'=>w'.cell? ⟨b,off+i*4,none⟩=some (.string nm)/\w'.cell? ⟨b,off+i*4+1,none⟩=some (.int .i64 x)/\w'.cell? ⟨b,off+i*4+2,none⟩=some (.int .i64 pl)/\w'.cell? ⟨b,off+i*4+3,none⟩=some (.int .i64 pc)/\w'.cell? ⟨b',off'+i*4,none⟩=some (.string nm2)/\w'.cell? ⟨b',off'+i*4+1,none⟩=some (.int .i64 x2)/\w'.cell? ⟨b',off'+i*4+2,none⟩=some (.int .i64 pl2)/\w'.cell? ⟨b',off'+i*4+3,none⟩=some (.int .i64 pc2))
      (exact ⟨C0,C1,C2,C3,D0,D1,D2,D3⟩)
      (fail)
     all_goals (
      have hV:V=false:=by rw [<- HI2.out];simp
      subst hV
      go_wp2
      go_ret
      exact ⟨rfl,hb.drew⟩)
    | true=>
     cases e1 with
     | false=>
      go_wp2
      go_region_held_law (fun w'=>w'.cell? ⟨b,off+i*4,none⟩=some (.string nm)/\w'.cell? ⟨b,off+i*4+1,none⟩=some (.int .i64 x)/\w'.cell? ⟨b,off+i*4+2,none⟩=some (.int .i64 pl)/\w'.cell? ⟨b,off+i*4+3,none⟩=some (.int .i64 pc)/\w'.cell? ⟨b',off'+i*4,none⟩=some (.string nm2)/\w'.cell? ⟨b',off'+i*4+1,none⟩=some (.int .i64 x2)/\w'.cell? ⟨b',off'+i*4+2,none⟩=some (.int .i64 pl2)/\w'.cell? ⟨b',off'+i*4+3,none⟩=some (.int .i64 pc2))
       (exact ⟨C0,C1,C2,C3,D0,D1,D2,D3⟩)
       (fail)
      all_goals (
       have hV:V=false:=by rw [<- HI2.out];simp
       subst hV
       go_wp2
       go_ret
       exact ⟨rfl,hb.drew⟩)
     | true=>
      cases e2 with
      | false=>
       go_wp2
       go_region_held_law (fun w'=>w'.cell? ⟨b,off+i*4,none⟩=some (.string nm)/\w'.cell? ⟨b,off+i*4+1,none⟩=some (.int .i64 x)/\w'.cell? ⟨b,off+i*4+2,none⟩=some (.int .i64 pl)/\w'.cell? ⟨b,off+i*4+3,none⟩=some (.int .i64 pc)/\w'.cell? ⟨b',off'+i*4,none⟩=some (.string nm2)/\w'.cell? ⟨b',off'+i*4+1,none⟩=some (.int .i64 x2)/\w'.cell? ⟨b',off'+i*4+2,none⟩=some (.int .i64 pl2)/\w'.cell? ⟨b',off'+i*4+3,none⟩=some (.int .i64 pc2))
        (exact ⟨C0,C1,C2,C3,D0,D1,D2,D3⟩)
        (fail)
       all_goals (
        have hV:V=false:=by rw [<- HI2.out];simp
        subst hV
        go_wp2
        go_ret
        exact ⟨rfl,hb.drew⟩)
      | true=>
       cases e3 with
       | false=>
        go_wp2
        go_region_held_law (fun w'=>w'.cell? ⟨b,off+i*4,none⟩=some (.string nm)/\w'.cell? ⟨b,off+i*4+1,none⟩=some (.int .i64 x)/\w'.cell? ⟨b,off+i*4+2,none⟩=some (.int .i64 pl)/\w'.cell? ⟨b,off+i*4+3,none⟩=some (.int .i64 pc)/\w'.cell? ⟨b',off'+i*4,none⟩=some (.string nm2)/\w'.cell? ⟨b',off'+i*4+1,none⟩=some (.int .i64 x2)/\w'.cell? ⟨b',off'+i*4+2,none⟩=some (.int .i64 pl2)/\w'.cell? ⟨b',off'+i*4+3,none⟩=some (.int .i64 pc2))
         (exact ⟨C0,C1,C2,C3,D0,D1,D2,D3⟩)
         (fail)
        all_goals (
         have hV:V=false:=by rw [<- HI2.out];simp
         subst hV
         go_wp2
         go_ret
         exact ⟨rfl,hb.drew⟩)
       | true=>
        have HI3:Hid (eqL sqV (l.drop (i+1)) (l'.drop (i+1))=V):=by show _=_;have:=HI2.out;simpa using this
        go_wp2
        go_region_held_law (fun w'=>w'.cell? ⟨b,off+i*4,none⟩=some (.string nm)/\w'.cell? ⟨b,off+i*4+1,none⟩=some (.int .i64 x)/\w'.cell? ⟨b,off+i*4+2,none⟩=some (.int .i64 pl)/\w'.cell? ⟨b,off+i*4+3,none⟩=some (.int .i64 pc)/\w'.cell? ⟨b',off'+i*4,none⟩=some (.string nm2)/\w'.cell? ⟨b',off'+i*4+1,none⟩=some (.int .i64 x2)/\w'.cell? ⟨b',off'+i*4+2,none⟩=some (.int .i64 pl2)/\w'.cell? ⟨b',off'+i*4+3,none⟩=some (.int .i64 pc2))
         (exact ⟨C0,C1,C2,C3,D0,D1,D2,D3⟩)
         (fail)
        all_goals (
         go_wp2
         go_roundw
         case rel=>exact ⟨i+1,hlt,by go_num,HI3,hb.drew⟩
         case measure=>simp [RowKit.intOf];omega)
   ·have i1:¬ (i:Int) < (n:Int):=by omega
    have hV:V=true:=by
     rw [<- HI.out]
     exact zbO sqV (by rw [HN.out];omega) (by rw [<- HNE.out];omega)
    subst hV
    go_wp2
    go_ret
    exact ⟨rfl,hb⟩
 ·have hV2:V=false:=by rw [<- hV];exact zci sqV l l' hne
  subst hV2
  have hne2:((l.length:Int) == (l'.length:Int))=false:=by rw [beq_eq_false_iff_ne];omega
  have hne3:((l.length:Int) != (l'.length:Int))=true:=by simp only [bne,hne2];rfl
  generalize l.length=n at *
  generalize l'.length=n' at *
  clear HC HC' hV h h' hne
  go_enter Tryz.func16,Tryz.ntmps16
  go_wp2
  go_ret
  exact ⟨rfl,Below.refl _ _⟩
abbrev Pg2:=(Fo × Fo) × Value × Value
def sqF (x:Fo × Fo):Bool:=eqL (sqT x.1.1 x.2.1) x.1.2 x.2.2
def zfZ (N:Nat) (w:World) (x:Pg2):Prop:=(zhn x.1.1/\zhn x.1.2)/\RdK (fun b=>b < N) w 11 (rSt x.1.1.1 (fun b=>b < N) w) x.1.1.2 x.2.1/\RdK (fun b=>b < N) w 11 (rSt x.1.2.1 (fun b=>b < N) w) x.1.2.2 x.2.2
theorem zie {N:Nat}{w:World}(f:Fo) {v:Value}(h:zhn f) (hr:RdK (fun b=>b < N) w 11 (rSt f.1 (fun b=>b < N) w) f.2 v):∃ (d:Nat) (l:List (St (d+1))),zhn ⟨d+1,l⟩/\RdK (fun b=>b < N) w 11 (rSt (d+1) (fun b=>b < N) w) l v/\szL f.1 f.2=szL (d+1) l/\((f.2=[]/\l=[])∨f=⟨d+1,l⟩):=by
 obtain ⟨d,l⟩:=f
 cases d with
 | succ d=>exact ⟨d,l,h,hr,rfl,.inr rfl⟩
 | zero=>
  cases l with
  | cons x _=>exact Empty.elim x
  | nil=>
   obtain ⟨a,cap,h2,h3,h4,_⟩:=hr
   exact ⟨0,[],⟨by simp,fun t ht=>by cases ht⟩,⟨a,cap,h2,h3,h4,fun i hi=>absurd hi (by simp)⟩,rfl,.inl ⟨rfl,rfl⟩⟩
theorem zmt {α β:Type}{f:α->β->Bool}{γ:Type}{g:γ->β->Bool}(m:List β):eqL f [] m=eqL g [] m:=by cases m<;>rfl
theorem zjK {α β:Type}{f:α->β->Bool}{γ:Type}{g:α->γ->Bool}(l:List α):eqL f l []=eqL g l []:=by cases l<;>rfl
theorem zl7 {N:Nat}{w:World}{x:Pg2}(h:zfZ N w x):∃ (d e:Nat) (l:List (St (d+1))) (m:List (St (e+1))),zfZ N w ((⟨d+1,l⟩,⟨e+1,m⟩),x.2)/\szL x.1.1.1 x.1.1.2=szL (d+1) l/\sqF x.1=eqL (sqT (d+1) (e+1)) l m:=by
 obtain ⟨⟨h1,h2⟩,h3,h4⟩:=h
 obtain ⟨d,l,a1,a2,a3,a4⟩:=zie x.1.1 h1 h3
 obtain ⟨e,m,b1,b2,b3,b4⟩:=zie x.1.2 h2 h4
 refine ⟨d,e,l,m,⟨⟨a1,b1⟩,a2,b2⟩,a3,?_⟩
 obtain ⟨⟨f1,f2⟩,v⟩:=x
 unfold sqF
 rcases a4 with ⟨a4,rfl⟩|a4
 ·have a4':f1.2=[]:=a4
  rcases b4 with ⟨b4,rfl⟩|b4
  ·have b4':f2.2=[]:=b4
   show eqL (sqT f1.1 f2.1) f1.2 f2.2=_
   rw [a4',b4'];rfl
  ·have b4':f2=⟨e+1,m⟩:=b4
   subst b4'
   show eqL (sqT f1.1 (e+1)) f1.2 m=_
   rw [a4'];exact zmt m
 ·have a4':f1=⟨d+1,l⟩:=a4
  subst a4'
  rcases b4 with ⟨b4,rfl⟩|b4
  ·have b4':f2.2=[]:=b4
   show eqL (sqT (d+1) f2.1) l f2.2=_
   rw [b4'];exact zjK l
  ·have b4':f2=⟨e+1,m⟩:=b4
   subst b4'
   rfl
theorem ziA (d e:Nat):∀ (l:List (St (d+1))) (m:List (St (e+1))),eqL (sqT (d+1) (e+1)) l m=(eqL (sqA d e) l m && eqL (fun (t:St (d+1)) (u:St (e+1))=>eqL (sqT d e) t.2 u.2) l m)
 | [],[]=>rfl
 | [],_ :: _=>rfl
 | _ :: _,[]=>rfl
 | a :: l,b :: m=>by
  have ih:=ziA d e l m
  show ((sqH a.1 b.1 && eqL (sqT d e) a.2 b.2) && eqL (sqT (d+1) (e+1)) l m)=((sqH a.1 b.1 && eqL (sqA d e) l m) && (eqL (sqT d e) a.2 b.2 && eqL (fun (t:St (d+1)) (u:St (e+1))=>eqL (sqT d e) t.2 u.2) l m))
  rw [ih]
  cases sqH a.1 b.1<;>cases eqL (sqT d e) a.2 b.2<;>cases eqL (sqA d e) l m<;>rfl
def kd1 (d e:Nat) (x:St (d+1) × St (e+1)):Fo × Fo:=(⟨d,x.1.2⟩,⟨e,x.2.2⟩)
def zeo (d e:Nat) (l:List (St (d+1))) (m:List (St (e+1))):List (Fo × Fo):=(l.zip m).map (kd1 d e)
theorem znn {d e:Nat}{l:List (St (d+1))}{m:List (St (e+1))}{j:Nat}(h:j < (zeo d e l m).length) (h1:j < l.length) (h2:j < m.length):(zeo d e l m)[j]=(⟨d,l[j].2⟩,⟨e,m[j].2⟩):=by
 have h':j < ((l.zip m).map (kd1 d e)).length:=h
 have e1:((l.zip m).map (kd1 d e))[j]=kd1 d e ((l.zip m)[j]'(by rw [List.length_zip];omega)):=by rw [List.getElem_map]
 have e2:(l.zip m)[j]'(by rw [List.length_zip];omega)=(l[j],m[j]):=List.getElem_zip
 rw [e2] at e1
 exact e1
theorem ziy (d e:Nat):∀ (l:List (St (d+1))) (m:List (St (e+1))),l.length=m.length->(zeo d e l m).all sqF=eqL (fun (t:St (d+1)) (u:St (e+1))=>eqL (sqT d e) t.2 u.2) l m
 | [],[],_=>rfl
 | [],_ :: _,h=>by simp at h
 | _ :: _,[],h=>by simp at h
 | a :: l,b :: m,h=>by
  have ih:=ziy d e l m (by simpa using h)
  show (sqF (⟨d,a.2⟩,⟨e,b.2⟩) && (zeo d e l m).all sqF)=(eqL (sqT d e) a.2 b.2 && _)
  rw [ih];rfl
theorem zmr {α β:Type}{f:α->β->Bool}{l:List α}{m:List β}(h:eqL f l m=true):l.length=m.length:=by
 by_cases hn:l.length=m.length
 ·exact hn
 ·rw [zci f l m hn] at h;cases h
def szG (x:Pg2):Nat:=szL x.1.1.1 x.1.1.2
theorem ziz:∀ P:List Pg2,P.length<=(P.map szG).sum
 | []=>by simp
 | p :: P=>by
  have:=ziz P
  have:=zim p.1.1.1 p.1.1.2
  show P.length+1<=szL p.1.1.1 p.1.1.2+(P.map szG).sum
  omega
theorem zj4 {α:Type}{l:List α}(h:l≠[]):∃ l' x,l=l'++[x]:=by
 rcases List.eq_nil_or_concat l with h' | ⟨l',x,h'⟩
 ·exact absurd h' h
 ·exact ⟨l',x,by rw [h'];simp⟩
theorem zff {ok ok':Nat->Prop}{w:World}{d de:Nat}{c:ChG d}{c':ChG de}{v v':Value}(h:RdC ok w d c v) (h':RdC ok' w de c' v') (hok:zme d c) (hok':zme de c') :
  Calls Tryz.prog 7 #[v,v'] w fun e w'=>e=.returned (.bool (sqC d de c c'))/\Below w.heap.size w w':=by
 obtain ⟨ir,hir,hir0,hir1,hir2⟩:=info_parts Tryz.infoRS
 obtain ⟨sv,ss,rfl,hv,hs⟩:=h
 obtain ⟨sv',ss',rfl,hv',hs'⟩:=h'
 obtain ⟨a,cap,rfl,_⟩:=hv.form
 obtain ⟨a',cap',rfl,_⟩:=hv'.form
 obtain ⟨p4,p6,rfl,_⟩:=hs.form
 obtain ⟨q4,q6,rfl,_⟩:=hs'.form
 obtain ⟨nm,hnm,eb0,_⟩:=zal c.1.1
 obtain ⟨nm2,hnm2,eb1,_⟩:=zal c'.1.1
 obtain ⟨n,hn⟩:∃ n,c.2.2.1.length=n:=⟨_,rfl⟩
 obtain ⟨n2,hn2⟩:∃ n,c'.2.2.1.length=n:=⟨_,rfl⟩
 obtain ⟨i,hi⟩:∃ n,c.2.2.2.length=n:=⟨_,rfl⟩
 obtain ⟨ii,hii⟩:∃ n,c'.2.2.2.length=n:=⟨_,rfl⟩
 obtain ⟨vn,hvn⟩:∃ x,c.2.1=x:=⟨_,rfl⟩
 obtain ⟨vn2,hvn2⟩:∃ x,c'.2.1=x:=⟨_,rfl⟩
 obtain ⟨ln,hln⟩:∃ x,c.1.2.1=x:=⟨_,rfl⟩
 obtain ⟨ln2,hln2⟩:∃ x,c'.1.2.1=x:=⟨_,rfl⟩
 obtain ⟨co,hco⟩:∃ x,c.1.2.2=x:=⟨_,rfl⟩
 obtain ⟨co2,hco2⟩:∃ x,c'.1.2.2=x:=⟨_,rfl⟩
 obtain ⟨e0,he0⟩:∃ e,(nm.toList == nm2.toList)=e:=⟨_,rfl⟩
 obtain ⟨e1,he1⟩:∃ e,(vn == vn2)=e:=⟨_,rfl⟩
 obtain ⟨e2,he2⟩:∃ e,(ln == ln2)=e:=⟨_,rfl⟩
 obtain ⟨e3,he3⟩:∃ e,(co == co2)=e:=⟨_,rfl⟩
 obtain ⟨e4,he4⟩:∃ e,eqL sqV c.2.2.1 c'.2.2.1=e:=⟨_,rfl⟩
 obtain ⟨V,hV⟩:∃ V,sqC d de c c'=V:=⟨_,rfl⟩
 rw [hV]
 have HV0:Hid ((e0 && (e1 && ((e2 && e3) && (e4 && eqL (sqT d de) c.2.2.2 c'.2.2.2))))=V):=by
  show _=_
  rw [<- hV]
  unfold sqC
  rw [zer,<- zen c.2.1,<- eb0,<- eb1,<- zaK,hvn,hvn2,hln,hln2,hco,hco2,he0,he1,he2,he3,he4]
 rw [hnm,hvn,hln,hco,hi,hn,hnm2,hvn2,hln2,hco2,hii,hn2]
 rw [hi] at hs
 rw [hii] at hs'
 rw [hn] at hv
 rw [hn2] at hv'
 have HV:=zm hv
 have HV':=zm hv'
 have HP0:Hid (zfZ w.heap.size w ((⟨d,c.2.2.2⟩,⟨de,c'.2.2.2⟩),.slice p4 i p6,.slice q4 ii q6)):=⟨⟨hok.fo,hok'.fo⟩,hs.stay (zp d) (fun b hb hl=>⟨hl,rfl⟩),hs'.stay (zp de) (fun b hb hl=>⟨hl,rfl⟩)⟩
 have HSZ:Hid (szL d c.2.2.2<=1000000):=hok.sz
 have HE4:=zm he4
 have hn1:(vn != vn2) = !e1:=by rw [<- he1];rfl
 clear hv hv' hs hs' hok hok' hnm hnm2 hn hn2 hi hii hvn hvn2 hln hln2 hco hco2 eb0 eb1 hV he4
 have hal:Below w.heap.size w ((w.alloc (.cells #[.string nm,.int .i64 vn,.int .i64 ln,.int .i64 co,.slice a n cap,.slice p4 i p6] 33)).alloc (.cells #[.string nm2,.int .i64 vn2,.int .i64 ln2,.int .i64 co2,.slice a' n2 cap',.slice q4 ii q6] 33)):=((Below.refl w.heap.size w).alloc zn2 _).alloc (by simp) _
 have hX:Bn ((w.alloc (.cells #[.string nm,.int .i64 vn,.int .i64 ln,.int .i64 co,.slice a n cap,.slice p4 i p6] 33)).alloc (.cells #[.string nm2,.int .i64 vn2,.int .i64 ln2,.int .i64 co2,.slice a' n2 cap',.slice q4 ii q6] 33)) w.heap.size [.string nm,.int .i64 vn,.int .i64 ln,.int .i64 co,.slice a n cap,.slice p4 i p6]:=(Bn.new w [.string nm,.int .i64 vn,.int .i64 ln,.int .i64 co,.slice a n cap,.slice p4 i p6] 33 _ rfl).on (zn3.alloc zn2 _)
 have hY:Bn ((w.alloc (.cells #[.string nm,.int .i64 vn,.int .i64 ln,.int .i64 co,.slice a n cap,.slice p4 i p6] 33)).alloc (.cells #[.string nm2,.int .i64 vn2,.int .i64 ln2,.int .i64 co2,.slice a' n2 cap',.slice q4 ii q6] 33)) (w.heap.size+1) [.string nm2,.int .i64 vn2,.int .i64 ln2,.int .i64 co2,.slice a' n2 cap',.slice q4 ii q6]:=Bn.new (w.alloc (.cells #[.string nm,.int .i64 vn,.int .i64 ln,.int .i64 co,.slice a n cap,.slice p4 i p6] 33)) [.string nm2,.int .i64 vn2,.int .i64 ln2,.int .i64 co2,.slice a' n2 cap',.slice q4 ii q6] 33 _ (by simp)
 go_enter Tryz.func7,Tryz.ntmps7
 go_upto_region 1 with fail
 generalize ((w.alloc (.cells #[.string nm,.int .i64 vn,.int .i64 ln,.int .i64 co,.slice a n cap,.slice p4 i p6] 33)).alloc (.cells #[.string nm2,.int .i64 vn2,.int .i64 ln2,.int .i64 co2,.slice a' n2 cap',.slice q4 ii q6] 33))=wx at *
 have hq:=zjb (HV.out.stay zI (ok':=ok) (w':=wx) (fun b hb hl=>⟨hb,hal.block b hl⟩)) (HV'.out.stay zI (ok':=ok') (w':=wx) (fun b hb hl=>⟨hb,hal.block b hl⟩))
 rw [HE4.out] at hq
 have x0:=(hX 0 _ rfl).1
 have y0:=(hY 0 _ rfl).1
 have x1:=(hX 1 _ rfl).1
 have y1:=(hY 1 _ rfl).1
 have x2:=(hX 2 _ rfl).1
 have y2:=(hY 2 _ rfl).1
 have x3:=(hX 3 _ rfl).1
 have y3:=(hY 3 _ rfl).1
 have x4:=(hX 4 _ rfl).1
 have y4:=(hY 4 _ rfl).1
 have x5:=(hX 5 _ rfl).1
 have y5:=(hY 5 _ rfl).1
 cases e0 with
 | false=>
  have hF:V=false:=by rw [<- HV0.out];simp
  subst hF
  have hB:Below wx.heap.size wx wx:=Below.refl _ _
  go_wp2_with (first
   | (go_at_call 16;refine hq.mono ?_;rintro e w1 ⟨rfl,b1⟩;have hB:=Below.nx hB b1;skip)
   | fail)
  go_ret
  exact ⟨rfl,hal.trans (hB.mono hal.size)⟩
 | true=>
 cases e1 with
 | false=>
  have hF:V=false:=by rw [<- HV0.out];simp
  subst hF
  have hB:Below wx.heap.size wx wx:=Below.refl _ _
  go_wp2_with (first
   | (go_at_call 16;refine hq.mono ?_;rintro e w1 ⟨rfl,b1⟩;have hB:=Below.nx hB b1;skip)
   | fail)
  go_ret
  exact ⟨rfl,hal.trans (hB.mono hal.size)⟩
 | true=>
 cases e2 with
 | false=>
  have hF:V=false:=by rw [<- HV0.out];simp
  subst hF
  have hB:Below wx.heap.size wx wx:=Below.refl _ _
  go_wp2_with (first
   | (go_at_call 16;refine hq.mono ?_;rintro e w1 ⟨rfl,b1⟩;have hB:=Below.nx hB b1;skip)
   | fail)
  go_ret
  exact ⟨rfl,hal.trans (hB.mono hal.size)⟩
 | true=>
 cases e3 with
 | false=>
  have hF:V=false:=by rw [<- HV0.out];simp
  subst hF
  have hB:Below wx.heap.size wx wx:=Below.refl _ _
  go_wp2_with (first
   | (go_at_call 16;refine hq.mono ?_;rintro e w1 ⟨rfl,b1⟩;have hB:=Below.nx hB b1;skip)
   | fail)
  go_ret
  exact ⟨rfl,hal.trans (hB.mono hal.size)⟩
 | true=>
 cases e4 with
 | false=>
  have hF:V=false:=by rw [<- HV0.out];simp
  subst hF
  have hB:Below wx.heap.size wx wx:=Below.refl _ _
  go_wp2_with (first
   | (go_at_call 16;refine hq.mono ?_;rintro e w1 ⟨rfl,b1⟩;have hB:=Below.nx hB b1;skip)
   | fail)
  go_ret
  exact ⟨rfl,hal.trans (hB.mono hal.size)⟩
 | true=>
 have HVT:Hid (eqL (sqT d de) c.2.2.2 c'.2.2.2=V):=by show _=_;have:=HV0.out;simpa using this
 clear HV0
 go_upto_region 3 with (first
  | (go_at_call 16;refine hq.mono ?_;rintro e w1 ⟨rfl,b1⟩)|fail)
 have hb1:=hal.trans (b1.mono hal.size)
 obtain ⟨s5,_⟩:=(hX.on b1) 5 _ rfl
 obtain ⟨t5,_⟩:=(hY.on b1) 5 _ rfl
 clear x0 y0 x1 y1 x2 y2 x3 y3 x4 y4 x5 y5 hX hY hal hq b1 HV HV'
 go_cut [5,6] (fun v5 v6 wc=>∃ T1 T2,v5=.slice (some ⟨T1,0,none⟩) 1 1/\v6=.slice (some ⟨T2,0,none⟩) 1 1/\Hid (Two wc w.heap.size 31 (.slice (some ⟨T1,0,none⟩) 1 1) (.slice (some ⟨T2,0,none⟩) 1 1) 1 1 [.slice p4 i p6] [.slice q4 ii q6])/\Below w.heap.size w wc)
 case first=>
  clear HP0 HSZ HVT
  go_region_held_law (fun w'=>w'.cell? ⟨w.heap.size,5,none⟩=some (.slice p4 i p6)/\w'.cell? ⟨w.heap.size+1,5,none⟩=some (.slice q4 ii q6))
   ((refine ⟨?_,?_⟩<;>(repeat (with_reducible first|exact s5|exact t5|refine zj ?_|refine zh ?_))<;>done))
   (fail)
  ·have hbs:=hb1.size
   go_wp2
   go_meet
   case rel=>exact ⟨_,_,rfl,rfl,ziK w1.drew w.heap.size 31 _ _ hbs,(hb1.drew.alloc hbs _).alloc (by simp;omega) _⟩
  ·have hbs:=hb1.size
   go_wp2
   go_meet
   case rel=>exact ⟨_,_,rfl,rfl,(ziK w1.drew w.heap.size 31 _ _ hbs).symm,(hb1.drew.alloc hbs _).alloc (by simp;omega) _⟩
 case rest=>
  obtain ⟨T1,T2,rfl,rfl,hT0,hb0⟩:=hcut
  clear hb1 s5 t5
  obtain ⟨wk,hwk⟩:∃ x,x=wc:=⟨_,rfl⟩
  subst hwk
  go_wp2
  go_loopg [5,6] 1000000 (fun gn p q wr=>∃ (ps:List Pg2),Hid ((ps.map (fun x=>x.1)).all sqF=V)/\Hid (Two wr w.heap.size 31 p q ps.length ps.length (ps.map (fun x=>x.2.1)) (ps.map (fun x=>x.2.2)))/\Hid (∀ x∈ps,zfZ w.heap.size w x)/\Hid ((ps.map szG).sum<=gn/\gn<=1000000)/\Below w.heap.size w wr)
  case atStart=>
   refine ⟨[((⟨d,c.2.2.2⟩,⟨de,c'.2.2.2⟩),.slice p4 i p6,.slice q4 ii q6)],(by show (eqL (sqT d de) c.2.2.2 c'.2.2.2 && true)=V;rw [Bool.and_true];exact HVT.out),hT0,fun x hx=>?_,⟨?_,Nat.le_refl _⟩,hb0⟩
   ·have:x=((⟨d,c.2.2.2⟩,⟨de,c'.2.2.2⟩),.slice p4 i p6,.slice q4 ii q6):=by simpa using hx
    subst this
    exact HP0.out
   ·show szL d c.2.2.2+0<=1000000
    have:=HSZ.out
    omega
  case round=>
   clear hT0 hb0 HP0 HSZ HVT
   obtain ⟨ps,hA,hT,hK,hM,hb⟩:=hrel
   by_cases he:ps=[]
   ·subst he
    have hV:V=true:=by rw [<- hA.out];rfl
    subst hV
    obtain ⟨ra,rc,rfl⟩:=zgD hT.out.a
    go_wp2
    go_ret
    exact ⟨rfl,hb⟩
   obtain ⟨ps',x,rfl⟩:=zj4 he
   obtain ⟨dd,ee,l,mm,hx,hxs,hxf⟩:=zl7 (hK.out x (by simp))
   have hA2:=hA.out
   rw [List.map_append,List.all_append,List.map_singleton,List.all_cons,List.all_nil,Bool.and_true,hxf,ziA] at hA2
   have hm:=hM.out
   rw [List.map_append,List.sum_append,List.map_singleton,List.sum_singleton,show szG x=szL (dd+1) l from hxs] at hm
   obtain ⟨x1,x2,x3⟩:=x
   obtain ⟨⟨hf,hf'⟩,hr,hr'⟩:=hx
   replace hr:RdK (fun b=>b < w.heap.size) w 11 (rSt (dd+1) (fun b=>b < w.heap.size) w) l x2:=hr
   replace hr':RdK (fun b=>b < w.heap.size) w 11 (rSt (ee+1) (fun b=>b < w.heap.size) w) mm x3:=hr'
   obtain ⟨s1,s3,rfl,hs3,hs3m⟩:=hr.form
   obtain ⟨t1,t3,rfl,ht3,ht3m⟩:=hr'.form
   have hTT:=hT.out
   rw [List.length_append,List.length_singleton,List.map_append,List.map_append] at hTT
   obtain ⟨g,gc,g',gc',rfl,rfl,k1,k2,k3,k4,k5,k6,k7,k8,hP⟩:=Two.pop (n:=ps'.length) (by simp) (by simp) hTT
   have hpl:ps'.length<=1000000:=by
    have:=ziz ps'
    omega
   obtain ⟨m,hml⟩:∃ m,ps'.length=m:=⟨_,rfl⟩
   obtain ⟨nl,hnl⟩:∃ m,l.length=m:=⟨_,rfl⟩
   obtain ⟨nm',hnm'⟩:∃ m,mm.length=m:=⟨_,rfl⟩
   obtain ⟨RR,hRR⟩:∃ x,eqL (sqA dd ee) l mm=x:=⟨_,rfl⟩
   rw [hRR] at hA2
   rw [hml] at k1 k3 k7 k8 hP hpl ⊢
   rw [hnl] at k7 hs3
   rw [hnm'] at k8 ht3
   have hcall:∀ w1,Below w.heap.size w w1->Calls Tryz.prog 17 #[.slice s1 nl s3,.slice t1 nm' t3,.func (.func 18) #[] #[]] w1 fun e w'=>e=.returned (.bool RR)/\Below w1.heap.size w1 w':=fun w1 b1=>by
    rw [<- hnl,<- hnm',<- hRR]
    exact zkb (hr.stay (zp _) (ok':=fun b=>b < w.heap.size) (fun b hb hl=>⟨hb,b1.block b hl⟩)) (hr'.stay (zp _) (ok':=fun b=>b < w.heap.size) (fun b hb hl=>⟨hb,b1.block b hl⟩)) (fun s hs=>(hf.2 s hs).1) (fun s hs=>(hf'.2 s hs).1)
   have hll:nl<=100000:=by rw [<- hnl];exact hf.1
   have HML:=zm hml
   have HNL:=zm hnl
   have HF:=zm hf
   have HF':=zm hf'
   have HNM:=zm hnm'
   have HA2:=zm hA2
   have HRR:=zm hRR
   have hll':nm'<=100000:=by rw [<- hnm'];exact hf'.1
   have HR:=zm hr
   have HR':=zm hr'
   have HM2:Hid ((ps'.map szG).sum+szL (dd+1) l<=gk/\gk<=1000000):=hm
   have HK2:Hid (∀ x∈ps',zfZ w.heap.size w x):=fun y hy=>hK.out y (by simp [hy])
   have HP:=zm hP
   unfold maxLen at hs3m ht3m k2 k4
   clear hT hK hM hTT hP hml hnl hf hr hr' hm hxs he hf' hnm' hA2 hRR hA hxf
   have i1:((m:Int)+1 > 0):=by omega
   have i3:(0:Int)<=(m:Int):=by omega
   have i4:(m:Int)<=(gc:Int):=by omega
   have i4':(m:Int)<=(gc':Int):=by omega
   have i5:(m:Int) < (m:Int)+1:=by omega
   go_upto_region 6 with fail
   go_region_held_law (fun w'=>w'.cell? ⟨g,m,none⟩=some (.slice s1 nl s3)/\w'.cell? ⟨g',m,none⟩=some (.slice t1 nm' t3))
    (exact ⟨k7,k8⟩)
    (fail)
   go_upto_region 7 with fail
   go_region_held_law (fun w'=>w'.cell? ⟨g,m,none⟩=some (.slice s1 nl s3)/\w'.cell? ⟨g',m,none⟩=some (.slice t1 nm' t3))
    (exact ⟨k7,k8⟩)
    (fail)
   have hP2:Hid (Two wr.drew.drew w.heap.size 31 (.slice (some ⟨g,0,none⟩) m gc) (.slice (some ⟨g',0,none⟩) m gc') m m (ps'.map (fun x=>x.2.1)) (ps'.map (fun x=>x.2.2))):=HP.out.drew.drew
   have hb2:=hb.drew.drew
   clear k7 k8 hb HP
   generalize wr.drew.drew=w2 at *
   cases RR with
   | false=>
    have hF:V=false:=by rw [<- HA2.out];simp
    subst hF
    go_wp2_with (first
     | (go_at_call 17;refine (hcall _ hb2).mono ?_;rintro e w3 ⟨rfl,b3⟩)
     | fail)
    go_ret
    exact ⟨rfl,hb2.trans (b3.mono hb2.size)⟩
   | true=>
   have HLM:Hid (l.length=mm.length):=zmr HRR.out
   go_upto_region 10 with (first
    | (go_at_call 17;refine (hcall _ hb2).mono ?_;rintro e w3 ⟨rfl,b3⟩)
    | fail)
   have hP3:=zm (hP2.out.on b3)
   have hb3:=hb2.trans (b3.mono hb2.size)
   clear hP2 hb2 b3 hcall
   have hr0:Hid (Two w3 w.heap.size 31 (.slice (some ⟨g,0,none⟩) m gc) (.slice (some ⟨g',0,none⟩) m gc') (m+0) (m+0) ((ps'++([]:List Pg2)).map (fun x=>x.2.1)) ((ps'++([]:List Pg2)).map (fun x=>x.2.2))):=by
    show Two _ _ _ _ _ _ _ _ _
    rw [List.append_nil]
    exact hP3.out
   clear hP3
   go_wp2
   go_loopw [5,6,70] (fun p q ix wr=>∃ (j:Nat) (ks:List Pg2),j<=nl/\ix=.int .i64 (j:Int)/\Hid (ks.length=j/\(∀ x∈ks,zfZ w.heap.size w x)/\ks.map szG=(l.take j).map (fun t=>szL dd t.2)/\ks.map (fun x=>x.1)=(zeo dd ee l mm).take j)/\Hid (Two wr w.heap.size 31 p q (m+j) (m+j) ((ps'++ks).map (fun x=>x.2.1)) ((ps'++ks).map (fun x=>x.2.2)))/\Below w.heap.size w wr) (fun _ _ ix _=>nl - (RowKit.intOf ix).toNat)
   case atStart=>exact ⟨0,[],Nat.zero_le _,rfl,⟨rfl,fun x hx=>absurd hx (by simp),rfl,rfl⟩,hr0,hb3⟩
   case round=>
    clear hr0 hb3
    obtain ⟨j,ks,hj,rfl,hks,hT0,hb⟩:=hrel
    obtain ⟨ra,rc,rfl,hrl,hrm⟩:=zdH hT0.out.a
    obtain ⟨sa,sc,rfl,hsl,hsm⟩:=zdH hT0.out.b
    by_cases hjl:j < nl
    ·have hjll:j < l.length:=by rw [HNL.out];exact hjl
     obtain ⟨b,off,_,_,e4,e6,rfl,hbl,_,hIn,hc⟩:=zeu HR.out j hjll
     have hjmm:j < mm.length:=by rw [<- HLM.out];exact hjll
     obtain ⟨b',off',_,_,f4,f6,rfl,hbl',_,hIn',hc'⟩:=zeu HR'.out j hjmm
     obtain ⟨t,ht⟩:∃ t,l[j]=t:=⟨_,rfl⟩
     obtain ⟨tt,htt⟩:∃ t,mm[j]=t:=⟨_,rfl⟩
     have htk':=HF'.out.2 _ (List.getElem_mem hjmm)
     have i8:(j:Int) < (nm':Int):=by have:=HNM.out;omega
     have htk':zkX (ee+1) tt:=by rw [<- htt];exact htk'
     have htk:=HF.out.2 _ (List.getElem_mem hjll)
     rw [ht] at hIn hc
     rw [htt] at hIn' hc'
     have htk:zkX (dd+1) t:=by rw [<- ht];exact htk
     obtain ⟨ei,hei⟩:∃ m,t.2.length=m:=⟨_,rfl⟩
     obtain ⟨fi,hfi⟩:∃ m,tt.2.length=m:=⟨_,rfl⟩
     rw [hei] at hIn hc
     rw [hfi] at hIn' hc'
     have C0:=hc 10 _ rfl
     have D0:=hc' 10 _ rfl
     have C:=(hb.cell (p:=⟨b,off+j*11+10,none⟩) hbl).trans C0
     have D:=(hb.cell (p:=⟨b',off'+j*11+10,none⟩) hbl').trans D0
     obtain ⟨kk,hkk⟩:∃ kk:Pg2,kk=((⟨dd,t.2⟩,⟨ee,tt.2⟩),.slice e4 ei e6,.slice f4 fi f6):=⟨_,rfl⟩
     have hk2:Hid ((ks++[kk]).length=j+1/\(∀ x∈ks++[kk],zfZ w.heap.size w x)/\(ks++[kk]).map szG=(l.take (j+1)).map (fun t=>szL dd t.2)/\(ks++[kk]).map (fun x=>x.1)=(zeo dd ee l mm).take (j+1)):=by
      refine ⟨by rw [List.length_append,hks.out.1];rfl,fun y hy=>?_,?_,?_⟩
      ·rcases List.mem_append.1 hy with hy|hy
       ·exact hks.out.2.1 y hy
       ·have:y=kk:=by simpa using hy
        rw [this,hkk]
        exact ⟨⟨⟨htk.2.1,htk.2.2⟩,⟨htk'.2.1,htk'.2.2⟩⟩,hIn,hIn'⟩
      ·rw [List.map_append,hks.out.2.2.1,List.take_succ_eq_append_getElem hjll,List.map_append,ht,hkk]
       rfl
      ·have hjk:j < (zeo dd ee l mm).length:=by unfold zeo;rw [List.length_map,List.length_zip];omega
       have hge:(zeo dd ee l mm)[j]=(⟨dd,t.2⟩,⟨ee,tt.2⟩):=by rw [znn hjk hjll hjmm,ht,htt]
       rw [List.map_append,hks.out.2.2.2,List.take_succ_eq_append_getElem hjk,hge,hkk]
       rfl
     have hx1:(ps'++(ks++[kk])).map (fun x=>x.2.1)=(ps'++ks).map (fun x=>x.2.1)++[.slice e4 ei e6]:=by rw [<- List.append_assoc,List.map_append,hkk];rfl
     have hx2:(ps'++(ks++[kk])).map (fun x=>x.2.2)=(ps'++ks).map (fun x=>x.2.2)++[.slice f4 fi f6]:=by rw [<- List.append_assoc,List.map_append,hkk];rfl
     have HX1:=zm hx1
     have HX2:=zm hx2
     clear hx1 hx2 hkk
     have i6:(j:Int) < (nl:Int):=by omega
     have i7:(0:Int)<=(j:Int):=by omega
     have hT:Two wr.drew w.heap.size 31 (.slice ra (m+j) rc) (.slice sa (m+j) sc) (m+j) (m+j) ((ps'++ks).map (fun x=>x.2.1)) ((ps'++ks).map (fun x=>x.2.2)):=hT0.out.drew
     have hpa:=fun g hg=>(zC hT0.out.a g hg).2
     have hpb:=fun g hg=>(zC hT0.out.b g hg).2
     have hBB:Below w.heap.size w wr.drew:=hb.drew
     have hbs:=hb.size
     have hlb:b < wr.heap.size:=by omega
     have hlb':b' < wr.heap.size:=by omega
     clear hc hc' hIn hIn' htk ht hei hks hT0 HR HR' HF HF' htk' htt hfi HA2 HRR HNM
     go_upto_region 13 with fail
     go_region_held_law (fun w'=>w'.cell? ⟨b,off+j*11+10,none⟩=some (.slice e4 ei e6)/\w'.cell? ⟨b',off'+j*11+10,none⟩=some (.slice f4 fi f6))
      ((refine ⟨?_,?_⟩<;>(repeat (with_reducible first|exact C|exact D|refine zj ?_|refine zh ?_))<;>done))
      (first
       | (refine zgO _ rfl _ _ 52 rfl w.heap.size 31 ir (.slice none 0 0) 24 Tryz.underlying52 hir hir0 hir1 hir2 rfl (.slice ra (m+j) rc) _ (m+j) _ _ _ rfl (by first|exact hT|exact (hT.alloc _)|exact ((hT.alloc _).alloc _)) _ (.slice e4 ei e6) rfl (by first|exact zG _ _ _ _ (by first|rfl|simp)|exact zj (zG _ _ _ _ (by first|rfl|simp))|exact hkp _ _ (zG _ _ _ _ (by first|rfl|simp)) (fun e=>by have:=hpb _ e;(first|omega|(simp at this;omega)))|exact hkp _ _ (zj (zG _ _ _ _ (by first|rfl|simp))) (fun e=>by have:=hpb _ e;(first|omega|(simp at this;omega)))) rfl (by omega) (by unfold maxLen;omega) (by first|omega|(simp;omega)) ?_;intro da dc wq hT2 hbq hkp;have hT:=hT2;(first|have hBB:=Below.aft hBB hbq|have hBB:=Below.aft (Below.al1 hBB _) hbq|have hBB:=Below.aft (Below.al1 (Below.al1 hBB _ hBB.size) _ (by simp;omega)) hbq);have hbs:=hBB.size;have C:=(hBB.cell (p:=⟨b,off+j*11+10,none⟩) hbl).trans C0;have D:=(hBB.cell (p:=⟨b',off'+j*11+10,none⟩) hbl').trans D0)
       | (refine zgO _ rfl _ _ 52 rfl w.heap.size 31 ir (.slice none 0 0) 24 Tryz.underlying52 hir hir0 hir1 hir2 rfl (.slice sa (m+j) sc) _ (m+j) _ _ _ rfl (by first|exact hT.symm|exact (hT.alloc _).symm|exact ((hT.alloc _).alloc _).symm) _ (.slice f4 fi f6) rfl (by first|exact zG _ _ _ _ (by first|rfl|simp)|exact zj (zG _ _ _ _ (by first|rfl|simp))|exact hkp _ _ (zG _ _ _ _ (by first|rfl|simp)) (fun e=>by have:=hpa _ e;(first|omega|(simp at this;omega)))|exact hkp _ _ (zj (zG _ _ _ _ (by first|rfl|simp))) (fun e=>by have:=hpa _ e;(first|omega|(simp at this;omega)))) rfl (by omega) (by unfold maxLen;omega) (by first|omega|(simp;omega)) ?_;intro da dc wq hT2 hbq hkp;have hT:=hT2.symm;(first|have hBB:=Below.aft hBB hbq|have hBB:=Below.aft (Below.al1 hBB _) hbq|have hBB:=Below.aft (Below.al1 (Below.al1 hBB _ hBB.size) _ (by simp;omega)) hbq);have hbs:=hBB.size;have C:=(hBB.cell (p:=⟨b,off+j*11+10,none⟩) hbl).trans C0;have D:=(hBB.cell (p:=⟨b',off'+j*11+10,none⟩) hbl').trans D0)
       | fail)
     all_goals (
      have hT9:=hT
      rw [<- HX1.out,<- HX2.out] at hT9
      have HT9:=zm hT9
      have hb9:=hBB
      clear hT hT2 hT9 hBB hbq hkp C D C0 D0 hpa hpb HX1 HX2
      (try simp only [List.getElem_toArray,List.getElem_cons_succ,List.getElem_cons_zero,List.set_cons_succ,List.set_cons_zero,List.setIfInBounds_toArray])
      go_wp2
      go_roundw
      case rel=>exact ⟨j+1,ks++[kk],hjl,by go_num,hk2,HT9,hb9⟩
      case measure=>simp [RowKit.intOf];omega)
    ·have i6:¬ (j:Int) < (nl:Int):=by omega
     have hjn:j=nl:=by omega
     subst hjn
     have hkz:=hks.out.2.2.1
     have hka:=hks.out.2.2.2
     rw [List.take_of_length_le (by rw [HNL.out];exact Nat.le_refl _)] at hkz
     have hsl:szL (dd+1) l=(l.map (fun t=>szL dd t.2)).sum+1:=rfl
     have hsum:=HM2.out
     have hsum2:((ps'++ks).map szG).sum=(ps'.map szG).sum+(l.map (fun t=>szL dd t.2)).sum:=by rw [List.map_append,List.sum_append,hkz]
     have hlen:(ps'++ks).length=m+j:=by rw [List.length_append,HML.out,hks.out.1]
     have HA9:Hid (((ps'++ks).map (fun x=>x.1)).all sqF=V):=by
      show _=_
      have hk1:(zeo dd ee l mm).length=j:=by unfold zeo;rw [List.length_map,List.length_zip,HNL.out,<- HLM.out,HNL.out,Nat.min_self]
      rw [List.take_of_length_le (by rw [hk1];exact Nat.le_refl _)] at hka
      rw [List.map_append,List.all_append,hka,ziy dd ee l mm HLM.out]
      have:=HA2.out
      rw [Bool.true_and] at this
      exact this
     have hT8:=hT0.out
     rw [<- hlen] at hT8
     have hT9:Hid (Two wr w.heap.size 31 (.slice ra (m+j) rc) (.slice sa (m+j) sc) (ps'++ks).length (ps'++ks).length ((ps'++ks).map (fun x=>x.2.1)) ((ps'++ks).map (fun x=>x.2.2))):=by
      have:=hT0.out
      show Two _ _ _ _ _ _ _ _ _
      rw [hlen]
      exact this
     have hK9:Hid (∀ x∈ps'++ks,zfZ w.heap.size w x):=fun y hy=>by
      rcases List.mem_append.1 hy with hy|hy
      ·exact HK2.out y hy
      ·exact hks.out.2.1 y hy
     clear hT0 hT8 hkz hka
     go_wp2
     go_roundg ((ps'.map szG).sum+(l.map (fun t=>szL dd t.2)).sum)
     case measure=>omega
     case rel=>exact ⟨ps'++ks,HA9,hT9,hK9,⟨by rw [hsum2];exact Nat.le_refl _,by omega⟩,hb⟩
theorem zhE {w4:World}{R:Nat}{a b c d e f:Value}{tmps:Array Value}(hR:Bn w4 R [a,b,c,d,e,f]) (ht:tmps.getD 2 undef=.pointer (some ⟨R,0,none⟩)):(results Tryz.f9 tmps).run Tryz.prog w4=.ok (.agg #[a,b,c,d,e,f]) w4:=by
 have ht':tmps[2]?.getD undef=.pointer (some ⟨R,0,none⟩):=by simpa using ht
 have c0:=(hR 0 _ rfl).1
 have c1:=(hR 1 _ rfl).1
 have c2:=(hR 2 _ rfl).1
 have c3:=(hR 3 _ rfl).1
 have c4:=(hR 4 _ rfl).1
 have c5:=(hR 5 _ rfl).1
 simp [results,Tryz.results9,go_sem,ht',c0,c1,c2,c3,c4,c5]
theorem zey (d:Nat) (ok:Nat->Prop) (w:World) (c:ChD d) (v:Value) (h:RdD ok w d c v) (hs:zms d c):Calls Tryz.prog 9 #[v] w fun e w'=>∃ u,e=.returned u/\RdD (fun b=>ok b∨w.heap.size<=b) w' d (dcC d c) u/\Below w.heap.size w w':=by
 obtain ⟨sv,ss,rfl,hVs,hSt⟩:=h
 obtain ⟨p1,p3,rfl,hp1,hp2⟩:=hVs.form
 obtain ⟨p4,p6,rfl,hp4,hp5⟩:=hSt.form
 obtain ⟨sn,e1⟩:∃ e,sD c.1.1=.string e:=⟨_,rfl⟩
 obtain ⟨m,hm⟩:∃ m,c.2.2.1.length=m:=⟨_,rfl⟩
 obtain ⟨i,hi⟩:∃ m,c.2.2.2.length=m:=⟨_,rfl⟩
 obtain ⟨nv,hnv⟩:∃ x,c.2.1=x:=⟨_,rfl⟩
 obtain ⟨sl,hsl⟩:∃ x,c.1.2.1=x:=⟨_,rfl⟩
 obtain ⟨sc,hsc⟩:∃ x,c.1.2.2=x:=⟨_,rfl⟩
 rw [hm] at hVs
 rw [hi] at hSt
 rw [e1,hm,hi,hnv,hsl,hsc]
 have hcl:∀ wc,Below w.heap.size w wc->Calls Tryz.prog 20 #[.slice p4 i p6] wc fun e w'=>∃ a n cap,e=.returned (.slice a n cap)/\RdK (fun b=>wc.heap.size<=b) w' 11 (zad d (fun b=>wc.heap.size<=b) w') (c.2.2.2.map (dcS d)) (.slice a n cap)/\Below wc.heap.size wc w':=fun wc hb=>by
  refine (zkI d ok wc c.2.2.2 _ (hSt.stay (zy d) (fun k hk hl=>⟨hk,hb.block k hl⟩)) hs.2.2.2 hs.2.2.1).mono ?_
  rintro e w' ⟨u,rfl,hr,hbb⟩
  obtain ⟨a,cap,rfl,_⟩:=hr.form
  exact ⟨a,_,cap,rfl,hr,hbb⟩
 have HE1:=zm e1
 have HNV:=zm hnv
 have HSL:=zm hsl
 have HSC:=zm hsc
 have HVS:=zm hVs
 clear e1 hm hi hnv hsl hsc hVs hSt hs hp1 hp2 hp4 hp5
 go_enter Tryz.func9,Tryz.ntmps9
 go_upto_region 1 with fail
 have hal:Below w.heap.size w ((w.alloc (.cells #[.string sn,.int .i64 nv,.int .i64 sl,.int .i64 sc,.slice p1 m p3,.slice p4 i p6] 27)).alloc (.cells #[.string ⟨#[]⟩,.int .i64 0,.int .i64 0,.int .i64 0,.slice none 0 0,.slice none 0 0] 27)):=by
  have h0:Below w.heap.size w (w.alloc (.cells #[.string sn,.int .i64 nv,.int .i64 sl,.int .i64 sc,.slice p1 m p3,.slice p4 i p6] 27)):=(Below.refl w.heap.size w).alloc zn2 _
  exact h0.alloc h0.size _
 have hX:Bn ((w.alloc (.cells #[.string sn,.int .i64 nv,.int .i64 sl,.int .i64 sc,.slice p1 m p3,.slice p4 i p6] 27)).alloc (.cells #[.string ⟨#[]⟩,.int .i64 0,.int .i64 0,.int .i64 0,.slice none 0 0,.slice none 0 0] 27)) w.heap.size [.string sn,.int .i64 nv,.int .i64 sl,.int .i64 sc,.slice p1 m p3,.slice p4 i p6]:=(Bn.new w [.string sn,.int .i64 nv,.int .i64 sl,.int .i64 sc,.slice p1 m p3,.slice p4 i p6] 27 _ rfl).on (zn3.alloc zn2 _)
 have hY:Bn ((w.alloc (.cells #[.string sn,.int .i64 nv,.int .i64 sl,.int .i64 sc,.slice p1 m p3,.slice p4 i p6] 27)).alloc (.cells #[.string ⟨#[]⟩,.int .i64 0,.int .i64 0,.int .i64 0,.slice none 0 0,.slice none 0 0] 27)) (w.heap.size+1) [.string ⟨#[]⟩,.int .i64 0,.int .i64 0,.int .i64 0,.slice none 0 0,.slice none 0 0]:=Bn.new (w.alloc (.cells #[.string sn,.int .i64 nv,.int .i64 sl,.int .i64 sc,.slice p1 m p3,.slice p4 i p6] 27)) [.string ⟨#[]⟩,.int .i64 0,.int .i64 0,.int .i64 0,.slice none 0 0,.slice none 0 0] 27 _ (by simp)
 generalize ((w.alloc (.cells #[.string sn,.int .i64 nv,.int .i64 sl,.int .i64 sc,.slice p1 m p3,.slice p4 i p6] 27)).alloc (.cells #[.string ⟨#[]⟩,.int .i64 0,.int .i64 0,.int .i64 0,.slice none 0 0,.slice none 0 0] 27))=wx at *
 have hlx:=hX.lt
 have hly:=hY.lt
 obtain ⟨x5,y5⟩:=hX 5 _ rfl
 go_upto_region 2 with (first
  | (go_at_call 20;refine (hcl _ hal).mono ?_;rintro e w2 ⟨qa,qn,qc,rfl,hr,b2⟩;obtain ⟨x6,y6⟩:=(hX.on b2) 5 _ rfl)
  | fail)
 have hb2:=hal.trans (b2.mono hal.size)
 have hX2:=(hX.on b2).set (i:=5) (by simp) (.slice qa qn qc)
 have hY2:=(hY.on b2).far (X:=w.heap.size) (i:=5) (by omega) (.slice qa qn qc)
 have hb3:Below w.heap.size w (w2.setCell ⟨w.heap.size,5,none⟩ (.slice qa qn qc)):=hb2.setCell zn2 _
 have hr3:RdK (fun b=>w.heap.size<=b/\b≠w.heap.size+1) (w2.setCell ⟨w.heap.size,5,none⟩ (.slice qa qn qc)) 11 (zad d (fun b=>w.heap.size<=b/\b≠w.heap.size+1) (w2.setCell ⟨w.heap.size,5,none⟩ (.slice qa qn qc))) (c.2.2.2.map (dcS d)) (.slice qa qn qc):=hr.stay (zy d) (fun k hk hl=>⟨⟨by omega,by omega⟩,Below.heap_setCell _ _ _ _ (fun e=>by have:k=w.heap.size:=e;omega)⟩)
 generalize w2.setCell ⟨w.heap.size,5,none⟩ (.slice qa qn qc)=w3 at *
 have HR:=zm hr3
 clear hr hr3 hX hY hal b2 hb2 hcl x5 y5 x6 y6 hlx hly
 have a0:=(hX2 0 _ rfl).1
 have a1:=(hX2 1 _ rfl).1
 have a2:=(hX2 2 _ rfl).1
 have a3:=(hX2 3 _ rfl).1
 have a4:=(hX2 4 _ rfl).1
 have a5:=(hX2 5 _ rfl).1
 obtain ⟨z0,f0⟩:=hY2 0 _ rfl
 obtain ⟨z1,f1⟩:=hY2 1 _ rfl
 obtain ⟨z2,f2⟩:=hY2 2 _ rfl
 obtain ⟨z3,f3⟩:=hY2 3 _ rfl
 obtain ⟨z4,f4⟩:=hY2 4 _ rfl
 obtain ⟨z5,f5⟩:=hY2 5 _ rfl
 go_wp2
 have hZ:=(((((hY2.set (i:=0) (by simp) (.string sn)).set (i:=1) (by simp) (.int .i64 nv)).set (i:=2) (by simp) (.int .i64 sl)).set (i:=3) (by simp) (.int .i64 sc)).set (i:=4) (by simp) (.slice p1 m p3)).set (i:=5) (by simp) (.slice qa qn qc)
 have hbZ:Below w.heap.size w _:=(((((hb3.setCell (p:=⟨w.heap.size+1,0,none⟩) (Nat.le_succ _) (.string sn)).setCell (p:=⟨w.heap.size+1,1,none⟩) (Nat.le_succ _) (.int .i64 nv)).setCell (p:=⟨w.heap.size+1,2,none⟩) (Nat.le_succ _) (.int .i64 sl)).setCell (p:=⟨w.heap.size+1,3,none⟩) (Nat.le_succ _) (.int .i64 sc)).setCell (p:=⟨w.heap.size+1,4,none⟩) (Nat.le_succ _) (.slice p1 m p3)).setCell (p:=⟨w.heap.size+1,5,none⟩) (Nat.le_succ _) (.slice qa qn qc)
 have hfar:∀ (u:World) (j k:Nat) (x:Value),k≠w.heap.size+1->(u.setCell ⟨w.heap.size+1,j,none⟩ x).heap[k]?=u.heap[k]?:=fun u j k x hk=>Below.heap_setCell _ _ _ _ (fun e=>hk e)
 refine bodyPost_ret (zhE hZ rfl) rfl ⟨_,rfl,⟨_,_,?_,HVS.out.stay za4 (fun k hk hl=>⟨Or.inl hk,hbZ.block k hl⟩),HR.out.stay (zy d) (fun k hk hl=>⟨Or.inr hk.1,by rw [hfar _ _ _ _ hk.2,hfar _ _ _ _ hk.2,hfar _ _ _ _ hk.2,hfar _ _ _ _ hk.2,hfar _ _ _ _ hk.2,hfar _ _ _ _ hk.2]⟩)⟩,hbZ⟩
 show _=Value.agg #[sD c.1.1,.int .i64 c.2.1,.int .i64 c.1.2.1,.int .i64 c.1.2.2,_,_]
 rw [HE1.out,HNV.out,HSL.out,HSC.out]
theorem zdL {ok:Nat->Prop}{w:World}{d:Nat}{c:ChG d}{v:Value}(h:RdC ok w d c v):∃ a b e f g h' i j k l,v=.agg #[.string a,.int .i64 b,.int .i64 e,.int .i64 f,.slice g h' i,.slice j k l]:=by
 obtain ⟨sv,ss,rfl,h1,h2⟩:=h
 obtain ⟨a,cap,rfl,_⟩:=h1.form
 obtain ⟨a',cap',rfl,_⟩:=h2.form
 exact ⟨_,_,_,_,_,_,_,_,_,_,rfl⟩
theorem RdC.nxt {w w1:World}{d:Nat}{c:ChG d}{v:Value}(h:RdC (fun _=>True) w d c v) (b:Below w.heap.size w w1):RdC (fun _=>True) w1 d c v:=h.keep (fun k hk hl=>⟨trivial,b.block k hl⟩)
theorem RdC.nxtd {w w1:World}{d:Nat}{c:ChG d}{v:Value}(h:RdC (fun _=>True) w d c v) (b:Below w.drew.heap.size w.drew w1):RdC (fun _=>True) w1 d c v:=h.keep (fun k hk hl=>⟨trivial,b.block k hl⟩)
theorem RdD.nxt {w w1:World}{d:Nat}{c:ChD d}{v:Value}(h:RdD (fun _=>True) w d c v) (b:Below w.heap.size w w1):RdD (fun _=>True) w1 d c v:=h.keep (fun k hk hl=>⟨trivial,b.block k hl⟩)
theorem zcM {ok:Nat->Prop}{w:World}{d:Nat}{c:ChD d}{v:Value}(h:RdD ok w d c v):∃ a b e f g h' i j k l,v=.agg #[.string a,.int .i64 b,.int .i64 e,.int .i64 f,.slice g h' i,.slice j k l]:=by
 obtain ⟨sv,ss,rfl,h1,h2⟩:=h
 obtain ⟨a,cap,rfl,_⟩:=h1.form
 obtain ⟨a',cap',rfl,_⟩:=h2.form
 exact ⟨_,_,_,_,_,_,_,_,_,_,rfl⟩
