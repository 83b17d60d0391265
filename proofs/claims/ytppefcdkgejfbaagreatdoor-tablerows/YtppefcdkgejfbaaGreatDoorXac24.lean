import Derived.Test.YtppefcdkgejfbaaGreatDoorXac23
set_option maxRecDepth 100000
set_option maxHeartbeats 32000000
namespace Go.Proofs.YtppefcdkgejfbaaGreatDoor
open Go.RowKit Go.Lib
set_option linter.unusedSimpArgs false
set_option linter.unusedVariables false
attribute [local go_sem ↓] Go.wp_at_zero Go.wp_at_succ
theorem Tryz.infoStp:(Tryz.prog.info? 83).map (fun i=>(i.zero,i.size,i.bytes))=some (some (.agg #[.string ⟨#[]⟩,.string ⟨#[]⟩,.int .i64 0,.int .i64 0]),4,48):=by kernel_rfl
theorem Tryz.infoRow:(Tryz.prog.info? 54).map (fun i=>(i.zero,i.size,i.bytes))=some (some (.agg #[.int .i64 0,.int .i64 0,.string ⟨#[]⟩,.slice none 0 0,.int .i64 0,.int .i64 0,.slice none 0 0]),7,96):=by kernel_rfl
theorem make_res {w:World}{R:Nat}{a b c d e f q:Value}{tmps:Array Value}(hR:Bn w R [a,b,c,d,e,f]) (ht:tmps.getD 2 undef=.pointer (some ⟨R,0,none⟩)) (hq:tmps.getD 3 undef=q):(results Tryz.f6 tmps).run Tryz.prog w=.ok (.tuple #[.agg #[a,b,c,d,e,f],q]) w:=by
 have ht':tmps[2]?.getD undef=.pointer (some ⟨R,0,none⟩):=by simpa using ht
 have hq':tmps[3]?.getD undef=q:=by simpa using hq
 have c0:=(hR 0 _ rfl).1
 have c1:=(hR 1 _ rfl).1
 have c2:=(hR 2 _ rfl).1
 have c3:=(hR 3 _ rfl).1
 have c4:=(hR 4 _ rfl).1
 have c5:=(hR 5 _ rfl).1
 simp [results,Tryz.results6,go_sem,ht',hq',c0,c1,c2,c3,c4,c5]
theorem ownsRow_base {w:World}{b b' e k:Nat}{v:Value}{n:Nat}{xs:List Value}(h:w.ownsRow b e k v n xs) (hb:b'<=b):w.ownsRow b' e k v n xs:=by
 refine ⟨h.1,?_⟩
 rcases h.2 with hn|⟨g,cap,cur,h1,h2,rest⟩
 ·exact .inl hn
 ·exact .inr ⟨g,cap,cur,h1,Nat.le_trans hb h2,rest⟩
theorem own_cut {w3 w':World}{b0 base Tb e k:Nat}{v:Value}{n:Nat}{xs:List Value}(h:w3.ownsRow base e k v n xs) (hb:b0<=base) (hT:∀ g,base<=g->g < w3.heap.size->g≠Tb) (hw:∀ g,g≠Tb->g < w3.heap.size->w'.heap[g]?=w3.heap[g]?):w'.ownsRow b0 e k v n xs/\∀ g,v.ownBlock=some g->g≠Tb:=
 ⟨ownsRow_base (ownsRow_keep h (fun g hg=>hw g (hT g (ownsRow_lt h g hg).1 (ownsRow_lt h g hg).2) (ownsRow_lt h g hg).2)) hb,fun g hg=>hT g (ownsRow_lt h g hg).1 (ownsRow_lt h g hg).2⟩
theorem ndsM_len {fl:List (Nat × SgS)}(h:ndsM fl≠[]):(ndsM fl).length=fl.length/\fl.length<=40:=by
 unfold ndsM at h ⊢
 by_cases h40:fl.length<=40
 ·rw [if_pos h40]
  exact ⟨by simp,h40⟩
 ·rw [if_neg h40] at h
  exact absurd rfl h
theorem flM_onL:∀ (d k:Nat) (l:List (St d)),(∀ t∈l,StOk d t)->∀ y∈flM d k l,(onsA y.2).length<=100000
 | 0,k,l,_,y,hy=>by simp [flM] at hy
 | d+1,k,l,h,y,hy=>by
  simp only [flM,List.mem_flatMap,List.mem_cons] at hy
  obtain ⟨t,ht,rfl|hy⟩:=hy
  ·exact (h t ht).1.2.2.2.1
  ·exact flM_onL d (k+1) t.2 (fun x hx=>(h t ht).2.2 x hx) y hy
theorem onsI_at {fl:List (Nat × SgS)}{i:Nat}(h:i < fl.length):onsI fl i=onsA (fl[i]).2:=by
 unfold onsI
 rw [List.getElem?_eq_getElem h]
theorem onsI_len {fl:List (Nat × SgS)}(h:∀ y∈fl,(onsA y.2).length<=100000) (i:Nat):(onsI fl i).length<=100000:=by
 by_cases hi:i < fl.length
 ·rw [onsI_at hi]
  exact h _ (List.getElem_mem hi)
 ·unfold onsI
  rw [List.getElem?_eq_none (by omega)]
  simp
theorem rwsA_len (L:List Nd) {fl:List (Nat × SgS)}(h:∀ i,(onsI fl i).length<=100000):∀ ord:List Nat,(rwsA L fl ord).length<=ord.length*100000
 | []=>by simp [rwsA]
 | i :: ord=>by
  have h1:=rwsA_len L h ord
  have h2:=h i
  unfold rwsA at h1 ⊢
  rw [List.flatMap_cons,List.length_append,rwL_len,List.length_cons]
  omega
theorem state_at {ok:Nat->Prop}{w:World}{d:Nat}{c:ChG d}{v:Value}(h:RdC ok w d c v) (hok:∀ b,ok b->b < w.heap.size) (hlen:(flM d 0 c.2.2.2).length<=1000000) (hst:∀ t∈c.2.2.2,StOk d t) (hsz:szL d c.2.2.2<=1000000) (i0:Nat) (hi:i0 < (flM d 0 c.2.2.2).length) :
  Calls Tryz.prog 16 #[v,.int .i64 (i0:Int)] w fun e w'=>∃ (n0:ByteArray) (i1 i2:Int) (c3 c4:Bool) (c5 c6:ByteArray) (c7 c8:Int) (u1:Option Addr) (m u3:Nat) (u4:Option Addr) (m2 u6:Nat),e=.returned (.tuple #[.agg #[.string n0,.int .i64 i1,.int .i64 i2,.bool c3,.bool c4,.string c5,.string c6,.int .i64 c7,.int .i64 c8,.slice u1 m u3,.slice u4 m2 u6],.bool true])/\Hid (RdK (fun b=>w.heap.size<=b) w' 6 (rOnS (fun b=>w.heap.size<=b) w') (onsI (flM d 0 c.2.2.2) i0) (.slice u1 m u3))/\Hid ((onsI (flM d 0 c.2.2.2) i0).length=m)/\Below w.heap.size w w':=by
 refine (stateT_any h hok hlen hst hsz i0 (by omega)).mono ?_
 rintro e w' ⟨a,b,c3,d3,e3,f,g,h',i,j,k,q,rfl,hcase,hb⟩
 rcases hcase with ⟨rfl,hi0,htl⟩|⟨_,hge,_⟩
 ·rw [onsI_at hi0]
  generalize ((flM d 0 c.2.2.2)[i0]).2=x at htl
  obtain ⟨e',t⟩:=x
  cases e' with
  | zero=>exact htl.elim
  | succ e'=>
   obtain ⟨i1,i2,c3',c4,c5,c6,c7,c8,u1,u3,u4,u6,hv,hr⟩:=htl
   rw [hv]
   exact ⟨_,i1,i2,c3',c4,c5,c6,c7,c8,u1,_,u3,u4,_,u6,rfl,hr,rfl,hb⟩
 ·omega
theorem Fy.belM {X Y B:Nat}{u a b:World}(h:Fy X Y a b) (hb:Below B u a) (hX:B<=X) (hY:B<=Y) (hB:B<=u.heap.size):Below B u b:=
 ⟨h.os.trans hb.os,h.tape.trans hb.tape,h.output.trans hb.output,Nat.le_trans hb.size h.size,fun k hk=>(h.block k (Nat.lt_of_lt_of_le hk (Nat.le_trans hB hb.size)) (by omega) (by omega)).trans (hb.block k hk)⟩
theorem Fy.andM {X Y B:Nat}{a b c:World}(h:Fy X Y a b) (k:Below B b c) (hB:a.heap.size<=B):Fy X Y a c:=
 ⟨k.os.trans h.os,k.tape.trans h.tape,k.output.trans h.output,Nat.le_trans h.size k.size,fun j hj h1 h2=>(k.block j (by omega)).trans (h.block j hj h1 h2)⟩
theorem onZ_at {ok:Nat->Prop}{w:World}{l:List OnC}{a:Option Addr}{n cap:Nat}(h:RdK ok w 6 (rOnS ok w) l (.slice a n cap)) (j:Nat) (hj:j < l.length):∃ (b off:Nat) (s1:Option Addr) (ns s3:Nat) (x y:Int),a=some ⟨b,off,none⟩/\ok b/\b < w.heap.size/\Hid (RdK ok w 2 (rSet ok w) l[j].2.2.2.1 (.slice s1 ns s3))/\∀ i u,[sV l[j].1,gdV l[j].2.1,sV l[j].2.2.1,.slice s1 ns s3,.int .i64 x,.int .i64 y][i]?=some u->w.cell? ⟨b,off+j*6+i,none⟩=some u:=by
 obtain ⟨a1,cap1,he,h1,h2,h3⟩:=h
 simp only [Value.slice.injEq] at he
 obtain ⟨rfl,rfl,rfl⟩:=he
 obtain ⟨b,off,cs,ha,hok,hb,hl,hr,hc⟩:=h3 j hj
 obtain ⟨sl,x,y,rfl,hs⟩:=hr
 obtain ⟨s1,s3,rfl,_⟩:=hs.form
 exact ⟨b,off,s1,_,s3,x,y,ha,hok,hb,hs,hc⟩
structure Fq (T A B:Nat) (w w':World):Prop where
 os:w'.os=w.os
 tape:w'.tape=w.tape
 output:w'.output=w.output
 size:w.heap.size<=w'.heap.size
 block:∀ k,k < w.heap.size->k≠T->(k < A∨B<=k)->w'.heap[k]?=w.heap[k]?
theorem Fq.refl (T A B:Nat) (w:World):Fq T A B w w:=⟨rfl,rfl,rfl,Nat.le_refl _,fun _ _ _ _=>rfl⟩
theorem Fq.andB {T A B C:Nat}{a b c:World}(h:Fq T A B a b) (k:Below C b c) (hC:a.heap.size<=C):Fq T A B a c:=
 ⟨k.os.trans h.os,k.tape.trans h.tape,k.output.trans h.output,Nat.le_trans h.size k.size,fun j hj h1 h2=>(k.block j (by omega)).trans (h.block j hj h1 h2)⟩
theorem Fq.grown {T A B C:Nat}{a b b' c:World}{row:Option Nat}(h:Fq T A B a b) (k:Below C b c) (hbb:Below b.heap.size b b') (hg:b'.grownBy c row) (hr:∀ g,row=some g->A<=g/\(g < B∨a.heap.size<=g)):Fq T A B a c:=
 ⟨k.os.trans h.os,k.tape.trans h.tape,k.output.trans h.output,Nat.le_trans h.size k.size,fun j hj h1 h2=>by
  have hjb:j < b.heap.size:=Nat.lt_of_lt_of_le hj h.size
  exact ((hg.block j (Nat.lt_of_lt_of_le hjb hbb.size) (fun e=>by have:=hr j e.symm;omega)).trans (hbb.block j hjb)).trans (h.block j hj h1 h2)⟩
theorem Fq.setT {T A B i:Nat}{a b:World}(h:Fq T A B a b) (u:Value):Fq T A B a (b.setCell ⟨T,i,none⟩ u):=
 ⟨h.os,h.tape,h.output,by simpa using h.size,fun j hj h1 h2=>(Below.heap_setCell _ _ _ _ h1).trans (h.block j hj h1 h2)⟩
theorem Fq.bel {T A B C:Nat}{u a b:World}(h:Fq T A B a b) (hb:Below C u a) (hT:C<=T) (hA:C<=A) (hC:C<=u.heap.size):Below C u b:=
 ⟨h.os.trans hb.os,h.tape.trans hb.tape,h.output.trans hb.output,Nat.le_trans hb.size h.size,fun k hk=>(h.block k (Nat.lt_of_lt_of_le hk (Nat.le_trans hC hb.size)) (by omega) (.inl (by omega))).trans (hb.block k hk)⟩
def MkQ (d:Nat) (c:ChD d) (B:Nat) (w':World) (er:Int) (nv rv:Value) (rn:Nat):Prop:=
 (er=0/\(ckC (thC d c)).2=0/\fmB (ndsM (flM d 0 (thC d c).2.2.2))=true/\ndsM (flM d 0 (thC d c).2.2.2)≠[]/\RdNd (fun b=>B<=b) w' (ndsM (flM d 0 (thC d c).2.2.2)) nv/\∃ ord,Dpf (ndsM (flM d 0 (thC d c).2.2.2)) ord/\RdK (fun b=>B<=b) w' 7 (rRw (fun b=>B<=b) w') (rwsA (ndsM (flM d 0 (thC d c).2.2.2)) (flM d 0 (thC d c).2.2.2) ord) rv)∨(er≠0/\rn=0)
theorem make_any {ok:Nat->Prop}{w:World}{d:Nat}{c:ChD d}{v:Value}(hsm:SmCh d c) (hwf:WfC d c) (h:RdC ok w d (thC d c) v) (hok:∀ b,ok b->b < w.heap.size) (hp:Pow w) :
  Calls Tryz.prog 6 #[v] w fun e w'=>∃ (nm:ByteArray) (ve:Int) (na:Option Addr) (nn nc:Nat) (va:Option Addr) (vn vc:Nat) (sa:Option Addr) (sn sc:Nat) (ra:Option Addr) (rn rc:Nat) (er:Int),e=.returned (.tuple #[.agg #[.string nm,.int .i64 ve,.slice na nn nc,.slice va vn vc,.slice sa sn sc,.slice ra rn rc],.int .i64 er])/\Hid (MkQ d c w.heap.size w' er (.slice na nn nc) (.slice ra rn rc) rn)/\Below w.heap.size w w':=by
 obtain ⟨e0,e1,e2,e3,e4,e5,e6,e7,e8,e9,rfl⟩:=rdC_letT h
 have hOK:=chOk_th hsm hwf
 have hCK:=chK_th hsm hwf
 obtain ⟨hvv,hen⟩:RdK ok w 4 (rVar ok w) (thC d c).2.2.1 (.slice e4 e5 e6)/\e0=⟨(thC d c).1.1.toArray⟩:=by
  obtain ⟨sv,ss,he,h1,h2⟩:=h
  simp only [sV,Value.agg.injEq,Array.mk.injEq,List.cons.injEq,and_true,Value.string.injEq] at he
  obtain ⟨he1,_,_,_,rfl,rfl⟩:=he
  exact ⟨h1,he1⟩
 have hx0:e0.size<=140737488351232:=by
  rw [hen]
  show (thC d c).1.1.toArray.size<=_
  simpa using hCK.1
 have hcl:=fun w1=>pClone_any e0 w1 hx0
 obtain ⟨fl,hfl⟩:∃ fl,flM d 0 (thC d c).2.2.2=fl:=⟨_,rfl⟩
 obtain ⟨Nn,hNn⟩:∃ Nn,ndsM fl=Nn:=⟨_,rfl⟩
 have hrn:=fun w1 (b:Below w.heap.size w w1)=>rightN_any hsm hwf (h.keep (ok':=ok) (w':=w1) (fun k hk hl=>⟨hk,b.block k hl⟩)) (fun k hk=>Nat.lt_of_lt_of_le (hok k hk) b.size) (hp.below b) Nn (by rw [hfl,hNn])
 have hvl:(vrL (thC d c).2.2.1).length<=10000:=by
  have:(thC d c).2.2.1.length<=200:=hsm.2.1
  simp only [vrL,List.length_map]
  omega
 have hwp:=fun w1 (b:Below w.heap.size w w1)=>without_any (hvv.stay kp_var (ok':=ok) (w':=w1) (fun k hk hl=>⟨hk,b.block k hl⟩)) (by have:(thC d c).2.2.1.length<=200:=hsm.2.1;omega) (fun x hx=>hCK.2.1 x hx)
 have hfs:fl.length<=1000000/\(∀ y∈fl,∀ o∈onsA y.2,OnB o)/\(∀ y∈fl,(onsA y.2).length<=100000):=by
  subst hfl
  refine ⟨?_,flM_onB d 0 _ hOK.fo.2 hCK.2.2,flM_onL d 0 _ hOK.fo.2⟩
  have h9:=hsm.2.2.1
  rw [<- flM_len d 0] at h9
  exact Nat.le_trans h9 (by omega)
 have hst:=fun w1 (b:Below w.heap.size w w1) (i0:Nat) (hi:i0 < fl.length)=>state_at (h.keep (ok':=ok) (w':=w1) (fun k hk hl=>⟨hk,b.block k hl⟩)) (fun k hk=>Nat.lt_of_lt_of_le (hok k hk) b.size) (by rw [hfl];exact hfs.1) hOK.fo.2 hOK.sz i0 (by rw [hfl];exact hi)
 simp only [hfl] at hst
 obtain ⟨vs,hvs⟩:∃ vs,vrL (thC d c).2.2.1=vs:=⟨_,rfl⟩
 simp only [hvs] at hvl
 have hwp:∀ w1,Below w.heap.size w w1->Calls Tryz.prog 14 #[.slice e4 e5 e6] w1 fun e w'=>∃ a n c,e=.returned (.slice a n c)/\Hid (w'.ownsRow w1.heap.size 108 2 (.slice a n c) n (celI vs))/\Hid (vs.length=n)/\Below w1.heap.size w1 w':=fun w1 b=>(hwp w1 b).mono (fun e w' ⟨a,n,c,h1,h2,h3,h4⟩=>⟨a,n,c,h1,by rw [<- hvs];exact h2,by show _=_;rw [<- hvs,h3.out];simp [vrL],h4⟩)
 have HQ:Hid (∀ B w' er nv rv rn,MkQ d c B w' er nv rv rn=((er=0/\(ckC (thC d c)).2=0/\fmB Nn=true/\Nn≠[]/\RdNd (fun b=>B<=b) w' Nn nv/\∃ ord,Dpf Nn ord/\RdK (fun b=>B<=b) w' 7 (rRw (fun b=>B<=b) w') (rwsA Nn fl ord) rv)∨(er≠0/\rn=0))):=fun B w' er nv rv rn=>by
  subst hNn
  subst hfl
  rfl
 obtain ⟨Q,hQ⟩:∃ Q,MkQ d c=Q:=⟨_,rfl⟩
 obtain ⟨R,hR0⟩:∃ R,((ckC (thC d c)).2 == 0)=R:=⟨_,rfl⟩
 have hR1:((ckC (thC d c)).2=0)=(R=true):=by rw [<- hR0];simp
 simp only [hR0] at hrn
 rw [hQ,hR1] at HQ
 rw [hQ]
 have HFS:=hidOf hfs
 have HNN:=hidOf hNn
 have hal:Below w.heap.size w ((w.alloc (.cells #[.string e0,.int .i64 e1,.int .i64 e2,.int .i64 e3,.slice e4 e5 e6,.slice e7 e8 e9] 42)).alloc (.cells #[.string ⟨#[]⟩,.int .i64 0,.slice none 0 0,.slice none 0 0,.slice none 0 0,.slice none 0 0] 35)):=((Below.refl _ w).alloc Nat.le.refl _).alloc (by simp) _
 have hX:Bn ((w.alloc (.cells #[.string e0,.int .i64 e1,.int .i64 e2,.int .i64 e3,.slice e4 e5 e6,.slice e7 e8 e9] 42)).alloc (.cells #[.string ⟨#[]⟩,.int .i64 0,.slice none 0 0,.slice none 0 0,.slice none 0 0,.slice none 0 0] 35)) w.heap.size [.string e0,.int .i64 e1,.int .i64 e2,.int .i64 e3,.slice e4 e5 e6,.slice e7 e8 e9]:=(Bn.new w [.string e0,.int .i64 e1,.int .i64 e2,.int .i64 e3,.slice e4 e5 e6,.slice e7 e8 e9] 42 _ rfl).on ((Below.refl _ _).alloc Nat.le.refl _)
 have hRb:Bn ((w.alloc (.cells #[.string e0,.int .i64 e1,.int .i64 e2,.int .i64 e3,.slice e4 e5 e6,.slice e7 e8 e9] 42)).alloc (.cells #[.string ⟨#[]⟩,.int .i64 0,.slice none 0 0,.slice none 0 0,.slice none 0 0,.slice none 0 0] 35)) (w.heap.size+1) [.string ⟨#[]⟩,.int .i64 0,.slice none 0 0,.slice none 0 0,.slice none 0 0,.slice none 0 0]:=Bn.new _ [.string ⟨#[]⟩,.int .i64 0,.slice none 0 0,.slice none 0 0,.slice none 0 0,.slice none 0 0] 35 (w.heap.size+1) (by simp)
 have hsx:((w.alloc (.cells #[.string e0,.int .i64 e1,.int .i64 e2,.int .i64 e3,.slice e4 e5 e6,.slice e7 e8 e9] 42)).alloc (.cells #[.string ⟨#[]⟩,.int .i64 0,.slice none 0 0,.slice none 0 0,.slice none 0 0,.slice none 0 0] 35)).heap.size=w.heap.size+2:=by simp
 clear h hok hp hsm hwf hOK hCK hvv hen hx0 hfl hNn hfs hvs hQ hR0 hR1
 go_enter Tryz.func6,Tryz.ntmps6
 go_upto_region 1 with fail
 generalize ((w.alloc (.cells #[.string e0,.int .i64 e1,.int .i64 e2,.int .i64 e3,.slice e4 e5 e6,.slice e7 e8 e9] 42)).alloc (.cells #[.string ⟨#[]⟩,.int .i64 0,.slice none 0 0,.slice none 0 0,.slice none 0 0,.slice none 0 0] 35))=wx at *
 have HSX:=hidOf hsx
 clear hsx
 have ca0:=(hX 0 _ rfl).1
 have ca1:=(hX 1 _ rfl).1
 have ca2:=(hX 2 _ rfl).1
 have ca3:=(hX 3 _ rfl).1
 have ca4:=(hX 4 _ rfl).1
 have ca5:=(hX 5 _ rfl).1
 have hrx:=hrn wx hal
 go_upto_region 2 with (first
  | (go_at_call 12;refine hrx.mono ?_;rintro e w1 ⟨na,nn,nc,q,rfl,HqE,hqt,b1⟩)
  | fail)
 clear ca0 ca1 ca2 ca3 ca4 ca5 hrx hrn
 have hb1:=hal.trans (b1.mono hal.size)
 have hX1:=hX.on b1
 have hR1:=hRb.on b1
 cases q with
 | false=>
  obtain ⟨m0,o0⟩:=hR1 0 _ rfl
  obtain ⟨m1,o1⟩:=hR1 1 _ rfl
  obtain ⟨m2,o2⟩:=hR1 2 _ rfl
  obtain ⟨m3,o3⟩:=hR1 3 _ rfl
  obtain ⟨m4,o4⟩:=hR1 4 _ rfl
  obtain ⟨m5,o5⟩:=hR1 5 _ rfl
  have hfin:=(((((((hR1).set (i:=0) (by simp) (.string ⟨#[]⟩)).set (i:=1) (by simp) (.int .i64 0)).set (i:=2) (by simp) (.slice none 0 0)).set (i:=3) (by simp) (.slice none 0 0)).set (i:=4) (by simp) (.slice none 0 0)).set (i:=5) (by simp) (.slice none 0 0))
  have hbz:=putL_below [.string ⟨#[]⟩,.int .i64 0,.slice none 0 0,.slice none 0 0,.slice none 0 0,.slice none 0 0] w1 (w.heap.size+1) 0 hb1 (by omega)
  go_wp2
  exact bodyPost_ret (make_res hfin rfl rfl) rfl ⟨_,_,_,_,_,_,_,_,_,_,_,_,_,_,_,rfl,by show Q _ _ _ _ _ _;rw [HQ.out];exact .inr ⟨by decide,rfl⟩,hbz⟩
 | true=>
  go_upto_region 4 with fail
  have HqR:Hid (R=true/\Nn≠[]):=by
   have:=HqE.out
   simp only [eq_comm (a:=true),Bool.and_eq_true,decide_eq_true_eq] at this
   exact ⟨this.2,this.1⟩
  have HNd:=hqt rfl
  clear hqt HqE
  have HNX:=hidOf hX1
  have HR1:=hidOf hR1
  have hlX:=hX1.lt
  have hwx:=HSX.out
  have hs1:=b1.size
  have z0:=(hX1 0 _ rfl).1
  have z1:=(hX1 1 _ rfl).1
  have z4:=(hX1 4 _ rfl).1
  have nX1:w1.heap.size≠w.heap.size:=by omega
  have y0:=z0
  have y1:=z1
  have y4:=z4
  have hal1:Below w1.heap.size w1 (w1.alloc (.cells #[.string ⟨#[]⟩,.int .i64 0,.slice none 0 0,.slice none 0 0,.slice none 0 0,.slice none 0 0] 35)).drew:=((Below.refl _ _).alloc Nat.le.refl _).drew
  have hRn:Bn (w1.alloc (.cells #[.string ⟨#[]⟩,.int .i64 0,.slice none 0 0,.slice none 0 0,.slice none 0 0,.slice none 0 0] 35)).drew w1.heap.size [.string ⟨#[]⟩,.int .i64 0,.slice none 0 0,.slice none 0 0,.slice none 0 0,.slice none 0 0]:=Bn.new w1 [.string ⟨#[]⟩,.int .i64 0,.slice none 0 0,.slice none 0 0,.slice none 0 0,.slice none 0 0] 35 _ rfl
  go_cut [6] (fun v6 wc=>∃ Tb va vn vc,v6=.pointer (some ⟨Tb,0,none⟩)/\w1.heap.size<=Tb/\Hid (Bn wc Tb [.string e0,.int .i64 e1,.slice na nn nc,.slice va vn vc,.slice none 0 0,.slice none 0 0])/\Hid (wc.ownsRow w1.heap.size 108 2 (.slice va vn vc) vn (celI vs)/\∀ g,(Value.slice va vn vc).ownBlock=some g->g≠Tb)/\Hid (vs.length=vn)/\Below w1.heap.size w1 wc)
  case first=>
   go_region_held_law (fun w'=>w'.cell? ⟨w.heap.size,0,none⟩=some (.string e0)/\w'.cell? ⟨w.heap.size,1,none⟩=some (.int .i64 e1)/\w'.cell? ⟨w.heap.size,4,none⟩=some (.slice e4 e5 e6))
    ((refine ⟨?_,?_,?_⟩<;>(repeat (with_reducible first|exact y0|exact y1|exact y4|refine cellB_dr ?_|refine cellB_al ?_|refine cellB_set nX1 ?_|refine cellB_set nX2 ?_|refine cellB_set nX3 ?_))<;>done))
    (first
     | (go_at_call 13;(with_reducible refine (hcl w1.drew).mono ?_);rintro e w2 ⟨rfl,b2⟩;have hB2:Below w1.heap.size w1 w2:=Below.nxtd (Below.refl _ _) b2;have hb2:=hb1.trans (hB2.mono hb1.size);have y0:=(hB2.cell (p:=⟨w.heap.size,0,none⟩) hlX).trans z0;have y1:=(hB2.cell (p:=⟨w.heap.size,1,none⟩) hlX).trans z1;have y4:=(hB2.cell (p:=⟨w.heap.size,4,none⟩) hlX).trans z4;have nX2:w2.heap.size≠w.heap.size:=(by have h9:=hB2.size;omega);have hB2a:Below w1.heap.size w1 (w2.alloc (.cells #[.string ⟨#[]⟩,.int .i64 0,.slice none 0 0,.slice none 0 0,.slice none 0 0,.slice none 0 0] 35)):=hB2.alloc hB2.size _;have hb2a:=hb1.trans (hB2a.mono hb1.size))
     | (go_at_call 13;(with_reducible refine (hcl (w1.alloc (.cells #[.string ⟨#[]⟩,.int .i64 0,.slice none 0 0,.slice none 0 0,.slice none 0 0,.slice none 0 0] 35)).drew).mono ?_);rintro e w2 ⟨rfl,b2⟩;have hB2:Below w1.heap.size w1 w2:=Below.nxt hal1 b2;have hRz:=hRn.on b2;have hs2:w1.heap.size+1<=w2.heap.size:=(by have h9:=b2.size;simpa using h9);have hb2:=hb1.trans (hB2.mono hb1.size);have y0:=(hB2.cell (p:=⟨w.heap.size,0,none⟩) hlX).trans z0;have y1:=(hB2.cell (p:=⟨w.heap.size,1,none⟩) hlX).trans z1;have y4:=(hB2.cell (p:=⟨w.heap.size,4,none⟩) hlX).trans z4;have nX2:w2.heap.size≠w.heap.size:=(by have h9:=hB2.size;omega);have hB2a:Below w1.heap.size w1 (w2.alloc (.cells #[.string ⟨#[]⟩,.int .i64 0,.slice none 0 0,.slice none 0 0,.slice none 0 0,.slice none 0 0] 35)):=hB2.alloc hB2.size _;have hb2a:=hb1.trans (hB2a.mono hb1.size))
     | (go_at_call 14;(with_reducible refine (hwp w2 hb2).mono ?_);rintro e w3 ⟨va,vn,vc,rfl,HO,HV,b3⟩;have hB3:Below w1.heap.size w1 w3:=Below.nxt hB2 b3;(try (have hRz:=hRz.on b3;have f0:=hRz 0 _ rfl;have f1:=hRz 1 _ rfl;have f2:=hRz 2 _ rfl;have f3:=hRz 3 _ rfl;have f4:=hRz 4 _ rfl;have f5:=hRz 5 _ rfl;obtain ⟨m0,o0⟩:=f0;obtain ⟨m1,o1⟩:=f1;obtain ⟨m2,o2⟩:=f2;obtain ⟨m3,o3⟩:=f3;obtain ⟨m4,o4⟩:=f4;obtain ⟨m5,o5⟩:=f5));have y0:=(hB3.cell (p:=⟨w.heap.size,0,none⟩) hlX).trans z0;have y1:=(hB3.cell (p:=⟨w.heap.size,1,none⟩) hlX).trans z1;have y4:=(hB3.cell (p:=⟨w.heap.size,4,none⟩) hlX).trans z4;have nX3:w3.heap.size≠w.heap.size:=(by have h9:=hB3.size;omega))
     | (go_at_call 14;(with_reducible refine (hwp (w2.alloc (.cells #[.string ⟨#[]⟩,.int .i64 0,.slice none 0 0,.slice none 0 0,.slice none 0 0,.slice none 0 0] 35)) hb2a).mono ?_);rintro e w3 ⟨va,vn,vc,rfl,HO,HV,b3⟩;have hB3:Below w1.heap.size w1 w3:=Below.nxt hB2a b3;have hRz:=(Bn.new w2 [.string ⟨#[]⟩,.int .i64 0,.slice none 0 0,.slice none 0 0,.slice none 0 0,.slice none 0 0] 35 _ rfl).on b3;have f0:=hRz 0 _ rfl;have f1:=hRz 1 _ rfl;have f2:=hRz 2 _ rfl;have f3:=hRz 3 _ rfl;have f4:=hRz 4 _ rfl;have f5:=hRz 5 _ rfl;obtain ⟨m0,o0⟩:=f0;obtain ⟨m1,o1⟩:=f1;obtain ⟨m2,o2⟩:=f2;obtain ⟨m3,o3⟩:=f3;obtain ⟨m4,o4⟩:=f4;obtain ⟨m5,o5⟩:=f5;have y0:=(hB3.cell (p:=⟨w.heap.size,0,none⟩) hlX).trans z0;have y1:=(hB3.cell (p:=⟨w.heap.size,1,none⟩) hlX).trans z1;have y4:=(hB3.cell (p:=⟨w.heap.size,4,none⟩) hlX).trans z4;have nX3:w3.heap.size≠w.heap.size:=(by have h9:=hB3.size;omega))
     | fail)
   all_goals (
    go_wp2
    go_meet
    case rel=>
     first
      | (have hOW:Hid ((putL w3 w1.heap.size 0 [.string e0,.int .i64 e1,.slice na nn nc,.slice va vn vc,.slice none 0 0,.slice none 0 0]).ownsRow w1.heap.size 108 2 (.slice va vn vc) vn (celI vs)/\∀ g,(Value.slice va vn vc).ownBlock=some g->g≠w1.heap.size):=own_cut HO.out (by omega) (fun g h1 h2=>by omega) (fun g h _=>putL_heap [.string e0,.int .i64 e1,.slice na nn nc,.slice va vn vc,.slice none 0 0,.slice none 0 0] w3 w1.heap.size 0 g h)
         exact ⟨w1.heap.size,va,vn,vc,rfl,Nat.le_refl _,(((((((hRz).set (i:=0) (by simp) (.string e0)).set (i:=1) (by simp) (.int .i64 e1)).set (i:=2) (by simp) (.slice na nn nc)).set (i:=3) (by simp) (.slice va vn vc)).set (i:=4) (by simp) (.slice none 0 0)).set (i:=5) (by simp) (.slice none 0 0)),hOW,HV,putL_below [.string e0,.int .i64 e1,.slice na nn nc,.slice va vn vc,.slice none 0 0,.slice none 0 0] w3 w1.heap.size 0 hB3 Nat.le.refl⟩)
      | (have hOW:Hid ((putL w3 w2.heap.size 0 [.string e0,.int .i64 e1,.slice na nn nc,.slice va vn vc,.slice none 0 0,.slice none 0 0]).ownsRow w1.heap.size 108 2 (.slice va vn vc) vn (celI vs)/\∀ g,(Value.slice va vn vc).ownBlock=some g->g≠w2.heap.size):=own_cut HO.out (by have:=hB2.size;simp;omega) (fun g h1 h2=>by simp at h1;omega) (fun g h _=>putL_heap [.string e0,.int .i64 e1,.slice na nn nc,.slice va vn vc,.slice none 0 0,.slice none 0 0] w3 w2.heap.size 0 g h)
         exact ⟨w2.heap.size,va,vn,vc,rfl,hB2.size,(((((((hRz).set (i:=0) (by simp) (.string e0)).set (i:=1) (by simp) (.int .i64 e1)).set (i:=2) (by simp) (.slice na nn nc)).set (i:=3) (by simp) (.slice va vn vc)).set (i:=4) (by simp) (.slice none 0 0)).set (i:=5) (by simp) (.slice none 0 0)),hOW,HV,putL_below [.string e0,.int .i64 e1,.slice na nn nc,.slice va vn vc,.slice none 0 0,.slice none 0 0] w3 w2.heap.size 0 hB3 hB2.size⟩)
      | (have hal3:Below w3.heap.size w3 (w3.alloc (.cells #[.string e0,.int .i64 e1,.slice na nn nc,.slice va vn vc,.slice none 0 0,.slice none 0 0] 35)):=(Below.refl _ _).alloc Nat.le.refl _
         have hOW:Hid ((w3.alloc (.cells #[.string e0,.int .i64 e1,.slice na nn nc,.slice va vn vc,.slice none 0 0,.slice none 0 0] 35)).ownsRow w1.heap.size 108 2 (.slice va vn vc) vn (celI vs)/\∀ g,(Value.slice va vn vc).ownBlock=some g->g≠w3.heap.size):=own_cut HO.out hB2.size (fun g h1 h2=>by omega) (fun g h hl=>hal3.block g hl)
         exact ⟨w3.heap.size,va,vn,vc,rfl,hB3.size,Bn.new w3 [.string e0,.int .i64 e1,.slice na nn nc,.slice va vn vc,.slice none 0 0,.slice none 0 0] 35 _ rfl,hOW,HV,hB3.trans (hal3.mono hB3.size)⟩))
  case rest=>
   obtain ⟨Tb,va,vn,vc,rfl,hTb,HTB,HOV,HVL,hBc⟩:=hcut
   have hbc:=hb1.trans (hBc.mono hb1.size)
   obtain ⟨hL1,hL2⟩:=ndsM_len (fl:=fl) (by rw [HNN.out];exact HqR.out.2)
   rw [HNN.out] at hL1
   have hnn:nn=Nn.length:=by
    obtain ⟨_,_,he,_⟩:=HNd.out.1.form
    simp only [Value.slice.injEq] at he
    exact he.2.1
   have hn1:1<=nn:=by
    have h3:0 < Nn.length:=List.length_pos_iff.2 HqR.out.2
    omega
   have hn40:nn<=40:=by omega
   have HFN:Hid (fl.length=nn):=by
    show _=_
    omega
   have HNE:=hidOf hnn
   clear hL1 hL2 hnn
   obtain ⟨j0,hj,hj0,hj1,hj2⟩:=info_parts Tryz.infoStp
   go_upto_region 6 with (first
    | (at_make;refine wpList_makeB _ rfl _ _ 32 rfl 83 j0 (.agg #[.string ⟨#[]⟩,.string ⟨#[]⟩,.int .i64 0,.int .i64 0]) 4 Tryz.underlying32 hj hj0 hj1 _ _ _ nn rfl rfl rfl (by rw [hj2];omega) (by unfold maxLen;omega) ?_;intro css w5 HCL HCB b5 hl5;have hT5:=HTB.out.on b5;obtain ⟨m4,n4⟩:=hT5 4 _ rfl)
    | fail)
   have hTl:=HTB.out.lt
   obtain ⟨St,hSt⟩:∃ St,wc.heap.size=St:=⟨_,rfl⟩
   rw [hSt] at HCB hl5 hTl ⊢
   have HT6:Hid (Bn (w5.setCell ⟨Tb,4,none⟩ (.slice (some ⟨St,0,none⟩) nn nn)) Tb [.string e0,.int .i64 e1,.slice na nn nc,.slice va vn vc,.slice (some ⟨St,0,none⟩) nn nn,.slice none 0 0]):=hT5.set (i:=4) (by simp) (.slice (some ⟨St,0,none⟩) nn nn)
   have hB6:Below w1.heap.size w1 (w5.setCell ⟨Tb,4,none⟩ (.slice (some ⟨St,0,none⟩) nn nn)):=(hBc.trans (b5.mono hBc.size)).setCell (p:=⟨Tb,4,none⟩) hTb _
   have HC6:Hid (Bn (w5.setCell ⟨Tb,4,none⟩ (.slice (some ⟨St,0,none⟩) nn nn)) St css):=HCB.out.far (by omega) _
   have HV6:Hid ((w5.setCell ⟨Tb,4,none⟩ (.slice (some ⟨St,0,none⟩) nn nn)).ownsRow w1.heap.size 108 2 (.slice va vn vc) vn (celI vs)/\∀ g,(Value.slice va vn vc).ownBlock=some g->g≠Tb/\g < St):=by
    have h1:=HOV.out.1
    have h2:=fun g hg=>ownsRow_lt h1 g hg
    refine ⟨ownsRow_keep h1 (fun g hg=>(Below.heap_setCell _ _ _ _ (fun e=>HOV.out.2 g hg e)).trans (b5.block g (h2 g hg).2)),fun g hg=>⟨HOV.out.2 g hg,?_⟩⟩
    rw [<- hSt]
    exact (h2 g hg).2
   have hl6:St < (w5.setCell ⟨Tb,4,none⟩ (.slice (some ⟨St,0,none⟩) nn nn)).heap.size:=by simpa using hl5
   clear m4 n4 hT5 HCB hl5 b5 HOV HTB hBc hbc hSt
   generalize w5.setCell ⟨Tb,4,none⟩ (.slice (some ⟨St,0,none⟩) nn nn)=w6 at *
   have hb6:=hb1.trans (hB6.mono hb1.size)
   have hdp:=deepest_any (HNd.out.1.on kp_nd hB6) (by have:=HNE.out;omega) (by have:=HNE.out;omega)
   go_wp2_with (first
    | (go_at_call 15;refine hdp.mono ?_;rintro e wl ⟨oa,om,oc,ord,rfl,HOR,HOL,HDP,b7⟩)
    | fail)
   have hom:om=nn:=by
    have h1:=HDP.out.perm.length_eq
    rw [HOL.out,List.length_range] at h1
    have:=HNE.out
    omega
   have hom1:1<=om:=by omega
   have hom40:om<=40:=by omega
   have HOM:=hidOf hom
   obtain ⟨og,rfl⟩:∃ og,oa=some ⟨og,0,none⟩:=by
    rcases HOR.out.2 with ⟨h1,h2⟩|⟨g,cap,cur,h1,_⟩
    ·omega
    ·simp only [Value.slice.injEq] at h1
     exact ⟨g,h1.1⟩
   have HOC:Hid (∀ j (hj:j < ord.length),wl.cell? ⟨og,j,none⟩=some (.int .i64 (ord[j]:Int))):=fun j hj=>by
    have h9:=World.ownsRow.cells HOR.out (g:=og) rfl j (.int .i64 (ord[j]:Int)) (by rw [List.getElem?_map,List.getElem?_eq_getElem hj];rfl)
    by_cases hz:j=0
    ·subst hz
     simpa [Addr.add] using h9
    ·simpa [Addr.add,hz] using h9
   obtain ⟨hog1,hog2⟩:=ownsRow_lt HOR.out og rfl
   have HT7:Hid (Bn wl Tb [.string e0,.int .i64 e1,.slice na nn nc,.slice va vn vc,.slice (some ⟨St,0,none⟩) nn nn,.slice none 0 0]):=HT6.out.on b7
   have HC7:Hid (∃ cs:List Value,cs.length=nn*4/\Bn wl St cs):=⟨css,HCL.out,HC6.out.blk (b7.block St hl6)⟩
   have hB7:Below w1.heap.size w1 wl:=hB6.trans (b7.mono hB6.size)
   have hs7:=b7.size
   have hTS:Tb < St:=hTl
   have h16:w1.heap.size<=w6.heap.size:=hB6.size
   have HV7:Hid (wl.ownsRow w1.heap.size 108 2 (.slice va vn vc) vn (celI vs)/\∀ g,(Value.slice va vn vc).ownBlock=some g->g≠Tb/\g < St):=⟨ownsRow_keep HV6.out.1 (fun g hg=>b7.block g (ownsRow_lt HV6.out.1 g hg).2),HV6.out.2⟩
   obtain ⟨r0,hr,hr0,hr1,hr2⟩:=info_parts Tryz.infoRow
   clear HT6 HC6 HV6 hdp hom HOR hB6 hb6 hTl
   go_loopw [38] (fun ix wr=>∃ (j:Nat) (ra:Option Addr) (rn rc:Nat),j<=om/\ix=.int .i64 (j:Int)/\Hid (Bn wr Tb [.string e0,.int .i64 e1,.slice na nn nc,.slice va vn vc,.slice (some ⟨St,0,none⟩) nn nn,.slice ra rn rc])/\Hid (OwnB wr wl.heap.size (fun _=>False) 54 7 rRw (.slice ra rn rc) (rwsA Nn fl (ord.take j)))/\Hid (∃ cs:List Value,cs.length=nn*4/\Bn wr St cs)/\Hid (Fy Tb St wl wr)) (fun ix _=>om - (RowKit.intOf ix).toNat)
   case atStart=>exact ⟨0,none,0,0,Nat.zero_le _,rfl,HT7,ownB_nil _ _ _ _ _ _,HC7,Fy.of (Fx.refl _ _)⟩
   case round=>
    obtain ⟨j,ra,rn,rc,hj,rfl,HTr,HOr,HCr,HFr⟩:=hrel
    have hFs:=HFr.out.size
    have hbr:Below w1.heap.size w1 wr:=HFr.out.belM hB7 hTb (by omega) Nat.le.refl
    have hXr:=HNX.out.on hbr
    by_cases hlt:j < om
    ·have hjo:j < ord.length:=by rw [HOL.out];exact hlt
     obtain ⟨i,hi⟩:∃ i,ord[j]=i:=⟨_,rfl⟩
     have hin:i < nn:=by
      have h9:=HDP.out.perm.mem_iff.1 (List.getElem_mem hjo)
      rw [List.mem_range,hi] at h9
      have:=HNE.out
      omega
     have O:=keep_cell (p:=⟨og,j,none⟩) (HFr.out.block og hog2 (by omega) (by omega)) (HOC.out j hjo)
     rw [hi] at O
     have HI:=hidOf hi
     have i1:(j:Int) < (om:Int):=by omega
     have i2:(0:Int)<=(j:Int):=by omega
     have hstr:=hst wr (hb1.trans (hbr.mono hb1.size)) i (by have:=HFN.out;omega)
     have cx0:=(hXr 0 _ rfl).1
     have cx1:=(hXr 1 _ rfl).1
     have cx2:=(hXr 2 _ rfl).1
     have cx3:=(hXr 3 _ rfl).1
     have cx4:=(hXr 4 _ rfl).1
     have cx5:=(hXr 5 _ rfl).1
     clear hi
     go_upto_region 10 with (first
      | (go_at_call 16;refine hstr.mono ?_;rintro e w8 ⟨n0,i3,i4,c3,c4,c5,c6,c7,c8,u1,m,u3,u4,m2,u6,rfl,HRO,HML,b8⟩)
      | fail)
     have hal8:Below w8.heap.size w8 (w8.alloc (.cells #[.string n0,.int .i64 i3,.int .i64 i4,.bool c3,.bool c4,.string c5,.string c6,.int .i64 c7,.int .i64 c8,.slice u1 m u3,.slice u4 m2 u6] 79)):=(Below.refl _ _).alloc Nat.le.refl _
     have hS9:=Bn.new w8 [.string n0,.int .i64 i3,.int .i64 i4,.bool c3,.bool c4,.string c5,.string c6,.int .i64 c7,.int .i64 c8,.slice u1 m u3,.slice u4 m2 u6] 79 _ rfl
     have hB9:Below wr.heap.size wr (w8.alloc (.cells #[.string n0,.int .i64 i3,.int .i64 i4,.bool c3,.bool c4,.string c5,.string c6,.int .i64 c7,.int .i64 c8,.slice u1 m u3,.slice u4 m2 u6] 79)):=Below.nxt b8 hal8
     have HRO9:Hid (RdK (fun b=>wr.heap.size<=b) (w8.alloc (.cells #[.string n0,.int .i64 i3,.int .i64 i4,.bool c3,.bool c4,.string c5,.string c6,.int .i64 c7,.int .i64 c8,.slice u1 m u3,.slice u4 m2 u6] 79)) 6 (rOnS (fun b=>wr.heap.size<=b) (w8.alloc (.cells #[.string n0,.int .i64 i3,.int .i64 i4,.bool c3,.bool c4,.string c5,.string c6,.int .i64 c7,.int .i64 c8,.slice u1 m u3,.slice u4 m2 u6] 79))) (onsI fl i) (.slice u1 m u3)):=HRO.out.stay kp_onS (fun b hb hl=>⟨hb,hal8.block b hl⟩)
     obtain ⟨S9,hS9e⟩:∃ S9,w8.heap.size=S9:=⟨_,rfl⟩
     rw [hS9e] at hS9 ⊢
     have hS9l:wr.heap.size<=S9:=by rw [<- hS9e];exact b8.size
     clear O cx0 cx1 cx2 cx3 cx4 cx5 hS9e hal8 b8 HRO hstr
     generalize (w8.alloc (.cells #[.string n0,.int .i64 i3,.int .i64 i4,.bool c3,.bool c4,.string c5,.string c6,.int .i64 c7,.int .i64 c8,.slice u1 m u3,.slice u4 m2 u6] 79))=w9 at *
     have hT9:=HTr.out.on hB9
     obtain ⟨cs,hcl,hCs0⟩:=HCr.out
     have hCs:=hCs0.blk (hB9.block St (by omega))
     obtain ⟨p0,q0⟩:=hCs (i*4) _ (List.getElem?_eq_getElem (by omega))
     obtain ⟨p1,q1⟩:=hCs (i*4+1) _ (List.getElem?_eq_getElem (by omega))
     obtain ⟨p2,q2⟩:=hCs (i*4+2) _ (List.getElem?_eq_getElem (by omega))
     obtain ⟨p3,q3⟩:=hCs (i*4+3) _ (List.getElem?_eq_getElem (by omega))
     have ct4:=(hT9 4 _ rfl).1
     have cs5:=(hS9 5 _ rfl).1
     have cs6:=(hS9 6 _ rfl).1
     have cs7:=(hS9 7 _ rfl).1
     have cs8:=(hS9 8 _ rfl).1
     have i5:(i:Int) < (nn:Int):=by omega
     have i6:(0:Int)<=(i:Int):=by omega
     go_upto_region 11 with fail
     have hblk:∀ b,b≠St->((((w9.setCell ⟨St,i*4,none⟩ (.string c5)).setCell ⟨St,i*4+1,none⟩ (.string c6)).setCell ⟨St,i*4+2,none⟩ (.int .i64 c7)).setCell ⟨St,i*4+3,none⟩ (.int .i64 c8)).heap[b]?=w9.heap[b]?:=fun b hb=>(Below.heap_setCell _ _ _ _ hb).trans ((Below.heap_setCell _ _ _ _ hb).trans ((Below.heap_setCell _ _ _ _ hb).trans (Below.heap_setCell _ _ _ _ hb)))
     have HTz:Hid (Bn ((((w9.setCell ⟨St,i*4,none⟩ (.string c5)).setCell ⟨St,i*4+1,none⟩ (.string c6)).setCell ⟨St,i*4+2,none⟩ (.int .i64 c7)).setCell ⟨St,i*4+3,none⟩ (.int .i64 c8)) Tb [.string e0,.int .i64 e1,.slice na nn nc,.slice va vn vc,.slice (some ⟨St,0,none⟩) nn nn,.slice ra rn rc]):=hT9.blk (hblk Tb (by omega))
     have HCz:Hid (∃ cs:List Value,cs.length=nn*4/\Bn ((((w9.setCell ⟨St,i*4,none⟩ (.string c5)).setCell ⟨St,i*4+1,none⟩ (.string c6)).setCell ⟨St,i*4+2,none⟩ (.int .i64 c7)).setCell ⟨St,i*4+3,none⟩ (.int .i64 c8)) St cs):=⟨_,by simp [hcl],(((hCs.set (i:=i*4) (by omega) _).set (i:=i*4+1) (by simp;omega) _).set (i:=i*4+2) (by simp;omega) _).set (i:=i*4+3) (by simp;omega) _⟩
     have hSz:Bn ((((w9.setCell ⟨St,i*4,none⟩ (.string c5)).setCell ⟨St,i*4+1,none⟩ (.string c6)).setCell ⟨St,i*4+2,none⟩ (.int .i64 c7)).setCell ⟨St,i*4+3,none⟩ (.int .i64 c8)) S9 [.string n0,.int .i64 i3,.int .i64 i4,.bool c3,.bool c4,.string c5,.string c6,.int .i64 c7,.int .i64 c8,.slice u1 m u3,.slice u4 m2 u6]:=hS9.blk (hblk S9 (by omega))
     have HROz:Hid (RdK (fun b=>wr.heap.size<=b) ((((w9.setCell ⟨St,i*4,none⟩ (.string c5)).setCell ⟨St,i*4+1,none⟩ (.string c6)).setCell ⟨St,i*4+2,none⟩ (.int .i64 c7)).setCell ⟨St,i*4+3,none⟩ (.int .i64 c8)) 6 (rOnS (fun b=>wr.heap.size<=b) ((((w9.setCell ⟨St,i*4,none⟩ (.string c5)).setCell ⟨St,i*4+1,none⟩ (.string c6)).setCell ⟨St,i*4+2,none⟩ (.int .i64 c7)).setCell ⟨St,i*4+3,none⟩ (.int .i64 c8))) (onsI fl i) (.slice u1 m u3)):=HRO9.out.stay kp_onS (fun b hb hl=>⟨hb,hblk b (by omega)⟩)
     have HFz:Hid (Fy Tb St wl ((((w9.setCell ⟨St,i*4,none⟩ (.string c5)).setCell ⟨St,i*4+1,none⟩ (.string c6)).setCell ⟨St,i*4+2,none⟩ (.int .i64 c7)).setCell ⟨St,i*4+3,none⟩ (.int .i64 c8))):=((((HFr.out.andM hB9 hFs).setY (i:=i*4) (.string c5)).setY (i:=i*4+1) (.string c6)).setY (i:=i*4+2) (.int .i64 c7)).setY (i:=i*4+3) (.int .i64 c8)
     have HOz:Hid (OwnB ((((w9.setCell ⟨St,i*4,none⟩ (.string c5)).setCell ⟨St,i*4+1,none⟩ (.string c6)).setCell ⟨St,i*4+2,none⟩ (.int .i64 c7)).setCell ⟨St,i*4+3,none⟩ (.int .i64 c8)) wl.heap.size (fun _=>False) 54 7 rRw (.slice ra rn rc) (rwsA Nn fl (ord.take j))):=(HOr.out.on kp_rw hB9).keep kp_rw (fun b hb _ _=>⟨hblk b (by omega),fun q=>q⟩)
     have HOG:Hid (∀ g,(Value.slice ra rn rc).ownBlock=some g->g < wr.heap.size∨((((w9.setCell ⟨St,i*4,none⟩ (.string c5)).setCell ⟨St,i*4+1,none⟩ (.string c6)).setCell ⟨St,i*4+2,none⟩ (.int .i64 c7)).setCell ⟨St,i*4+3,none⟩ (.int .i64 c8)).heap.size<=g):=fun g hg=>.inl (HOr.out.lt g hg).2
     clear p0 p1 p2 p3 q0 q1 q2 q3 cs5 cs6 cs7 cs8 ct4 hblk hT9 hCs hCs0 hcl hS9 HRO9 HTr HOr HCr HFr hXr
     generalize ((((w9.setCell ⟨St,i*4,none⟩ (.string c5)).setCell ⟨St,i*4+1,none⟩ (.string c6)).setCell ⟨St,i*4+2,none⟩ (.int .i64 c7)).setCell ⟨St,i*4+3,none⟩ (.int .i64 c8))=wz at *
     have hlz:wl.heap.size<=wz.heap.size:=HFz.out.size
     have hBz:Below w1.heap.size w1 wz:=HFz.out.belM hB7 hTb (by omega) Nat.le.refl
     have hzT:=HTz.out.lt
     have hm:m<=100000:=by rw [<- HML.out];exact onsI_len HFS.out.2.2 i
     have hacl:(rwsA Nn fl (ord.take j)).length<=4000000:=by
      have h9:=rwsA_len Nn (onsI_len HFS.out.2.2) (ord.take j)
      rw [List.length_take] at h9
      omega
     have HACC:Hid (rwsA Nn fl (ord.take (j+1))=rwsA Nn fl (ord.take j)++rwL Nn i (onsI fl i)):=by
      show _=_
      rw [rwsA_take Nn fl ord j hjo,HI.out]
     generalize rwsA Nn fl (ord.take j)=acc at *
     have cz9:=(hSz 9 _ rfl).1
     obtain ⟨w7,hw7⟩:∃ x,x=wr:=⟨_,rfl⟩
     subst hw7
     go_wp2
     go_loopw [64] (fun ix wq=>∃ (k:Nat) (ra:Option Addr) (rn rc:Nat),k<=m/\ix=.int .i64 (k:Int)/\Hid (Bn wq Tb [.string e0,.int .i64 e1,.slice na nn nc,.slice va vn vc,.slice (some ⟨St,0,none⟩) nn nn,.slice ra rn rc])/\Hid (OwnB wq wl.heap.size (fun _=>False) 54 7 rRw (.slice ra rn rc) (acc++(rwL Nn i (onsI fl i)).take k))/\Hid (Fq Tb wl.heap.size w7.heap.size wz wq)/\Hid (∀ g,(Value.slice ra rn rc).ownBlock=some g->g < w7.heap.size∨wz.heap.size<=g)) (fun ix _=>m - (RowKit.intOf ix).toNat)
     case atStart=>exact ⟨0,ra,rn,rc,Nat.zero_le _,rfl,HTz,by rw [List.take_zero,List.append_nil];exact HOz,Fq.refl _ _ _ _,HOG⟩
     case round=>
      clear cz9
      obtain ⟨k,rb,rm,rd,hk,rfl,HTq,HOq,HFq,HGq⟩:=hrel
      have hFqs:=HFq.out.size
      by_cases hkl:k < m
      ·have hko:k < (onsI fl i).length:=by rw [HML.out];exact hkl
       obtain ⟨bo,oo,s1,ns,s3,x4,x5,rfl,hbo,hbl,HSE,hco⟩:=onZ_at HROz.out k hko
       have hOB:OnB (onsI fl i)[k]:=by
        have hif:i < fl.length:=by have:=HFN.out;omega
        have hmem:∀ o'∈onsI fl i,OnB o':=by
         rw [onsI_at hif]
         exact HFS.out.2.1 _ (List.getElem_mem hif)
        exact hmem _ (List.getElem_mem hko)
       obtain ⟨o,ho⟩:∃ o,(onsI fl i)[k]=o:=⟨_,rfl⟩
       rw [ho] at hco HSE hOB
       have HO9:=hidOf ho
       obtain ⟨ev,hev⟩:∃ ev,sV o.1=.string ev:=⟨_,rfl⟩
       obtain ⟨tg,htg⟩:∃ tg,sV o.2.2.1=.string tg:=⟨_,rfl⟩
       have hcq:∀ i u,[sV o.1,gdV o.2.1,sV o.2.2.1,.slice s1 ns s3,.int .i64 x4,.int .i64 x5][i]?=some u->wr.cell? ⟨bo,oo+k*6+i,none⟩=some u:=fun i u hu=>keep_cell (p:=⟨bo,oo+k*6+i,none⟩) (HFq.out.block bo hbl (by omega) (.inr hbo)) (hco i u hu)
       rw [hev,htg] at hcq
       have i7:(k:Int) < (m:Int):=by omega
       have i8:(0:Int)<=(k:Int):=by omega
       have HLE:Hid ((acc++(rwL Nn i (onsI fl i)).take k).length<=4200000):=by
        show _<=_
        rw [List.length_append,List.length_take]
        omega
       have HRB:Hid (∀ g,(Value.slice va vn vc).ownBlock=some g->wr.heap[g]?=wl.heap[g]?):=fun g hg=>by
        have h1:=HV7.out.2 g hg
        have h2:=(ownsRow_lt HV7.out.1 g hg).2
        exact (HFq.out.block g (by omega) h1.1 (.inl h2)).trans (HFz.out.block g h2 h1.1 (by omega))
       clear hco
       rcases gdV_form o.2.1 with hg|⟨ug,yg,hg⟩
       ·rw [hg] at hcq
        have C0:=hcq 0 _ rfl
        have C1:=hcq 1 _ rfl
        have C2:=hcq 2 _ rfl
        have C3:=hcq 3 _ rfl
        have C4:=hcq 4 _ rfl
        have C5:=hcq 5 _ rfl
        rw [Nat.add_zero] at C0
        have hal7:Below wr.heap.size wr (wr.alloc (.cells #[.string ev,.nilIface,.string tg,.slice s1 ns s3,.int .i64 x4,.int .i64 x5] 88)):=(Below.refl _ _).alloc Nat.le.refl _
        have hY:=Bn.new wr [.string ev,.nilIface,.string tg,.slice s1 ns s3,.int .i64 x4,.int .i64 x5] 88 _ rfl
        clear hcq
        go_upto_region 14 with fail
        clear C0 C1 C2 C3 C4 C5
        have hTy:=HTq.out.on hal7
        have HOY:=hidOf (HOq.out.on kp_rw hal7)
        have HFY:Hid (Fq Tb wl.heap.size w7.heap.size wz (wr.alloc (.cells #[.string ev,.nilIface,.string tg,.slice s1 ns s3,.int .i64 x4,.int .i64 x5] 88))):=HFq.out.andB hal7 hFqs
        have hBy:Below w1.heap.size w1 (wr.alloc (.cells #[.string ev,.nilIface,.string tg,.slice s1 ns s3,.int .i64 x4,.int .i64 x5] 88)):=HFY.out.bel hBz hTb (by omega) Nat.le.refl
        have HYL:Hid (∀ g,(Value.slice rb rm rd).ownBlock=some g->g < wr.heap.size):=fun g hg=>(HOq.out.lt g hg).2
        have hvy:RdV (wr.alloc (.cells #[.string ev,.nilIface,.string tg,.slice s1 ns s3,.int .i64 x4,.int .i64 x5] 88)) (.slice va vn vc) vs:=own_rdV (ownsRow_keep HV7.out.1 (fun g hg=>(hal7.block g (by have h1:=HV7.out.2 g hg;omega)).trans (HRB.out g hg))) HVL.out
        have hny:=HNd.out.1.on kp_nd hBy
        have hsy:RdK (fun b=>w7.heap.size<=b) (wr.alloc (.cells #[.string ev,.nilIface,.string tg,.slice s1 ns s3,.int .i64 x4,.int .i64 x5] 88)) 2 (rSet (fun b=>w7.heap.size<=b) (wr.alloc (.cells #[.string ev,.nilIface,.string tg,.slice s1 ns s3,.int .i64 x4,.int .i64 x5] 88))) o.2.2.2.1 (.slice s1 ns s3):=HSE.out.stay kp_set (fun b hb hl=>⟨hb,HFY.out.block b hl (by omega) (.inr hb)⟩)
        obtain ⟨Y,hYe⟩:∃ Y,wr.heap.size=Y:=⟨_,rfl⟩
        rw [hYe] at hY hFqs HYL ⊢
        generalize (wr.alloc (.cells #[.string ev,.nilIface,.string tg,.slice s1 ns s3,.int .i64 x4,.int .i64 x5] 88))=wy at *
        clear hYe hal7 HTq HOq HFq HRB
        have hzy:wz.heap.size<=wy.heap.size:=HFY.out.size
        have hly:wl.heap.size<=wy.heap.size:=Nat.le_trans hlz hzy
        have hrow:=fun W (b:Below wy.heap.size wy W)=>row_on e0 e1 na nn nc va vn vc (some ⟨St,0,none⟩) nn nn rb rm rd (hvy.below b Nat.le.refl) hvl (hny.on kp_nd b) i k hOB hg hev htg s1 ns s3 (hsy.stay kp_set (fun b' hb hl=>⟨hb,b.block b' hl⟩)) x4 x5
        have hyd:Below wy.heap.size wy wy.drew:=(Below.refl _ _).drew
        have hTw:Tb < wl.heap.size:=by omega
        have z0:=(hY 0 _ rfl).1
        have z1:=(hY 1 _ rfl).1
        have z2:=(hY 2 _ rfl).1
        have z3:=(hY 3 _ rfl).1
        have z4:=(hY 4 _ rfl).1
        have z5:=(hY 5 _ rfl).1
        have y0:=z0
        have y1:=z1
        have y2:=z2
        have y3:=z3
        have y4:=z4
        have y5:=z5
        have q0:=(hTy 0 _ rfl).1
        have q1:=(hTy 1 _ rfl).1
        have q2:=(hTy 2 _ rfl).1
        have q3:=(hTy 3 _ rfl).1
        have q4:=(hTy 4 _ rfl).1
        have q5:=(hTy 5 _ rfl).1
        have lY:=hY.lt
        have lT:=hTy.lt
        have nY:Tb≠Y:=by omega
        refine wp_region_held_drew (S:=(fun w'=>w'.cell? ⟨Y,0,none⟩=some (.string ev)/\w'.cell? ⟨Y,1,none⟩=some (.nilIface)/\w'.cell? ⟨Y,2,none⟩=some (.string tg)/\w'.cell? ⟨Y,3,none⟩=some (.slice s1 ns s3)/\w'.cell? ⟨Y,4,none⟩=some (.int .i64 x4)/\w'.cell? ⟨Y,5,none⟩=some (.int .i64 x5))) (by kernel_rfl) ?_ (fun hHeld=>?_)
        ·(try dsimp only);(refine ⟨?_,?_,?_,?_,?_,?_⟩<;>(repeat (with_reducible first|exact y0|exact y1|exact y2|exact y3|exact y4|exact y5|refine cellB_dr ?_|refine cellB_al ?_|refine cellB_set nY ?_))<;>done)
        refine wpAnyH_take (i:=0) (oi:=_) (v:=_) rfl (by kernel_rfl) (by kernel_rfl) (by kernel_rfl) (fun _ _ _ h=>h) (Or.inl ⟨by rfl,by intro w hSw;(try dsimp only at hSw);go_simp;try (with_reducible rfl)⟩) (by assumption) ?_
        (try simp only [Act.put,List.setIfInBounds_toArray,List.set_cons_zero,List.set_cons_succ])
        refine wpAnyH_take (i:=3) (oi:=_) (v:=_) rfl (by kernel_rfl) (by kernel_rfl) (by kernel_rfl) (fun _ _ _ h=>h) (Or.inl ⟨by rfl,by intro w hSw;(try dsimp only at hSw);go_simp;try (with_reducible rfl)⟩) (by assumption) ?_
        (try simp only [Act.put,List.setIfInBounds_toArray,List.set_cons_zero,List.set_cons_succ])
        refine wpAnyH_take (i:=4) (oi:=_) (v:=_) rfl (by kernel_rfl) (by kernel_rfl) (by kernel_rfl) (fun _ _ _ h=>h) (Or.inl ⟨by rfl,by intro w hSw;(try dsimp only at hSw);go_simp;try (with_reducible rfl)⟩) (by assumption) ?_
        (try simp only [Act.put,List.setIfInBounds_toArray,List.set_cons_zero,List.set_cons_succ])
        refine wpAnyH_take (i:=5) (oi:=_) (v:=_) rfl (by kernel_rfl) (by kernel_rfl) (by kernel_rfl) (fun _ _ _ h=>h) (Or.inl ⟨by rfl,by intro w hSw;(try dsimp only at hSw);go_simp;try (with_reducible rfl)⟩) (by assumption) ?_
        (try simp only [Act.put,List.setIfInBounds_toArray,List.set_cons_zero,List.set_cons_succ])
        refine wpAnyH_ready (rs:=[1,2]) (by kernel_rfl) (by simp) ?_
        refine AllReadyH.cons rfl (fun K hK=>?_) (AllReadyH.cons rfl (fun K hK=>?_) AllReadyH.nil)
        ·go_simp
         refine hK.out _ _ ?_ (fun hHeld=>?_)
         ·(try dsimp only);(refine ⟨?_,?_,?_,?_,?_,?_⟩<;>(repeat (with_reducible first|exact y0|exact y1|exact y2|exact y3|exact y4|exact y5|refine cellB_dr ?_|refine cellB_al ?_|refine cellB_set nY ?_))<;>done)
         clear hK K
         refine wpAnyH_ready (rs:=[2]) (by kernel_rfl) (by simp) ?_
         refine AllReadyH.cons rfl (fun K hK=>?_) AllReadyH.nil
         go_simp
         refine hK.out _ _ ?_ (fun hHeld=>?_)
         ·(try dsimp only);(refine ⟨?_,?_,?_,?_,?_,?_⟩<;>(repeat (with_reducible first|exact y0|exact y1|exact y2|exact y3|exact y4|exact y5|refine cellB_dr ?_|refine cellB_al ?_|refine cellB_set nY ?_))<;>done)
         clear hK K
         refine wpAnyH_ready (rs:=[6]) (by kernel_rfl) (by simp) ?_
         refine AllReadyH.cons rfl (fun K hK=>?_) AllReadyH.nil
         go_simp
         go_wp2_with (first|(go_at_call 17;(with_reducible refine (hrow _ hyd).mono ?_);rintro e w3 ⟨ga,gn,gc,sa,sn,sc,tt,sp,rfl,HRW,b3⟩;have hB3:Below wy.heap.size wy w3:=Below.nxtd (Below.refl _ _) b3;have y0:=(hB3.cell (p:=⟨Y,0,none⟩) lY).trans z0;have y1:=(hB3.cell (p:=⟨Y,1,none⟩) lY).trans z1;have y2:=(hB3.cell (p:=⟨Y,2,none⟩) lY).trans z2;have y3:=(hB3.cell (p:=⟨Y,3,none⟩) lY).trans z3;have y4:=(hB3.cell (p:=⟨Y,4,none⟩) lY).trans z4;have y5:=(hB3.cell (p:=⟨Y,5,none⟩) lY).trans z5;have hal3:Below w3.heap.size w3 (w3.alloc (.cells #[.int .i64 (i:Int),.int .i64 (k:Int),.string ev,.slice ga gn gc,.int .i64 tt,.int .i64 sp,.slice sa sn sc] 54)):=(Below.refl _ _).alloc Nat.le.refl _;have hB4:Below wy.heap.size wy (w3.alloc (.cells #[.int .i64 (i:Int),.int .i64 (k:Int),.string ev,.slice ga gn gc,.int .i64 tt,.int .i64 sp,.slice sa sn sc] 54)):=hB3.trans (hal3.mono hB3.size);have k5:=(hB3.cell (p:=⟨Tb,5,none⟩) lT).trans q5;have k5a:=(hB4.cell (p:=⟨Tb,5,none⟩) lT).trans q5;have hO3:=HOY.out.on kp_rw hB3;have hT3:=hTy.on hB3;have hs3:wl.heap.size<=w3.heap.size:=Nat.le_trans hly hB3.size)|fail)
         refine hK.out _ _ ?_ (fun hHeld=>?_)
         ·(try dsimp only);(refine ⟨?_,?_,?_,?_,?_,?_⟩<;>(repeat (with_reducible first|exact y0|exact y1|exact y2|exact y3|exact y4|exact y5|refine cellB_dr ?_|refine cellB_al ?_|refine cellB_set nY ?_))<;>done)
         clear hK K
         refine wpAnyH_ready (rs:=[7]) (by kernel_rfl) (by simp) ?_
         refine AllReadyH.cons rfl (fun K hK=>?_) AllReadyH.nil
         go_simp
         refine hK.out _ _ ?_ (fun hHeld=>?_)
         ·(try dsimp only);(refine ⟨?_,?_,?_,?_,?_,?_⟩<;>(repeat (with_reducible first|exact y0|exact y1|exact y2|exact y3|exact y4|exact y5|refine cellB_dr ?_|refine cellB_al ?_|refine cellB_set nY ?_))<;>done)
         clear hK K
         refine wpAnyH_ready (rs:=[8]) (by kernel_rfl) (by simp) ?_
         refine AllReadyH.cons rfl (fun K hK=>?_) AllReadyH.nil
         refine step_pushB w3 rfl _ _ 33 rfl wl.heap.size (fun _=>False) 54 r0 (.agg #[.int .i64 0,.int .i64 0,.string ⟨#[]⟩,.slice none 0 0,.int .i64 0,.int .i64 0,.slice none 0 0]) 7 96 Tryz.underlying33 hr hr0 hr1 hr2 rfl kp_rw (.slice rb rm rd) (acc++(rwL Nn i (onsI fl i)).take k) (i,k,ev,tt,sp) [.int .i64 (i:Int),.int .i64 (k:Int),.string ev,.slice ga gn gc,.int .i64 tt,.int .i64 sp,.slice sa sn sc] w3.heap.size rfl rfl rfl (by simp [Value.oneCell']) hO3 ⟨ga,gn,gc,sa,sn,sc,rfl⟩ hs3 (fun x hx=>(hO3.lt x hx).2) (fun b hb=>hb.elim) (by have:=HLE.out;omega) (by have:=HLE.out;unfold maxLen;omega) hs3 ?_;intro v9 w9 ho9 hg9 hb9 hat9;have hT9:=hT3.blk (hb9.block Tb hTw);obtain ⟨m5,n5⟩:=hT9 5 _ rfl;have hkY:=hg9.block Y (Nat.lt_of_lt_of_le lY hB4.size) (fun e=>by have h9:=HYL.out Y e.symm;omega);have y0:=keep_cell (p:=⟨Y,0,none⟩) hkY (cellB_al y0);have y1:=keep_cell (p:=⟨Y,1,none⟩) hkY (cellB_al y1);have y2:=keep_cell (p:=⟨Y,2,none⟩) hkY (cellB_al y2);have y3:=keep_cell (p:=⟨Y,3,none⟩) hkY (cellB_al y3);have y4:=keep_cell (p:=⟨Y,4,none⟩) hkY (cellB_al y4);have y5:=keep_cell (p:=⟨Y,5,none⟩) hkY (cellB_al y5)
         refine hK.out _ _ ?_ (fun hHeld=>?_)
         ·(try dsimp only);(refine ⟨?_,?_,?_,?_,?_,?_⟩<;>(repeat (with_reducible first|exact y0|exact y1|exact y2|exact y3|exact y4|exact y5|refine cellB_dr ?_|refine cellB_al ?_|refine cellB_set nY ?_))<;>done)
         clear hK K
         obtain ⟨a9,n9,c9,rfl⟩:∃ a n c,v9=.slice a n c:=by
          obtain ⟨a,c,h1,_⟩:=ho9.form
          exact ⟨_,_,_,h1⟩
         refine wpAnyH_take (i:=9) (oi:=_) (v:=_) rfl (by kernel_rfl) (by kernel_rfl) (by kernel_rfl) (fun _ _ _ h=>h) (Or.inl ⟨by rfl,by intro w hSw;(try dsimp only at hSw);go_simp;try (with_reducible rfl)⟩) (by assumption) ?_
         (try simp only [Act.put,List.setIfInBounds_toArray,List.set_cons_zero,List.set_cons_succ])
         refine wpAnyH_ready (rs:=[10]) (by kernel_rfl) (by simp) ?_
         refine AllReadyH.cons rfl (fun K hK=>?_) AllReadyH.nil
         go_simp
         refine hK.out _ _ ?_ (fun hHeld=>?_)
         ·(try dsimp only);(refine ⟨?_,?_,?_,?_,?_,?_⟩<;>(repeat (with_reducible first|exact y0|exact y1|exact y2|exact y3|exact y4|exact y5|refine cellB_dr ?_|refine cellB_al ?_|refine cellB_set nY ?_))<;>done)
         clear hK K
         refine wpAnyH_done (by kernel_rfl) ?_ _
         have hRc:Hid (Bn (w9.setCell ⟨Tb,5,none⟩ (.slice a9 n9 c9)) Tb [.string e0,.int .i64 e1,.slice na nn nc,.slice va vn vc,.slice (some ⟨St,0,none⟩) nn nn,.slice a9 n9 c9]):=hT9.set (i:=5) (by simp) (.slice a9 n9 c9)
         have hOc:Hid (OwnB (w9.setCell ⟨Tb,5,none⟩ (.slice a9 n9 c9)) wl.heap.size (fun _=>False) 54 7 rRw (.slice a9 n9 c9) (acc++(rwL Nn i (onsI fl i)).take (k+1))):=by
          rw [rwL_take Nn i _ k hko,HO9.out,HRW.out,<- List.append_assoc]
          exact ho9.set kp_rw (i:=5) hTw _
         have hFc:Hid (Fq Tb wl.heap.size w7.heap.size wz (w9.setCell ⟨Tb,5,none⟩ (.slice a9 n9 c9))):=((HFY.out.andB hB3 hzy).grown hb9 hal3 hg9 (fun g hg=>⟨(hO3.lt g hg).1,HGq.out g hg⟩)).setT (i:=5) (.slice a9 n9 c9)
         have hGc:Hid (∀ g,(Value.slice a9 n9 c9).ownBlock=some g->g < w7.heap.size∨wz.heap.size<=g):=fun g hg=>by
          rcases hat9 with h|h
          ·exact HGq.out g (h ▸ hg)
          ·rw [h] at hg
           have e2:=Option.some.inj hg
           have h8:=hB4.size
           omega
         clear hT3 hT9 m5 n5 ho9 hO3 hg9 hat9 hb9 hB3 hB4 hal3 b3 hkY y0 y1 y2 y3 y4 y5 k5 k5a
         (try simp only [List.getElem_toArray,List.getElem_cons_succ,List.getElem_cons_zero,List.set_cons_succ,List.set_cons_zero,List.setIfInBounds_toArray])
         go_wp2
         go_roundw
         case rel=>exact ⟨k+1,a9,n9,c9,hkl,by go_num,hRc,hOc,hFc,hGc⟩
         case measure=>simp [RowKit.intOf];omega
        ·go_simp
         refine hK.out _ _ ?_ (fun hHeld=>?_)
         ·(try dsimp only);(refine ⟨?_,?_,?_,?_,?_,?_⟩<;>(repeat (with_reducible first|exact y0|exact y1|exact y2|exact y3|exact y4|exact y5|refine cellB_dr ?_|refine cellB_al ?_|refine cellB_set nY ?_))<;>done)
         clear hK K
         refine wpAnyH_ready (rs:=[1,6]) (by kernel_rfl) (by simp) ?_
         refine AllReadyH.cons rfl (fun K hK=>?_) (AllReadyH.cons rfl (fun K hK=>?_) AllReadyH.nil)
         ·go_simp
          refine hK.out _ _ ?_ (fun hHeld=>?_)
          ·(try dsimp only);(refine ⟨?_,?_,?_,?_,?_,?_⟩<;>(repeat (with_reducible first|exact y0|exact y1|exact y2|exact y3|exact y4|exact y5|refine cellB_dr ?_|refine cellB_al ?_|refine cellB_set nY ?_))<;>done)
          clear hK K
          refine wpAnyH_ready (rs:=[6]) (by kernel_rfl) (by simp) ?_
          refine AllReadyH.cons rfl (fun K hK=>?_) AllReadyH.nil
          go_simp
          go_wp2_with (first|(go_at_call 17;(with_reducible refine (hrow _ hyd).mono ?_);rintro e w3 ⟨ga,gn,gc,sa,sn,sc,tt,sp,rfl,HRW,b3⟩;have hB3:Below wy.heap.size wy w3:=Below.nxtd (Below.refl _ _) b3;have y0:=(hB3.cell (p:=⟨Y,0,none⟩) lY).trans z0;have y1:=(hB3.cell (p:=⟨Y,1,none⟩) lY).trans z1;have y2:=(hB3.cell (p:=⟨Y,2,none⟩) lY).trans z2;have y3:=(hB3.cell (p:=⟨Y,3,none⟩) lY).trans z3;have y4:=(hB3.cell (p:=⟨Y,4,none⟩) lY).trans z4;have y5:=(hB3.cell (p:=⟨Y,5,none⟩) lY).trans z5;have hal3:Below w3.heap.size w3 (w3.alloc (.cells #[.int .i64 (i:Int),.int .i64 (k:Int),.string ev,.slice ga gn gc,.int .i64 tt,.int .i64 sp,.slice sa sn sc] 54)):=(Below.refl _ _).alloc Nat.le.refl _;have hB4:Below wy.heap.size wy (w3.alloc (.cells #[.int .i64 (i:Int),.int .i64 (k:Int),.string ev,.slice ga gn gc,.int .i64 tt,.int .i64 sp,.slice sa sn sc] 54)):=hB3.trans (hal3.mono hB3.size);have k5:=(hB3.cell (p:=⟨Tb,5,none⟩) lT).trans q5;have k5a:=(hB4.cell (p:=⟨Tb,5,none⟩) lT).trans q5;have hO3:=HOY.out.on kp_rw hB3;have hT3:=hTy.on hB3;have hs3:wl.heap.size<=w3.heap.size:=Nat.le_trans hly hB3.size)|fail)
          refine hK.out _ _ ?_ (fun hHeld=>?_)
          ·(try dsimp only);(refine ⟨?_,?_,?_,?_,?_,?_⟩<;>(repeat (with_reducible first|exact y0|exact y1|exact y2|exact y3|exact y4|exact y5|refine cellB_dr ?_|refine cellB_al ?_|refine cellB_set nY ?_))<;>done)
          clear hK K
          refine wpAnyH_ready (rs:=[7]) (by kernel_rfl) (by simp) ?_
          refine AllReadyH.cons rfl (fun K hK=>?_) AllReadyH.nil
          go_simp
          refine hK.out _ _ ?_ (fun hHeld=>?_)
          ·(try dsimp only);(refine ⟨?_,?_,?_,?_,?_,?_⟩<;>(repeat (with_reducible first|exact y0|exact y1|exact y2|exact y3|exact y4|exact y5|refine cellB_dr ?_|refine cellB_al ?_|refine cellB_set nY ?_))<;>done)
          clear hK K
          refine wpAnyH_ready (rs:=[8]) (by kernel_rfl) (by simp) ?_
          refine AllReadyH.cons rfl (fun K hK=>?_) AllReadyH.nil
          refine step_pushB w3 rfl _ _ 33 rfl wl.heap.size (fun _=>False) 54 r0 (.agg #[.int .i64 0,.int .i64 0,.string ⟨#[]⟩,.slice none 0 0,.int .i64 0,.int .i64 0,.slice none 0 0]) 7 96 Tryz.underlying33 hr hr0 hr1 hr2 rfl kp_rw (.slice rb rm rd) (acc++(rwL Nn i (onsI fl i)).take k) (i,k,ev,tt,sp) [.int .i64 (i:Int),.int .i64 (k:Int),.string ev,.slice ga gn gc,.int .i64 tt,.int .i64 sp,.slice sa sn sc] w3.heap.size rfl rfl rfl (by simp [Value.oneCell']) hO3 ⟨ga,gn,gc,sa,sn,sc,rfl⟩ hs3 (fun x hx=>(hO3.lt x hx).2) (fun b hb=>hb.elim) (by have:=HLE.out;omega) (by have:=HLE.out;unfold maxLen;omega) hs3 ?_;intro v9 w9 ho9 hg9 hb9 hat9;have hT9:=hT3.blk (hb9.block Tb hTw);obtain ⟨m5,n5⟩:=hT9 5 _ rfl;have hkY:=hg9.block Y (Nat.lt_of_lt_of_le lY hB4.size) (fun e=>by have h9:=HYL.out Y e.symm;omega);have y0:=keep_cell (p:=⟨Y,0,none⟩) hkY (cellB_al y0);have y1:=keep_cell (p:=⟨Y,1,none⟩) hkY (cellB_al y1);have y2:=keep_cell (p:=⟨Y,2,none⟩) hkY (cellB_al y2);have y3:=keep_cell (p:=⟨Y,3,none⟩) hkY (cellB_al y3);have y4:=keep_cell (p:=⟨Y,4,none⟩) hkY (cellB_al y4);have y5:=keep_cell (p:=⟨Y,5,none⟩) hkY (cellB_al y5)
          refine hK.out _ _ ?_ (fun hHeld=>?_)
          ·(try dsimp only);(refine ⟨?_,?_,?_,?_,?_,?_⟩<;>(repeat (with_reducible first|exact y0|exact y1|exact y2|exact y3|exact y4|exact y5|refine cellB_dr ?_|refine cellB_al ?_|refine cellB_set nY ?_))<;>done)
          clear hK K
          obtain ⟨a9,n9,c9,rfl⟩:∃ a n c,v9=.slice a n c:=by
           obtain ⟨a,c,h1,_⟩:=ho9.form
           exact ⟨_,_,_,h1⟩
          refine wpAnyH_take (i:=9) (oi:=_) (v:=_) rfl (by kernel_rfl) (by kernel_rfl) (by kernel_rfl) (fun _ _ _ h=>h) (Or.inl ⟨by rfl,by intro w hSw;(try dsimp only at hSw);go_simp;try (with_reducible rfl)⟩) (by assumption) ?_
          (try simp only [Act.put,List.setIfInBounds_toArray,List.set_cons_zero,List.set_cons_succ])
          refine wpAnyH_ready (rs:=[10]) (by kernel_rfl) (by simp) ?_
          refine AllReadyH.cons rfl (fun K hK=>?_) AllReadyH.nil
          go_simp
          refine hK.out _ _ ?_ (fun hHeld=>?_)
          ·(try dsimp only);(refine ⟨?_,?_,?_,?_,?_,?_⟩<;>(repeat (with_reducible first|exact y0|exact y1|exact y2|exact y3|exact y4|exact y5|refine cellB_dr ?_|refine cellB_al ?_|refine cellB_set nY ?_))<;>done)
          clear hK K
          refine wpAnyH_done (by kernel_rfl) ?_ _
          have hRc:Hid (Bn (w9.setCell ⟨Tb,5,none⟩ (.slice a9 n9 c9)) Tb [.string e0,.int .i64 e1,.slice na nn nc,.slice va vn vc,.slice (some ⟨St,0,none⟩) nn nn,.slice a9 n9 c9]):=hT9.set (i:=5) (by simp) (.slice a9 n9 c9)
          have hOc:Hid (OwnB (w9.setCell ⟨Tb,5,none⟩ (.slice a9 n9 c9)) wl.heap.size (fun _=>False) 54 7 rRw (.slice a9 n9 c9) (acc++(rwL Nn i (onsI fl i)).take (k+1))):=by
           rw [rwL_take Nn i _ k hko,HO9.out,HRW.out,<- List.append_assoc]
           exact ho9.set kp_rw (i:=5) hTw _
          have hFc:Hid (Fq Tb wl.heap.size w7.heap.size wz (w9.setCell ⟨Tb,5,none⟩ (.slice a9 n9 c9))):=((HFY.out.andB hB3 hzy).grown hb9 hal3 hg9 (fun g hg=>⟨(hO3.lt g hg).1,HGq.out g hg⟩)).setT (i:=5) (.slice a9 n9 c9)
          have hGc:Hid (∀ g,(Value.slice a9 n9 c9).ownBlock=some g->g < w7.heap.size∨wz.heap.size<=g):=fun g hg=>by
           rcases hat9 with h|h
           ·exact HGq.out g (h ▸ hg)
           ·rw [h] at hg
            have e2:=Option.some.inj hg
            have h8:=hB4.size
            omega
          clear hT3 hT9 m5 n5 ho9 hO3 hg9 hat9 hb9 hB3 hB4 hal3 b3 hkY y0 y1 y2 y3 y4 y5 k5 k5a
          (try simp only [List.getElem_toArray,List.getElem_cons_succ,List.getElem_cons_zero,List.set_cons_succ,List.set_cons_zero,List.setIfInBounds_toArray])
          go_wp2
          go_roundw
          case rel=>exact ⟨k+1,a9,n9,c9,hkl,by go_num,hRc,hOc,hFc,hGc⟩
          case measure=>simp [RowKit.intOf];omega
         ·go_simp
          go_wp2_with (first|(go_at_call 17;(with_reducible refine (hrow _ hyd).mono ?_);rintro e w3 ⟨ga,gn,gc,sa,sn,sc,tt,sp,rfl,HRW,b3⟩;have hB3:Below wy.heap.size wy w3:=Below.nxtd (Below.refl _ _) b3;have y0:=(hB3.cell (p:=⟨Y,0,none⟩) lY).trans z0;have y1:=(hB3.cell (p:=⟨Y,1,none⟩) lY).trans z1;have y2:=(hB3.cell (p:=⟨Y,2,none⟩) lY).trans z2;have y3:=(hB3.cell (p:=⟨Y,3,none⟩) lY).trans z3;have y4:=(hB3.cell (p:=⟨Y,4,none⟩) lY).trans z4;have y5:=(hB3.cell (p:=⟨Y,5,none⟩) lY).trans z5;have hal3:Below w3.heap.size w3 (w3.alloc (.cells #[.int .i64 (i:Int),.int .i64 (k:Int),.string ev,.slice ga gn gc,.int .i64 tt,.int .i64 sp,.slice sa sn sc] 54)):=(Below.refl _ _).alloc Nat.le.refl _;have hB4:Below wy.heap.size wy (w3.alloc (.cells #[.int .i64 (i:Int),.int .i64 (k:Int),.string ev,.slice ga gn gc,.int .i64 tt,.int .i64 sp,.slice sa sn sc] 54)):=hB3.trans (hal3.mono hB3.size);have k5:=(hB3.cell (p:=⟨Tb,5,none⟩) lT).trans q5;have k5a:=(hB4.cell (p:=⟨Tb,5,none⟩) lT).trans q5;have hO3:=HOY.out.on kp_rw hB3;have hT3:=hTy.on hB3;have hs3:wl.heap.size<=w3.heap.size:=Nat.le_trans hly hB3.size)|fail)
          refine hK.out _ _ ?_ (fun hHeld=>?_)
          ·(try dsimp only);(refine ⟨?_,?_,?_,?_,?_,?_⟩<;>(repeat (with_reducible first|exact y0|exact y1|exact y2|exact y3|exact y4|exact y5|refine cellB_dr ?_|refine cellB_al ?_|refine cellB_set nY ?_))<;>done)
          clear hK K
          refine wpAnyH_ready (rs:=[1,7]) (by kernel_rfl) (by simp) ?_
          refine AllReadyH.cons rfl (fun K hK=>?_) (AllReadyH.cons rfl (fun K hK=>?_) AllReadyH.nil)
          ·go_simp
           refine hK.out _ _ ?_ (fun hHeld=>?_)
           ·(try dsimp only);(refine ⟨?_,?_,?_,?_,?_,?_⟩<;>(repeat (with_reducible first|exact y0|exact y1|exact y2|exact y3|exact y4|exact y5|refine cellB_dr ?_|refine cellB_al ?_|refine cellB_set nY ?_))<;>done)
           clear hK K
           refine wpAnyH_ready (rs:=[7]) (by kernel_rfl) (by simp) ?_
           refine AllReadyH.cons rfl (fun K hK=>?_) AllReadyH.nil
           go_simp
           refine hK.out _ _ ?_ (fun hHeld=>?_)
           ·(try dsimp only);(refine ⟨?_,?_,?_,?_,?_,?_⟩<;>(repeat (with_reducible first|exact y0|exact y1|exact y2|exact y3|exact y4|exact y5|refine cellB_dr ?_|refine cellB_al ?_|refine cellB_set nY ?_))<;>done)
           clear hK K
           refine wpAnyH_ready (rs:=[8]) (by kernel_rfl) (by simp) ?_
           refine AllReadyH.cons rfl (fun K hK=>?_) AllReadyH.nil
           refine step_pushB w3 rfl _ _ 33 rfl wl.heap.size (fun _=>False) 54 r0 (.agg #[.int .i64 0,.int .i64 0,.string ⟨#[]⟩,.slice none 0 0,.int .i64 0,.int .i64 0,.slice none 0 0]) 7 96 Tryz.underlying33 hr hr0 hr1 hr2 rfl kp_rw (.slice rb rm rd) (acc++(rwL Nn i (onsI fl i)).take k) (i,k,ev,tt,sp) [.int .i64 (i:Int),.int .i64 (k:Int),.string ev,.slice ga gn gc,.int .i64 tt,.int .i64 sp,.slice sa sn sc] w3.heap.size rfl rfl rfl (by simp [Value.oneCell']) hO3 ⟨ga,gn,gc,sa,sn,sc,rfl⟩ hs3 (fun x hx=>(hO3.lt x hx).2) (fun b hb=>hb.elim) (by have:=HLE.out;omega) (by have:=HLE.out;unfold maxLen;omega) hs3 ?_;intro v9 w9 ho9 hg9 hb9 hat9;have hT9:=hT3.blk (hb9.block Tb hTw);obtain ⟨m5,n5⟩:=hT9 5 _ rfl;have hkY:=hg9.block Y (Nat.lt_of_lt_of_le lY hB4.size) (fun e=>by have h9:=HYL.out Y e.symm;omega);have y0:=keep_cell (p:=⟨Y,0,none⟩) hkY (cellB_al y0);have y1:=keep_cell (p:=⟨Y,1,none⟩) hkY (cellB_al y1);have y2:=keep_cell (p:=⟨Y,2,none⟩) hkY (cellB_al y2);have y3:=keep_cell (p:=⟨Y,3,none⟩) hkY (cellB_al y3);have y4:=keep_cell (p:=⟨Y,4,none⟩) hkY (cellB_al y4);have y5:=keep_cell (p:=⟨Y,5,none⟩) hkY (cellB_al y5)
           refine hK.out _ _ ?_ (fun hHeld=>?_)
           ·(try dsimp only);(refine ⟨?_,?_,?_,?_,?_,?_⟩<;>(repeat (with_reducible first|exact y0|exact y1|exact y2|exact y3|exact y4|exact y5|refine cellB_dr ?_|refine cellB_al ?_|refine cellB_set nY ?_))<;>done)
           clear hK K
           obtain ⟨a9,n9,c9,rfl⟩:∃ a n c,v9=.slice a n c:=by
            obtain ⟨a,c,h1,_⟩:=ho9.form
            exact ⟨_,_,_,h1⟩
           refine wpAnyH_take (i:=9) (oi:=_) (v:=_) rfl (by kernel_rfl) (by kernel_rfl) (by kernel_rfl) (fun _ _ _ h=>h) (Or.inl ⟨by rfl,by intro w hSw;(try dsimp only at hSw);go_simp;try (with_reducible rfl)⟩) (by assumption) ?_
           (try simp only [Act.put,List.setIfInBounds_toArray,List.set_cons_zero,List.set_cons_succ])
           refine wpAnyH_ready (rs:=[10]) (by kernel_rfl) (by simp) ?_
           refine AllReadyH.cons rfl (fun K hK=>?_) AllReadyH.nil
           go_simp
           refine hK.out _ _ ?_ (fun hHeld=>?_)
           ·(try dsimp only);(refine ⟨?_,?_,?_,?_,?_,?_⟩<;>(repeat (with_reducible first|exact y0|exact y1|exact y2|exact y3|exact y4|exact y5|refine cellB_dr ?_|refine cellB_al ?_|refine cellB_set nY ?_))<;>done)
           clear hK K
           refine wpAnyH_done (by kernel_rfl) ?_ _
           have hRc:Hid (Bn (w9.setCell ⟨Tb,5,none⟩ (.slice a9 n9 c9)) Tb [.string e0,.int .i64 e1,.slice na nn nc,.slice va vn vc,.slice (some ⟨St,0,none⟩) nn nn,.slice a9 n9 c9]):=hT9.set (i:=5) (by simp) (.slice a9 n9 c9)
           have hOc:Hid (OwnB (w9.setCell ⟨Tb,5,none⟩ (.slice a9 n9 c9)) wl.heap.size (fun _=>False) 54 7 rRw (.slice a9 n9 c9) (acc++(rwL Nn i (onsI fl i)).take (k+1))):=by
            rw [rwL_take Nn i _ k hko,HO9.out,HRW.out,<- List.append_assoc]
            exact ho9.set kp_rw (i:=5) hTw _
           have hFc:Hid (Fq Tb wl.heap.size w7.heap.size wz (w9.setCell ⟨Tb,5,none⟩ (.slice a9 n9 c9))):=((HFY.out.andB hB3 hzy).grown hb9 hal3 hg9 (fun g hg=>⟨(hO3.lt g hg).1,HGq.out g hg⟩)).setT (i:=5) (.slice a9 n9 c9)
           have hGc:Hid (∀ g,(Value.slice a9 n9 c9).ownBlock=some g->g < w7.heap.size∨wz.heap.size<=g):=fun g hg=>by
            rcases hat9 with h|h
            ·exact HGq.out g (h ▸ hg)
            ·rw [h] at hg
             have e2:=Option.some.inj hg
             have h8:=hB4.size
             omega
           clear hT3 hT9 m5 n5 ho9 hO3 hg9 hat9 hb9 hB3 hB4 hal3 b3 hkY y0 y1 y2 y3 y4 y5 k5 k5a
           (try simp only [List.getElem_toArray,List.getElem_cons_succ,List.getElem_cons_zero,List.set_cons_succ,List.set_cons_zero,List.setIfInBounds_toArray])
           go_wp2
           go_roundw
           case rel=>exact ⟨k+1,a9,n9,c9,hkl,by go_num,hRc,hOc,hFc,hGc⟩
           case measure=>simp [RowKit.intOf];omega
          ·go_simp
           refine hK.out _ _ ?_ (fun hHeld=>?_)
           ·(try dsimp only);(refine ⟨?_,?_,?_,?_,?_,?_⟩<;>(repeat (with_reducible first|exact y0|exact y1|exact y2|exact y3|exact y4|exact y5|refine cellB_dr ?_|refine cellB_al ?_|refine cellB_set nY ?_))<;>done)
           clear hK K
           refine wpAnyH_ready (rs:=[1]) (by kernel_rfl) (by simp) ?_
           refine AllReadyH.cons rfl (fun K hK=>?_) AllReadyH.nil
           go_simp
           refine hK.out _ _ ?_ (fun hHeld=>?_)
           ·(try dsimp only);(refine ⟨?_,?_,?_,?_,?_,?_⟩<;>(repeat (with_reducible first|exact y0|exact y1|exact y2|exact y3|exact y4|exact y5|refine cellB_dr ?_|refine cellB_al ?_|refine cellB_set nY ?_))<;>done)
           clear hK K
           refine wpAnyH_ready (rs:=[8]) (by kernel_rfl) (by simp) ?_
           refine AllReadyH.cons rfl (fun K hK=>?_) AllReadyH.nil
           refine step_pushB w3 rfl _ _ 33 rfl wl.heap.size (fun _=>False) 54 r0 (.agg #[.int .i64 0,.int .i64 0,.string ⟨#[]⟩,.slice none 0 0,.int .i64 0,.int .i64 0,.slice none 0 0]) 7 96 Tryz.underlying33 hr hr0 hr1 hr2 rfl kp_rw (.slice rb rm rd) (acc++(rwL Nn i (onsI fl i)).take k) (i,k,ev,tt,sp) [.int .i64 (i:Int),.int .i64 (k:Int),.string ev,.slice ga gn gc,.int .i64 tt,.int .i64 sp,.slice sa sn sc] w3.heap.size rfl rfl rfl (by simp [Value.oneCell']) hO3 ⟨ga,gn,gc,sa,sn,sc,rfl⟩ hs3 (fun x hx=>(hO3.lt x hx).2) (fun b hb=>hb.elim) (by have:=HLE.out;omega) (by have:=HLE.out;unfold maxLen;omega) hs3 ?_;intro v9 w9 ho9 hg9 hb9 hat9;have hT9:=hT3.blk (hb9.block Tb hTw);obtain ⟨m5,n5⟩:=hT9 5 _ rfl;have hkY:=hg9.block Y (Nat.lt_of_lt_of_le lY hB4.size) (fun e=>by have h9:=HYL.out Y e.symm;omega);have y0:=keep_cell (p:=⟨Y,0,none⟩) hkY (cellB_al y0);have y1:=keep_cell (p:=⟨Y,1,none⟩) hkY (cellB_al y1);have y2:=keep_cell (p:=⟨Y,2,none⟩) hkY (cellB_al y2);have y3:=keep_cell (p:=⟨Y,3,none⟩) hkY (cellB_al y3);have y4:=keep_cell (p:=⟨Y,4,none⟩) hkY (cellB_al y4);have y5:=keep_cell (p:=⟨Y,5,none⟩) hkY (cellB_al y5)
           refine hK.out _ _ ?_ (fun hHeld=>?_)
           ·(try dsimp only);(refine ⟨?_,?_,?_,?_,?_,?_⟩<;>(repeat (with_reducible first|exact y0|exact y1|exact y2|exact y3|exact y4|exact y5|refine cellB_dr ?_|refine cellB_al ?_|refine cellB_set nY ?_))<;>done)
           clear hK K
           obtain ⟨a9,n9,c9,rfl⟩:∃ a n c,v9=.slice a n c:=by
            obtain ⟨a,c,h1,_⟩:=ho9.form
            exact ⟨_,_,_,h1⟩
           refine wpAnyH_take (i:=9) (oi:=_) (v:=_) rfl (by kernel_rfl) (by kernel_rfl) (by kernel_rfl) (fun _ _ _ h=>h) (Or.inl ⟨by rfl,by intro w hSw;(try dsimp only at hSw);go_simp;try (with_reducible rfl)⟩) (by assumption) ?_
           (try simp only [Act.put,List.setIfInBounds_toArray,List.set_cons_zero,List.set_cons_succ])
           refine wpAnyH_ready (rs:=[10]) (by kernel_rfl) (by simp) ?_
           refine AllReadyH.cons rfl (fun K hK=>?_) AllReadyH.nil
           go_simp
           refine hK.out _ _ ?_ (fun hHeld=>?_)
           ·(try dsimp only);(refine ⟨?_,?_,?_,?_,?_,?_⟩<;>(repeat (with_reducible first|exact y0|exact y1|exact y2|exact y3|exact y4|exact y5|refine cellB_dr ?_|refine cellB_al ?_|refine cellB_set nY ?_))<;>done)
           clear hK K
           refine wpAnyH_done (by kernel_rfl) ?_ _
           have hRc:Hid (Bn (w9.setCell ⟨Tb,5,none⟩ (.slice a9 n9 c9)) Tb [.string e0,.int .i64 e1,.slice na nn nc,.slice va vn vc,.slice (some ⟨St,0,none⟩) nn nn,.slice a9 n9 c9]):=hT9.set (i:=5) (by simp) (.slice a9 n9 c9)
           have hOc:Hid (OwnB (w9.setCell ⟨Tb,5,none⟩ (.slice a9 n9 c9)) wl.heap.size (fun _=>False) 54 7 rRw (.slice a9 n9 c9) (acc++(rwL Nn i (onsI fl i)).take (k+1))):=by
            rw [rwL_take Nn i _ k hko,HO9.out,HRW.out,<- List.append_assoc]
            exact ho9.set kp_rw (i:=5) hTw _
           have hFc:Hid (Fq Tb wl.heap.size w7.heap.size wz (w9.setCell ⟨Tb,5,none⟩ (.slice a9 n9 c9))):=((HFY.out.andB hB3 hzy).grown hb9 hal3 hg9 (fun g hg=>⟨(hO3.lt g hg).1,HGq.out g hg⟩)).setT (i:=5) (.slice a9 n9 c9)
           have hGc:Hid (∀ g,(Value.slice a9 n9 c9).ownBlock=some g->g < w7.heap.size∨wz.heap.size<=g):=fun g hg=>by
            rcases hat9 with h|h
            ·exact HGq.out g (h ▸ hg)
            ·rw [h] at hg
             have e2:=Option.some.inj hg
             have h8:=hB4.size
             omega
           clear hT3 hT9 m5 n5 ho9 hO3 hg9 hat9 hb9 hB3 hB4 hal3 b3 hkY y0 y1 y2 y3 y4 y5 k5 k5a
           (try simp only [List.getElem_toArray,List.getElem_cons_succ,List.getElem_cons_zero,List.set_cons_succ,List.set_cons_zero,List.setIfInBounds_toArray])
           go_wp2
           go_roundw
           case rel=>exact ⟨k+1,a9,n9,c9,hkl,by go_num,hRc,hOc,hFc,hGc⟩
           case measure=>simp [RowKit.intOf];omega
       ·rw [hg] at hcq
        have C0:=hcq 0 _ rfl
        have C1:=hcq 1 _ rfl
        have C2:=hcq 2 _ rfl
        have C3:=hcq 3 _ rfl
        have C4:=hcq 4 _ rfl
        have C5:=hcq 5 _ rfl
        rw [Nat.add_zero] at C0
        have hal7:Below wr.heap.size wr (wr.alloc (.cells #[.string ev,.iface ug yg,.string tg,.slice s1 ns s3,.int .i64 x4,.int .i64 x5] 88)):=(Below.refl _ _).alloc Nat.le.refl _
        have hY:=Bn.new wr [.string ev,.iface ug yg,.string tg,.slice s1 ns s3,.int .i64 x4,.int .i64 x5] 88 _ rfl
        clear hcq
        go_upto_region 14 with fail
        clear C0 C1 C2 C3 C4 C5
        have hTy:=HTq.out.on hal7
        have HOY:=hidOf (HOq.out.on kp_rw hal7)
        have HFY:Hid (Fq Tb wl.heap.size w7.heap.size wz (wr.alloc (.cells #[.string ev,.iface ug yg,.string tg,.slice s1 ns s3,.int .i64 x4,.int .i64 x5] 88))):=HFq.out.andB hal7 hFqs
        have hBy:Below w1.heap.size w1 (wr.alloc (.cells #[.string ev,.iface ug yg,.string tg,.slice s1 ns s3,.int .i64 x4,.int .i64 x5] 88)):=HFY.out.bel hBz hTb (by omega) Nat.le.refl
        have HYL:Hid (∀ g,(Value.slice rb rm rd).ownBlock=some g->g < wr.heap.size):=fun g hg=>(HOq.out.lt g hg).2
        have hvy:RdV (wr.alloc (.cells #[.string ev,.iface ug yg,.string tg,.slice s1 ns s3,.int .i64 x4,.int .i64 x5] 88)) (.slice va vn vc) vs:=own_rdV (ownsRow_keep HV7.out.1 (fun g hg=>(hal7.block g (by have h1:=HV7.out.2 g hg;omega)).trans (HRB.out g hg))) HVL.out
        have hny:=HNd.out.1.on kp_nd hBy
        have hsy:RdK (fun b=>w7.heap.size<=b) (wr.alloc (.cells #[.string ev,.iface ug yg,.string tg,.slice s1 ns s3,.int .i64 x4,.int .i64 x5] 88)) 2 (rSet (fun b=>w7.heap.size<=b) (wr.alloc (.cells #[.string ev,.iface ug yg,.string tg,.slice s1 ns s3,.int .i64 x4,.int .i64 x5] 88))) o.2.2.2.1 (.slice s1 ns s3):=HSE.out.stay kp_set (fun b hb hl=>⟨hb,HFY.out.block b hl (by omega) (.inr hb)⟩)
        obtain ⟨Y,hYe⟩:∃ Y,wr.heap.size=Y:=⟨_,rfl⟩
        rw [hYe] at hY hFqs HYL ⊢
        generalize (wr.alloc (.cells #[.string ev,.iface ug yg,.string tg,.slice s1 ns s3,.int .i64 x4,.int .i64 x5] 88))=wy at *
        clear hYe hal7 HTq HOq HFq HRB
        have hzy:wz.heap.size<=wy.heap.size:=HFY.out.size
        have hly:wl.heap.size<=wy.heap.size:=Nat.le_trans hlz hzy
        have hrow:=fun W (b:Below wy.heap.size wy W)=>row_on e0 e1 na nn nc va vn vc (some ⟨St,0,none⟩) nn nn rb rm rd (hvy.below b Nat.le.refl) hvl (hny.on kp_nd b) i k hOB hg hev htg s1 ns s3 (hsy.stay kp_set (fun b' hb hl=>⟨hb,b.block b' hl⟩)) x4 x5
        have hyd:Below wy.heap.size wy wy.drew:=(Below.refl _ _).drew
        have hTw:Tb < wl.heap.size:=by omega
        have z0:=(hY 0 _ rfl).1
        have z1:=(hY 1 _ rfl).1
        have z2:=(hY 2 _ rfl).1
        have z3:=(hY 3 _ rfl).1
        have z4:=(hY 4 _ rfl).1
        have z5:=(hY 5 _ rfl).1
        have y0:=z0
        have y1:=z1
        have y2:=z2
        have y3:=z3
        have y4:=z4
        have y5:=z5
        have q0:=(hTy 0 _ rfl).1
        have q1:=(hTy 1 _ rfl).1
        have q2:=(hTy 2 _ rfl).1
        have q3:=(hTy 3 _ rfl).1
        have q4:=(hTy 4 _ rfl).1
        have q5:=(hTy 5 _ rfl).1
        have lY:=hY.lt
        have lT:=hTy.lt
        have nY:Tb≠Y:=by omega
        refine wp_region_held_drew (S:=(fun w'=>w'.cell? ⟨Y,0,none⟩=some (.string ev)/\w'.cell? ⟨Y,1,none⟩=some (.iface ug yg)/\w'.cell? ⟨Y,2,none⟩=some (.string tg)/\w'.cell? ⟨Y,3,none⟩=some (.slice s1 ns s3)/\w'.cell? ⟨Y,4,none⟩=some (.int .i64 x4)/\w'.cell? ⟨Y,5,none⟩=some (.int .i64 x5))) (by kernel_rfl) ?_ (fun hHeld=>?_)
        ·(try dsimp only);(refine ⟨?_,?_,?_,?_,?_,?_⟩<;>(repeat (with_reducible first|exact y0|exact y1|exact y2|exact y3|exact y4|exact y5|refine cellB_dr ?_|refine cellB_al ?_|refine cellB_set nY ?_))<;>done)
        refine wpAnyH_take (i:=0) (oi:=_) (v:=_) rfl (by kernel_rfl) (by kernel_rfl) (by kernel_rfl) (fun _ _ _ h=>h) (Or.inl ⟨by rfl,by intro w hSw;(try dsimp only at hSw);go_simp;try (with_reducible rfl)⟩) (by assumption) ?_
        (try simp only [Act.put,List.setIfInBounds_toArray,List.set_cons_zero,List.set_cons_succ])
        refine wpAnyH_take (i:=3) (oi:=_) (v:=_) rfl (by kernel_rfl) (by kernel_rfl) (by kernel_rfl) (fun _ _ _ h=>h) (Or.inl ⟨by rfl,by intro w hSw;(try dsimp only at hSw);go_simp;try (with_reducible rfl)⟩) (by assumption) ?_
        (try simp only [Act.put,List.setIfInBounds_toArray,List.set_cons_zero,List.set_cons_succ])
        refine wpAnyH_take (i:=4) (oi:=_) (v:=_) rfl (by kernel_rfl) (by kernel_rfl) (by kernel_rfl) (fun _ _ _ h=>h) (Or.inl ⟨by rfl,by intro w hSw;(try dsimp only at hSw);go_simp;try (with_reducible rfl)⟩) (by assumption) ?_
        (try simp only [Act.put,List.setIfInBounds_toArray,List.set_cons_zero,List.set_cons_succ])
        refine wpAnyH_take (i:=5) (oi:=_) (v:=_) rfl (by kernel_rfl) (by kernel_rfl) (by kernel_rfl) (fun _ _ _ h=>h) (Or.inl ⟨by rfl,by intro w hSw;(try dsimp only at hSw);go_simp;try (with_reducible rfl)⟩) (by assumption) ?_
        (try simp only [Act.put,List.setIfInBounds_toArray,List.set_cons_zero,List.set_cons_succ])
        refine wpAnyH_ready (rs:=[1,2]) (by kernel_rfl) (by simp) ?_
        refine AllReadyH.cons rfl (fun K hK=>?_) (AllReadyH.cons rfl (fun K hK=>?_) AllReadyH.nil)
        ·go_simp
         refine hK.out _ _ ?_ (fun hHeld=>?_)
         ·(try dsimp only);(refine ⟨?_,?_,?_,?_,?_,?_⟩<;>(repeat (with_reducible first|exact y0|exact y1|exact y2|exact y3|exact y4|exact y5|refine cellB_dr ?_|refine cellB_al ?_|refine cellB_set nY ?_))<;>done)
         clear hK K
         refine wpAnyH_ready (rs:=[2]) (by kernel_rfl) (by simp) ?_
         refine AllReadyH.cons rfl (fun K hK=>?_) AllReadyH.nil
         go_simp
         refine hK.out _ _ ?_ (fun hHeld=>?_)
         ·(try dsimp only);(refine ⟨?_,?_,?_,?_,?_,?_⟩<;>(repeat (with_reducible first|exact y0|exact y1|exact y2|exact y3|exact y4|exact y5|refine cellB_dr ?_|refine cellB_al ?_|refine cellB_set nY ?_))<;>done)
         clear hK K
         refine wpAnyH_ready (rs:=[6]) (by kernel_rfl) (by simp) ?_
         refine AllReadyH.cons rfl (fun K hK=>?_) AllReadyH.nil
         go_simp
         go_wp2_with (first|(go_at_call 17;(with_reducible refine (hrow _ hyd).mono ?_);rintro e w3 ⟨ga,gn,gc,sa,sn,sc,tt,sp,rfl,HRW,b3⟩;have hB3:Below wy.heap.size wy w3:=Below.nxtd (Below.refl _ _) b3;have y0:=(hB3.cell (p:=⟨Y,0,none⟩) lY).trans z0;have y1:=(hB3.cell (p:=⟨Y,1,none⟩) lY).trans z1;have y2:=(hB3.cell (p:=⟨Y,2,none⟩) lY).trans z2;have y3:=(hB3.cell (p:=⟨Y,3,none⟩) lY).trans z3;have y4:=(hB3.cell (p:=⟨Y,4,none⟩) lY).trans z4;have y5:=(hB3.cell (p:=⟨Y,5,none⟩) lY).trans z5;have hal3:Below w3.heap.size w3 (w3.alloc (.cells #[.int .i64 (i:Int),.int .i64 (k:Int),.string ev,.slice ga gn gc,.int .i64 tt,.int .i64 sp,.slice sa sn sc] 54)):=(Below.refl _ _).alloc Nat.le.refl _;have hB4:Below wy.heap.size wy (w3.alloc (.cells #[.int .i64 (i:Int),.int .i64 (k:Int),.string ev,.slice ga gn gc,.int .i64 tt,.int .i64 sp,.slice sa sn sc] 54)):=hB3.trans (hal3.mono hB3.size);have k5:=(hB3.cell (p:=⟨Tb,5,none⟩) lT).trans q5;have k5a:=(hB4.cell (p:=⟨Tb,5,none⟩) lT).trans q5;have hO3:=HOY.out.on kp_rw hB3;have hT3:=hTy.on hB3;have hs3:wl.heap.size<=w3.heap.size:=Nat.le_trans hly hB3.size)|fail)
         refine hK.out _ _ ?_ (fun hHeld=>?_)
         ·(try dsimp only);(refine ⟨?_,?_,?_,?_,?_,?_⟩<;>(repeat (with_reducible first|exact y0|exact y1|exact y2|exact y3|exact y4|exact y5|refine cellB_dr ?_|refine cellB_al ?_|refine cellB_set nY ?_))<;>done)
         clear hK K
         refine wpAnyH_ready (rs:=[7]) (by kernel_rfl) (by simp) ?_
         refine AllReadyH.cons rfl (fun K hK=>?_) AllReadyH.nil
         go_simp
         refine hK.out _ _ ?_ (fun hHeld=>?_)
         ·(try dsimp only);(refine ⟨?_,?_,?_,?_,?_,?_⟩<;>(repeat (with_reducible first|exact y0|exact y1|exact y2|exact y3|exact y4|exact y5|refine cellB_dr ?_|refine cellB_al ?_|refine cellB_set nY ?_))<;>done)
         clear hK K
         refine wpAnyH_ready (rs:=[8]) (by kernel_rfl) (by simp) ?_
         refine AllReadyH.cons rfl (fun K hK=>?_) AllReadyH.nil
         refine step_pushB w3 rfl _ _ 33 rfl wl.heap.size (fun _=>False) 54 r0 (.agg #[.int .i64 0,.int .i64 0,.string ⟨#[]⟩,.slice none 0 0,.int .i64 0,.int .i64 0,.slice none 0 0]) 7 96 Tryz.underlying33 hr hr0 hr1 hr2 rfl kp_rw (.slice rb rm rd) (acc++(rwL Nn i (onsI fl i)).take k) (i,k,ev,tt,sp) [.int .i64 (i:Int),.int .i64 (k:Int),.string ev,.slice ga gn gc,.int .i64 tt,.int .i64 sp,.slice sa sn sc] w3.heap.size rfl rfl rfl (by simp [Value.oneCell']) hO3 ⟨ga,gn,gc,sa,sn,sc,rfl⟩ hs3 (fun x hx=>(hO3.lt x hx).2) (fun b hb=>hb.elim) (by have:=HLE.out;omega) (by have:=HLE.out;unfold maxLen;omega) hs3 ?_;intro v9 w9 ho9 hg9 hb9 hat9;have hT9:=hT3.blk (hb9.block Tb hTw);obtain ⟨m5,n5⟩:=hT9 5 _ rfl;have hkY:=hg9.block Y (Nat.lt_of_lt_of_le lY hB4.size) (fun e=>by have h9:=HYL.out Y e.symm;omega);have y0:=keep_cell (p:=⟨Y,0,none⟩) hkY (cellB_al y0);have y1:=keep_cell (p:=⟨Y,1,none⟩) hkY (cellB_al y1);have y2:=keep_cell (p:=⟨Y,2,none⟩) hkY (cellB_al y2);have y3:=keep_cell (p:=⟨Y,3,none⟩) hkY (cellB_al y3);have y4:=keep_cell (p:=⟨Y,4,none⟩) hkY (cellB_al y4);have y5:=keep_cell (p:=⟨Y,5,none⟩) hkY (cellB_al y5)
         refine hK.out _ _ ?_ (fun hHeld=>?_)
         ·(try dsimp only);(refine ⟨?_,?_,?_,?_,?_,?_⟩<;>(repeat (with_reducible first|exact y0|exact y1|exact y2|exact y3|exact y4|exact y5|refine cellB_dr ?_|refine cellB_al ?_|refine cellB_set nY ?_))<;>done)
         clear hK K
         obtain ⟨a9,n9,c9,rfl⟩:∃ a n c,v9=.slice a n c:=by
          obtain ⟨a,c,h1,_⟩:=ho9.form
          exact ⟨_,_,_,h1⟩
         refine wpAnyH_take (i:=9) (oi:=_) (v:=_) rfl (by kernel_rfl) (by kernel_rfl) (by kernel_rfl) (fun _ _ _ h=>h) (Or.inl ⟨by rfl,by intro w hSw;(try dsimp only at hSw);go_simp;try (with_reducible rfl)⟩) (by assumption) ?_
         (try simp only [Act.put,List.setIfInBounds_toArray,List.set_cons_zero,List.set_cons_succ])
         refine wpAnyH_ready (rs:=[10]) (by kernel_rfl) (by simp) ?_
         refine AllReadyH.cons rfl (fun K hK=>?_) AllReadyH.nil
         go_simp
         refine hK.out _ _ ?_ (fun hHeld=>?_)
         ·(try dsimp only);(refine ⟨?_,?_,?_,?_,?_,?_⟩<;>(repeat (with_reducible first|exact y0|exact y1|exact y2|exact y3|exact y4|exact y5|refine cellB_dr ?_|refine cellB_al ?_|refine cellB_set nY ?_))<;>done)
         clear hK K
         refine wpAnyH_done (by kernel_rfl) ?_ _
         have hRc:Hid (Bn (w9.setCell ⟨Tb,5,none⟩ (.slice a9 n9 c9)) Tb [.string e0,.int .i64 e1,.slice na nn nc,.slice va vn vc,.slice (some ⟨St,0,none⟩) nn nn,.slice a9 n9 c9]):=hT9.set (i:=5) (by simp) (.slice a9 n9 c9)
         have hOc:Hid (OwnB (w9.setCell ⟨Tb,5,none⟩ (.slice a9 n9 c9)) wl.heap.size (fun _=>False) 54 7 rRw (.slice a9 n9 c9) (acc++(rwL Nn i (onsI fl i)).take (k+1))):=by
          rw [rwL_take Nn i _ k hko,HO9.out,HRW.out,<- List.append_assoc]
          exact ho9.set kp_rw (i:=5) hTw _
         have hFc:Hid (Fq Tb wl.heap.size w7.heap.size wz (w9.setCell ⟨Tb,5,none⟩ (.slice a9 n9 c9))):=((HFY.out.andB hB3 hzy).grown hb9 hal3 hg9 (fun g hg=>⟨(hO3.lt g hg).1,HGq.out g hg⟩)).setT (i:=5) (.slice a9 n9 c9)
         have hGc:Hid (∀ g,(Value.slice a9 n9 c9).ownBlock=some g->g < w7.heap.size∨wz.heap.size<=g):=fun g hg=>by
          rcases hat9 with h|h
          ·exact HGq.out g (h ▸ hg)
          ·rw [h] at hg
           have e2:=Option.some.inj hg
           have h8:=hB4.size
           omega
         clear hT3 hT9 m5 n5 ho9 hO3 hg9 hat9 hb9 hB3 hB4 hal3 b3 hkY y0 y1 y2 y3 y4 y5 k5 k5a
         (try simp only [List.getElem_toArray,List.getElem_cons_succ,List.getElem_cons_zero,List.set_cons_succ,List.set_cons_zero,List.setIfInBounds_toArray])
         go_wp2
         go_roundw
         case rel=>exact ⟨k+1,a9,n9,c9,hkl,by go_num,hRc,hOc,hFc,hGc⟩
         case measure=>simp [RowKit.intOf];omega
        ·go_simp
         refine hK.out _ _ ?_ (fun hHeld=>?_)
         ·(try dsimp only);(refine ⟨?_,?_,?_,?_,?_,?_⟩<;>(repeat (with_reducible first|exact y0|exact y1|exact y2|exact y3|exact y4|exact y5|refine cellB_dr ?_|refine cellB_al ?_|refine cellB_set nY ?_))<;>done)
         clear hK K
         refine wpAnyH_ready (rs:=[1,6]) (by kernel_rfl) (by simp) ?_
         refine AllReadyH.cons rfl (fun K hK=>?_) (AllReadyH.cons rfl (fun K hK=>?_) AllReadyH.nil)
         ·go_simp
          refine hK.out _ _ ?_ (fun hHeld=>?_)
          ·(try dsimp only);(refine ⟨?_,?_,?_,?_,?_,?_⟩<;>(repeat (with_reducible first|exact y0|exact y1|exact y2|exact y3|exact y4|exact y5|refine cellB_dr ?_|refine cellB_al ?_|refine cellB_set nY ?_))<;>done)
          clear hK K
          refine wpAnyH_ready (rs:=[6]) (by kernel_rfl) (by simp) ?_
          refine AllReadyH.cons rfl (fun K hK=>?_) AllReadyH.nil
          go_simp
          go_wp2_with (first|(go_at_call 17;(with_reducible refine (hrow _ hyd).mono ?_);rintro e w3 ⟨ga,gn,gc,sa,sn,sc,tt,sp,rfl,HRW,b3⟩;have hB3:Below wy.heap.size wy w3:=Below.nxtd (Below.refl _ _) b3;have y0:=(hB3.cell (p:=⟨Y,0,none⟩) lY).trans z0;have y1:=(hB3.cell (p:=⟨Y,1,none⟩) lY).trans z1;have y2:=(hB3.cell (p:=⟨Y,2,none⟩) lY).trans z2;have y3:=(hB3.cell (p:=⟨Y,3,none⟩) lY).trans z3;have y4:=(hB3.cell (p:=⟨Y,4,none⟩) lY).trans z4;have y5:=(hB3.cell (p:=⟨Y,5,none⟩) lY).trans z5;have hal3:Below w3.heap.size w3 (w3.alloc (.cells #[.int .i64 (i:Int),.int .i64 (k:Int),.string ev,.slice ga gn gc,.int .i64 tt,.int .i64 sp,.slice sa sn sc] 54)):=(Below.refl _ _).alloc Nat.le.refl _;have hB4:Below wy.heap.size wy (w3.alloc (.cells #[.int .i64 (i:Int),.int .i64 (k:Int),.string ev,.slice ga gn gc,.int .i64 tt,.int .i64 sp,.slice sa sn sc] 54)):=hB3.trans (hal3.mono hB3.size);have k5:=(hB3.cell (p:=⟨Tb,5,none⟩) lT).trans q5;have k5a:=(hB4.cell (p:=⟨Tb,5,none⟩) lT).trans q5;have hO3:=HOY.out.on kp_rw hB3;have hT3:=hTy.on hB3;have hs3:wl.heap.size<=w3.heap.size:=Nat.le_trans hly hB3.size)|fail)
          refine hK.out _ _ ?_ (fun hHeld=>?_)
          ·(try dsimp only);(refine ⟨?_,?_,?_,?_,?_,?_⟩<;>(repeat (with_reducible first|exact y0|exact y1|exact y2|exact y3|exact y4|exact y5|refine cellB_dr ?_|refine cellB_al ?_|refine cellB_set nY ?_))<;>done)
          clear hK K
          refine wpAnyH_ready (rs:=[7]) (by kernel_rfl) (by simp) ?_
          refine AllReadyH.cons rfl (fun K hK=>?_) AllReadyH.nil
          go_simp
          refine hK.out _ _ ?_ (fun hHeld=>?_)
          ·(try dsimp only);(refine ⟨?_,?_,?_,?_,?_,?_⟩<;>(repeat (with_reducible first|exact y0|exact y1|exact y2|exact y3|exact y4|exact y5|refine cellB_dr ?_|refine cellB_al ?_|refine cellB_set nY ?_))<;>done)
          clear hK K
          refine wpAnyH_ready (rs:=[8]) (by kernel_rfl) (by simp) ?_
          refine AllReadyH.cons rfl (fun K hK=>?_) AllReadyH.nil
          refine step_pushB w3 rfl _ _ 33 rfl wl.heap.size (fun _=>False) 54 r0 (.agg #[.int .i64 0,.int .i64 0,.string ⟨#[]⟩,.slice none 0 0,.int .i64 0,.int .i64 0,.slice none 0 0]) 7 96 Tryz.underlying33 hr hr0 hr1 hr2 rfl kp_rw (.slice rb rm rd) (acc++(rwL Nn i (onsI fl i)).take k) (i,k,ev,tt,sp) [.int .i64 (i:Int),.int .i64 (k:Int),.string ev,.slice ga gn gc,.int .i64 tt,.int .i64 sp,.slice sa sn sc] w3.heap.size rfl rfl rfl (by simp [Value.oneCell']) hO3 ⟨ga,gn,gc,sa,sn,sc,rfl⟩ hs3 (fun x hx=>(hO3.lt x hx).2) (fun b hb=>hb.elim) (by have:=HLE.out;omega) (by have:=HLE.out;unfold maxLen;omega) hs3 ?_;intro v9 w9 ho9 hg9 hb9 hat9;have hT9:=hT3.blk (hb9.block Tb hTw);obtain ⟨m5,n5⟩:=hT9 5 _ rfl;have hkY:=hg9.block Y (Nat.lt_of_lt_of_le lY hB4.size) (fun e=>by have h9:=HYL.out Y e.symm;omega);have y0:=keep_cell (p:=⟨Y,0,none⟩) hkY (cellB_al y0);have y1:=keep_cell (p:=⟨Y,1,none⟩) hkY (cellB_al y1);have y2:=keep_cell (p:=⟨Y,2,none⟩) hkY (cellB_al y2);have y3:=keep_cell (p:=⟨Y,3,none⟩) hkY (cellB_al y3);have y4:=keep_cell (p:=⟨Y,4,none⟩) hkY (cellB_al y4);have y5:=keep_cell (p:=⟨Y,5,none⟩) hkY (cellB_al y5)
          refine hK.out _ _ ?_ (fun hHeld=>?_)
          ·(try dsimp only);(refine ⟨?_,?_,?_,?_,?_,?_⟩<;>(repeat (with_reducible first|exact y0|exact y1|exact y2|exact y3|exact y4|exact y5|refine cellB_dr ?_|refine cellB_al ?_|refine cellB_set nY ?_))<;>done)
          clear hK K
          obtain ⟨a9,n9,c9,rfl⟩:∃ a n c,v9=.slice a n c:=by
           obtain ⟨a,c,h1,_⟩:=ho9.form
           exact ⟨_,_,_,h1⟩
          refine wpAnyH_take (i:=9) (oi:=_) (v:=_) rfl (by kernel_rfl) (by kernel_rfl) (by kernel_rfl) (fun _ _ _ h=>h) (Or.inl ⟨by rfl,by intro w hSw;(try dsimp only at hSw);go_simp;try (with_reducible rfl)⟩) (by assumption) ?_
          (try simp only [Act.put,List.setIfInBounds_toArray,List.set_cons_zero,List.set_cons_succ])
          refine wpAnyH_ready (rs:=[10]) (by kernel_rfl) (by simp) ?_
          refine AllReadyH.cons rfl (fun K hK=>?_) AllReadyH.nil
          go_simp
          refine hK.out _ _ ?_ (fun hHeld=>?_)
          ·(try dsimp only);(refine ⟨?_,?_,?_,?_,?_,?_⟩<;>(repeat (with_reducible first|exact y0|exact y1|exact y2|exact y3|exact y4|exact y5|refine cellB_dr ?_|refine cellB_al ?_|refine cellB_set nY ?_))<;>done)
          clear hK K
          refine wpAnyH_done (by kernel_rfl) ?_ _
          have hRc:Hid (Bn (w9.setCell ⟨Tb,5,none⟩ (.slice a9 n9 c9)) Tb [.string e0,.int .i64 e1,.slice na nn nc,.slice va vn vc,.slice (some ⟨St,0,none⟩) nn nn,.slice a9 n9 c9]):=hT9.set (i:=5) (by simp) (.slice a9 n9 c9)
          have hOc:Hid (OwnB (w9.setCell ⟨Tb,5,none⟩ (.slice a9 n9 c9)) wl.heap.size (fun _=>False) 54 7 rRw (.slice a9 n9 c9) (acc++(rwL Nn i (onsI fl i)).take (k+1))):=by
           rw [rwL_take Nn i _ k hko,HO9.out,HRW.out,<- List.append_assoc]
           exact ho9.set kp_rw (i:=5) hTw _
          have hFc:Hid (Fq Tb wl.heap.size w7.heap.size wz (w9.setCell ⟨Tb,5,none⟩ (.slice a9 n9 c9))):=((HFY.out.andB hB3 hzy).grown hb9 hal3 hg9 (fun g hg=>⟨(hO3.lt g hg).1,HGq.out g hg⟩)).setT (i:=5) (.slice a9 n9 c9)
          have hGc:Hid (∀ g,(Value.slice a9 n9 c9).ownBlock=some g->g < w7.heap.size∨wz.heap.size<=g):=fun g hg=>by
           rcases hat9 with h|h
           ·exact HGq.out g (h ▸ hg)
           ·rw [h] at hg
            have e2:=Option.some.inj hg
            have h8:=hB4.size
            omega
          clear hT3 hT9 m5 n5 ho9 hO3 hg9 hat9 hb9 hB3 hB4 hal3 b3 hkY y0 y1 y2 y3 y4 y5 k5 k5a
          (try simp only [List.getElem_toArray,List.getElem_cons_succ,List.getElem_cons_zero,List.set_cons_succ,List.set_cons_zero,List.setIfInBounds_toArray])
          go_wp2
          go_roundw
          case rel=>exact ⟨k+1,a9,n9,c9,hkl,by go_num,hRc,hOc,hFc,hGc⟩
          case measure=>simp [RowKit.intOf];omega
         ·go_simp
          go_wp2_with (first|(go_at_call 17;(with_reducible refine (hrow _ hyd).mono ?_);rintro e w3 ⟨ga,gn,gc,sa,sn,sc,tt,sp,rfl,HRW,b3⟩;have hB3:Below wy.heap.size wy w3:=Below.nxtd (Below.refl _ _) b3;have y0:=(hB3.cell (p:=⟨Y,0,none⟩) lY).trans z0;have y1:=(hB3.cell (p:=⟨Y,1,none⟩) lY).trans z1;have y2:=(hB3.cell (p:=⟨Y,2,none⟩) lY).trans z2;have y3:=(hB3.cell (p:=⟨Y,3,none⟩) lY).trans z3;have y4:=(hB3.cell (p:=⟨Y,4,none⟩) lY).trans z4;have y5:=(hB3.cell (p:=⟨Y,5,none⟩) lY).trans z5;have hal3:Below w3.heap.size w3 (w3.alloc (.cells #[.int .i64 (i:Int),.int .i64 (k:Int),.string ev,.slice ga gn gc,.int .i64 tt,.int .i64 sp,.slice sa sn sc] 54)):=(Below.refl _ _).alloc Nat.le.refl _;have hB4:Below wy.heap.size wy (w3.alloc (.cells #[.int .i64 (i:Int),.int .i64 (k:Int),.string ev,.slice ga gn gc,.int .i64 tt,.int .i64 sp,.slice sa sn sc] 54)):=hB3.trans (hal3.mono hB3.size);have k5:=(hB3.cell (p:=⟨Tb,5,none⟩) lT).trans q5;have k5a:=(hB4.cell (p:=⟨Tb,5,none⟩) lT).trans q5;have hO3:=HOY.out.on kp_rw hB3;have hT3:=hTy.on hB3;have hs3:wl.heap.size<=w3.heap.size:=Nat.le_trans hly hB3.size)|fail)
          refine hK.out _ _ ?_ (fun hHeld=>?_)
          ·(try dsimp only);(refine ⟨?_,?_,?_,?_,?_,?_⟩<;>(repeat (with_reducible first|exact y0|exact y1|exact y2|exact y3|exact y4|exact y5|refine cellB_dr ?_|refine cellB_al ?_|refine cellB_set nY ?_))<;>done)
          clear hK K
          refine wpAnyH_ready (rs:=[1,7]) (by kernel_rfl) (by simp) ?_
          refine AllReadyH.cons rfl (fun K hK=>?_) (AllReadyH.cons rfl (fun K hK=>?_) AllReadyH.nil)
          ·go_simp
           refine hK.out _ _ ?_ (fun hHeld=>?_)
           ·(try dsimp only);(refine ⟨?_,?_,?_,?_,?_,?_⟩<;>(repeat (with_reducible first|exact y0|exact y1|exact y2|exact y3|exact y4|exact y5|refine cellB_dr ?_|refine cellB_al ?_|refine cellB_set nY ?_))<;>done)
           clear hK K
           refine wpAnyH_ready (rs:=[7]) (by kernel_rfl) (by simp) ?_
           refine AllReadyH.cons rfl (fun K hK=>?_) AllReadyH.nil
           go_simp
           refine hK.out _ _ ?_ (fun hHeld=>?_)
           ·(try dsimp only);(refine ⟨?_,?_,?_,?_,?_,?_⟩<;>(repeat (with_reducible first|exact y0|exact y1|exact y2|exact y3|exact y4|exact y5|refine cellB_dr ?_|refine cellB_al ?_|refine cellB_set nY ?_))<;>done)
           clear hK K
           refine wpAnyH_ready (rs:=[8]) (by kernel_rfl) (by simp) ?_
           refine AllReadyH.cons rfl (fun K hK=>?_) AllReadyH.nil
           refine step_pushB w3 rfl _ _ 33 rfl wl.heap.size (fun _=>False) 54 r0 (.agg #[.int .i64 0,.int .i64 0,.string ⟨#[]⟩,.slice none 0 0,.int .i64 0,.int .i64 0,.slice none 0 0]) 7 96 Tryz.underlying33 hr hr0 hr1 hr2 rfl kp_rw (.slice rb rm rd) (acc++(rwL Nn i (onsI fl i)).take k) (i,k,ev,tt,sp) [.int .i64 (i:Int),.int .i64 (k:Int),.string ev,.slice ga gn gc,.int .i64 tt,.int .i64 sp,.slice sa sn sc] w3.heap.size rfl rfl rfl (by simp [Value.oneCell']) hO3 ⟨ga,gn,gc,sa,sn,sc,rfl⟩ hs3 (fun x hx=>(hO3.lt x hx).2) (fun b hb=>hb.elim) (by have:=HLE.out;omega) (by have:=HLE.out;unfold maxLen;omega) hs3 ?_;intro v9 w9 ho9 hg9 hb9 hat9;have hT9:=hT3.blk (hb9.block Tb hTw);obtain ⟨m5,n5⟩:=hT9 5 _ rfl;have hkY:=hg9.block Y (Nat.lt_of_lt_of_le lY hB4.size) (fun e=>by have h9:=HYL.out Y e.symm;omega);have y0:=keep_cell (p:=⟨Y,0,none⟩) hkY (cellB_al y0);have y1:=keep_cell (p:=⟨Y,1,none⟩) hkY (cellB_al y1);have y2:=keep_cell (p:=⟨Y,2,none⟩) hkY (cellB_al y2);have y3:=keep_cell (p:=⟨Y,3,none⟩) hkY (cellB_al y3);have y4:=keep_cell (p:=⟨Y,4,none⟩) hkY (cellB_al y4);have y5:=keep_cell (p:=⟨Y,5,none⟩) hkY (cellB_al y5)
           refine hK.out _ _ ?_ (fun hHeld=>?_)
           ·(try dsimp only);(refine ⟨?_,?_,?_,?_,?_,?_⟩<;>(repeat (with_reducible first|exact y0|exact y1|exact y2|exact y3|exact y4|exact y5|refine cellB_dr ?_|refine cellB_al ?_|refine cellB_set nY ?_))<;>done)
           clear hK K
           obtain ⟨a9,n9,c9,rfl⟩:∃ a n c,v9=.slice a n c:=by
            obtain ⟨a,c,h1,_⟩:=ho9.form
            exact ⟨_,_,_,h1⟩
           refine wpAnyH_take (i:=9) (oi:=_) (v:=_) rfl (by kernel_rfl) (by kernel_rfl) (by kernel_rfl) (fun _ _ _ h=>h) (Or.inl ⟨by rfl,by intro w hSw;(try dsimp only at hSw);go_simp;try (with_reducible rfl)⟩) (by assumption) ?_
           (try simp only [Act.put,List.setIfInBounds_toArray,List.set_cons_zero,List.set_cons_succ])
           refine wpAnyH_ready (rs:=[10]) (by kernel_rfl) (by simp) ?_
           refine AllReadyH.cons rfl (fun K hK=>?_) AllReadyH.nil
           go_simp
           refine hK.out _ _ ?_ (fun hHeld=>?_)
           ·(try dsimp only);(refine ⟨?_,?_,?_,?_,?_,?_⟩<;>(repeat (with_reducible first|exact y0|exact y1|exact y2|exact y3|exact y4|exact y5|refine cellB_dr ?_|refine cellB_al ?_|refine cellB_set nY ?_))<;>done)
           clear hK K
           refine wpAnyH_done (by kernel_rfl) ?_ _
           have hRc:Hid (Bn (w9.setCell ⟨Tb,5,none⟩ (.slice a9 n9 c9)) Tb [.string e0,.int .i64 e1,.slice na nn nc,.slice va vn vc,.slice (some ⟨St,0,none⟩) nn nn,.slice a9 n9 c9]):=hT9.set (i:=5) (by simp) (.slice a9 n9 c9)
           have hOc:Hid (OwnB (w9.setCell ⟨Tb,5,none⟩ (.slice a9 n9 c9)) wl.heap.size (fun _=>False) 54 7 rRw (.slice a9 n9 c9) (acc++(rwL Nn i (onsI fl i)).take (k+1))):=by
            rw [rwL_take Nn i _ k hko,HO9.out,HRW.out,<- List.append_assoc]
            exact ho9.set kp_rw (i:=5) hTw _
           have hFc:Hid (Fq Tb wl.heap.size w7.heap.size wz (w9.setCell ⟨Tb,5,none⟩ (.slice a9 n9 c9))):=((HFY.out.andB hB3 hzy).grown hb9 hal3 hg9 (fun g hg=>⟨(hO3.lt g hg).1,HGq.out g hg⟩)).setT (i:=5) (.slice a9 n9 c9)
           have hGc:Hid (∀ g,(Value.slice a9 n9 c9).ownBlock=some g->g < w7.heap.size∨wz.heap.size<=g):=fun g hg=>by
            rcases hat9 with h|h
            ·exact HGq.out g (h ▸ hg)
            ·rw [h] at hg
             have e2:=Option.some.inj hg
             have h8:=hB4.size
             omega
           clear hT3 hT9 m5 n5 ho9 hO3 hg9 hat9 hb9 hB3 hB4 hal3 b3 hkY y0 y1 y2 y3 y4 y5 k5 k5a
           (try simp only [List.getElem_toArray,List.getElem_cons_succ,List.getElem_cons_zero,List.set_cons_succ,List.set_cons_zero,List.setIfInBounds_toArray])
           go_wp2
           go_roundw
           case rel=>exact ⟨k+1,a9,n9,c9,hkl,by go_num,hRc,hOc,hFc,hGc⟩
           case measure=>simp [RowKit.intOf];omega
          ·go_simp
           refine hK.out _ _ ?_ (fun hHeld=>?_)
           ·(try dsimp only);(refine ⟨?_,?_,?_,?_,?_,?_⟩<;>(repeat (with_reducible first|exact y0|exact y1|exact y2|exact y3|exact y4|exact y5|refine cellB_dr ?_|refine cellB_al ?_|refine cellB_set nY ?_))<;>done)
           clear hK K
           refine wpAnyH_ready (rs:=[1]) (by kernel_rfl) (by simp) ?_
           refine AllReadyH.cons rfl (fun K hK=>?_) AllReadyH.nil
           go_simp
           refine hK.out _ _ ?_ (fun hHeld=>?_)
           ·(try dsimp only);(refine ⟨?_,?_,?_,?_,?_,?_⟩<;>(repeat (with_reducible first|exact y0|exact y1|exact y2|exact y3|exact y4|exact y5|refine cellB_dr ?_|refine cellB_al ?_|refine cellB_set nY ?_))<;>done)
           clear hK K
           refine wpAnyH_ready (rs:=[8]) (by kernel_rfl) (by simp) ?_
           refine AllReadyH.cons rfl (fun K hK=>?_) AllReadyH.nil
           refine step_pushB w3 rfl _ _ 33 rfl wl.heap.size (fun _=>False) 54 r0 (.agg #[.int .i64 0,.int .i64 0,.string ⟨#[]⟩,.slice none 0 0,.int .i64 0,.int .i64 0,.slice none 0 0]) 7 96 Tryz.underlying33 hr hr0 hr1 hr2 rfl kp_rw (.slice rb rm rd) (acc++(rwL Nn i (onsI fl i)).take k) (i,k,ev,tt,sp) [.int .i64 (i:Int),.int .i64 (k:Int),.string ev,.slice ga gn gc,.int .i64 tt,.int .i64 sp,.slice sa sn sc] w3.heap.size rfl rfl rfl (by simp [Value.oneCell']) hO3 ⟨ga,gn,gc,sa,sn,sc,rfl⟩ hs3 (fun x hx=>(hO3.lt x hx).2) (fun b hb=>hb.elim) (by have:=HLE.out;omega) (by have:=HLE.out;unfold maxLen;omega) hs3 ?_;intro v9 w9 ho9 hg9 hb9 hat9;have hT9:=hT3.blk (hb9.block Tb hTw);obtain ⟨m5,n5⟩:=hT9 5 _ rfl;have hkY:=hg9.block Y (Nat.lt_of_lt_of_le lY hB4.size) (fun e=>by have h9:=HYL.out Y e.symm;omega);have y0:=keep_cell (p:=⟨Y,0,none⟩) hkY (cellB_al y0);have y1:=keep_cell (p:=⟨Y,1,none⟩) hkY (cellB_al y1);have y2:=keep_cell (p:=⟨Y,2,none⟩) hkY (cellB_al y2);have y3:=keep_cell (p:=⟨Y,3,none⟩) hkY (cellB_al y3);have y4:=keep_cell (p:=⟨Y,4,none⟩) hkY (cellB_al y4);have y5:=keep_cell (p:=⟨Y,5,none⟩) hkY (cellB_al y5)
           refine hK.out _ _ ?_ (fun hHeld=>?_)
           ·(try dsimp only);(refine ⟨?_,?_,?_,?_,?_,?_⟩<;>(repeat (with_reducible first|exact y0|exact y1|exact y2|exact y3|exact y4|exact y5|refine cellB_dr ?_|refine cellB_al ?_|refine cellB_set nY ?_))<;>done)
           clear hK K
           obtain ⟨a9,n9,c9,rfl⟩:∃ a n c,v9=.slice a n c:=by
            obtain ⟨a,c,h1,_⟩:=ho9.form
            exact ⟨_,_,_,h1⟩
           refine wpAnyH_take (i:=9) (oi:=_) (v:=_) rfl (by kernel_rfl) (by kernel_rfl) (by kernel_rfl) (fun _ _ _ h=>h) (Or.inl ⟨by rfl,by intro w hSw;(try dsimp only at hSw);go_simp;try (with_reducible rfl)⟩) (by assumption) ?_
           (try simp only [Act.put,List.setIfInBounds_toArray,List.set_cons_zero,List.set_cons_succ])
           refine wpAnyH_ready (rs:=[10]) (by kernel_rfl) (by simp) ?_
           refine AllReadyH.cons rfl (fun K hK=>?_) AllReadyH.nil
           go_simp
           refine hK.out _ _ ?_ (fun hHeld=>?_)
           ·(try dsimp only);(refine ⟨?_,?_,?_,?_,?_,?_⟩<;>(repeat (with_reducible first|exact y0|exact y1|exact y2|exact y3|exact y4|exact y5|refine cellB_dr ?_|refine cellB_al ?_|refine cellB_set nY ?_))<;>done)
           clear hK K
           refine wpAnyH_done (by kernel_rfl) ?_ _
           have hRc:Hid (Bn (w9.setCell ⟨Tb,5,none⟩ (.slice a9 n9 c9)) Tb [.string e0,.int .i64 e1,.slice na nn nc,.slice va vn vc,.slice (some ⟨St,0,none⟩) nn nn,.slice a9 n9 c9]):=hT9.set (i:=5) (by simp) (.slice a9 n9 c9)
           have hOc:Hid (OwnB (w9.setCell ⟨Tb,5,none⟩ (.slice a9 n9 c9)) wl.heap.size (fun _=>False) 54 7 rRw (.slice a9 n9 c9) (acc++(rwL Nn i (onsI fl i)).take (k+1))):=by
            rw [rwL_take Nn i _ k hko,HO9.out,HRW.out,<- List.append_assoc]
            exact ho9.set kp_rw (i:=5) hTw _
           have hFc:Hid (Fq Tb wl.heap.size w7.heap.size wz (w9.setCell ⟨Tb,5,none⟩ (.slice a9 n9 c9))):=((HFY.out.andB hB3 hzy).grown hb9 hal3 hg9 (fun g hg=>⟨(hO3.lt g hg).1,HGq.out g hg⟩)).setT (i:=5) (.slice a9 n9 c9)
           have hGc:Hid (∀ g,(Value.slice a9 n9 c9).ownBlock=some g->g < w7.heap.size∨wz.heap.size<=g):=fun g hg=>by
            rcases hat9 with h|h
            ·exact HGq.out g (h ▸ hg)
            ·rw [h] at hg
             have e2:=Option.some.inj hg
             have h8:=hB4.size
             omega
           clear hT3 hT9 m5 n5 ho9 hO3 hg9 hat9 hb9 hB3 hB4 hal3 b3 hkY y0 y1 y2 y3 y4 y5 k5 k5a
           (try simp only [List.getElem_toArray,List.getElem_cons_succ,List.getElem_cons_zero,List.set_cons_succ,List.set_cons_zero,List.setIfInBounds_toArray])
           go_wp2
           go_roundw
           case rel=>exact ⟨k+1,a9,n9,c9,hkl,by go_num,hRc,hOc,hFc,hGc⟩
           case measure=>simp [RowKit.intOf];omega
      ·have i7:¬ (k:Int) < (m:Int):=by omega
       have hfull:(rwL Nn i (onsI fl i)).take k=rwL Nn i (onsI fl i):=List.take_of_length_le (by rw [rwL_len,HML.out];omega)
       rw [hfull,<- HACC.out] at HOq
       have HFe:Hid (Fy Tb St wl wr):=⟨HFq.out.os.trans HFz.out.os,HFq.out.tape.trans HFz.out.tape,HFq.out.output.trans HFz.out.output,Nat.le_trans hlz hFqs,fun b hb h1 h2=>(HFq.out.block b (by omega) h1 (.inl hb)).trans (HFz.out.block b hb h1 h2)⟩
       have HCe:Hid (∃ cs:List Value,cs.length=nn*4/\Bn wr St cs):=by
        obtain ⟨cs,h1,h2⟩:=HCz.out
        exact ⟨cs,h1,h2.blk (HFq.out.block St (by omega) (by omega) (.inl (by omega)))⟩
       go_wp2
       go_roundw
       case rel=>exact ⟨j+1,rb,rm,rd,hlt,by go_num,HTq,HOq,HCe,HFe⟩
       case measure=>simp [RowKit.intOf];omega
    ·have i1:¬ (j:Int) < (om:Int):=by omega
     have hfull:ord.take j=ord:=List.take_of_length_le (by rw [HOL.out];omega)
     rw [hfull] at HOr
     have hRt:=HR1.out.on hbr
     have hTt:=HTr.out
     obtain ⟨m0,o0⟩:=hRt 0 _ rfl
     obtain ⟨m1,o1⟩:=hRt 1 _ rfl
     obtain ⟨m2,o2⟩:=hRt 2 _ rfl
     obtain ⟨m3,o3⟩:=hRt 3 _ rfl
     obtain ⟨m4,o4⟩:=hRt 4 _ rfl
     obtain ⟨m5,o5⟩:=hRt 5 _ rfl
     have r0:=(hTt 0 _ rfl).1
     have r1:=(hTt 1 _ rfl).1
     have r2:=(hTt 2 _ rfl).1
     have r3:=(hTt 3 _ rfl).1
     have r4:=(hTt 4 _ rfl).1
     have r5:=(hTt 5 _ rfl).1
     have hrn:rn=(rwsA Nn fl ord).length:=by
      obtain ⟨_,_,he,_⟩:=HOr.out.form
      simp only [Value.slice.injEq] at he
      exact he.2.1
     have hfin:=(((((((hRt).set (i:=0) (by simp) (.string e0)).set (i:=1) (by simp) (.int .i64 e1)).set (i:=2) (by simp) (.slice na nn nc)).set (i:=3) (by simp) (.slice va vn vc)).set (i:=4) (by simp) (.slice (some ⟨St,0,none⟩) nn nn)).set (i:=5) (by simp) (.slice ra rn rc))
     have hbz:=putL_below [.string e0,.int .i64 e1,.slice na nn nc,.slice va vn vc,.slice (some ⟨St,0,none⟩) nn nn,.slice ra rn rc] wr (w.heap.size+1) 0 (hb1.trans (hbr.mono hb1.size)) (by omega)
     have HQZ:Hid (Q w.heap.size (putL wr (w.heap.size+1) 0 [.string e0,.int .i64 e1,.slice na nn nc,.slice va vn vc,.slice (some ⟨St,0,none⟩) nn nn,.slice ra rn rc]) 0 (.slice na nn nc) (.slice ra rn rc) rn):=by
      show Q _ _ _ _ _ _
      rw [HQ.out]
      refine .inl ⟨rfl,HqR.out.1,HNd.out.2,HqR.out.2,?_,ord,HDP.out,?_⟩
      ·exact HNd.out.1.stay kp_nd (fun b hb hl=>⟨by omega,(putL_heap [.string e0,.int .i64 e1,.slice na nn nc,.slice va vn vc,.slice (some ⟨St,0,none⟩) nn nn,.slice ra rn rc] wr (w.heap.size+1) 0 b (by omega)).trans (hbr.block b hl)⟩)
      ·exact (HOr.out.rd kp_rw).stay kp_rw (fun b hb hl=>⟨by omega,putL_heap [.string e0,.int .i64 e1,.slice na nn nc,.slice va vn vc,.slice (some ⟨St,0,none⟩) nn nn,.slice ra rn rc] wr (w.heap.size+1) 0 b (by omega)⟩)
     clear hrn
     go_wp2
     exact bodyPost_ret (make_res hfin rfl rfl) rfl ⟨_,_,_,_,_,_,_,_,_,_,_,_,_,_,_,rfl,HQZ,hbz⟩
