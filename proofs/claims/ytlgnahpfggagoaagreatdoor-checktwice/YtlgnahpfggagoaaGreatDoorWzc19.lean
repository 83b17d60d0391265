import Derived.Test.YtlgnahpfggagoaaGreatDoorWzc12
import Derived.Test.YtlgnahpfggagoaaGreatDoorWzc18
import Derived.Test.YtlgnahpfggagoaaGreatDoorWzc02
import Derived.Test.YtlgnahpfggagoaaGreatDoorWzc01
import Derived.Test.YtlgnahpfggagoaaGreatDoorRows
import Derived.Deep.Slices
import Derived.ProofKit
import Derived.OpenShut
import Derived.ShutString
import Derived.ChangeOld
import Derived.SizedLaws
import Derived.Below
import Derived.Test.YtlgnahpfggagoaaGreatDoorWzc03
import Derived.BigQuiet
import Derived.Deep.QuietTactic
import Derived.BigRegion
import Derived.Shelf.Unicode.DecodeSlow
import Derived.Deep.RegionHeldLaw
import Derived.Deep.DeepCutAuto
import Derived.Test.YtlgnahpfggagoaaGreatDoorWzc04
import Derived.Test.YtlgnahpfggagoaaGreatDoorWzc15
import Derived.Deep.RegionLaw
import Derived.Deep.CutBlock
/- Compile of the text of awake. -/
namespace Go.Proofs.YtlgnahpfggagoaaGreatDoor
open Go.RowKit Go.Lib
set_option linter.unusedSimpArgs false
set_option linter.unusedVariables false
attribute [local go_sem ↓] Go.wp_at_zero Go.wp_at_succ
def akT:List UInt8:=[99,104,97,114,116,32,97,32,49,32,123,32,115,116,97,116,101,32,98,32,123,32,100,111,32,120,32,117,110,100,111,32,121,32,97,116,32,48,32,114,101,116,114,105,101,115,32,48,32,111,110,32,100,111,110,101,32,103,111,32,98,32,125,32,125]
set_option maxRecDepth 100000 in
theorem ak_ok:(readC akT).2=((0,0),0):=by kernel_rfl
set_option maxRecDepth 100000 in
theorem ak_ck:(ckC (readC akT).1).2=17:=by kernel_rfl
theorem cmp_res {w:World}{X Q:Nat}{a b q:Int}{tmps:Array Value}(hX:Bn w X [.string ⟨#[]⟩,.int .i64 0,.int .i64 0,.int .i64 0,.slice none 0 0,.slice none 0 0]) (hQ:Bn w Q [.int .i64 a,.int .i64 b]) (t2:tmps.getD 2 undef=.pointer (some ⟨X,0,none⟩)) (t3:tmps.getD 3 undef=.pointer (some ⟨Q,0,none⟩)) (t4:tmps.getD 4 undef=.int .i64 q):(results Tryz.f11 tmps).run Tryz.prog w=.ok (.tuple #[.agg #[.string ⟨#[]⟩,.int .i64 0,.int .i64 0,.int .i64 0,.slice none 0 0,.slice none 0 0],.agg #[.int .i64 a,.int .i64 b],.int .i64 q]) w:=by
 have t2':tmps[2]?.getD undef=.pointer (some ⟨X,0,none⟩):=by simpa using t2
 have t3':tmps[3]?.getD undef=.pointer (some ⟨Q,0,none⟩):=by simpa using t3
 have t4':tmps[4]?.getD undef=.int .i64 q:=by simpa using t4
 have c0:=(hX 0 _ rfl).1
 have c1:=(hX 1 _ rfl).1
 have c2:=(hX 2 _ rfl).1
 have c3:=(hX 3 _ rfl).1
 have c4:=(hX 4 _ rfl).1
 have c5:=(hX 5 _ rfl).1
 have d0:=(hQ 0 _ rfl).1
 have d1:=(hQ 1 _ rfl).1
 simp [results,Tryz.results11,go_sem,t2',t3',t4',c0,c1,c2,c3,c4,c5,d0,d1]
set_option maxRecDepth 100000 in
set_option maxHeartbeats 4000000 in
theorem compileK {w:World}(hE:Esy w) (hp:Pow w) (T:ByteArray) (hT:bl T=akT) (hTs:T.size≤140737488351232):Calls Tryz.prog 11 #[.string T] w fun e w'=>∃ u1 u2,e=.returned (.tuple #[.agg #[.string ⟨#[]⟩,.int .i64 0,.int .i64 0,.int .i64 0,.slice none 0 0,.slice none 0 0],.agg #[.int .i64 u1,.int .i64 u2],.int .i64 17])∧Below w.heap.size w w':=by
 have h1:=fun w1 (b:Below w.heap.size w w1)=>readP_any T w1 (hE.on b) hTs
 rw [hT] at h1
 have hz:(readC akT).2.2=0:=by rw [ak_ok]
 obtain ⟨hcf,hcl⟩:=read_formed hz
 have hok:=read_chok akT
 have hck:=chK_of hcf hcl
 have h3:=ak_ck
 have hP:=ak_ok
 obtain ⟨⟨CC,PP⟩,hR⟩:∃ x,readC akT=x:=⟨_,rfl⟩
 rw [hR] at h1 hok hck h3 hP
 simp only at hP h3 hok hck
 subst hP
 simp only at h1
 have h2:=fun (ok:Nat→Prop) (w1:World) v (h:RdC ok w1 7 CC v) (hl:∀ b,ok b→b < w1.heap.size) (hp1:Pow w1)=>check_any h hl hok.fo hck hp1 (fsOk_of hok hck)
 rw [h3] at h2
 obtain ⟨a1,ha1⟩:∃ x,(ckC CC).1.1=x:=⟨_,rfl⟩
 obtain ⟨a2,ha2⟩:∃ x,(ckC CC).1.2=x:=⟨_,rfl⟩
 rw [ha1,ha2] at h2
 have h4:∀ w0,Below w.heap.size w w0→Calls Tryz.prog 18 #[.string T] w0 fun e w'=>∃ nv vn ln co va vl vc sa sl sc,e=.returned (.tuple #[.agg #[.string nv,.int .i64 vn,.int .i64 ln,.int .i64 co,.slice va vl vc,.slice sa sl sc],.agg #[.int .i64 0,.int .i64 0],.int .i64 0])∧Hid (RdC (fun b=>b < w'.heap.size) w' 7 CC (.agg #[.string nv,.int .i64 vn,.int .i64 ln,.int .i64 co,.slice va vl vc,.slice sa sl sc]))∧Below w0.heap.size w0 w':=fun w0 b0=>(h1 w0 b0).mono (fun e w' hh=>by
  obtain ⟨v,rfl,hv,hb⟩:=hh
  have hv2:=hv
  obtain ⟨sv,ss,rfl,hv1,hs1⟩:=hv2
  obtain ⟨va,vc,rfl,_⟩:=hv1.form
  obtain ⟨sa,sc,rfl,_⟩:=hs1.form
  exact ⟨_,_,_,_,va,_,vc,sa,_,sc,rfl,mkHid (hv.keep (fun b hb' hl=>⟨hl,rfl⟩)),hb⟩)
 clear h1 hcf hcl hok hck h3 hR hz ha1 ha2 hT hTs
 have hal:Below w.heap.size w ((w.alloc (.cells #[.string ⟨#[]⟩,.int .i64 0,.int .i64 0,.int .i64 0,.slice none 0 0,.slice none 0 0] 34)).alloc (.cells #[.int .i64 0,.int .i64 0] 23)):=((Below.refl _ _).alloc (Nat.le_refl _) _).alloc (by simp) _
 have hX:Bn ((w.alloc (.cells #[.string ⟨#[]⟩,.int .i64 0,.int .i64 0,.int .i64 0,.slice none 0 0,.slice none 0 0] 34)).alloc (.cells #[.int .i64 0,.int .i64 0] 23)) w.heap.size [.string ⟨#[]⟩,.int .i64 0,.int .i64 0,.int .i64 0,.slice none 0 0,.slice none 0 0]:=(Bn.new w [.string ⟨#[]⟩,.int .i64 0,.int .i64 0,.int .i64 0,.slice none 0 0,.slice none 0 0] 34 _ rfl).on ((Below.refl _ _).alloc (Nat.le_refl _) _)
 have hQ:Bn ((w.alloc (.cells #[.string ⟨#[]⟩,.int .i64 0,.int .i64 0,.int .i64 0,.slice none 0 0,.slice none 0 0] 34)).alloc (.cells #[.int .i64 0,.int .i64 0] 23)) (w.heap.size+1) [.int .i64 0,.int .i64 0]:=Bn.new _ [.int .i64 0,.int .i64 0] 23 (w.heap.size+1) (by simp)
 go_enter Tryz.func11,Tryz.ntmps11
 go_upto_region 1 with fail
 generalize ((w.alloc (.cells #[.string ⟨#[]⟩,.int .i64 0,.int .i64 0,.int .i64 0,.slice none 0 0,.slice none 0 0] 34)).alloc (.cells #[.int .i64 0,.int .i64 0] 23))=wx at *
 go_upto_region 3 with (first
  | (go_at_call 18;refine (h4 _ hal).mono ?_;rintro e w1 ⟨nv,vn,ln,co,va,vl,vc,sa,sl,sc,rfl,HV,b1⟩)
  | fail)
 have hal1:Below w1.heap.size w1 ((w1.alloc (.cells #[.string nv,.int .i64 vn,.int .i64 ln,.int .i64 co,.slice va vl vc,.slice sa sl sc] 34)).alloc (.cells #[.int .i64 0,.int .i64 0] 23)):=((Below.refl _ _).alloc (Nat.le_refl _) _).alloc (by simp) _
 have hY:Bn ((w1.alloc (.cells #[.string nv,.int .i64 vn,.int .i64 ln,.int .i64 co,.slice va vl vc,.slice sa sl sc] 34)).alloc (.cells #[.int .i64 0,.int .i64 0] 23)) w1.heap.size [.string nv,.int .i64 vn,.int .i64 ln,.int .i64 co,.slice va vl vc,.slice sa sl sc]:=(Bn.new w1 [.string nv,.int .i64 vn,.int .i64 ln,.int .i64 co,.slice va vl vc,.slice sa sl sc] 34 _ rfl).on ((Below.refl _ _).alloc (Nat.le_refl _) _)
 have hV2:=HV.out.keep (ok':=fun b=>b < w1.heap.size) (w':=((w1.alloc (.cells #[.string nv,.int .i64 vn,.int .i64 ln,.int .i64 co,.slice va vl vc,.slice sa sl sc] 34)).alloc (.cells #[.int .i64 0,.int .i64 0] 23))) (fun b hb hl=>⟨hb,hal1.block b hl⟩)
 have hb1:=hal.trans (b1.mono hal.size)
 have hb2:=hb1.trans (hal1.mono hb1.size)
 have hX1:=(hX.on b1).on hal1
 have hQ1:=(hQ.on b1).on hal1
 have hlt:=hQ.on b1 |>.lt
 have hc:=h2 _ _ _ hV2 (fun b hb=>Nat.lt_of_lt_of_le hb hal1.size) (hp.below hb2)
 generalize ((w1.alloc (.cells #[.string nv,.int .i64 vn,.int .i64 ln,.int .i64 co,.slice va vl vc,.slice sa sl sc] 34)).alloc (.cells #[.int .i64 0,.int .i64 0] 23))=w2 at *
 clear h2 h4 HV hV2 hal hX hQ hal1 b1 hb1 hp hE
 obtain ⟨x0,_⟩:=hY 0 _ rfl
 obtain ⟨x1,_⟩:=hY 1 _ rfl
 obtain ⟨x2,_⟩:=hY 2 _ rfl
 obtain ⟨x3,_⟩:=hY 3 _ rfl
 obtain ⟨x4,_⟩:=hY 4 _ rfl
 obtain ⟨x5,_⟩:=hY 5 _ rfl
 go_upto_region 6 with (first
  | (go_at_call 10;refine hc.mono ?_;rintro e w3 ⟨rfl,b3⟩)
  | fail)
 have al6:Below w3.heap.size w3 (w3.alloc (.cells #[.int .i64 a1,.int .i64 a2] 23)):=(Below.refl _ _).alloc (Nat.le_refl _) _
 have h6P:Bn (w3.alloc (.cells #[.int .i64 a1,.int .i64 a2] 23)) w3.heap.size [.int .i64 a1,.int .i64 a2]:=Bn.new w3 [.int .i64 a1,.int .i64 a2] 23 _ rfl
 have h6X:=(hX1.on b3).on al6
 have h6Q:=(hQ1.on b3).on al6
 have hq3:=(hQ1.on b3).lt
 have hb6:Below w.heap.size w (w3.alloc (.cells #[.int .i64 a1,.int .i64 a2] 23)):=(hb2.trans (b3.mono hb2.size)).trans (al6.mono (Nat.le_trans hb2.size b3.size))
 clear hc hY hX1 hQ1 hb2 x0 x1 x2 x3 x4 x5 al6 b3
 generalize w3.alloc (.cells #[.int .i64 a1,.int .i64 a2] 23)=wz at *
 obtain ⟨Z,hZZ⟩:∃ Z,w3.heap.size=Z:=⟨_,rfl⟩
 rw [hZZ] at h6P hq3 ⊢
 have n1:Z≠w.heap.size:=by omega
 have n2:Z≠w.heap.size+1:=by omega
 have nXQ:w.heap.size≠w.heap.size+1:=by omega
 have nQX:w.heap.size+1≠w.heap.size:=by omega
 obtain ⟨p0,_⟩:=h6P 0 _ rfl
 obtain ⟨p1,_⟩:=h6P 1 _ rfl
 have HX:Hid (Bn (((((((((wz.setCell ⟨w.heap.size,0,none⟩ (.string ⟨#[]⟩)).setCell ⟨w.heap.size,1,none⟩ (.int .i64 0)).setCell ⟨w.heap.size,2,none⟩ (.int .i64 0)).setCell ⟨w.heap.size,3,none⟩ (.int .i64 0)).setCell ⟨w.heap.size,4,none⟩ (.slice none 0 0)).setCell ⟨w.heap.size,5,none⟩ (.slice none 0 0)).setCell ⟨w.heap.size+1,0,none⟩ (.int .i64 a1)).setCell ⟨w.heap.size+1,1,none⟩ (.int .i64 a2)).drew) w.heap.size [.string ⟨#[]⟩,.int .i64 0,.int .i64 0,.int .i64 0,.slice none 0 0,.slice none 0 0]):=mkHid (((((((((h6X.set (i:=0) (by simp) (.string ⟨#[]⟩)).set (i:=1) (by simp) (.int .i64 0)).set (i:=2) (by simp) (.int .i64 0)).set (i:=3) (by simp) (.int .i64 0)).set (i:=4) (by simp) (.slice none 0 0)).set (i:=5) (by simp) (.slice none 0 0)).far (i:=0) nQX (.int .i64 a1)).far (i:=1) nQX (.int .i64 a2)).drew)
 have HQ:Hid (Bn (((((((((wz.setCell ⟨w.heap.size,0,none⟩ (.string ⟨#[]⟩)).setCell ⟨w.heap.size,1,none⟩ (.int .i64 0)).setCell ⟨w.heap.size,2,none⟩ (.int .i64 0)).setCell ⟨w.heap.size,3,none⟩ (.int .i64 0)).setCell ⟨w.heap.size,4,none⟩ (.slice none 0 0)).setCell ⟨w.heap.size,5,none⟩ (.slice none 0 0)).setCell ⟨w.heap.size+1,0,none⟩ (.int .i64 a1)).setCell ⟨w.heap.size+1,1,none⟩ (.int .i64 a2)).drew) (w.heap.size+1) [.int .i64 a1,.int .i64 a2]):=mkHid (((((((((h6Q.far (i:=0) nXQ (.string ⟨#[]⟩)).far (i:=1) nXQ (.int .i64 0)).far (i:=2) nXQ (.int .i64 0)).far (i:=3) nXQ (.int .i64 0)).far (i:=4) nXQ (.slice none 0 0)).far (i:=5) nXQ (.slice none 0 0)).set (i:=0) (by simp) (.int .i64 a1)).set (i:=1) (by simp) (.int .i64 a2)).drew)
 have HB:Hid (Below w.heap.size w (((((((((wz.setCell ⟨w.heap.size,0,none⟩ (.string ⟨#[]⟩)).setCell ⟨w.heap.size,1,none⟩ (.int .i64 0)).setCell ⟨w.heap.size,2,none⟩ (.int .i64 0)).setCell ⟨w.heap.size,3,none⟩ (.int .i64 0)).setCell ⟨w.heap.size,4,none⟩ (.slice none 0 0)).setCell ⟨w.heap.size,5,none⟩ (.slice none 0 0)).setCell ⟨w.heap.size+1,0,none⟩ (.int .i64 a1)).setCell ⟨w.heap.size+1,1,none⟩ (.int .i64 a2)).drew)):=mkHid (putL_below [.int .i64 a1,.int .i64 a2] _ (w.heap.size+1) 0 (putL_below [.string ⟨#[]⟩,.int .i64 0,.int .i64 0,.int .i64 0,.slice none 0 0,.slice none 0 0] wz w.heap.size 0 hb6 (Nat.le_refl _)) (by omega)).drew
 obtain ⟨u0,f0⟩:=h6X 0 _ rfl
 obtain ⟨u1,f1⟩:=h6X 1 _ rfl
 obtain ⟨u2,f2⟩:=h6X 2 _ rfl
 obtain ⟨u3,f3⟩:=h6X 3 _ rfl
 obtain ⟨u4,f4⟩:=h6X 4 _ rfl
 obtain ⟨u5,f5⟩:=h6X 5 _ rfl
 obtain ⟨v0,g0⟩:=h6Q 0 _ rfl
 obtain ⟨v1,g1⟩:=h6Q 1 _ rfl
 clear h6X h6Q h6P hb6 hZZ hlt hq3
 go_region_held_law (fun w'=>w'.cell? ⟨Z,0,none⟩=some (.int .i64 a1)∧w'.cell? ⟨Z,1,none⟩=some (.int .i64 a2))
  ((refine ⟨?_,?_⟩ <;> (repeat (first | (with_reducible exact p0) | (with_reducible exact p1) | (with_reducible refine cell_dr ?_) | (with_reducible refine cell_far4 (ne_pt n1) ?_) | (with_reducible refine cell_far4 (ne_pt n2) ?_))) <;> done))
  (fail)
 generalize ((((((((wz.setCell ⟨w.heap.size,0,none⟩ (.string ⟨#[]⟩)).setCell ⟨w.heap.size,1,none⟩ (.int .i64 0)).setCell ⟨w.heap.size,2,none⟩ (.int .i64 0)).setCell ⟨w.heap.size,3,none⟩ (.int .i64 0)).setCell ⟨w.heap.size,4,none⟩ (.slice none 0 0)).setCell ⟨w.heap.size,5,none⟩ (.slice none 0 0)).setCell ⟨w.heap.size+1,0,none⟩ (.int .i64 a1)).setCell ⟨w.heap.size+1,1,none⟩ (.int .i64 a2)).drew=wd at *
 clear u0 u1 u2 u3 u4 u5 v0 v1 f0 f1 f2 f3 f4 f5 g0 g1 p0 p1
 go_wp2
 exact bodyPost_ret (cmp_res HX.out HQ.out rfl rfl rfl) rfl ⟨_,_,rfl,HB.out⟩
def akC:ChG 1:=(([97],(0,0)),0,[],[((([98],(0,0)),(false,true),([],[]),(0,0),[]),[])])
theorem akC_ck:(ckC akC).2=0:=by kernel_rfl
theorem akC_k:ChK 1 akC:=⟨by decide,fun x hx=>(by cases hx),fun t ht=>by
 rw [List.mem_singleton.1 ht]
 exact ⟨⟨by decide,by decide,by decide,fun o ho=>(by cases ho)⟩,fun x hx=>Empty.elim x⟩⟩
theorem akC_ok:ChOk 1 akC:=⟨by decide,by decide,fun x hx=>(by cases hx),⟨by decide,fun t ht=>by
 rw [List.mem_singleton.1 ht]
 exact ⟨⟨by decide,by decide,by decide,by decide,fun o ho=>(by cases ho)⟩,by decide,fun x hx=>Empty.elim x⟩⟩,by decide⟩
theorem akC_rd (w:World):RdC (fun b=>b < (w.alloc (.cells #[.string ⟨#[98]⟩,.int .i64 0,.int .i64 0,.bool false,.bool true,.string ⟨#[]⟩,.string ⟨#[]⟩,.int .i64 0,.int .i64 0,.slice none 0 0,.slice none 0 0] 57)).heap.size) (w.alloc (.cells #[.string ⟨#[98]⟩,.int .i64 0,.int .i64 0,.bool false,.bool true,.string ⟨#[]⟩,.string ⟨#[]⟩,.int .i64 0,.int .i64 0,.slice none 0 0,.slice none 0 0] 57)) 1 akC (.agg #[.string ⟨#[97]⟩,.int .i64 0,.int .i64 0,.int .i64 0,.slice none 0 0,.slice (some ⟨w.heap.size,0,none⟩) 1 1]):=by
 have hX:Bn (w.alloc (.cells #[.string ⟨#[98]⟩,.int .i64 0,.int .i64 0,.bool false,.bool true,.string ⟨#[]⟩,.string ⟨#[]⟩,.int .i64 0,.int .i64 0,.slice none 0 0,.slice none 0 0] 57)) w.heap.size [.string ⟨#[98]⟩,.int .i64 0,.int .i64 0,.bool false,.bool true,.string ⟨#[]⟩,.string ⟨#[]⟩,.int .i64 0,.int .i64 0,.slice none 0 0,.slice none 0 0]:=Bn.new w [.string ⟨#[98]⟩,.int .i64 0,.int .i64 0,.bool false,.bool true,.string ⟨#[]⟩,.string ⟨#[]⟩,.int .i64 0,.int .i64 0,.slice none 0 0,.slice none 0 0] 57 _ rfl
 refine ⟨_,_,rfl,rdK_none _ _ _ _,some ⟨w.heap.size,0,none⟩,1,rfl,by decide,by decide,fun i hi=>?_⟩
 have hi0:i=0:=by
  have:i < 1:=hi
  omega
 subst hi0
 refine ⟨w.heap.size,0,[.string ⟨#[98]⟩,.int .i64 0,.int .i64 0,.bool false,.bool true,.string ⟨#[]⟩,.string ⟨#[]⟩,.int .i64 0,.int .i64 0,.slice none 0 0,.slice none 0 0],rfl,hX.lt,hX.lt,rfl,⟨_,_,rfl,rdK_none _ _ _ _,rdK_none _ _ _ _⟩,fun j u hu=>?_⟩
 have:=(hX j u hu).1
 simpa using this
set_option maxRecDepth 100000 in
set_option maxHeartbeats 1000000 in
theorem awakeK (w:World) (hE:Esy w) (hp:Pow w):Calls Tryz.prog 5 #[] w fun e w'=>e=.returned (.bool true)∧Below w.heap.size w w':=by
 have h1:=compileK hE hp ⟨#[99,104,97,114,116,32,97,32,49,32,123,32,115,116,97,116,101,32,98,32,123,32,100,111,32,120,32,117,110,100,111,32,121,32,97,116,32,48,32,114,101,116,114,105,101,115,32,48,32,111,110,32,100,111,110,101,32,103,111,32,98,32,125,32,125]⟩ rfl (by decide)
 have hal:=fun w:World=>show Below w.heap.size w (w.alloc (.cells #[.string ⟨#[98]⟩,.int .i64 0,.int .i64 0,.bool false,.bool true,.string ⟨#[]⟩,.string ⟨#[]⟩,.int .i64 0,.int .i64 0,.slice none 0 0,.slice none 0 0] 57)) from (Below.refl _ _).alloc (Nat.le_refl _) _
 have h2:=fun (w:World) (hp:Pow w)=>rightC_any (akC_rd w) (fun b hb=>hb) akC_ok akC_k (hp.below (hal w))
 rw [akC_ck] at h2
 have hA:=fun (w1:World) o1 o2=>show Below w1.heap.size w1 ((w1.alloc o1).alloc o2) from ((Below.refl _ _).alloc (Nat.le_refl _) _).alloc (by simp) _
 have fin:∀ W,Below w.heap.size w W→∀ w2,Below (W.alloc (.cells #[.string ⟨#[98]⟩,.int .i64 0,.int .i64 0,.bool false,.bool true,.string ⟨#[]⟩,.string ⟨#[]⟩,.int .i64 0,.int .i64 0,.slice none 0 0,.slice none 0 0] 57)).heap.size (W.alloc (.cells #[.string ⟨#[98]⟩,.int .i64 0,.int .i64 0,.bool false,.bool true,.string ⟨#[]⟩,.string ⟨#[]⟩,.int .i64 0,.int .i64 0,.slice none 0 0,.slice none 0 0] 57)) w2→Below w.heap.size w w2:=fun W hW w2 b2=>(hW.trans ((hal W).mono hW.size)).trans (b2.mono (hW.trans ((hal W).mono hW.size)).size)
 go_enter Tryz.func5,Tryz.ntmps5
 go_upto_region 2 with (first
  | (go_at_call 11;refine h1.mono ?_;rintro e w1 ⟨u1,u2,rfl,b1⟩)
  | fail)
 have hw:=b1.trans ((hA w1 (.cells #[.string ⟨#[]⟩,.int .i64 0,.int .i64 0,.int .i64 0,.slice none 0 0,.slice none 0 0] 34) (.cells #[.int .i64 u1,.int .i64 u2] 23)).mono b1.size)
 clear h1 hA
 generalize (w1.alloc (.cells #[.string ⟨#[]⟩,.int .i64 0,.int .i64 0,.int .i64 0,.slice none 0 0,.slice none 0 0] 34)).alloc (.cells #[.int .i64 u1,.int .i64 u2] 23)=W at *
 have h3:=h2 W (hp.below hw)
 have f3:=mkHid (fin W hw)
 clear h2 fin hp hE b1 hal hw
 go_wp2_with (first
  | (go_at_call 7;refine h3.mono ?_;rintro e w2 ⟨rfl,b2⟩)
  | fail)
 go_ret
 exact ⟨rfl,f3.out _ b2⟩
end Go.Proofs.YtlgnahpfggagoaaGreatDoor
/- Variables in memory; what an expression's value is. -/
namespace Go.Proofs.YtlgnahpfggagoaaGreatDoor
open Go.RowKit Go.Lib
set_option linter.unusedSimpArgs false
set_option linter.unusedVariables false
end Go.Proofs.YtlgnahpfggagoaaGreatDoor
/- Arguments that are trees of nodes, or lists of variables, opened. -/
namespace Go.Proofs.YtlgnahpfggagoaaGreatDoor
open Go.ChangeShapes Go.WideShapes Go.ChangeAt Go.RowKit
set_option linter.unusedSimpArgs false
set_option linter.unusedVariables false
theorem half2 (g:Nat):(g+2) / 2=g / 2+1:=by omega
theorem pick {α:Type}{p:Nat→α→Prop}:∀ (n:Nat),(∀ i,i < n→∃ a,p i a)→∃ l:List α,l.length=n∧∀ (i:Nat) (h:i < l.length),p i l[i]
 | 0,_=>⟨[],rfl,fun i h=>absurd h (by simp)⟩
 | n+1,H=>by
  obtain ⟨l,hl,hp⟩:=pick n (fun i hi=>H i (by omega))
  obtain ⟨a,ha⟩:=H n (by omega)
  refine ⟨l++[a],by simp [hl],fun i h=>?_⟩
  rcases Nat.lt_or_ge i l.length with hi | hi
  ·rw [List.getElem_append_left hi];exact hp i hi
  ·have:i=n:=by simp at h;omega
   subst this
   have e:(l++[a])[i]'h=a:=by simp [← hl]
   rw [e];exact ha
set_option maxRecDepth 100000 in
theorem open_node {H:Type}{enc:TypeId × Value→H}{W:World}:∀ (m fuel:Nat),fuel≤m→∀ {cs:List Value}{x:DataW H × List MemPlace},DataW.trod enc Tryz.prog W 0 (fun _=>true) true fuel 45 cs=some x→
  ∃ (d:Nat) (t:T d) (c0 c1 c2 c3:Value),d=fuel / 2∧cs=[c0,c1,c2,c3]∧RdT (fun _=>True) W d t (.agg #[c0,c1,c2,c3])
 | 0,fuel,hf,cs,x,h=>by
  obtain rfl:fuel=0:=by omega
  simp [DataW.trod] at h
 | m+1,fuel,hf,cs,x,h=>by
  obtain ⟨xs,n,rfl,rfl,hl,hlen,hfd⟩:=DataW.trod_struct Tryz.underlying45 h
  have hc:Tryz.prog.cellsOf 45=4:=by kernel_rfl
  have cI:Tryz.prog.cellsOf 3=1:=by kernel_rfl
  have cL:Tryz.prog.cellsOf 2=1:=by kernel_rfl
  have c9:Tryz.prog.cellsOf 9=1:=by kernel_rfl
  have cP:Tryz.prog.cellsOf 43=1:=by kernel_rfl
  rw [hc] at hl
  have f0:DataW.trod enc Tryz.prog W 0 (fun _=>true) true n 3 ((cs.drop 0).take (Tryz.prog.cellsOf 3))=xs[0]?:=hfd 0 _ rfl
  have f1:DataW.trod enc Tryz.prog W 0 (fun _=>true) true n 2 ((cs.drop 1).take (Tryz.prog.cellsOf 2))=xs[1]?:=hfd 1 _ rfl
  have f2:DataW.trod enc Tryz.prog W 0 (fun _=>true) true n 9 ((cs.drop 2).take (Tryz.prog.cellsOf 9))=xs[2]?:=hfd 2 _ rfl
  have f3:DataW.trod enc Tryz.prog W 0 (fun _=>true) true n 43 ((cs.drop 3).take (Tryz.prog.cellsOf 43))=xs[3]?:=hfd 3 _ rfl
  rw [cI] at f0
  rw [cL] at f1
  rw [c9] at f2
  rw [cP] at f3
  match cs,hl,xs,hlen with
  | [a,b,c,e],_,[y0,y1,y2,y3],_=>
   simp only [List.drop_zero,List.take_succ_cons,List.take_zero,List.drop_succ_cons,List.getElem?_cons_zero,List.getElem?_cons_succ] at f0 f1 f2 f3
   obtain ⟨k,e0,rfl,_⟩:=DataW.trod_int Tryz.underlying3 f0
   obtain ⟨nn,e1,rfl,_⟩:=DataW.trod_int Tryz.underlying2 f1
   obtain ⟨s,e2,rfl,_⟩:=DataW.trod_string Tryz.underlying9 f2
   simp only [List.cons.injEq,and_true] at e0 e1 e2
   subst e0 e1 e2
   obtain ⟨g,rfl⟩:∃ g,n=g+1:=by
    cases n with
    | zero=>simp [DataW.trod] at f3
    | succ g=>exact ⟨g,rfl⟩
   rcases DataW.trod_slice Tryz.underlying43 f3 with ⟨hcs,_⟩ | ⟨ad,len,cap,elems,rest,n',hn',hcs,_,_,hlc,hcm,hel,helt,_,_⟩
   ·simp only [List.cons.injEq,and_true] at hcs
    subst hcs
    refine ⟨g / 2+1,mkT k nn s [],_,_,_,_,(half2 g).symm,rfl,rdT_mk.2 ⟨_,rfl,none,0,rfl,by simp,by simp [maxLen],fun _=>rfl,fun x hx=>by cases hx⟩⟩
   ·obtain rfl:n'=g:=by omega
    simp only [List.cons.injEq,and_true] at hcs
    subst hcs
    rw [hc] at helt
    have hall:∀ i,i < len→∃ q:T (n' / 2) × Value × Value × Value × Value,W.cells? 0 (ad.add (i*4)) 4=some [q.2.1,q.2.2.1,q.2.2.2.1,q.2.2.2.2]∧RdT (fun _=>True) W (n' / 2) q.1 (.agg #[q.2.1,q.2.2.1,q.2.2.2.1,q.2.2.2.2]):=by
     intro i hi
     have h1:=helt i hi
     rw [List.getElem?_eq_getElem (by omega)] at h1
     obtain ⟨cs',h2,h3⟩:=Option.bind_eq_some_iff.1 h1
     obtain ⟨d,t,c0,c1,c2,c3,rfl,rfl,hr⟩:=open_node m n' (by omega) h3
     exact ⟨(t,c0,c1,c2,c3),h2,hr⟩
    obtain ⟨l,hll,hfy⟩:=pick len hall
    refine ⟨n' / 2+1,mkT k nn s (l.map (fun q=>q.1)),_,_,_,_,(half2 n').symm,rfl,rdT_mk.2 ⟨_,rfl,some ad,cap,by simp [hll],by simpa [hll] using hlc,hcm,by simp,?_⟩⟩
    intro z hz i hi
    obtain rfl:=Option.some.inj hz
    have hi':i < l.length:=by simpa using hi
    obtain ⟨g1,g2⟩:=hfy i hi'
    obtain ⟨_,_,hcell⟩:=World.cells?_some g1
    have k0:=hcell 0 (by omega)
    have k1:=hcell 1 (by omega)
    have k2:=hcell 2 (by omega)
    have k3:=hcell 3 (by omega)
    rw [Go.Deep.add_add] at k0 k1 k2 k3
    simp only [Nat.add_zero] at k0
    refine ⟨trivial,(l[i]).2.1,(l[i]).2.2.1,(l[i]).2.2.2.1,(l[i]).2.2.2.2,?_,by simpa using k0,by simpa using k1,by simpa using k2,by simpa using k3⟩
    simp only [List.getElem_map]
    exact g2
end Go.Proofs.YtlgnahpfggagoaaGreatDoor
/- What the document's level and Reserved do. -/
namespace Go.Proofs.YtlgnahpfggagoaaGreatDoor
open Go.RowKit Go.Lib
set_option linter.unusedSimpArgs false
set_option linter.unusedVariables false
attribute [local go_sem ↓] Go.wp_at_zero Go.wp_at_succ
end Go.Proofs.YtlgnahpfggagoaaGreatDoor
/- What Clean makes of a tree: memory. -/
namespace Go.Proofs.YtlgnahpfggagoaaGreatDoor
open Go.RowKit
set_option linter.unusedSimpArgs false
set_option linter.unusedVariables false
end Go.Proofs.YtlgnahpfggagoaaGreatDoor
/- The document's reader in memory; what its is and fail do. -/
namespace Go.Proofs.YtlgnahpfggagoaaGreatDoor
open Go.RowKit Go.Lib
set_option linter.unusedSimpArgs false
set_option linter.unusedVariables false
attribute [local go_sem ↓] Go.wp_at_zero Go.wp_at_succ
def RdX (ok:Nat→Prop) (w:World) (x:Sx) (v:Value):Prop:=RdT ok w x.1 x.2 v
/-- It stays, where the blocks that it may lie in stay. -/
theorem RdX.keep {ok ok':Nat→Prop}{w w':World}{x:Sx}{v:Value}(h:RdX ok w x v) (hk:∀ b,ok b→b < w.heap.size→ok' b∧w'.heap[b]?=w.heap[b]?):RdX ok' w' x v:=RdT.keep hk h
end Go.Proofs.YtlgnahpfggagoaaGreatDoor
/- Nothing of it is needed here. -/
namespace Go.Proofs.YtlgnahpfggagoaaGreatDoor
end Go.Proofs.YtlgnahpfggagoaaGreatDoor
/- What the document's Letter, digit, inside, next, run and Name do. -/
namespace Go.Proofs.YtlgnahpfggagoaaGreatDoor
open Go.RowKit Go.Lib
set_option linter.unusedSimpArgs false
set_option linter.unusedVariables false
end Go.Proofs.YtlgnahpfggagoaaGreatDoor
/- What the document's primary does. -/
namespace Go.Proofs.YtlgnahpfggagoaaGreatDoor
open Go.RowKit Go.Lib
set_option linter.unusedSimpArgs false
set_option linter.unusedVariables false
attribute [local go_sem ↓] Go.wp_at_zero Go.wp_at_succ
end Go.Proofs.YtlgnahpfggagoaaGreatDoor
/- What the document's Nodes and deep do. -/
namespace Go.Proofs.YtlgnahpfggagoaaGreatDoor
open Go.RowKit
set_option linter.unusedSimpArgs false
set_option linter.unusedVariables false
end Go.Proofs.YtlgnahpfggagoaaGreatDoor
/- What the document's operator, sound and Formed do. -/
namespace Go.Proofs.YtlgnahpfggagoaaGreatDoor
open Go.RowKit Go.Lib
set_option linter.unusedSimpArgs false
set_option linter.unusedVariables false
end Go.Proofs.YtlgnahpfggagoaaGreatDoor
/- What the document's Take does. -/
namespace Go.Proofs.YtlgnahpfggagoaaGreatDoor
open Go.RowKit Go.Lib
set_option linter.unusedSimpArgs false
set_option linter.unusedVariables false
attribute [local go_sem ↓] Go.wp_at_zero Go.wp_at_succ
theorem wpList_pushB {α:Type}{P:Program}(w:World) {ops:Array Oper}{rest:List Oper}{o:Oper}{a:Act}{Q:Exit→Act→World→Prop}(hgd:o.guard=none) (s x:Operand) (t:TypeId)
  (ho:o.op=.call { callee:=.builtin .append,args:=#[s,x],argTypes:=#[t,t] })
  (base:Nat) (bad:Nat→Prop) (e:TypeId) (i:TypeInfo) (z:Value) (k bytes:Nat) (ht:P.underlying t=some (.slice e)) (hi:P.info? e=some i) (hz:i.zero=some z)
  (hsize:i.size=k) (hby:i.bytes=bytes) (hzs:z.cells.size=k) {R:(Nat→Prop)→World→α→List Value→Prop}(hR:Kp R)
  (v:Value) (l:List α) (p:α) (cs:List Value) (lo:Nat) (hs:a.eval s=v) (hx:a.eval x=.slice (some ⟨w.heap.size,0,none⟩) 1 1) (hk:cs.length=k) (h1:∀ u∈cs,u.oneCell'=true)
  (hown:OwnB w base bad e k R v l) (hp:R (fun b=>lo≤b) w p cs) (hlo:base≤lo) (hv:∀ x,v.ownBlock=some x→x < lo) (hbad:∀ b,bad b→b < lo∧b < w.heap.size) (hroom:(l.length+1+(l.length+1) / 4+192)*bytes≤281474976710656)
  (h63:l.length+1≤maxLen) (hbase:base≤w.heap.size)
  (h:∀ v' w',OwnB w' base bad e k R v' (l++[p])→(w.alloc (.cells cs.toArray e)).grownBy w' v.ownBlock→Below base w w'→(v'.ownBlock=v.ownBlock∨v'.ownBlock=some (w.alloc (.cells cs.toArray e)).heap.size)→wpList P ops Q rest (a.put o.dst v') w') :
  wpList P ops Q (o :: rest) a (w.alloc (.cells cs.toArray e)):=by
 have hal:Below w.heap.size w (w.alloc (.cells cs.toArray e)):=(Below.refl _ _).alloc (Nat.le_refl _) _
 obtain ⟨qs,ho1,hl1,hr1,hg1⟩:=hown.on hR hal
 refine wpList_append_at _ hgd s x t t ho base e i z k bytes ht hi hz hsize hby hzs v l.length qs.flatten hs ho1 _ 1 cs hx (src_row ht w cs hk h1) 1 (.inr hroom) (Nat.le_refl _) h63 (Nat.le_trans hbase hal.size) ?_
 intro v' w' hown' hg hat
 refine h v' w' (OwnB.snoc hR hk rfl ho1 hl1 hr1 hown' hg hat (hR hp (fun b hb hlt=>⟨hb,hal.block b hlt⟩)) hlo hv (fun b q=>⟨(hbad b q).1,Nat.lt_of_lt_of_le (hbad b q).2 hal.size⟩) hg1) hg ?_ hat
 exact ((Below.refl base w).alloc hbase _).grown hg (Nat.le_trans hbase hal.size) (fun k hk=>(World.ownsRow.lt ho1 k hk).1)
def sD (l:List UInt8):Value:=.string ⟨l.toArray⟩
def rSetD (ok:Nat→Prop) (w:World) (x:List UInt8 × Sx) (cs:List Value):Prop:=∃ c0 c1 c2 c3,cs=[sD x.1,c0,c1,c2,c3]∧RdX ok w x.2 (.agg #[c0,c1,c2,c3])
theorem kp_setD:Kp rSetD:=fun _ _ _ _ _ _ ⟨c0,c1,c2,c3,h,hr⟩ hk=>⟨c0,c1,c2,c3,h,hr.keep hk⟩
def rOnD (ok:Nat→Prop) (w:World) (o:OnC) (cs:List Value):Prop:=∃ c0 c1 c2 c3 sl,cs=[sD o.1,.bool o.2.1.1,c0,c1,c2,c3,sD o.2.2.1,sl,.int .i64 o.2.2.2.2.1,.int .i64 o.2.2.2.2.2]∧RdX ok w o.2.1.2 (.agg #[c0,c1,c2,c3])∧RdK ok w 5 (rSetD ok w) o.2.2.2.1 sl
theorem kp_onD:Kp rOnD:=fun _ _ _ _ _ _ ⟨c0,c1,c2,c3,sl,h,hr,hs⟩ hk=>⟨c0,c1,c2,c3,sl,h,hr.keep hk,hs.stay kp_setD hk⟩
def hdD (h:HdC) (so si:Value):List Value:=[sD h.1.1,.int .i64 h.1.2.1,.int .i64 h.1.2.2,.bool h.2.1.1,.bool h.2.1.2,sD h.2.2.1.1,sD h.2.2.1.2,.int .i64 h.2.2.2.1.1,.int .i64 h.2.2.2.1.2,so,si]
def rStD:(d:Nat)→(Nat→Prop)→World→St d→List Value→Prop
 | 0,_,_,t,_=>Empty.elim t
 | d+1,ok,w,t,cs=>∃ so si,cs=hdD t.1 so si∧RdK ok w 10 (rOnD ok w) t.1.2.2.2.2 so∧RdK ok w 11 (rStD d ok w) t.2 si
theorem kp_stD:∀ d,Kp (rStD d)
 | 0=>fun _ _ _ _ x _ _ _=>Empty.elim x
 | d+1=>fun _ _ _ _ _ _ ⟨so,si,h,h1,h2⟩ hk=>⟨so,si,h,h1.stay kp_onD hk,h2.stay (kp_stD d) hk⟩
def varD (x:List UInt8 × Int × Pl):List Value:=[sD x.1,.int .i64 x.2.1,.int .i64 x.2.2.1,.int .i64 x.2.2.2]
def rVarD (ok:Nat→Prop) (w:World) (x:List UInt8 × Int × Pl) (cs:List Value):Prop:=cs=varD x
theorem kp_varD:Kp rVarD:=fun _ _ _ _ _ _ h _=>h
abbrev ChD (d:Nat):=(List UInt8 × Pl) × Int × List (List UInt8 × Int × Pl) × List (St d)
def RdD (ok:Nat→Prop) (w:World) (d:Nat) (c:ChD d) (v:Value):Prop:=
 ∃ sv ss,v=.agg #[sD c.1.1,.int .i64 c.2.1,.int .i64 c.1.2.1,.int .i64 c.1.2.2,sv,ss]∧RdK ok w 4 (rVarD ok w) c.2.2.1 sv∧RdK ok w 11 (rStD d ok w) c.2.2.2 ss
theorem RdD.keep {ok ok':Nat→Prop}{w w':World}{d:Nat}{c:ChD d}{v:Value}(h:RdD ok w d c v) (hk:∀ b,ok b→b < w.heap.size→ok' b∧w'.heap[b]?=w.heap[b]?):RdD ok' w' d c v:=by
 obtain ⟨sv,ss,h1,h2,h3⟩:=h
 exact ⟨sv,ss,h1,h2.stay kp_varD hk,h3.stay (kp_stD d) hk⟩
theorem Fx.andD {X B:Nat}{a b c:World}(h:Fx X a b) (k:Below B b c) (hB:a.heap.size≤B):Fx X a c:=
 ⟨k.os.trans h.os,k.tape.trans h.tape,k.output.trans h.output,Nat.le_trans h.size k.size,fun j hj h1=>(k.block j (by omega)).trans (h.block j hj h1)⟩
end Go.Proofs.YtlgnahpfggagoaaGreatDoor
/- Arguments that are the document's charts, opened. -/
namespace Go.Proofs.YtlgnahpfggagoaaGreatDoor
open Go.ChangeShapes Go.WideShapes Go.ChangeAt Go.RowKit
set_option linter.unusedSimpArgs false
set_option linter.unusedVariables false
theorem weights_all {H:Type}{P:Program}{e:TypeId}:∀ {l:List (DataW H)}{d:DataW H},d∈l→∀ n∈d.weights P e,n∈DataW.weightsAll P e l
 | x :: r,d,h,n,hn=>by
  simp only [DataW.weightsAll,List.mem_append]
  rcases List.mem_cons.1 h with rfl | h
  ·exact .inl hn
  ·exact .inr (weights_all h n hn)
/-- What is met is not larger than what there may be. -/
def Wt {H:Type}(t:TypeId) (d:DataW H):Prop:=∀ n∈d.weights Tryz.prog t,n≤reachBytes
theorem Wt.field {H:Type}{t u:TypeId}{fs:Array Field}{f:Field}{xs:List (DataW H × List MemPlace)}{y:DataW H × List MemPlace}(hu:Tryz.prog.underlying t=some (.struct fs)) (h:Wt t (.agg (xs.map (·.1)))) (j:Nat) (hf:fs[j]?=some f) (hy:xs[j]?=some y) (ht:f.type=u):Wt u y.1:=fun n hn=>by
 refine h n ?_
 simp only [DataW.weights,hu]
 refine DataW.weights_mem_each (j:=j) (t:=u) (d:=y.1) ?_ (by simp [hy]) n hn
 simp [hf,ht]
theorem spot_none {w:World}{a:Addr}{v:Value}(h:w.cell? (a.add 0)=some v):a=⟨a.block,a.off,none⟩:=by
 rw [show a.add 0=a from by simp [Addr.add]] at h
 unfold World.cell? at h
 split at h
 ·obtain ⟨b,o,s⟩:=a
  cases s with
  | none=>rfl
  | some x=>simp at h
 ·cases h
theorem RdK.both {α:Type}{ok:Nat→Prop}{w:World}{k:Nat}{R:α→List Value→Prop}{Q:α→Prop}{l:List α}{v:Value}(h:RdK ok w k (fun x cs=>R x cs∧Q x) l v):RdK ok w k R l v∧∀ x∈l,Q x:=by
 obtain ⟨a,cap,h1,h2,h3,h4⟩:=h
 refine ⟨⟨a,cap,h1,h2,h3,fun i hi=>?_⟩,fun x hx=>?_⟩
 ·obtain ⟨b,off,cs,q1,q2,q3,q4,q5,q6⟩:=h4 i hi
  exact ⟨b,off,cs,q1,q2,q3,q4,q5.1,q6⟩
 ·obtain ⟨i,hi,rfl⟩:=List.getElem_of_mem hx
  obtain ⟨b,off,cs,q1,q2,q3,q4,q5,q6⟩:=h4 i hi
  exact q5.2
section
variable {H:Type}{enc:TypeId × Value→H}{W:World}
theorem open_row {α:Type}{k:Nat}{R:α→List Value→Prop}{sl el:TypeId}(hu:Tryz.prog.underlying sl=some (.slice el)) (hc:Tryz.prog.cellsOf el=k) (hk:0 < k) (hby:decide (1≤Tryz.prog.bytesOf el)=true) {fuel:Nat}{cs:List Value}{x:DataW H × List MemPlace}
  (h:DataW.trod enc Tryz.prog W 0 (fun _=>true) true fuel sl cs=some x) (hw:Wt sl x.1) (hel:∀ n' cs' y,fuel=n'+1→DataW.trod enc Tryz.prog W 0 (fun _=>true) true n' el cs'=some y→Wt el y.1→∃ a,R a cs') :
  ∃ (l:List α) (v:Value),cs=[v]∧RdK (fun _=>True) W k R l v∧l.length≤140737488351232:=by
 rcases DataW.trod_slice hu h with ⟨rfl,_⟩ | ⟨ad,len,cap,elems,rest,n',hn',rfl,rfl,_,hlc,hcm,hel',helt,_,_⟩
 ·exact ⟨[],_,rfl,rdK_none _ _ _ _,by simp⟩
 ·have hlw:len≤140737488351232:=by
   have h0:=hw ((elems.length+rest.length)*Tryz.prog.bytesOf el) (by simp [DataW.weights,hu])
   have h1:(elems.length+rest.length)*1≤(elems.length+rest.length)*Tryz.prog.bytesOf el:=Nat.mul_le_mul_left _ (of_decide_eq_true hby)
   have h2:reachBytes=140737488351232:=rfl
   omega
  rw [hc] at helt
  have hall:∀ i,i < len→∃ q:α × List Value,W.cells? 0 (ad.add (i*k)) k=some q.2∧R q.1 q.2:=by
   intro i hi
   have h1:=helt i hi
   have hie:i < elems.length:=by omega
   rw [List.getElem?_eq_getElem hie] at h1
   obtain ⟨cs',h2,h3⟩:=Option.bind_eq_some_iff.1 h1
   obtain ⟨a,ha⟩:=hel n' cs' _ hn' h3 (fun n hn=>by
    refine hw n ?_
    simp only [DataW.weights,hu]
    exact List.mem_cons_of_mem _ (List.mem_append_left _ (weights_all (List.mem_map_of_mem (List.getElem_mem hie)) n hn)))
   exact ⟨(a,cs'),h2,ha⟩
  obtain ⟨l,hll,hfy⟩:=pick len hall
  refine ⟨l.map (·.1),_,rfl,⟨some ad,cap,by simp [hll],by simpa [hll] using hlc,hcm,fun i hi=>?_⟩,by simpa [hll] using hlw⟩
  have hi':i < l.length:=by simpa using hi
  obtain ⟨_,q2,q3⟩:=World.cells?_some (hfy 0 (by omega)).1
  obtain ⟨_,g2,g3⟩:=World.cells?_some (hfy i hi').1
  have hs:ad=⟨ad.block,ad.off,none⟩:=by
   have:=q3 0 hk
   rw [Nat.zero_mul,show (ad.add 0).add 0=ad.add 0 from by simp [Addr.add],List.getElem?_eq_getElem (by omega)] at this
   exact spot_none this
  generalize ad.block=b at hs
  generalize ad.off=off at hs
  subst hs
  have g4:∀ j u,(l[i]).2[j]?=some u→W.cell? ⟨b,off+i*k+j,none⟩=some u:=fun j u hj=>by
   have hjl:=(List.getElem?_eq_some_iff.1 hj).1
   have:=g3 j (by omega)
   rw [add_plain,add_plain,hj] at this
   exact this
  refine ⟨b,off,(l[i]).2,rfl,trivial,?_,g2,?_,g4⟩
  ·exact World.block_lt_of_cell? W _ (g4 0 _ (List.getElem?_eq_getElem (by omega)))
  ·rw [List.getElem_map]
   exact (hfy i hi').2
theorem open_node1 {fuel:Nat}{cs:List Value}{x:DataW H × List MemPlace}(h:DataW.trod enc Tryz.prog W 0 (fun _=>true) true fuel 45 cs=some x) :
  ∃ (x:Sx) (c0 c1 c2 c3:Value),cs=[c0,c1,c2,c3]∧RdX (fun _=>True) W x (.agg #[c0,c1,c2,c3]):=by
 obtain ⟨d,t,c0,c1,c2,c3,_,hcs,hr⟩:=open_node fuel fuel (Nat.le_refl _) h
 exact ⟨⟨d,t⟩,c0,c1,c2,c3,hcs,hr⟩
set_option maxRecDepth 100000 in
theorem open_pos {fuel:Nat}{cs:List Value}{x:DataW H × List MemPlace}(h:DataW.trod enc Tryz.prog W 0 (fun _=>true) true fuel 23 cs=some x):∃ p:Pl,cs=[.int .i64 p.1,.int .i64 p.2]:=by
 obtain ⟨xs,n,_,rfl,hl,hlen,hf⟩:=DataW.trod_struct Tryz.underlying23 h
 have hc:Tryz.prog.cellsOf 23=2:=by kernel_rfl
 have cI:Tryz.prog.cellsOf 3=1:=by kernel_rfl
 rw [hc] at hl
 have f0:DataW.trod enc Tryz.prog W 0 (fun _=>true) true n 3 ((cs.drop 0).take (Tryz.prog.cellsOf 3))=xs[0]?:=hf 0 _ rfl
 have f1:DataW.trod enc Tryz.prog W 0 (fun _=>true) true n 3 ((cs.drop 1).take (Tryz.prog.cellsOf 3))=xs[1]?:=hf 1 _ rfl
 rw [cI] at f0 f1
 match cs,hl,xs,hlen with
 | [a,b],_,[y0,y1],_=>
  simp only [List.drop_zero,List.take_succ_cons,List.take_zero,List.drop_succ_cons,List.getElem?_cons_zero,List.getElem?_cons_succ] at f0 f1
  obtain ⟨k,e0,_,_⟩:=DataW.trod_int Tryz.underlying3 f0
  obtain ⟨m,e1,_,_⟩:=DataW.trod_int Tryz.underlying3 f1
  simp only [List.cons.injEq,and_true] at e0 e1
  subst e0 e1
  exact ⟨(k,m),rfl⟩
theorem str_wt {s:ByteArray}(h:Wt (H:=H) 9 (.lit (.string s.data.toList))):s.size≤140737488351232:=by
 have:=h s.data.toList.length (by simp [DataW.weights])
 simpa [reachBytes] using this
theorem sD_of (s:ByteArray):Value.string s=sD s.data.toList:=by unfold sD;simp
/-- A number that an int holds. -/
def WfI (n:Int):Prop:=(Lit.int .i64 n).wf=true
def WfV (v:List UInt8 × Int × Pl):Prop:=v.1.length≤140737488351232
set_option maxRecDepth 100000 in
theorem open_varD {fuel:Nat}{cs:List Value}{x:DataW H × List MemPlace}(h:DataW.trod enc Tryz.prog W 0 (fun _=>true) true fuel 62 cs=some x) (hw:Wt 62 x.1):∃ v,rVarD (fun _=>True) W v cs∧WfV v:=by
 obtain ⟨xs,n,_,rfl,hl,hlen,hf⟩:=DataW.trod_struct Tryz.underlying62 h
 have hc:Tryz.prog.cellsOf 62=4:=by kernel_rfl
 have cL:Tryz.prog.cellsOf 2=1:=by kernel_rfl
 have c9:Tryz.prog.cellsOf 9=1:=by kernel_rfl
 have cp:Tryz.prog.cellsOf 23=2:=by kernel_rfl
 rw [hc] at hl
 have f0:DataW.trod enc Tryz.prog W 0 (fun _=>true) true n 9 ((cs.drop 0).take (Tryz.prog.cellsOf 9))=xs[0]?:=hf 0 _ rfl
 have f1:DataW.trod enc Tryz.prog W 0 (fun _=>true) true n 2 ((cs.drop 1).take (Tryz.prog.cellsOf 2))=xs[1]?:=hf 1 _ rfl
 have f2:DataW.trod enc Tryz.prog W 0 (fun _=>true) true n 23 ((cs.drop 2).take (Tryz.prog.cellsOf 23))=xs[2]?:=hf 2 _ rfl
 rw [c9] at f0
 rw [cL] at f1
 rw [cp] at f2
 match cs,hl,xs,hlen with
 | [a,b,c,e],_,[y0,y1,y2],_=>
  have w0:=hw.field Tryz.underlying62 0 rfl rfl rfl
  simp only [List.drop_zero,List.take_succ_cons,List.take_zero,List.drop_succ_cons,List.getElem?_cons_zero,List.getElem?_cons_succ] at f0 f1 f2
  obtain ⟨s,e0,rfl,_⟩:=DataW.trod_string Tryz.underlying9 f0
  obtain ⟨m,e1,_,_⟩:=DataW.trod_int Tryz.underlying2 f1
  obtain ⟨p,e2⟩:=open_pos f2
  simp only [List.cons.injEq,and_true] at e0 e1 e2
  obtain ⟨e2,e3⟩:=e2
  subst e0 e1 e2 e3
  refine ⟨(s.data.toList,m,p),?_,?_⟩
  ·show [_,_,_,_]=[sD s.data.toList,_,_,_]
   rw [sD_of]
  ·have:=str_wt w0
   simpa [WfV] using this
def WfT (s:List UInt8 × Sx):Prop:=s.1.length≤140737488351232
def WfO (o:OnC):Prop:=o.1.length≤140737488351232∧o.2.2.1.length≤140737488351232∧o.2.2.2.1.length≤140737488351232∧∀ s∈o.2.2.2.1,WfT s
set_option maxRecDepth 100000 in
theorem open_setD {fuel:Nat}{cs:List Value}{x:DataW H × List MemPlace}(h:DataW.trod enc Tryz.prog W 0 (fun _=>true) true fuel 74 cs=some x) (hw:Wt 74 x.1):∃ s,rSetD (fun _=>True) W s cs∧WfT s:=by
 obtain ⟨xs,n,_,rfl,hl,hlen,hf⟩:=DataW.trod_struct Tryz.underlying74 h
 have hc:Tryz.prog.cellsOf 74=5:=by kernel_rfl
 have c9:Tryz.prog.cellsOf 9=1:=by kernel_rfl
 have cn:Tryz.prog.cellsOf 45=4:=by kernel_rfl
 rw [hc] at hl
 have f0:DataW.trod enc Tryz.prog W 0 (fun _=>true) true n 9 ((cs.drop 0).take (Tryz.prog.cellsOf 9))=xs[0]?:=hf 0 _ rfl
 have f1:DataW.trod enc Tryz.prog W 0 (fun _=>true) true n 45 ((cs.drop 1).take (Tryz.prog.cellsOf 45))=xs[1]?:=hf 1 _ rfl
 rw [c9] at f0
 rw [cn] at f1
 match cs,hl,xs,hlen with
 | [a,b,c,e,g],_,[y0,y1],_=>
  have w0:=hw.field Tryz.underlying74 0 rfl rfl rfl
  simp only [List.drop_zero,List.take_succ_cons,List.take_zero,List.drop_succ_cons,List.getElem?_cons_zero,List.getElem?_cons_succ] at f0 f1
  obtain ⟨s,e0,rfl,_⟩:=DataW.trod_string Tryz.underlying9 f0
  obtain ⟨x,c0,c1,c2,c3,e1,hr⟩:=open_node1 f1
  simp only [List.cons.injEq,and_true] at e0 e1
  obtain ⟨q0,q1,q2,q3⟩:=e1
  subst e0 q0 q1 q2 q3
  refine ⟨(s.data.toList,x),⟨_,_,_,_,?_,hr⟩,?_⟩
  ·rw [← sD_of]
  ·have:=str_wt w0
   simpa [WfT] using this
set_option maxRecDepth 100000 in
theorem open_onD {fuel:Nat}{cs:List Value}{x:DataW H × List MemPlace}(h:DataW.trod enc Tryz.prog W 0 (fun _=>true) true fuel 48 cs=some x) (hw:Wt 48 x.1):∃ o,rOnD (fun _=>True) W o cs∧WfO o:=by
 obtain ⟨xs,n,_,rfl,hl,hlen,hf⟩:=DataW.trod_struct Tryz.underlying48 h
 have hc:Tryz.prog.cellsOf 48=10:=by kernel_rfl
 have c9:Tryz.prog.cellsOf 9=1:=by kernel_rfl
 have c4:Tryz.prog.cellsOf 4=1:=by kernel_rfl
 have cn:Tryz.prog.cellsOf 45=4:=by kernel_rfl
 have cs1:Tryz.prog.cellsOf 46=1:=by kernel_rfl
 have cp:Tryz.prog.cellsOf 23=2:=by kernel_rfl
 have c5:Tryz.prog.cellsOf 74=5:=by kernel_rfl
 rw [hc] at hl
 have f0:DataW.trod enc Tryz.prog W 0 (fun _=>true) true n 9 ((cs.drop 0).take (Tryz.prog.cellsOf 9))=xs[0]?:=hf 0 _ rfl
 have f1:DataW.trod enc Tryz.prog W 0 (fun _=>true) true n 4 ((cs.drop 1).take (Tryz.prog.cellsOf 4))=xs[1]?:=hf 1 _ rfl
 have f2:DataW.trod enc Tryz.prog W 0 (fun _=>true) true n 45 ((cs.drop 2).take (Tryz.prog.cellsOf 45))=xs[2]?:=hf 2 _ rfl
 have f3:DataW.trod enc Tryz.prog W 0 (fun _=>true) true n 9 ((cs.drop 6).take (Tryz.prog.cellsOf 9))=xs[3]?:=hf 3 _ rfl
 have f4:DataW.trod enc Tryz.prog W 0 (fun _=>true) true n 46 ((cs.drop 7).take (Tryz.prog.cellsOf 46))=xs[4]?:=hf 4 _ rfl
 have f5:DataW.trod enc Tryz.prog W 0 (fun _=>true) true n 23 ((cs.drop 8).take (Tryz.prog.cellsOf 23))=xs[5]?:=hf 5 _ rfl
 rw [c9] at f0 f3
 rw [c4] at f1
 rw [cn] at f2
 rw [cs1] at f4
 rw [cp] at f5
 match cs,hl,xs,hlen with
 | [a0,a1,a2,a3,a4,a5,a6,a7,a8,a9],_,[y0,y1,y2,y3,y4,y5],_=>
  have w0:=hw.field Tryz.underlying48 0 rfl rfl rfl
  have w3:=hw.field Tryz.underlying48 3 rfl rfl rfl
  have w4:=hw.field Tryz.underlying48 4 rfl rfl rfl
  simp only [List.drop_zero,List.take_succ_cons,List.take_zero,List.drop_succ_cons,List.getElem?_cons_zero,List.getElem?_cons_succ] at f0 f1 f2 f3 f4 f5
  obtain ⟨ev,e0,rfl,_⟩:=DataW.trod_string Tryz.underlying9 f0
  obtain ⟨hs,e1,_⟩:=DataW.trod_bool Tryz.underlying4 f1
  obtain ⟨gx,c0,c1,c2,c3,e2,hr⟩:=open_node1 f2
  obtain ⟨tg,e3,rfl,_⟩:=DataW.trod_string Tryz.underlying9 f3
  obtain ⟨l,sl,e4,hsl,hsn⟩:=open_row (k:=5) (R:=fun s cs=>rSetD (fun _=>True) W s cs∧WfT s) Tryz.underlying46 c5 (by decide) (by kernel_rfl) f4 w4 (fun n' cs' y _ hy hwy=>open_setD hy hwy)
  obtain ⟨p,e5⟩:=open_pos f5
  simp only [List.cons.injEq,and_true] at e0 e1 e2 e3 e4 e5
  obtain ⟨q0,q1,q2,q3⟩:=e2
  obtain ⟨q4,q5⟩:=e5
  subst e0 e1 q0 q1 q2 q3 e3 e4 q4 q5
  obtain ⟨hsl,hwt⟩:=hsl.both
  refine ⟨(ev.data.toList,(hs,gx),tg.data.toList,l,p),⟨_,_,_,_,_,?_,hr,hsl⟩,?_,?_,hsn,hwt⟩
  ·rw [← sD_of,← sD_of]
  ·have:=str_wt w0
   simpa using this
  ·have:=str_wt w3
   simpa using this
def WfS:(d:Nat)→St d→Prop
 | 0,t=>Empty.elim t
 | d+1,t=>WfI t.1.2.2.2.1.1∧WfI t.1.2.2.2.1.2∧(t.1.1.1.length≤140737488351232∧t.1.2.2.1.1.length≤140737488351232∧t.1.2.2.1.2.length≤140737488351232∧t.1.2.2.2.2.length≤140737488351232∧∀ o∈t.1.2.2.2.2,WfO o)∧t.2.length≤140737488351232∧∀ x∈t.2,WfS d x
set_option maxRecDepth 100000 in
theorem open_stD:∀ (m fuel:Nat),fuel≤m→∀ {cs:List Value}{x:DataW H × List MemPlace},DataW.trod enc Tryz.prog W 0 (fun _=>true) true fuel 40 cs=some x→Wt 40 x.1→∃ t,rStD (fuel / 2) (fun _=>True) W t cs∧WfS (fuel / 2) t
 | 0,fuel,hf,cs,x,h,_=>by
  obtain rfl:fuel=0:=by omega
  simp [DataW.trod] at h
 | m+1,fuel,hf,cs,x,h,hw=>by
  obtain ⟨xs,n,rfl,rfl,hl,hlen,hf'⟩:=DataW.trod_struct Tryz.underlying40 h
  have hc:Tryz.prog.cellsOf 40=11:=by kernel_rfl
  have c9:Tryz.prog.cellsOf 9=1:=by kernel_rfl
  have c4:Tryz.prog.cellsOf 4=1:=by kernel_rfl
  have c3:Tryz.prog.cellsOf 3=1:=by kernel_rfl
  have cp:Tryz.prog.cellsOf 23=2:=by kernel_rfl
  have co:Tryz.prog.cellsOf 38=1:=by kernel_rfl
  have cst:Tryz.prog.cellsOf 25=1:=by kernel_rfl
  have c10:Tryz.prog.cellsOf 48=10:=by kernel_rfl
  rw [hc] at hl
  have f0:DataW.trod enc Tryz.prog W 0 (fun _=>true) true n 9 ((cs.drop 0).take (Tryz.prog.cellsOf 9))=xs[0]?:=hf' 0 _ rfl
  have f1:DataW.trod enc Tryz.prog W 0 (fun _=>true) true n 23 ((cs.drop 1).take (Tryz.prog.cellsOf 23))=xs[1]?:=hf' 1 _ rfl
  have f2:DataW.trod enc Tryz.prog W 0 (fun _=>true) true n 4 ((cs.drop 3).take (Tryz.prog.cellsOf 4))=xs[2]?:=hf' 2 _ rfl
  have f3:DataW.trod enc Tryz.prog W 0 (fun _=>true) true n 4 ((cs.drop 4).take (Tryz.prog.cellsOf 4))=xs[3]?:=hf' 3 _ rfl
  have f4:DataW.trod enc Tryz.prog W 0 (fun _=>true) true n 9 ((cs.drop 5).take (Tryz.prog.cellsOf 9))=xs[4]?:=hf' 4 _ rfl
  have f5:DataW.trod enc Tryz.prog W 0 (fun _=>true) true n 9 ((cs.drop 6).take (Tryz.prog.cellsOf 9))=xs[5]?:=hf' 5 _ rfl
  have f6:DataW.trod enc Tryz.prog W 0 (fun _=>true) true n 3 ((cs.drop 7).take (Tryz.prog.cellsOf 3))=xs[6]?:=hf' 6 _ rfl
  have f7:DataW.trod enc Tryz.prog W 0 (fun _=>true) true n 3 ((cs.drop 8).take (Tryz.prog.cellsOf 3))=xs[7]?:=hf' 7 _ rfl
  have f8:DataW.trod enc Tryz.prog W 0 (fun _=>true) true n 38 ((cs.drop 9).take (Tryz.prog.cellsOf 38))=xs[8]?:=hf' 8 _ rfl
  have f9:DataW.trod enc Tryz.prog W 0 (fun _=>true) true n 25 ((cs.drop 10).take (Tryz.prog.cellsOf 25))=xs[9]?:=hf' 9 _ rfl
  rw [c9] at f0 f4 f5
  rw [c4] at f2 f3
  rw [c3] at f6 f7
  rw [cp] at f1
  rw [co] at f8
  rw [cst] at f9
  match cs,hl,xs,hlen with
  | [a0,a1,a2,a3,a4,a5,a6,a7,a8,a9,a10],_,[y0,y1,y2,y3,y4,y5,y6,y7,y8,y9],_=>
   have w0:=hw.field Tryz.underlying40 0 rfl rfl rfl
   have w4:=hw.field Tryz.underlying40 4 rfl rfl rfl
   have w5:=hw.field Tryz.underlying40 5 rfl rfl rfl
   have w8:=hw.field Tryz.underlying40 8 rfl rfl rfl
   have w9:=hw.field Tryz.underlying40 9 rfl rfl rfl
   simp only [List.drop_zero,List.take_succ_cons,List.take_zero,List.drop_succ_cons,List.getElem?_cons_zero,List.getElem?_cons_succ] at f0 f1 f2 f3 f4 f5 f6 f7 f8 f9
   obtain ⟨nm,e0,rfl,_⟩:=DataW.trod_string Tryz.underlying9 f0
   obtain ⟨p,e1⟩:=open_pos f1
   obtain ⟨al,e2,_⟩:=DataW.trod_bool Tryz.underlying4 f2
   obtain ⟨en,e3,_⟩:=DataW.trod_bool Tryz.underlying4 f3
   obtain ⟨dd,e4,rfl,_⟩:=DataW.trod_string Tryz.underlying9 f4
   obtain ⟨ud,e5,rfl,_⟩:=DataW.trod_string Tryz.underlying9 f5
   obtain ⟨wh,e6,_,g6⟩:=DataW.trod_int Tryz.underlying3 f6
   obtain ⟨rt,e7,_,g7⟩:=DataW.trod_int Tryz.underlying3 f7
   obtain ⟨ol,so,e8,hso,hon⟩:=open_row (k:=10) (R:=fun o cs=>rOnD (fun _=>True) W o cs∧WfO o) Tryz.underlying38 c10 (by decide) (by kernel_rfl) f8 w8 (fun n' cs' y _ hy hwy=>open_onD hy hwy)
   obtain ⟨g,rfl⟩:∃ g,n=g+1:=by
    cases n with
    | zero=>simp [DataW.trod] at f9
    | succ g=>exact ⟨g,rfl⟩
   obtain ⟨il,si,e9,hsi,hin⟩:=open_row (k:=11) (R:=fun t cs=>rStD (g / 2) (fun _=>True) W t cs∧WfS (g / 2) t) Tryz.underlying25 hc (by decide) (by kernel_rfl) f9 w9 (fun n' cs' y hn' hy hwy=>by
    obtain rfl:n'=g:=by omega
    exact open_stD m n' (by omega) hy hwy)
   simp only [List.cons.injEq,and_true] at e0 e1 e2 e3 e4 e5 e6 e7 e8 e9
   obtain ⟨q0,q1⟩:=e1
   subst e0 q0 q1 e2 e3 e4 e5 e6 e7 e8 e9
   obtain ⟨hsi,hwf⟩:=hsi.both
   obtain ⟨hso,hwo⟩:=hso.both
   rw [half2 g]
   refine ⟨(((nm.data.toList,p),(al,en),(dd.data.toList,ud.data.toList),(wh,rt),ol),il),⟨_,_,?_,hso,hsi⟩,g6,g7,⟨?_,?_,?_,hon,hwo⟩,hin,hwf⟩
   ·show _=[sD nm.data.toList,_,_,_,_,sD dd.data.toList,sD ud.data.toList,_,_,_,_]
    rw [← sD_of,← sD_of,← sD_of]
   ·have:=str_wt w0
    simpa using this
   ·have:=str_wt w4
    simpa using this
   ·have:=str_wt w5
    simpa using this
def WfC (d:Nat) (c:ChD d):Prop:=WfI c.2.1∧(∀ x∈c.2.2.1,WfV x)∧c.2.2.2.length≤140737488351232∧∀ t∈c.2.2.2,WfS d t
set_option maxRecDepth 100000 in
theorem open_chD {fuel:Nat}{cs:List Value}{x:DataW H × List MemPlace}(h:DataW.trod enc Tryz.prog W 0 (fun _=>true) true fuel 27 cs=some x) (hw:Wt 27 x.1):∃ (d:Nat) (c:ChD d) (v0 v1 v2 v3 v4 v5:Value),cs=[v0,v1,v2,v3,v4,v5]∧RdD (fun _=>True) W d c (.agg #[v0,v1,v2,v3,v4,v5])∧WfC d c:=by
 obtain ⟨xs,n,_,rfl,hl,hlen,hf'⟩:=DataW.trod_struct Tryz.underlying27 h
 have hc:Tryz.prog.cellsOf 27=6:=by kernel_rfl
 have c9:Tryz.prog.cellsOf 9=1:=by kernel_rfl
 have c3:Tryz.prog.cellsOf 3=1:=by kernel_rfl
 have cp:Tryz.prog.cellsOf 23=2:=by kernel_rfl
 have cv:Tryz.prog.cellsOf 24=1:=by kernel_rfl
 have cst:Tryz.prog.cellsOf 25=1:=by kernel_rfl
 have c4:Tryz.prog.cellsOf 62=4:=by kernel_rfl
 have c11:Tryz.prog.cellsOf 40=11:=by kernel_rfl
 rw [hc] at hl
 have f0:DataW.trod enc Tryz.prog W 0 (fun _=>true) true n 9 ((cs.drop 0).take (Tryz.prog.cellsOf 9))=xs[0]?:=hf' 0 _ rfl
 have f1:DataW.trod enc Tryz.prog W 0 (fun _=>true) true n 3 ((cs.drop 1).take (Tryz.prog.cellsOf 3))=xs[1]?:=hf' 1 _ rfl
 have f2:DataW.trod enc Tryz.prog W 0 (fun _=>true) true n 23 ((cs.drop 2).take (Tryz.prog.cellsOf 23))=xs[2]?:=hf' 2 _ rfl
 have f3:DataW.trod enc Tryz.prog W 0 (fun _=>true) true n 24 ((cs.drop 4).take (Tryz.prog.cellsOf 24))=xs[3]?:=hf' 3 _ rfl
 have f4:DataW.trod enc Tryz.prog W 0 (fun _=>true) true n 25 ((cs.drop 5).take (Tryz.prog.cellsOf 25))=xs[4]?:=hf' 4 _ rfl
 rw [c9] at f0
 rw [c3] at f1
 rw [cp] at f2
 rw [cv] at f3
 rw [cst] at f4
 match cs,hl,xs,hlen with
 | [a0,a1,a2,a3,a4,a5],_,[y0,y1,y2,y3,y4],_=>
  have w3:=hw.field Tryz.underlying27 3 rfl rfl rfl
  have w4:=hw.field Tryz.underlying27 4 rfl rfl rfl
  simp only [List.drop_zero,List.take_succ_cons,List.take_zero,List.drop_succ_cons,List.getElem?_cons_zero,List.getElem?_cons_succ] at f0 f1 f2 f3 f4
  obtain ⟨nm,e0,_,_⟩:=DataW.trod_string Tryz.underlying9 f0
  obtain ⟨vn,e1,_,g1⟩:=DataW.trod_int Tryz.underlying3 f1
  obtain ⟨p,e2⟩:=open_pos f2
  obtain ⟨vl,sv,e3,hsv,hvn⟩:=open_row (k:=4) (R:=fun v cs=>rVarD (fun _=>True) W v cs∧WfV v) Tryz.underlying24 c4 (by decide) (by kernel_rfl) f3 w3 (fun n' cs' y _ hy hwy=>open_varD hy hwy)
  obtain ⟨g,rfl⟩:∃ g,n=g+1:=by
   cases n with
   | zero=>simp [DataW.trod] at f4
   | succ g=>exact ⟨g,rfl⟩
  obtain ⟨il,si,e4,hsi,hin⟩:=open_row (k:=11) (R:=fun t cs=>rStD (g / 2) (fun _=>True) W t cs∧WfS (g / 2) t) Tryz.underlying25 c11 (by decide) (by kernel_rfl) f4 w4 (fun n' cs' y hn' hy hwy=>by
   obtain rfl:n'=g:=by omega
   exact open_stD n' n' (Nat.le_refl _) hy hwy)
  simp only [List.cons.injEq,and_true] at e0 e1 e2 e3 e4
  obtain ⟨q0,q1⟩:=e2
  subst e0 e1 q0 q1 e3 e4
  obtain ⟨hsv,hwv⟩:=hsv.both
  obtain ⟨hsi,hwf⟩:=hsi.both
  refine ⟨g / 2,((nm.data.toList,p),vn,vl,il),_,_,_,_,_,_,rfl,⟨_,_,?_,hsv,hsi⟩,g1,hwv,hin,hwf⟩
  rw [← sD_of]
end
/-- A chart that came in. -/
theorem open_chart {H:Type}{enc:TypeId × Value→H}{W:World}{v:Value}{x:DataW H}{p:List MemPlace}(hv:∃ cs,v=.agg cs)
  (h:DataW.Trod enc Tryz.prog W 0 (fun _=>true) true 27 v x p) (hw:Wt 27 x):∃ (d:Nat) (c:ChD d),RdD (fun _=>True) W d c v∧WfC d c:=by
 obtain ⟨cs,rfl⟩:=hv
 obtain ⟨fuel,hf⟩:=h
 obtain ⟨d,c,c0,c1,c2,c3,c4,c5,hcs,hr,hwf⟩:=open_chD hf hw
 refine ⟨d,c,?_,hwf⟩
 have e:cs=#[c0,c1,c2,c3,c4,c5]:=by
  have:cs.toList=[c0,c1,c2,c3,c4,c5]:=hcs
  exact Array.toList_inj.1 (by rw [this])
 rw [e]
 exact hr
end Go.Proofs.YtlgnahpfggagoaaGreatDoor
/- What the document's small and Small do. -/
namespace Go.Proofs.YtlgnahpfggagoaaGreatDoor
open Go.RowKit
set_option linter.unusedSimpArgs false
set_option linter.unusedVariables false
theorem thru_cons {α:Type}(g:α→Int→Int) (p:α) (r:List α) (x:Int):thru g (p :: r) x=if g p x < 0 then -1 else thru g r (g p x):=rfl
/-- What small answers of trees so deep. -/
def SmallC (d:Nat):Prop:=∀ (ok:Nat→Prop) (t:T d) (v:Value) (w:World) (dep:Nat) (left:Int),RdT ok w d t v→dep≤61→-1≤left→left≤200→
  Calls Tryz.prog 38 #[v,.int .i64 (dep:Int),.int .i64 left] w fun e w'=>e=.returned (.int .i64 (sml d t dep left))∧Below w.heap.size w w'
set_option maxRecDepth 100000 in
set_option maxHeartbeats 1000000 in
theorem refSmall_step (d:Nat) (IH:SmallC d):SmallC (d+1):=by
 intro ok t v w dep left h hdep hl0 hl1
 obtain ⟨k,n,s,ps,rfl⟩:=T.open t
 obtain ⟨sl,rfl,hp⟩:=rdT_mk.1 h
 obtain ⟨a,cap,rfl,hlc,hcm,hcell⟩:=hp.form
 rw [sml_mk]
 by_cases c1:60 < dep
 ·rw [if_pos (.inl c1)]
  have e1:(dep:Int) > 60:=by omega
  clear IH hcell h hp
  go_enter Tryz.func38,Tryz.ntmps38
  go_wp2
  go_ret
  exact ⟨rfl,(Below.refl _ _).alloc (Nat.le_refl _) _⟩
 have e1:¬ (dep:Int) > 60:=by omega
 by_cases c2:left - 1 < 0
 ·rw [if_pos (.inr (.inl c2))]
  clear IH hcell h hp
  go_enter Tryz.func38,Tryz.ntmps38
  go_wp2
  go_ret
  exact ⟨rfl,(Below.refl _ _).alloc (Nat.le_refl _) _⟩
 by_cases c3:1000 < s.size
 ·rw [if_pos (.inr (.inr c3))]
  have e3:(s.size:Int) > 1000:=by omega
  clear IH hcell h hp
  go_enter Tryz.func38,Tryz.ntmps38
  go_wp2
  go_ret
  exact ⟨rfl,(Below.refl _ _).alloc (Nat.le_refl _) _⟩
 rw [if_neg (by omega)]
 have e3:¬ (s.size:Int) > 1000:=by omega
 obtain ⟨V,hV⟩:∃ V,thru (fun p x=>sml d p (dep+1) x) ps (left - 1)=V:=⟨_,rfl⟩
 rw [hV]
 have HV:Hid (thru (fun p x=>sml d p (dep+1) x) (ps.drop 0) (left - 1)=V):=hV
 have HC:Hid (∀ (i:Nat) (hi:i < ps.length),∃ b off c0 c1 c2 c3,a=some ⟨b,off,none⟩∧b < w.heap.size∧RdT ok w d ps[i] (.agg #[c0,c1,c2,c3])∧w.cell? ⟨b,off+i*4,none⟩=some c0∧w.cell? ⟨b,off+i*4+1,none⟩=some c1∧w.cell? ⟨b,off+i*4+2,none⟩=some c2∧w.cell? ⟨b,off+i*4+3,none⟩=some c3):=hcell
 clear hV hcell h hp
 go_enter Tryz.func38,Tryz.ntmps38
 go_wp2
 go_loopw [2,25] (fun l i wr=>∃ (j:Nat) (L:Int),j≤ps.length∧i=.int .i64 (j:Int)∧l=.int .i64 L∧0≤L∧L≤199∧Hid (thru (fun p x=>sml d p (dep+1) x) (ps.drop j) L=V)∧At4 wr w.heap.size (.int .i64 k) (.int .i64 n) (.string s) (.slice a ps.length cap)∧Below w.heap.size w wr) (fun _ i _=>ps.length - (RowKit.intOf i).toNat)
 case atStart=>exact ⟨0,left - 1,Nat.zero_le _,rfl,rfl,by omega,by omega,HV,At4.new _ _ _ _ _ _,(Below.refl _ _).alloc (Nat.le_refl _) _⟩
 case round=>
  obtain ⟨j,L,hj,rfl,rfl,hL0,hL1,hT,hA,hb⟩:=hrel
  obtain ⟨y0,y1,y2,y3⟩:=id hA
  by_cases hlt:j < ps.length
  ·obtain ⟨b,off,c0,c1,c2,c3,rfl,hbl,hr,k0,k1,k2,k3⟩:=HC.out j hlt
   have C0:=(hb.cell (p:=⟨b,off+j*4,none⟩) hbl).trans k0
   have C1:=(hb.cell (p:=⟨b,off+j*4+1,none⟩) hbl).trans k1
   have C2:=(hb.cell (p:=⟨b,off+j*4+2,none⟩) hbl).trans k2
   have C3:=(hb.cell (p:=⟨b,off+j*4+3,none⟩) hbl).trans k3
   have hcall:=IH ok ps[j] _ wr (dep+1) L (RdT.below hb (Nat.le_refl _) hr) (by omega) (by omega) (by omega)
   have hTT:=hT.out
   rw [List.drop_eq_getElem_cons hlt,thru_cons] at hTT
   have hok:=sml_ok d ps[j] (dep+1) L
   have hcp:=cnt_pos d ps[j]
   obtain ⟨z,hz⟩:∃ z,sml d ps[j] (dep+1) L=z:=⟨_,rfl⟩
   rw [hz] at hcall hTT hok
   have i1:(j:Int) < (ps.length:Int):=by omega
   have i2:(0:Int)≤(j:Int):=by omega
   have hd1:((dep+1:Nat):Int)=(dep:Int)+1:=by omega
   rw [hd1] at hcall
   clear k0 k1 k2 k3 hr hbl
   by_cases hzn:z < 0
   ·rw [if_pos hzn] at hTT
    subst hTT
    clear hok hz hd1
    go_wp2_with (first
     | (go_at_call 38;refine hcall.mono ?_;rintro e w1 ⟨rfl,b1⟩))
    go_ret
    exact ⟨rfl,hb.trans (b1.mono hb.size)⟩
   ·rw [if_neg hzn] at hTT
    have hzL:z≤L:=by have:=(hok (by omega)).1;omega
    have hN:Hid (thru (fun p x=>sml d p (dep+1) x) (ps.drop (j+1)) z=V):=hTT
    clear hok hz hTT hd1 hcp
    go_wp2_with (first
     | (go_at_call 38;refine hcall.mono ?_;rintro e w1 ⟨rfl,b1⟩))
    go_roundw
    case rel=>exact ⟨j+1,z,hlt,by go_num,rfl,by omega,by omega,hN,hA.keepB b1 (World.block_lt_of_cell? wr _ y0),hb.trans (b1.mono hb.size)⟩
    case measure=>simp [RowKit.intOf];omega
  ·have i1:¬ (j:Int) < (ps.length:Int):=by omega
   have hTT:=hT.out
   rw [List.drop_eq_nil_of_le (by omega)] at hTT
   have hTe:L=V:=hTT
   subst hTe
   clear hTT
   go_wp2
   go_ret
   exact ⟨rfl,hb⟩
theorem refSmall_any:∀ (d:Nat),SmallC d
 | 0=>fun _ t=>Empty.elim t
 | d+1=>refSmall_step d (refSmall_any d)
theorem refSmallTop_any {ok:Nat→Prop}{d:Nat}{t:T d}{v:Value}{w:World}(h:RdT ok w d t v) :
  Calls Tryz.prog 19 #[v] w fun e w'=>e=.returned (.bool (decide (0≤sml d t 0 200)))∧Below w.heap.size w w':=by
 match d,t,h with
 | 0,t,h=>exact Empty.elim t
 | d+1,t,h=>
  obtain ⟨k,n,s,ps,rfl⟩:=T.open t
  have h0:=h
  obtain ⟨sl,rfl,hp⟩:=rdT_mk.1 h
  have hb0:=(Below.refl w.heap.size w).alloc (Nat.le_refl _) (.cells #[.int .i64 k,.int .i64 n,.string s,sl] 45)
  have hcall:=refSmall_any (d+1) ok (mkT k n s ps) _ _ 0 200 (RdT.below hb0 (Nat.le_refl _) h0) (by omega) (by omega) (by omega)
  obtain ⟨z,hz⟩:∃ z,sml (d+1) (mkT k n s ps) 0 200=z:=⟨_,rfl⟩
  rw [hz] at hcall ⊢
  clear hz h0 hp
  go_enter Tryz.func19,Tryz.ntmps19
  go_wp2_with (first
   | (go_at_call 38;refine hcall.mono ?_;rintro e w1 ⟨rfl,b1⟩))
  all_goals go_ret
  all_goals exact ⟨by simp [*],hb0.trans (b1.mono hb0.size)⟩
end Go.Proofs.YtlgnahpfggagoaaGreatDoor
/- What the document's state does. -/
namespace Go.Proofs.YtlgnahpfggagoaaGreatDoor
open Go.RowKit Go.Lib
set_option linter.unusedSimpArgs false
set_option linter.unusedVariables false
attribute [local go_sem ↓] Go.wp_at_zero Go.wp_at_succ
end Go.Proofs.YtlgnahpfggagoaaGreatDoor
/- The walk of the document's first. -/
namespace Go.Proofs.YtlgnahpfggagoaaGreatDoor
open Go.RowKit Go.Lib
set_option linter.unusedSimpArgs false
set_option linter.unusedVariables false
end Go.Proofs.YtlgnahpfggagoaaGreatDoor
/- What the document's Words does. -/
namespace Go.Proofs.YtlgnahpfggagoaaGreatDoor
open Go.RowKit Go.Lib
set_option linter.unusedSimpArgs false
set_option linter.unusedVariables false
attribute [local go_sem ↓] Go.wp_at_zero Go.wp_at_succ
end Go.Proofs.YtlgnahpfggagoaaGreatDoor
