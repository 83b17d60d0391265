import Derived.Test.YtlkdaldfklaicaaGreatDoorWvc01
import Derived.Test.YtlkdaldfklaicaaGreatDoorWvc05
import Derived.Deep.RegionHeldLaw
import Derived.Shelf.LaysC
import Derived.Shelf.Strconv.ParseIntPublic10
import Derived.Test.YtlkdaldfklaicaaGreatDoorRows
import Derived.Test.YtlkdaldfklaicaaGreatDoorWvc03
set_option maxRecDepth 100000
set_option maxHeartbeats 32000000
namespace Go.Proofs.YtlkdaldfklaicaaGreatDoor
open Go.RowKit Go.Lib
set_option linter.unusedSimpArgs false
set_option linter.unusedVariables false
attribute [local go_sem ↓] Go.wp_at_zero Go.wp_at_succ
structure Inn (l:List UInt8) (k j p:Nat):Prop where
 cnt:j<=(runes (l.drop k)).length
 size:k+(byt ((runes (l.drop k)).take j)).length=p
 no10:∀ v∈(runes (l.drop k)).take j,v.1≠10
theorem Inn.zero (l:List UInt8) (k:Nat):Inn l k 0 k:=⟨Nat.zero_le _,rfl,fun v hv=>by simp at hv⟩
theorem Inn.start {l:List UInt8}{k m:Nat}(hk:k < l.length) (hm:1<=m) (hm2:m<=(runes (l.drop k)).length) (hn:∀ v∈(runes (l.drop k)).take m,v.1≠10∨m=1) :
  Inn l (k+(nx (l.drop k)).2) (m - 1) (k+(byt ((runes (l.drop k)).take m)).length):=by
 have hne:=zam hk
 have hc:=zq hne
 have hle:=zcT hne
 obtain ⟨j,rfl⟩:∃ j,m=j+1:=⟨m - 1,by omega⟩
 rw [List.drop_drop] at hc
 rw [hc] at hm2 hn ⊢
 rw [List.take_succ_cons] at hn ⊢
 simp only [Nat.add_sub_cancel]
 refine ⟨by simpa using hm2,?_,fun v hv=>?_⟩
 ·rw [zaQ,List.length_append,List.length_take,Nat.min_eq_left hle]
  omega
 ·rcases hn v (by simp [hv]) with h|h
  ·exact h
  ·have:j=0:=by omega
   subst this
   simp at hv
theorem Inn.step {l:List UInt8}{k j p:Nat}(hk:k < l.length) (h:Inn l k (j+1) p):Inn l (k+(nx (l.drop k)).2) j p/\(nx (l.drop k)).1≠10/\k < p:=by
 have hne:=zam hk
 have hc:=zq hne
 have hle:=zcT hne
 have hps:=zaC hne
 rw [List.drop_drop] at hc
 obtain ⟨h1,h2,h3⟩:=h
 rw [hc] at h1 h2 h3
 rw [List.take_succ_cons] at h2 h3
 rw [zaQ,List.length_append,List.length_take,Nat.min_eq_left hle] at h2
 exact ⟨⟨by simpa using h1,by omega,fun v hv=>h3 v (List.mem_cons_of_mem _ hv)⟩,h3 _ List.mem_cons_self,by omega⟩
theorem zhr {l:List UInt8}{k:Nat}(hk:k < l.length) (j:Nat):(runes (l.drop k)).drop (j+1)=(runes (l.drop (k+(nx (l.drop k)).2))).drop j:=by
 rw [zq (zam hk),List.drop_succ_cons,List.drop_drop]
theorem znT {l:List UInt8}(hl:l≠[]) (h:zck (pc l).1 (l.take (pcB l))=true):1<=(pc l).2/\(pc l).2<=(runes l).length/\∀ v∈(runes l).take (pc l).2,v.1≠10∨(pc l).2=1:=by
 have hc:=zq hl
 by_cases c1:(nx l).1=32∨(nx l).1=9∨(nx l).1=10
 ·have hp:pc l=(0,1):=by unfold pc;rw [if_pos c1]
  rw [hp]
  exact ⟨Nat.le_refl _,by rw [hc];simp,fun _ _=>.inr rfl⟩
 by_cases c2:(nx l).1=35
 ·have hp:pc l=(0,rest (runes l)):=by unfold pc;rw [if_neg c1,if_pos c2]
  rw [hp]
  refine ⟨?_,ziL _,fun v hv=>.inl (zeU _ v hv)⟩
  rw [hc]
  exact zdt (by simp only;omega)
 obtain ⟨k1,k2,_⟩:=zex hl (by omega) (by omega) c2
 have e:=k2 h
 have h0:(zat (runes l)).1≠0:=by rw [e];omega
 have hle:1<=(zat (runes l)).2/\(zat (runes l)).2<=(runes l).length:=by rw [hc] at h0 ⊢;exact zdc _ _ h0
 rw [e] at hle
 refine ⟨hle.1,hle.2,?_⟩
 have hp:pc l=if zS (nx l).1=true then (1,spn (runes l)) else if dgt (nx l).1=true then (2,spn (runes l)) else (3,sgn (runes l)):=by
  unfold pc
  rw [if_neg c1,if_neg c2]
 rw [hp]
 split
 ·exact fun v hv=>.inl (zgF v hv)
 ·split
  ·exact fun v hv=>.inl (zgF v hv)
  ·exact fun v hv=>.inl (zlh _ v hv)
theorem zmQ (s:ByteArray) (k m:Nat):s.extract k (k+(byt ((runes ((bl s).drop k)).take m)).length)=txt ((runes ((bl s).drop k)).take m):=by
 have h1:bl (s.extract k (k+(byt ((runes ((bl s).drop k)).take m)).length))=((bl s).drop k).take (byt ((runes ((bl s).drop k)).take m)).length:=by
  show (s.extract k _).data.toList=_
  rw [Lib.extract_data]
  congr 1
  omega
 have e2:byt ((runes ((bl s).drop k)).take m)++byt ((runes ((bl s).drop k)).drop m)=(bl s).drop k:=by rw [<- zbG,List.take_append_drop,zan _ _ zn2]
 have e3:∀ (a b l:List UInt8),a++b=l->l.take a.length=a:=fun a b l h=>by rw [<- h];exact List.take_left
 rw [e3 _ _ _ e2] at h1
 have h2:∀ (t:ByteArray) (x:List UInt8),bl t=x->t=⟨x.toArray⟩:=fun t x h=>by
  apply ByteArray.ext
  show t.data=x.toArray
  rw [<- h]
 exact h2 _ _ h1
theorem zkn (l:List UInt8) (m:Nat):bl (txt ((runes l).take m))=l.take (byt ((runes l).take m)).length:=by
 have e2:byt ((runes l).take m)++byt ((runes l).drop m)=l:=by rw [<- zbG,List.take_append_drop,zan _ l zn2]
 have e3:∀ (a b l:List UInt8),a++b=l->l.take a.length=a:=fun a b l h=>by rw [<- h];exact List.take_left
 rw [e3 _ _ _ e2]
 simp [bl,txt]
theorem zkD {P:Program}{t e:TypeId}(ht:P.underlying t=some (.slice e)) (w:World) (x:Wd) :
  Src P 4 t (.slice (some ⟨w.heap.size,0,none⟩) 1 1) 1 (zeE x) (w.alloc (.cells #[.int .i64 (x.1:Int),.string (txt x.2.1),.int .i64 x.2.2.1,.int .i64 x.2.2.2] e)):=by
 have h:=World.ownsRow_lit (base:=w.heap.size) (e:=e) (size:=4) w #[.int .i64 (x.1:Int),.string (txt x.2.1),.int .i64 x.2.2.1,.int .i64 x.2.2.2] 1 zn2 (by simp [maxLen]) (by simp)
 exact Src.ofSlice _ ht _ 1 1 _ (by simp [zeE]) (by simpa [zeE] using h.cells (g:=w.heap.size) rfl) (by simp [zeE,Value.oneCell'])
theorem Tryz.infoG:(Tryz.prog.info? 73).map (fun i=>(i.zero,i.size,i.bytes))=some (some (.agg #[.int .i64 0,.string ⟨#[]⟩,.int .i64 0,.int .i64 0]),4,40):=by kernel_rfl
theorem zec (s:ByteArray) (w:World) (hs:s.size<=140737488351232) :
  Calls Tryz.prog 28 #[.string s] w fun e w'=>∃ u,e=.returned (.tuple #[u,.agg #[.int .i64 (zaj (bl s)).2.1.1,.int .i64 (zaj (bl s)).2.1.2],.int .i64 (zaj (bl s)).2.2])/\OwnW w' w.heap.size 73 u (zaj (bl s)).1/\Below w.heap.size w w':=by
 obtain ⟨i0,hi,hz0,hz1,hz2⟩:=info_parts Tryz.infoG
 by_cases hlong:12000 < s.size
 ·rw [zhp (show 12000 < (bl s).length from hlong)]
  have e1:(s.size:Int) > 12000:=by omega
  go_enter Tryz.func28,Tryz.ntmps28
  go_wp2
  go_region
  all_goals go_wp2
  all_goals exact bodyPost_ret (v:=.tuple #[.slice none 0 0,.agg #[.int .i64 1,.int .i64 1],.int .i64 4]) (by simp [results,Tryz.results28,go_sem]) rfl ⟨_,rfl,zdb _ _ _,((zn3.alloc zn2 _).alloc (by simp) _).drew⟩
 have e1:¬ (s.size:Int) > 12000:=by omega
 have hsm:s.size<=12000:=by omega
 obtain ⟨⟨X,⟨pL,pC⟩,er⟩,hE⟩:∃ x,zaj (bl s)=x:=⟨_,rfl⟩
 rw [hE]
 have HE:Hid (zcQ [] (zbp ((runes ((bl s).drop 0)).drop 0) 1 (1+((0:Nat):Int)) 0)=(X,(pL,pC),er)):=by
  show zcQ [] (zbp (runes (bl s)) 1 1 0)=(X,(pL,pC),er)
  rw [zjI,<- hE]
  unfold zaj
  rw [if_neg (show ¬ 12000 < (bl s).length from hlong)]
 clear hE
 go_enter Tryz.func28,Tryz.ntmps28
 go_wp2
 go_loopw [6,7] (fun o x wr=>∃ (k j p:Nat) (ln co:Int) (acc:List Wd),x=.int .i64 (p:Int)/\It0 wr (w.heap.size+2) s k/\k<=s.size/\Hid (Inn (bl s) k j p)/\Hid (zcQ acc (zbp ((runes ((bl s).drop k)).drop j) ln (co+(j:Int)) acc.length)=(X,(pL,pC),er))/\1<=ln/\1<=co/\ln<=1+k/\co<=1+k/\acc.length<=3000/\
  OwnW wr (w.heap.size+3) 73 o acc/\At wr (w.heap.size+1) (.int .i64 ln) (.int .i64 co)/\(∃ a b,At wr w.heap.size a b)/\Below w.heap.size w wr) (fun _ _ wr=>s.size - wr.iterPos (w.heap.size+2))
 case atStart=>
  refine ⟨0,0,0,1,1,[],rfl,?_,by omega,Inn.zero _ _,HE,by omega,by omega,by omega,by omega,by simp,zdb _ _ _,(At.new _ _ _ _ _ (by simp)).keep (zn3.alloc zn2 _),⟨_,_,((At.new w (.int .i64 0) (.int .i64 0) 23 _ rfl).keep (zn3.alloc zn2 _)).keep (zn3.alloc zn2 _)⟩,((zn3.alloc zn2 _).alloc (by simp) _).alloc (by simp;omega) _⟩
  have:=World.iter_heap ((w.alloc (.cells #[.int .i64 0,.int .i64 0] 23)).alloc (.cells #[.int .i64 1,.int .i64 1] 23)) s 0
  simpa [It0] using this
 case round=>
  obtain ⟨k,j,p,ln,co,acc,rfl,hit,hk,hin,hv,hl1,hc1,hl2,hc2,hacc,ho,hA,⟨a,b,hR⟩,hb⟩:=hrel
  by_cases hlt:k < s.size
  ·have hkl:k < (bl s).length:=by rw [zo];exact hlt
   have hnx:∀ ty,(Instr.next (.pointer (some ⟨w.heap.size+2,0,none⟩)) true ty).run Tryz.prog wr=_:=fun ty=>Lib.run_next_any_at wr (w.heap.size+2) s k ty hit hlt
   obtain ⟨d1,d2⟩:=zcV hlt
   have hne:=zam hkl
   have hps:=zaC hne
   have hnl:=zcT hne
   rw [List.length_drop,zo] at hnl
   have hrt:=zhr hkl
   rw [d1,d2] at hnx
   have bi:=Lib.below_iterAt (Below.refl (w.heap.size+2) wr) (k:=w.heap.size+2) zn2 s (k+(nx ((bl s).drop k)).2)
   have hit2:It0 (wr.iterAt (w.heap.size+2) s (k+(nx ((bl s).drop k)).2)) (w.heap.size+2) s (k+(nx ((bl s).drop k)).2):=Lib.iterAt_heap wr (w.heap.size+2) s k (k+(nx ((bl s).drop k)).2) hit
   have hA2:=hA.keepB bi (by omega)
   have hR2:=hR.keepB bi (by omega)
   have hb2:=hb.trans (bi.mono (by omega))
   have ho2:OwnW (wr.iterAt (w.heap.size+2) s (k+(nx ((bl s).drop k)).2)) (w.heap.size+3) 73 u6 acc:=ownsRow_iterAt ho (by omega) _ _
   obtain ⟨wq,hwq⟩:∃ wq,wr.iterAt (w.heap.size+2) s (k+(nx ((bl s).drop k)).2)=wq:=⟨_,rfl⟩
   rw [hwq] at hnx hit2 hA2 hR2 hb2 ho2
   have hq3:w.heap.size+3<=wq.heap.size:=by have:=hit2.lt;omega
   obtain ⟨y0,y1,y2,y3⟩:=id hA2
   clear d1 d2 hwq bi hA hR hb ho
   by_cases hj:0 < j
   ·
    obtain ⟨j',rfl⟩:∃ j',j=j'+1:=⟨j - 1,by omega⟩
    obtain ⟨hi1,hi2,hi3⟩:=Inn.step hkl hin.out
    have hx:rn (nx ((bl s).drop k)).1≠10:=fun e=>hi2 ((zaN (by omega)).1 e)
    have h26:=zcY ln co (rn (nx ((bl s).drop k)).1) wq (by omega) hx
    have hn:Hid (zcQ acc (zbp ((runes ((bl s).drop (k+(nx ((bl s).drop k)).2))).drop j') ln (co+1+(j':Int)) acc.length)=(X,(pL,pC),er)):=by
     have:=hv.out
     rw [hrt,show co+((j'+1:Nat):Int)=co+1+(j':Int) by omega] at this
     exact this
    have hI:Hid (Inn (bl s) (k+(nx ((bl s).drop k)).2) j' p):=hi1
    have hkp:((k:Int) == (p:Int))=false:=beq_eq_false_iff_ne.2 (by omega)
    obtain ⟨x,hxx⟩:∃ x,rn (nx ((bl s).drop k)).1=x:=⟨_,rfl⟩
    obtain ⟨q,hq⟩:∃ q,(nx ((bl s).drop k)).2=q:=⟨_,rfl⟩
    rw [hxx] at h26 hnx
    rw [hq] at hit2 hn hI hps hnl
    clear hrt hi1 hi2 hi3 hx hxx hq hne hkl hj
    go_wp2_with (first
     | (go_at_call 44;refine h26.mono ?_;rintro e w1 ⟨rfl,b1⟩;have hA1:=hA2.keep b1;have hR1:=hR2.keep b1;have hI1:=hit2.keep b1;have ho1:=ho2.below b1 zn2;obtain ⟨z0,z1,z2,z3⟩:=id hA1;have b2:=hb2.trans (b1.mono hb2.size);clear h26 hA2 hR2 hb2 ho2 y0 y1 y2 y3))
    have hI2:=(hI1.set (X:=w.heap.size+1) (i:=0) (by omega) (.int .i64 ln)).set (X:=w.heap.size+1) (i:=1) (by omega) (.int .i64 (co+1))
    go_roundw
    case rel=>
     exact ⟨k+q,j',p,ln,co+1,acc,rfl,hI2,by omega,hI,hn,by omega,by omega,by omega,by omega,hacc,(ho1.set (by simp) _).set (by simp) _,(hA1.set0 _).set1 _,⟨a,b,(hR1.far (by omega) _).far (by omega) _⟩,(b2.setCell (by simp) _).setCell (by simp) _⟩
    case measure=>rw [iterPos_of hI2,iterPos_of hit];omega
   ·
    obtain rfl:j=0:=by omega
    have hpk:k=p:=hin.out.size
    subst hpk
    have hkp:((k:Int) == (k:Int))=true:=by simp
    have hvv:=hv.out
    rw [List.drop_zero,show co+((0:Nat):Int)=co by omega] at hvv
    have hP:=fun w1=>zhO (s.extract k s.size) w1 (by rw [ByteArray.size_extract];omega) (by rw [ByteArray.size_extract];omega)
    rw [zmn] at hP
    have hRt:=fun w1=>zhw (pc ((bl s).drop k)).1 (txt ((runes ((bl s).drop k)).take (pc ((bl s).drop k)).2)) w1 (by
     have h1:=zkn ((bl s).drop k) (pc ((bl s).drop k)).2
     have h2:=congrArg List.length h1
     rw [zo,List.length_take,List.length_drop,zo] at h2
     omega)
    rw [zkn] at hRt
    have htx:=zmQ s k (pc ((bl s).drop k)).2
    have hpn:=zbY (runes ((bl s).drop k)) (pc ((bl s).drop k)).2
    rw [zan _ _ zn2,List.length_drop,zo] at hpn
    have hpl:=znT hne
    have hst:=fun h1 h2 h3=>Inn.start (m:=(pc ((bl s).drop k)).2) hkl h1 h2 h3
    have hrw:=zex hne
    unfold pcB at hP hpl hrw
    obtain ⟨R,hRR⟩:∃ R,runes ((bl s).drop k)=R:=⟨_,rfl⟩
    have hcs:=zq hne
    rw [hRR] at hcs
    have hw:=zdN ((nx ((bl s).drop k)).1,((bl s).drop k).take (nx ((bl s).drop k)).2) (runes (((bl s).drop k).drop (nx ((bl s).drop k)).2)) ln co acc.length
    rw [<- hcs] at hw
    simp only at hw
    simp only [hRR] at hP hRt htx hpn hpl hst hrw hvv hrt
    have hpc10:(nx ((bl s).drop k)).1=10∨(nx ((bl s).drop k)).1=32∨(nx ((bl s).drop k)).1=9->pc ((bl s).drop k)=(0,1):=fun h=>by unfold pc;rw [if_pos (by omega)]
    have hpc35:(nx ((bl s).drop k)).1=35->pc ((bl s).drop k)=(0,rest R):=fun h=>by unfold pc;rw [if_neg (by omega),if_pos h,hRR]
    obtain ⟨K,hK⟩:∃ K,(pc ((bl s).drop k)).1=K:=⟨_,rfl⟩
    obtain ⟨m,hm⟩:∃ m,(pc ((bl s).drop k)).2=m:=⟨_,rfl⟩
    obtain ⟨g,hg⟩:∃ g,zck K (((bl s).drop k).take (byt (R.take m)).length)=g:=⟨_,rfl⟩
    simp only [hK,hm] at hP hRt htx hpn hpl hst hrw
    rw [hg] at hpl hrw
    simp only [hg] at hRt
    obtain ⟨n,hnn⟩:∃ n,(byt (R.take m)).length=n:=⟨_,rfl⟩
    simp only [hnn] at hP htx hpn hst
    have hKg:K=0->g=true:=fun h=>by rw [<- hg,h];rfl
    clear hg
    have hkn:(k:Int)<=(k:Int)+(n:Int):=by omega
    have hkn2:(k:Int)+(n:Int)<=(s.size:Int):=by omega
    have hk0:(0:Int)<=(k:Int):=by omega
    have hks:(k:Int)<=(s.size:Int):=by omega
    have hknn:(0:Int)<=(k:Int)+(n:Int):=by omega
    have hK0:(nx ((bl s).drop k)).1=10∨(nx ((bl s).drop k)).1=32∨(nx ((bl s).drop k)).1=9->K=0/\m=1:=fun h=>by rw [<- hK,<- hm,hpc10 h];exact ⟨rfl,rfl⟩
    have hK5:(nx ((bl s).drop k)).1=35->K=0/\m=rest R:=fun h=>by rw [<- hK,<- hm,hpc35 h];exact ⟨rfl,rfl⟩
    clear hpc10 hpc35 hv
    cases g with
    | false=>
     have c10:¬ (nx ((bl s).drop k)).1=10:=fun h=>by have:=hKg (hK0 (.inl h)).1;cases this
     have c32:¬ ((nx ((bl s).drop k)).1=32∨(nx ((bl s).drop k)).1=9):=fun h=>by have:=hKg (hK0 (.inr h)).1;cases this
     have c35:¬ (nx ((bl s).drop k)).1=35:=fun h=>by have:=hKg (hK5 h).1;cases this
     have hf0:=(hrw c10 c32 c35).2.2 rfl
     rw [hw,if_neg c10,if_neg c32,if_neg c35,if_pos hf0,zgk _ _ _ (by decide)] at hvv
     simp only [Prod.mk.injEq] at hvv
     obtain ⟨rfl,⟨rfl,rfl⟩,rfl⟩:=hvv
     obtain ⟨x,hxx⟩:∃ x,rn (nx ((bl s).drop k)).1=x:=⟨_,rfl⟩
     rw [hxx] at hnx hP
     clear c10 c32 c35 hf0 hw hrt hrw hpl hst hne hkl hcs hRR hK hm hK0 hK5 hKg hxx hit2 ho2 hnn hpn hin HE
     go_wp2_with (first
      | (go_at_call 42;refine (hP _).mono ?_;rintro e w1 ⟨rfl,b1⟩;have hA1:=hA2.keep b1;have hR1:=hR2.keep b1;have bb1:=hb2.trans (b1.mono hb2.size);clear hA2 hR2 hb2 hP b1 y0 y1 y2 y3)
      | (go_at_call 43;refine (hRt _).mono ?_;rintro e w2 ⟨rfl,b2⟩;have hA3:=hA1.keep b2;have hR3:=hR1.keep b2;have bb:=bb1.trans (b2.mono bb1.size);obtain ⟨y0,y1,y2,y3⟩:=id hA3;obtain ⟨z0,z1,z2,z3⟩:=id hR3;clear hA1 hR1 bb1 hRt b2))
     have hQ:=(hR3.set0 (.int .i64 ln)).set1 (.int .i64 co)
     obtain ⟨q0,q1,q2,q3⟩:=id hQ
     have bq:Below w.heap.size w ((w2.setCell ⟨w.heap.size,0,none⟩ (.int .i64 ln)).setCell ⟨w.heap.size,1,none⟩ (.int .i64 co)).drew:=((bb.setCell (by simp) _).setCell (by simp) _).drew
     clear hQ hA3 hR3
     go_region
     all_goals go_wp2
     all_goals exact bodyPost_ret (v:=.tuple #[.slice none 0 0,.agg #[.int .i64 ln,.int .i64 co],.int .i64 11]) (by simp [results,Tryz.results28,go_sem,q0,q1]) rfl ⟨_,rfl,zdb _ _ _,bq⟩
    | true=>
     obtain ⟨hm1,hm2,hno⟩:=hpl rfl
     have hI:=hst hm1 hm2 hno
     by_cases c10:(nx ((bl s).drop k)).1=10
     ·
      have hx:rn (nx ((bl s).drop k)).1=10:=(zaN (by omega)).2 c10
      obtain ⟨rfl,rfl⟩:=hK0 (.inl c10)
      have h26:=fun w1=>zdu ln co w1 (by omega)
      rw [hw,if_pos c10,List.drop_drop] at hvv
      have hn:Hid (zcQ acc (zbp ((runes ((bl s).drop (k+(nx ((bl s).drop k)).2))).drop 0) (ln+1) (1+((0:Nat):Int)) acc.length)=(X,(pL,pC),er)):=hvv
      have hIH:Hid (Inn (bl s) (k+(nx ((bl s).drop k)).2) 0 (k+n)):=hI
      rw [hx] at hnx hP
      obtain ⟨q,hq⟩:∃ q,(nx ((bl s).drop k)).2=q:=⟨_,rfl⟩
      rw [hq] at hit2 hn hIH hps hnl
      clear c10 hx hw hrt hrw hpl hst hne hkl hcs hRR hK hm hK0 hK5 hKg hvv hI hq hnn hpn hin HE hm1 hm2 hno
      go_wp2_with (first
       | (go_at_call 42;refine (hP _).mono ?_;rintro e w1 ⟨rfl,b1⟩;have hA1:=hA2.keep b1;have hR1:=hR2.keep b1;have hI1:=hit2.keep b1;have ho1:=ho2.below b1 zn2;have bb1:=hb2.trans (b1.mono hb2.size);clear hA2 hR2 hb2 ho2 hit2 hP b1 y0 y1 y2 y3)
       | (go_at_call 43;refine (hRt _).mono ?_;rintro e w2 ⟨rfl,b2⟩;have hA3:=hA1.keep b2;have hR3:=hR1.keep b2;have hI3:=hI1.keep b2;have ho3:=ho1.below b2 zn2;have bb3:=bb1.trans (b2.mono bb1.size);obtain ⟨y0,y1,y2,y3⟩:=id hA3;clear hA1 hR1 hI1 ho1 bb1 hRt b2)
       | (go_at_call 44;refine (h26 _).mono ?_;rintro e w4 ⟨rfl,b4⟩;have hA4:=hA3.keep b4;have hR4:=hR3.keep b4;have hI4:=hI3.keep b4;have ho4:=ho3.below b4 zn2;have bb4:=bb3.trans (b4.mono bb3.size);obtain ⟨z0,z1,z2,z3⟩:=id hA4;clear h26 hA3 hR3 hI3 ho3 bb3 b4 y0 y1 y2 y3))
      have hI5:=(hI4.set (X:=w.heap.size+1) (i:=0) (by omega) (.int .i64 (ln+1))).set (X:=w.heap.size+1) (i:=1) (by omega) (.int .i64 1)
      go_roundw
      case rel=>
       exact ⟨k+q,0,k+n,ln+1,1,acc,by go_num,hI5,by omega,hIH,hn,by omega,by omega,by omega,by omega,hacc,(ho4.set (by simp) _).set (by simp) _,(hA4.set0 _).set1 _,⟨a,b,(hR4.far (by omega) _).far (by omega) _⟩,(bb4.setCell (by simp) _).setCell (by simp) _⟩
      case measure=>rw [iterPos_of hI5,iterPos_of hit];omega
     ·have hx:rn (nx ((bl s).drop k)).1≠10:=fun e=>c10 ((zaN (by omega)).1 e)
      have h26:=fun w1=>zcY ln co (rn (nx ((bl s).drop k)).1) w1 (by omega) hx
      by_cases hbt:((nx ((bl s).drop k)).1=32∨(nx ((bl s).drop k)).1=9)∨(nx ((bl s).drop k)).1=35
      ·
       have hKm:K=0:=hbt.elim (fun h=>(hK0 (.inr h)).1) (fun h=>(hK5 h).1)
       subst hKm
       have hwm:zbp R ln co acc.length=zbp (R.drop m) ln (co+(m:Int)) acc.length:=by
        rcases hbt with h|h
        ·rw [hw,if_neg c10,if_pos h,(hK0 (.inr h)).2,hrt 0,List.drop_zero,List.drop_drop];rfl
        ·rw [hw,if_neg c10,if_neg (by omega),if_pos h,<- (hK5 h).2]
       obtain ⟨j',rfl⟩:∃ j',m=j'+1:=⟨m - 1,by omega⟩
       rw [hwm,hrt,show co+((j'+1:Nat):Int)=co+1+(j':Int) by omega] at hvv
       have hn:Hid (zcQ acc (zbp ((runes ((bl s).drop (k+(nx ((bl s).drop k)).2))).drop j') ln (co+1+(j':Int)) acc.length)=(X,(pL,pC),er)):=hvv
       have hIH:Hid (Inn (bl s) (k+(nx ((bl s).drop k)).2) j' (k+n)):=hI
       obtain ⟨x,hxx⟩:∃ x,rn (nx ((bl s).drop k)).1=x:=⟨_,rfl⟩
       obtain ⟨q,hq⟩:∃ q,(nx ((bl s).drop k)).2=q:=⟨_,rfl⟩
       rw [hxx] at hnx hP
       simp only [hxx] at h26
       rw [hq] at hit2 hn hIH hps hnl
       clear c10 hx hw hrt hrw hpl hst hne hkl hcs hRR hK hm hK0 hK5 hKg hvv hI hq hnn hpn hin HE hm1 hm2 hno hbt hwm hxx
       go_wp2_with (first
        | (go_at_call 42;refine (hP _).mono ?_;rintro e w1 ⟨rfl,b1⟩;have hA1:=hA2.keep b1;have hR1:=hR2.keep b1;have hI1:=hit2.keep b1;have ho1:=ho2.below b1 zn2;have bb1:=hb2.trans (b1.mono hb2.size);clear hA2 hR2 hb2 ho2 hit2 hP b1 y0 y1 y2 y3)
        | (go_at_call 43;refine (hRt _).mono ?_;rintro e w2 ⟨rfl,b2⟩;have hA3:=hA1.keep b2;have hR3:=hR1.keep b2;have hI3:=hI1.keep b2;have ho3:=ho1.below b2 zn2;have bb3:=bb1.trans (b2.mono bb1.size);obtain ⟨y0,y1,y2,y3⟩:=id hA3;clear hA1 hR1 hI1 ho1 bb1 hRt b2)
        | (go_at_call 44;refine (h26 _).mono ?_;rintro e w4 ⟨rfl,b4⟩;have hA4:=hA3.keep b4;have hR4:=hR3.keep b4;have hI4:=hI3.keep b4;have ho4:=ho3.below b4 zn2;have bb4:=bb3.trans (b4.mono bb3.size);obtain ⟨z0,z1,z2,z3⟩:=id hA4;clear h26 hA3 hR3 hI3 ho3 bb3 b4 y0 y1 y2 y3))
       have hI5:=(hI4.set (X:=w.heap.size+1) (i:=0) (by omega) (.int .i64 ln)).set (X:=w.heap.size+1) (i:=1) (by omega) (.int .i64 (co+1))
       go_roundw
       case rel=>
        exact ⟨k+q,j',k+n,ln,co+1,acc,by go_num,hI5,by omega,hIH,hn,by omega,by omega,by omega,by omega,hacc,(ho4.set (by simp) _).set (by simp) _,(hA4.set0 _).set1 _,⟨a,b,(hR4.far (by omega) _).far (by omega) _⟩,(bb4.setCell (by simp) _).setCell (by simp) _⟩
       case measure=>rw [iterPos_of hI5,iterPos_of hit];omega
      ·
       have c32:¬ ((nx ((bl s).drop k)).1=32∨(nx ((bl s).drop k)).1=9):=fun h=>hbt (.inl h)
       have c35:¬ (nx ((bl s).drop k)).1=35:=fun h=>hbt (.inr h)
       obtain ⟨hK1,hfp,_⟩:=hrw c10 c32 c35
       have hf:=hfp rfl
       have hf1:(zat R).1=K:=by rw [hf];exact hK
       have hf2:(zat R).2=m:=by rw [hf];exact hm
       have hKz:((K:Int) != 0)=true:=by simp;omega
       rw [hw,if_neg c10,if_neg c32,if_neg c35,hf1,hf2,if_neg (show ¬ K=0 by omega)] at hvv
       have hlen:∃ ao ac,u6=.slice ao acc.length ac:=by
        rcases ho2.2 with ⟨h,h2⟩|⟨g,cp,_,h,_⟩
        ·exact ⟨none,0,by rw [h,h2]⟩
        ·exact ⟨_,_,h⟩
       obtain ⟨ao,ac,rfl⟩:=hlen
       obtain ⟨x,hxx⟩:∃ x,rn (nx ((bl s).drop k)).1=x:=⟨_,rfl⟩
       rw [hxx] at hnx hP
       simp only [hxx] at h26
       by_cases a3:acc.length=3000
       ·rw [if_pos a3,zgk _ _ _ (by decide)] at hvv
        simp only [Prod.mk.injEq] at hvv
        obtain ⟨rfl,⟨rfl,rfl⟩,rfl⟩:=hvv
        have h3:((acc.length:Int) == 3000)=true:=by simp;omega
        clear c10 c32 c35 hw hrt hrw hpl hst hne hkl hcs hRR hK hm hK0 hK5 hKg hxx hit2 ho2 hnn hpn hin HE hfp hf hf1 hf2 hI hx h26 hbt hm1 hm2 hno a3
        go_wp2_with (first
         | (go_at_call 42;refine (hP _).mono ?_;rintro e w1 ⟨rfl,b1⟩;have hA1:=hA2.keep b1;have hR1:=hR2.keep b1;have bb1:=hb2.trans (b1.mono hb2.size);clear hA2 hR2 hb2 hP b1 y0 y1 y2 y3)
         | (go_at_call 43;refine (hRt _).mono ?_;rintro e w2 ⟨rfl,b2⟩;have hA3:=hA1.keep b2;have hR3:=hR1.keep b2;have bb:=bb1.trans (b2.mono bb1.size);obtain ⟨y0,y1,y2,y3⟩:=id hA3;obtain ⟨z0,z1,z2,z3⟩:=id hR3;clear hA1 hR1 bb1 hRt b2))
        have hQ:=(hR3.set0 (.int .i64 ln)).set1 (.int .i64 co)
        obtain ⟨q0,q1,q2,q3⟩:=id hQ
        have bq:Below w.heap.size w ((w2.setCell ⟨w.heap.size,0,none⟩ (.int .i64 ln)).setCell ⟨w.heap.size,1,none⟩ (.int .i64 co)).drew:=((bb.setCell (by simp) _).setCell (by simp) _).drew
        clear hQ hA3 hR3
        go_region
        all_goals go_wp2
        all_goals exact bodyPost_ret (v:=.tuple #[.slice none 0 0,.agg #[.int .i64 ln,.int .i64 co],.int .i64 4]) (by simp [results,Tryz.results28,go_sem,q0,q1]) rfl ⟨_,rfl,zdb _ _ _,bq⟩
       ·rw [if_neg a3,zkx] at hvv
        have h3:((acc.length:Int) == 3000)=false:=beq_eq_false_iff_ne.2 (by omega)
        have hac:acc.length < 3000:=by omega
        obtain ⟨seg,hseg⟩:∃ seg,R.take m=seg:=⟨_,rfl⟩
        rw [hseg] at hvv htx hRt
        obtain ⟨j',rfl⟩:∃ j',m=j'+1:=⟨m - 1,by omega⟩
        rw [hrt,show co+((j'+1:Nat):Int)=co+1+(j':Int) by omega] at hvv
        have hn:Hid (zcQ (acc++[(K,seg,ln,co)]) (zbp ((runes ((bl s).drop (k+(nx ((bl s).drop k)).2))).drop j') ln (co+1+(j':Int)) (acc++[((K,seg,ln,co):Wd)]).length)=(X,(pL,pC),er)):=by
         rw [List.length_append];exact hvv
        have hIH:Hid (Inn (bl s) (k+(nx ((bl s).drop k)).2) j' (k+n)):=hI
        have hts:(txt seg).size<=140737488351232:=by rw [<- htx,ByteArray.size_extract];omega
        have hC:=fun w1=>zQ (txt seg) w1 hts
        obtain ⟨q,hq⟩:∃ q,(nx ((bl s).drop k)).2=q:=⟨_,rfl⟩
        rw [hq] at hit2 hn hIH hps hnl
        clear c10 c32 c35 hw hrt hrw hpl hst hne hkl hcs hRR hK hm hK0 hK5 hKg hxx hnn hpn hin HE hfp hf hf1 hf2 hI hx hbt hm1 hm2 hno a3 hvv hq hseg hts
        go_wp2_with (first
         | (go_at_call 42;refine (hP _).mono ?_;rintro e w1 ⟨rfl,b1⟩;have hA1:=hA2.keep b1;have hR1:=hR2.keep b1;have hI1:=hit2.keep b1;have ho1:=ho2.below b1 zn2;have bb1:=hb2.trans (b1.mono hb2.size);have hq1:w.heap.size+3<=w1.heap.size:=zn5 hq3 b1.size;clear hA2 hR2 hb2 ho2 hit2 hP b1 y0 y1 y2 y3)
         | (go_at_call 43;refine (hRt _).mono ?_;rintro e w2 ⟨rfl,b2⟩;have hA3:=hA1.keep b2;have hR3:=hR1.keep b2;have hI3:=hI1.keep b2;have ho3:=ho1.below b2 zn2;have bb3:=bb1.trans (b2.mono bb1.size);have hq2:w.heap.size+3<=w2.heap.size:=zn5 hq1 b2.size;obtain ⟨y0,y1,y2,y3⟩:=id hA3;clear hA1 hR1 hI1 ho1 bb1 hRt b2))
        go_region_held_law (fun w'=>w'.cell? ⟨w.heap.size+1,0,none⟩=some (.int .i64 ln)/\w'.cell? ⟨w.heap.size+1,1,none⟩=some (.int .i64 co))
         (first|exact ⟨y0,y1⟩|exact ⟨c0,c1⟩|exact ⟨p0,p1⟩|go_keep)
         ((first
          | (go_at_call 22;refine (hC _).mono ?_;rintro e w3 ⟨rfl,b3⟩;have b3':Below w2.heap.size w2 w3:=((Below.refl _ w2).drew).trans b3;have hA5:=hA3.keep b3';have hR5:=hR3.keep b3';have hI5:=hI3.keep b3';have ho5:=ho3.below b3' zn2;have bb5:=bb3.trans (b3'.mono bb3.size);have hq5:w.heap.size+3<=w3.heap.size:=zn5 hq2 b3'.size;obtain ⟨c0,c1,c2,c3⟩:=id hA5)
          | (refine za6 _ (by rfl) (.tmp 53) (.tmp 59) 65 65 (by rfl) (w.heap.size+3) 73 i0 (.agg #[.int .i64 0,.string ⟨#[]⟩,.int .i64 0,.int .i64 0]) 4 40 Tryz.underlying65 hi hz0 hz1 hz2 rfl _ acc.length _ (by rfl) (World.ownsRow.alloc ho5 _) _ 1 (zeE (K,seg,ln,co)) (by rfl) (zkD Tryz.underlying65 w3 (K,seg,ln,co)) 1 (.inr (by omega)) zn2 (by unfold maxLen;omega) (by simp;omega) ?_;intro v4 w4 ho6 hg4 _;have bel4:Below (w.heap.size+3) w3 w4:=((zn3.alloc hq5 _)).grown hg4 (by simp;omega) (fun k hk=>(World.ownsRow.lt ho5 k hk).1);obtain ⟨p0,p1,p2,p3⟩:=hA5.keepB bel4 (by omega))))
        have hA6:At w4 (w.heap.size+1) (.int .i64 ln) (.int .i64 co):=⟨p0,p1,p2,p3⟩
        have hR6:=hR5.keepB bel4 (by omega)
        have hI6:=hI5.keepB bel4 (by omega)
        have bb6:=bb5.trans (bel4.mono (by omega))
        have ho7:=zi6 ho6
        clear ho6 hg4 ho5 ho3 hA3 hA5 hR3 hR5 hI3 hI5 bel4 bb3 bb5 b3 b3' c0 c1 c2 c3 y0 y1 y2 y3 htx hC hq2 hq5 hq1 hq3
        go_wp2_with (first
         | (go_at_call 44;refine (h26 _).mono ?_;rintro e w8 ⟨rfl,b8⟩;have hA8:=hA6.keep b8;have hR8:=hR6.keep b8;have hI8:=hI6.keep b8;have ho8:=ho7.below b8 zn2;have bb8:=bb6.trans (b8.mono bb6.size);obtain ⟨z0,z1,z2,z3⟩:=id hA8;clear h26 hA6 hR6 hI6 ho7 bb6 b8 p0 p1 p2 p3))
        have hI9:=(hI8.set (X:=w.heap.size+1) (i:=0) (by omega) (.int .i64 ln)).set (X:=w.heap.size+1) (i:=1) (by omega) (.int .i64 (co+1))
        go_roundw
        case rel=>
         exact ⟨k+q,j',k+n,ln,co+1,acc++[(K,seg,ln,co)],by go_num,hI9,by omega,hIH,hn,by omega,by omega,by omega,by omega,by simp;omega,(ho8.set (by simp) _).set (by simp) _,(hA8.set0 _).set1 _,⟨a,b,(hR8.far (by omega) _).far (by omega) _⟩,(bb8.setCell (by simp) _).setCell (by simp) _⟩
        case measure=>rw [iterPos_of hI9,iterPos_of hit];omega
  ·have hnx:∀ ty,(Instr.next (.pointer (some ⟨w.heap.size+2,0,none⟩)) true ty).run Tryz.prog wr=_:=fun ty=>Lib.run_next_end_at wr (w.heap.size+2) s k ty hit hlt
   have hnil:(bl s).drop k=[]:=List.drop_eq_nil_of_le (by rw [zo];omega)
   have hvv:=hv.out
   rw [hnil,zbt,List.drop_nil,zko] at hvv
   simp only [Prod.mk.injEq] at hvv
   obtain ⟨rfl,⟨rfl,rfl⟩,rfl⟩:=hvv
   obtain ⟨z0,z1,z2,z3⟩:=id hR
   have hA2:=(hR.set0 (.int .i64 0)).set1 (.int .i64 0)
   obtain ⟨q0,q1,q2,q3⟩:=id hA2
   have b2:Below w.heap.size w ((wr.setCell ⟨w.heap.size,0,none⟩ (.int .i64 0)).setCell ⟨w.heap.size,1,none⟩ (.int .i64 0)):=(hb.setCell (by simp) _).setCell (by simp) _
   have o2:=(ho.set (a:=⟨w.heap.size,0,none⟩) (by simp) (.int .i64 0)).set (a:=⟨w.heap.size,1,none⟩) (by simp) (.int .i64 0)
   clear hnil hA hR hA2 hv HE ho hin
   go_wp2
   exact bodyPost_ret (v:=.tuple #[u6,.agg #[.int .i64 0,.int .i64 0],.int .i64 0]) (by simp [results,Tryz.results28,go_sem,q0,q1]) rfl ⟨_,rfl,o2.base (by omega),b2⟩
end Go.Proofs.YtlkdaldfklaicaaGreatDoor
namespace Go.Proofs.YtlkdaldfklaicaaGreatDoor
open Go.Shelf
set_option linter.unusedVariables false
def znZ:Ren:={ f:=fun x=>match x with|174=>115|247=>83|245=>80|287=>89|279=>84|280=>85|281=>86|282=>87|321=>96|322=>97|316=>39|171=>91|205=>90|243=>98|246=>103|283=>111|284=>112|285=>113|286=>114|129=>118|317=>117|318=>119|319=>120|320=>121|337=>122|338=>123|n=>n,t:=fun x=>match x with|9=>9|3=>3|2=>2|75=>138|85=>159|4=>4|167=>158|5=>5|53=>166|175=>167|46=>169|168=>161|37=>129|0=>0|210=>171|21=>21|127=>130|145=>182|143=>180|171=>194|173=>197|212=>201|51=>202|20=>20|213=>203|232=>207|233=>208|80=>209|n=>n,g:=fun x=>match x with|15=>0|16=>1|17=>2|18=>3|19=>4|n=>n }
theorem znV:LaysC.n174 Tryz.prog znZ:=
 {mixed:=by kernel_rfl,f129:=Tryz.func118.trans (congrArg some (by kernel_rfl)),f171:=Tryz.func91.trans (congrArg some (by kernel_rfl)),f174:=Tryz.func115.trans (congrArg some (by kernel_rfl)),f205:=Tryz.func90.trans (congrArg some (by kernel_rfl)),f243:=Tryz.func98.trans (congrArg some (by kernel_rfl)),f245:=Tryz.func80.trans (congrArg some (by kernel_rfl)),f246:=Tryz.func103.trans (congrArg some (by kernel_rfl)),f247:=Tryz.func83.trans (congrArg some (by kernel_rfl)),f279:=Tryz.func84.trans (congrArg some (by kernel_rfl)),f280:=Tryz.func85.trans (congrArg some (by kernel_rfl)),f281:=Tryz.func86.trans (congrArg some (by kernel_rfl)),f282:=Tryz.func87.trans (congrArg some (by kernel_rfl)),f283:=Tryz.func111.trans (congrArg some (by kernel_rfl)),f284:=Tryz.func112.trans (congrArg some (by kernel_rfl)),f285:=Tryz.func113.trans (congrArg some (by kernel_rfl)),f286:=Tryz.func114.trans (congrArg some (by kernel_rfl)),f287:=Tryz.func89.trans (congrArg some (by kernel_rfl)),f316:=Tryz.func39.trans (congrArg some (by kernel_rfl)),f317:=Tryz.func117.trans (congrArg some (by kernel_rfl)),f318:=Tryz.func119.trans (congrArg some (by kernel_rfl)),f319:=Tryz.func120.trans (congrArg some (by kernel_rfl)),f320:=Tryz.func121.trans (congrArg some (by kernel_rfl)),f321:=Tryz.func96.trans (congrArg some (by kernel_rfl)),f322:=Tryz.func97.trans (congrArg some (by kernel_rfl)),f337:=Tryz.func122.trans (congrArg some (by kernel_rfl)),f338:=Tryz.func123.trans (congrArg some (by kernel_rfl)),t0:=Tryz.underlying0,a0:=Tryz.isAgg0,z0:=Tryz.sizeOf0,v0:=Tryz.zeroValue0,t2:=Tryz.underlying2,a2:=Tryz.isAgg2,z2:=Tryz.sizeOf2,v2:=Tryz.zeroValue2,t3:=Tryz.underlying3,a3:=Tryz.isAgg3,z3:=Tryz.sizeOf3,v3:=Tryz.zeroValue3,t4:=Tryz.underlying4,a4:=Tryz.isAgg4,z4:=Tryz.sizeOf4,v4:=Tryz.zeroValue4,t5:=Tryz.underlying5,a5:=Tryz.isAgg5,z5:=Tryz.sizeOf5,v5:=Tryz.zeroValue5,t9:=Tryz.underlying9,a9:=Tryz.isAgg9,z9:=Tryz.sizeOf9,v9:=Tryz.zeroValue9,t20:=Tryz.underlying20,a20:=Tryz.isAgg20,z20:=Tryz.sizeOf20,v20:=Tryz.zeroValue20,t21:=Tryz.underlying21,a21:=Tryz.isAgg21,z21:=Tryz.sizeOf21,v21:=Tryz.zeroValue21,t37:=Tryz.underlying129,a37:=Tryz.isAgg129,z37:=Tryz.sizeOf129,v37:=Tryz.zeroValue129,t46:=Tryz.underlying169,a46:=Tryz.isAgg169,z46:=Tryz.sizeOf169,v46:=Tryz.zeroValue169,t51:=Tryz.underlying202,a51:=Tryz.isAgg202,z51:=Tryz.sizeOf202,v51:=Tryz.zeroValue202,t53:=Tryz.underlying166,a53:=Tryz.isAgg166,z53:=Tryz.sizeOf166,v53:=Tryz.zeroValue166,t75:=Tryz.underlying138,a75:=Tryz.isAgg138,z75:=Tryz.sizeOf138,v75:=Tryz.zeroValue138,t85:=Tryz.underlying159,a85:=Tryz.isAgg159,z85:=Tryz.sizeOf159,v85:=Tryz.zeroValue159,t127:=Tryz.underlying130,a127:=Tryz.isAgg130,z127:=Tryz.sizeOf130,v127:=Tryz.zeroValue130,t143:=Tryz.underlying180,a143:=Tryz.isAgg180,z143:=Tryz.sizeOf180,v143:=Tryz.zeroValue180,t145:=Tryz.underlying182,a145:=Tryz.isAgg182,z145:=Tryz.sizeOf182,v145:=Tryz.zeroValue182,t167:=Tryz.underlying158,a167:=Tryz.isAgg158,z167:=Tryz.sizeOf158,v167:=Tryz.zeroValue158,t168:=Tryz.underlying161,a168:=Tryz.isAgg161,z168:=Tryz.sizeOf161,v168:=Tryz.zeroValue161,t171:=Tryz.underlying194,a171:=Tryz.isAgg194,z171:=Tryz.sizeOf194,v171:=Tryz.zeroValue194,t173:=Tryz.underlying197,a173:=Tryz.isAgg197,z173:=Tryz.sizeOf197,v173:=Tryz.zeroValue197,t175:=Tryz.underlying167,a175:=Tryz.isAgg167,z175:=Tryz.sizeOf167,v175:=Tryz.zeroValue167,t210:=Tryz.underlying171,a210:=Tryz.isAgg171,z210:=Tryz.sizeOf171,v210:=Tryz.zeroValue171,t212:=Tryz.underlying201,a212:=Tryz.isAgg201,z212:=Tryz.sizeOf201,v212:=Tryz.zeroValue201,t213:=Tryz.underlying203,a213:=Tryz.isAgg203,z213:=Tryz.sizeOf203,t232:=Tryz.underlying207,a232:=Tryz.isAgg207,z232:=Tryz.sizeOf207,v232:=Tryz.zeroValue207,t233:=Tryz.underlying208,a233:=Tryz.isAgg208,z233:=Tryz.sizeOf208,v233:=Tryz.zeroValue208,g15:=by kernel_rfl,g16:=by kernel_rfl,g17:=by kernel_rfl,g18:=by kernel_rfl,g19:=by kernel_rfl,t80:=Tryz.underlying209,a80:=Tryz.isAgg209,z80:=Tryz.sizeOf209,v80:=Tryz.zeroValue209,i0:=by kernel_rfl,i2:=by kernel_rfl,i3:=by kernel_rfl,i4:=by kernel_rfl,i5:=by kernel_rfl,i9:=by kernel_rfl,i20:=by kernel_rfl,i21:=by kernel_rfl,i37:=by kernel_rfl,i46:=by kernel_rfl,i51:=by kernel_rfl,i53:=by kernel_rfl,i75:=by kernel_rfl,i80:=by kernel_rfl,i85:=by kernel_rfl,i127:=by kernel_rfl,i143:=by kernel_rfl,i145:=by kernel_rfl,i167:=by kernel_rfl,i168:=by kernel_rfl,i171:=by kernel_rfl,i173:=by kernel_rfl,i175:=by kernel_rfl,i210:=by kernel_rfl,i212:=by kernel_rfl,i232:=by kernel_rfl,i233:=by kernel_rfl,m15:=by kernel_rfl,m16:=by kernel_rfl,m17:=by kernel_rfl,m18:=by kernel_rfl,m19:=by kernel_rfl,c0:=by kernel_rfl,c2:=by kernel_rfl,c3:=by kernel_rfl,c4:=by kernel_rfl,c5:=by kernel_rfl,c9:=by kernel_rfl,c20:=by kernel_rfl,c21:=by kernel_rfl,c37:=by kernel_rfl,c46:=by kernel_rfl,c51:=by kernel_rfl,c53:=by kernel_rfl,c75:=by kernel_rfl,c80:=by kernel_rfl,c85:=by kernel_rfl,c127:=by kernel_rfl,c143:=by kernel_rfl,c145:=by kernel_rfl,c167:=by kernel_rfl,c168:=by kernel_rfl,c171:=by kernel_rfl,c173:=by kernel_rfl,c175:=by kernel_rfl,c210:=by kernel_rfl,c212:=by kernel_rfl,c213:=by kernel_rfl,c232:=by kernel_rfl,c233:=by kernel_rfl }
end Go.Proofs.YtlkdaldfklaicaaGreatDoor
namespace Go.Proofs.YtlkdaldfklaicaaGreatDoor
open Go.RowKit Go.Lib
set_option linter.unusedSimpArgs false
set_option linter.unusedVariables false
attribute [local go_sem ↓] Go.wp_at_zero Go.wp_at_succ
theorem zeS (s:ByteArray) (hs:zai (bl s)=true) (w:World):Calls Tryz.prog 115 #[.string s,.int .i64 10,.int .i64 64] w fun e w'=>e=.returned (.tuple #[.int .i64 (zz 0 (bl s)),.nilIface])/\Below w.heap.size w w':=by
 have hl:=(zdw hs).1
 have h:=Any.strconv_ParseInt_10_at64_ok znV s (by rw [<- zo];omega) (zz 0 (bl s)) (zi1 hs) w
 refine Calls.mono h ?_
 rintro e w' ⟨rfl,hw⟩
 refine ⟨rfl,?_⟩
 rcases hw with rfl|⟨t,rfl⟩
 ·exact Below.refl _ _
 ·exact bytesWorld_below _ _ _
theorem zjC {w:World}{X:Nat}{V:List Sx}{W:List Sg2}{b:Bool}{vv ww:Value}(h:Rdr w X ⟨V,W,0,b⟩ vv ww) :
  Calls Tryz.prog 104 #[.pointer (some ⟨X,0,none⟩)] w fun e w'=>e=.returned (.bool false)/\w=w':=by
 obtain ⟨y0,y1,y2,y3,f0,f1,f2,f3⟩:=id h.b
 simp only at y2
 go_enter Tryz.func104,Tryz.ntmps104
 go_wp2
 go_ret
 exact ⟨rfl,rfl⟩
theorem ziB {W:List Sg2}(h:brk W≠0) (ht:zbV W < 1):∃ s W',W=s :: W'/\brk W=brk W'+1/\zbg W=zbg W':=by
 cases W with
 | nil=>exact absurd rfl h
 | cons s W=>
  have h0:s.2=0:=by have:s.2 < 1:=ht;omega
  refine ⟨s,W,rfl,?_,?_⟩
  ·show brk W+_=_;rw [if_pos h0]
  ·show zbg W+_=_;rw [if_pos (.inl h0)];rfl
theorem zhu {w:World}{X:Nat}{V:List Sx}{W:List Sg2}{o:Nat}{b:Bool}{vv ww:Value}(h:Rdr w X ⟨V,W,o,b⟩ vv ww) (ho:o≠0) (hob:o=brk W) (hV:V.length=zbg W+1) (hl:W.length<=3001) :
  Calls Tryz.prog 104 #[.pointer (some ⟨X,0,none⟩)] w fun e w'=>e=.returned (.bool true)/\(∃ vv' ww',Rdr w' X ⟨(jn 1 V W).1,(jn 1 V W).2.tail,o - 1,b⟩ vv' ww')/\Below X w w':=by
 obtain ⟨y0,y1,y2,y3,f0,f1,f2,f3⟩:=id h.b
 have hJ:=zdg h 1 (by omega) (by omega) hV hl
 obtain ⟨a1,a2,a3,a4⟩:=zdW (k:=1) (by omega) W V hV
 obtain ⟨s,W',e,_,_⟩:=ziB (W:=(jn 1 V W).2) (by omega) a4
 obtain ⟨V',hV'⟩:∃ V',(jn 1 V W).1=V':=⟨_,rfl⟩
 rw [e,hV'] at hJ
 rw [e,hV',List.tail_cons]
 rw [e,List.length_cons] at a3
 have hob':o<=4000:=by
  have:∀ W,brk W<=W.length:=fun W=>by
   induction W with
   | nil=>exact Nat.le_refl _
   | cons x r ih=>show brk r+_<=r.length+1;split<;>omega
  have:=this W
  omega
 obtain ⟨q,rfl⟩:∃ q,o=q+1:=⟨o - 1,by omega⟩
 have i1:(((q+1:Nat):Int) == 0)=false:=beq_eq_false_iff_ne.2 (by omega)
 simp only at y2
 clear hob ho hV a1 a2 a4 e hV' h
 go_enter Tryz.func104,Tryz.ntmps104
 go_wp2_with (first
  | (go_at_call 101;refine hJ.mono ?_;rintro e w1 ⟨⟨u,rfl⟩,⟨vv1,ww1,hr1,_⟩,b1⟩;obtain ⟨g,cap,rfl,q1,q2,q3,q4,c0,c1,hoo⟩:=zcO hr1.w;obtain ⟨z0,z1,z2,z3,g0,g1,g2,g3⟩:=id hr1.b))
 have i2:IntKind.i64.wrap ((W'.length:Int)+1 - 1)=(W'.length:Int):=by rw [IntKind.wrap_i64];omega
 have i4:(0:Int)<=(W'.length:Int):=by omega
 have i5:(W'.length:Int)<=(cap:Int):=by omega
 go_region
 have hr2:=hr1.popW.drew
 have hb2:Below X w (w1.setCell ⟨X,1,none⟩ (.slice (some ⟨g,0,none⟩) W'.length cap)).drew:=(b1.setCell (Nat.le_refl X) _).drew
 clear hr1 z0 z1 z2 z3 g0 g1 g2 g3 b1 y0 y1 y2 y3 f0 f1 f2 f3 hJ c0 c1 hoo
 obtain ⟨z0,z1,z2,z3,g0,g1,g2,g3⟩:=id hr2.b
 simp only at z2
 generalize (w1.setCell ⟨X,1,none⟩ (.slice (some ⟨g,0,none⟩) W'.length cap)).drew=w2 at *
 have i6:IntKind.i64.wrap (((q+1:Nat):Int) - 1)=(q:Int):=by rw [IntKind.wrap_i64];omega
 go_wp2
 go_ret
 exact ⟨rfl,⟨_,_,hr2.b.set2 _,ownsRow_setCell_below hr2.v (Nat.lt_succ_self X) _,ownsRow_setCell_below hr2.w (Nat.lt_succ_self X) _,hr2.a⟩,hb2.setCell (Nat.le_refl X) _⟩
theorem zfv {w:World}{base e:Nat}{v:Value}{x:Wd}(h:OwnW w base e v [x]):∃ g cap,v=.slice (some ⟨g,0,none⟩) 1 cap/\base<=g/\g < w.heap.size/\w.cell? ⟨g,0,none⟩=some (.int .i64 (x.1:Int))/\w.cell? ⟨g,1,none⟩=some (.string (txt x.2.1)):=by
 have hc:=fun g=>World.ownsRow.cells h (g:=g)
 rcases h.2 with ⟨_,hn⟩|⟨g,cap,cur,rfl,hb,hg,_⟩
 ·simp at hn
 ·have c0:=hc g rfl 0 (.int .i64 (x.1:Int)) rfl
  have c1:=hc g rfl 1 (.string (txt x.2.1)) rfl
  rw [zcd] at c0 c1
  exact ⟨g,cap,rfl,hb,(Array.getElem?_eq_some_iff.1 hg).1,c0,c1⟩
theorem zhg (seg:List Ru):bl (txt seg)=byt seg:=rfl
theorem zeK {K:Nat}{seg:List Ru}(h:OneW K seg) (ln co:Int) (w:World) (hK:K≠3) :
  Calls Tryz.prog 108 #[.agg #[.int .i64 (K:Int),.string (txt seg),.int .i64 ln,.int .i64 co]] w fun e w'=>
   e=.returned (match zL (zz 0) zX (K,byt seg) with|some x=>.tuple #[exX x,.bool true]|none=>.tuple #[.nilIface,.bool false])/\Below w.heap.size w w':=by
 have hW:=fun w1=>zec (txt seg) w1 (by have:=h.l;rw [<- zo,zhg];omega)
 simp only [zhg,h.words] at hW
 have hP:=zeS (txt seg)
 have hR:=fun w1=>zbQ (txt seg) w1
 have hkind:=h.kind
 rw [zhg] at hP hR
 have hq0:Below w.heap.size w (w.alloc (.cells #[.int .i64 (K:Int),.string (txt seg),.int .i64 ln,.int .i64 co] 73)):=zn3.alloc zn2 _
 have hA0:=At4.new w (.int .i64 (K:Int)) (.string (txt seg)) (.int .i64 ln) (.int .i64 co) 73
 obtain ⟨tx,htx⟩:∃ tx,txt seg=tx:=⟨_,rfl⟩
 simp only [htx] at hW hP hR hq0 hA0 ⊢
 have hbeq:(tx.toList != tx.toList)=false:=by simp
 have drN:∀ (wx:World) (m:Nat),Below w.heap.size w wx->Below w.heap.size w (wx.drewN m):=fun wx m hx=>hx.trans (zar _ _ m)
 rcases hkind with ⟨rfl,hn⟩|⟨rfl,hn⟩|⟨rfl,_⟩
 ·obtain ⟨y0,y1,y2,y3⟩:=id hA0
  obtain ⟨rb,hrb⟩:∃ rb,zX (byt seg)=rb:=⟨_,rfl⟩
  have hv:zL (zz 0) zX (1,byt seg)=if rb=false then some (mk0 2 0 ⟨(byt seg).toArray⟩) else none:=by
   unfold zL
   rw [if_neg (by show ¬ 1=2;decide),hrb]
   cases rb<;>rfl
  rw [hv]
  have hex:∀ x,(⟨(byt seg).toArray⟩:ByteArray)=x->exX (mk0 2 0 ⟨(byt seg).toArray⟩)=.iface 119 (.agg #[.string x]):=fun x hx=>by rw [hx];exact zh6 x
  have hex:=hex tx htx
  rw [hrb] at hR
  clear hv hn hrb
  cases rb with
  | false=>
   rw [if_pos rfl]
   simp only [hex]
   go_enter Tryz.func108,Tryz.ntmps108
   go_wp2_with (first
    | (go_at_call 28;refine (hW _).mono ?_;rintro e w1 ⟨u,rfl,hown,b1⟩;obtain ⟨g,cap,rfl,q1,q2,c0,c1⟩:=zfv hown;have hA1:=hA0.keepB b1 (by simp);have hb1:=hq0.trans (b1.mono hq0.size);have hB2:=(Below.refl w1.heap.size w1).alloc zn2 (.cells #[.int .i64 0,.int .i64 0] 23);have d0:(w1.alloc (.cells #[.int .i64 0,.int .i64 0] 23)).cell? ⟨g,0,none⟩=some (.int .i64 1):=(hB2.cell (p:=⟨g,0,none⟩) q2).trans c0;have d1:(w1.alloc (.cells #[.int .i64 0,.int .i64 0] 23)).cell? ⟨g,1,none⟩=some (.string tx):=((hB2.cell (p:=⟨g,1,none⟩) q2).trans c1).trans (congrArg (fun z=>some (Value.string z)) htx);have hA2:=hA1.keepB hB2 (World.block_lt_of_cell? w1 _ hA1.1);have hb2:=hb1.trans (hB2.mono hb1.size);obtain ⟨z0,z1,z2,z3⟩:=id hA2;clear hA1 hA0 hB2 c0 c1 hown b1 hb1 hW hq0 y0 y1 y2 y3))
   generalize w1.alloc (.cells #[.int .i64 0,.int .i64 0] 23)=w2 at *
   go_quiet (fail)
   go_wp2_with (first
    | (go_at_call 78;refine (hR _).mono ?_;rintro e w3 ⟨rfl,rfl⟩))
   go_ret2
   exact ⟨rfl,drN _ _ hb2⟩
  | true=>
   rw [if_neg (by decide)]
   simp only
   go_enter Tryz.func108,Tryz.ntmps108
   go_wp2_with (first
    | (go_at_call 28;refine (hW _).mono ?_;rintro e w1 ⟨u,rfl,hown,b1⟩;obtain ⟨g,cap,rfl,q1,q2,c0,c1⟩:=zfv hown;have hA1:=hA0.keepB b1 (by simp);have hb1:=hq0.trans (b1.mono hq0.size);have hB2:=(Below.refl w1.heap.size w1).alloc zn2 (.cells #[.int .i64 0,.int .i64 0] 23);have d0:(w1.alloc (.cells #[.int .i64 0,.int .i64 0] 23)).cell? ⟨g,0,none⟩=some (.int .i64 1):=(hB2.cell (p:=⟨g,0,none⟩) q2).trans c0;have d1:(w1.alloc (.cells #[.int .i64 0,.int .i64 0] 23)).cell? ⟨g,1,none⟩=some (.string tx):=((hB2.cell (p:=⟨g,1,none⟩) q2).trans c1).trans (congrArg (fun z=>some (Value.string z)) htx);have hA2:=hA1.keepB hB2 (World.block_lt_of_cell? w1 _ hA1.1);have hb2:=hb1.trans (hB2.mono hb1.size);obtain ⟨z0,z1,z2,z3⟩:=id hA2;clear hA1 hA0 hB2 c0 c1 hown b1 hb1 hW hq0 y0 y1 y2 y3))
   generalize w1.alloc (.cells #[.int .i64 0,.int .i64 0] 23)=w2 at *
   go_quiet (fail)
   go_wp2_with (first
    | (go_at_call 78;refine (hR _).mono ?_;rintro e w3 ⟨rfl,rfl⟩))
   go_ret2
   exact ⟨rfl,drN _ _ hb2⟩
 ·have hv:zL (zz 0) zX (2,byt seg)=some (mk0 1 (zz 0 (byt seg)) ⟨#[]⟩):=by unfold zL;rw [if_pos rfl]
  rw [hv]
  simp only [zh5]
  have hP1:=hP hn
  obtain ⟨vb,hvb⟩:∃ vb,zz 0 (byt seg)=vb:=⟨_,rfl⟩
  rw [hvb] at hP1 ⊢
  clear hv hn hP hvb
  obtain ⟨y0,y1,y2,y3⟩:=id hA0
  go_enter Tryz.func108,Tryz.ntmps108
  go_wp2_with (first
   | (go_at_call 28;refine (hW _).mono ?_;rintro e w1 ⟨u,rfl,hown,b1⟩;obtain ⟨g,cap,rfl,q1,q2,c0,c1⟩:=zfv hown;have hA1:=hA0.keepB b1 (by simp);have hb1:=hq0.trans (b1.mono hq0.size);have hB2:=(Below.refl w1.heap.size w1).alloc zn2 (.cells #[.int .i64 0,.int .i64 0] 23);have d0:(w1.alloc (.cells #[.int .i64 0,.int .i64 0] 23)).cell? ⟨g,0,none⟩=some (.int .i64 2):=(hB2.cell (p:=⟨g,0,none⟩) q2).trans c0;have d1:(w1.alloc (.cells #[.int .i64 0,.int .i64 0] 23)).cell? ⟨g,1,none⟩=some (.string tx):=((hB2.cell (p:=⟨g,1,none⟩) q2).trans c1).trans (congrArg (fun z=>some (Value.string z)) htx);have hA2:=hA1.keepB hB2 (World.block_lt_of_cell? w1 _ hA1.1);have hb2:=hb1.trans (hB2.mono hb1.size);obtain ⟨z0,z1,z2,z3⟩:=id hA2;clear hA1 hA0 hB2 c0 c1 hown b1 hb1 hW hq0 y0 y1 y2 y3))
  generalize w1.alloc (.cells #[.int .i64 0,.int .i64 0] 23)=w2 at *
  go_quiet (fail)
  go_wp2_with (first
   | (go_at_call 115;refine (hP1 _).mono ?_;rintro e w3 ⟨rfl,b3⟩;have hb3:=(drN _ _ hb2).trans (b3.mono (drN _ _ hb2).size)))
  go_region
  all_goals go_wp2
  all_goals go_ret2
  all_goals exact ⟨rfl,hb3.drew⟩
 ·exact absurd rfl hK
abbrev wdV (K:Nat) (seg:List Ru) (ln co:Int):Value:=.agg #[.int .i64 (K:Int),.string (txt seg),.int .i64 ln,.int .i64 co]
theorem zkM {P:Program}{t e:TypeId}(ht:P.underlying t=some (.slice e)) (w:World) (v:Value) (hv:v=.nilIface∨∃ u y,v=.iface u y) :
  Src P 1 t (.slice (some ⟨w.heap.size,0,none⟩) 1 1) 1 [v] (w.alloc (.cells #[v] e)):=by
 have h:=World.ownsRow_lit (base:=w.heap.size) (e:=e) (size:=1) w #[v] 1 zn2 (by simp [maxLen]) (by simp)
 refine Src.ofSlice _ ht _ 1 1 _ (by simp) (by simpa using h.cells (g:=w.heap.size) rfl) (fun u hu=>?_)
 simp only [List.mem_singleton] at hu
 rcases hv with rfl|⟨u',y',rfl⟩<;>subst hu<;>rfl
theorem zi4 {w:Tk}{x:Sx}(h:zL (zz 0) zX w=some x):∃ u y,exX x=.iface u y:=by
 unfold zL at h
 split at h
 ·obtain rfl:=Option.some.inj h;exact ⟨_,_,zh5 _⟩
 ·split at h
  ·obtain rfl:=Option.some.inj h;exact ⟨_,_,zh6 _⟩
  ·cases h
theorem zg7 {w:World}{X K:Nat}{seg:List Ru}{V:List Sx}{W:List Sg2}{o:Nat}{vv ww:Value}(h:Rdr w X ⟨V,W,o,false⟩ vv ww) (h1:OneW K seg) (ln co:Int) (hK:K≠3) (hl:V.length<=3001) {x:Sx}(hx:zL (zz 0) zX (K,byt seg)=some x) :
  Calls Tryz.prog 100 #[.pointer (some ⟨X,0,none⟩),wdV K seg ln co] w fun e w'=>e=.returned (.bool true)/\(∃ vv' ww',Rdr w' X ⟨x :: V,W,o,true⟩ vv' ww')/\Below X w w':=by
 obtain ⟨i0,hi,hz0,hz1,hz2⟩:=info_parts Tryz.infoE
 have hL:=fun w1=>zeK h1 ln co w1 hK
 rw [hx] at hL
 simp only at hL
 have hxf:∃ u y,exX x=.iface u y:=zi4 hx
 obtain ⟨xv,hxv⟩:∃ xv,exX x=xv:=⟨_,rfl⟩
 simp only [hxv] at hL hxf
 obtain ⟨a,cap,rfl,hcap⟩:=zbH h.v
 simp only at h
 obtain ⟨tx,htx⟩:∃ tx,txt seg=tx:=⟨_,rfl⟩
 unfold wdV
 simp only [htx] at hL ⊢
 have hq0:Below w.heap.size w (w.alloc (.cells #[.int .i64 (K:Int),.string tx,.int .i64 ln,.int .i64 co] 73)):=zn3.alloc zn2 _
 have hA0:=At4.new w (.int .i64 (K:Int)) (.string tx) (.int .i64 ln) (.int .i64 co) 73
 obtain ⟨y0,y1,y2,y3⟩:=id hA0
 have k3:((K:Int) != 3)=true:=by simp;omega
 clear h1 hx htx
 obtain ⟨xu,xy,rfl⟩:=hxf
 ·go_enter Tryz.func100,Tryz.ntmps100
  go_wp2_with (first
   | (go_at_call 108;refine (hL _).mono ?_;rintro e w1 ⟨rfl,b1⟩;have hb1:=hq0.trans (b1.mono hq0.size);have hr1:=h.on hb1;obtain ⟨z0,z1,z2,z3,g0,g1,g2,g3⟩:=id hr1.b)
   | (at_builtin;refine za8 _ rfl (.tmp 20) (.tmp 22) 144 144 rfl (X+1) 87 i0 .nilIface 1 16 Tryz.underlying144 hi hz0 hz1 hz2 rfl _ V.length _ rfl (World.ownsRow.alloc hr1.v _) _ 1 [.iface xu xy] rfl (zkM Tryz.underlying144 w1 _ (.inr ⟨_,_,rfl⟩)) 1 (.inr (by omega)) zn2 (by unfold maxLen;omega) (by simp;have:=hr1.lt;omega) ?_;intro v4 w4 ho6 hg4 hat;obtain ⟨a4,cap4,rfl,hc4⟩:=zbH ho6;have hr4:=hr1.on ((Below.refl _ w1).alloc zn2 (.cells #[.iface xu xy] 87));have hb4:Below (X+1) (w1.alloc (.cells #[.iface xu xy] 87)) w4:=zn3.grown hg4 (by simp;have:=hr1.lt;omega) (fun k hk=>(World.ownsRow.lt hr1.v k hk).1);have hB4:=hr4.b.keepB hb4 (Nat.lt_succ_self X);clear z0 z1 z2 z3 g0 g1 g2 g3;obtain ⟨z0,z1,z2,z3,g0,g1,g2,g3⟩:=id hB4))
  go_ret
  have hne:ww.ownBlock=none∨ww.ownBlock≠(Value.slice a V.length cap).ownBlock:=by
   cases hq:ww.ownBlock with
   | none=>exact .inl rfl
   | some g=>exact .inr (fun e=>h.a g e.symm hq)
  have hw4:=World.ownsRow.kept hr4.w hg4 hne
  have hbb:Below X w w4:=((hb1.mono (Nat.le_of_lt h.lt)).alloc (Nat.le_of_lt hr1.lt) _).trans (hb4.mono (Nat.le_succ X))
  refine ⟨rfl,⟨_,_,(hB4.set0 _).set3 _,?_,ownsRow_setCell_below (ownsRow_setCell_below hw4 (Nat.lt_succ_self X) _) (Nat.lt_succ_self X) _,fun g hg e=>?_⟩,(hbb.setCell (Nat.le_refl X) _).setCell (Nat.le_refl X) _⟩
  ·refine ownsRow_setCell_below (ownsRow_setCell_below ?_ (Nat.lt_succ_self X) _) (Nat.lt_succ_self X) _
   show World.ownsRow _ _ _ _ _ (V.length+1) ((x :: V).reverse.map exX)
   rw [List.reverse_cons,List.map_append,List.map_singleton,hxv]
   exact ho6
  ·rcases hat with q|q
   ·exact h.a g (q.symm.trans hg) e
   ·have hlt:=(World.ownsRow.lt hr1.w g e).2
    have:some g=some (w1.alloc (.cells #[.iface xu xy] 87)).heap.size:=hg.symm.trans q
    simp at this
    omega
theorem zkg {w:World}{X K:Nat}{seg:List Ru}{V:List Sx}{W:List Sg2}{o:Nat}{vv ww:Value}(h:Rdr w X ⟨V,W,o,false⟩ vv ww) (h1:OneW K seg) (ln co:Int) (hK:K≠3) (hx:zL (zz 0) zX (K,byt seg)=none) :
  Calls Tryz.prog 100 #[.pointer (some ⟨X,0,none⟩),wdV K seg ln co] w fun e w'=>e=.returned (.bool false)/\(∃ vv' ww',Rdr w' X ⟨V,W,o,false⟩ vv' ww')/\Below X w w':=by
 have hL:=fun w1=>zeK h1 ln co w1 hK
 rw [hx] at hL
 simp only at hL
 obtain ⟨tx,htx⟩:∃ tx,txt seg=tx:=⟨_,rfl⟩
 unfold wdV
 simp only [htx] at hL ⊢
 have hq0:Below w.heap.size w (w.alloc (.cells #[.int .i64 (K:Int),.string tx,.int .i64 ln,.int .i64 co] 73)):=zn3.alloc zn2 _
 have hA0:=At4.new w (.int .i64 (K:Int)) (.string tx) (.int .i64 ln) (.int .i64 co) 73
 obtain ⟨y0,y1,y2,y3⟩:=id hA0
 have k3:((K:Int) != 3)=true:=by simp;omega
 clear h1 hx htx
 go_enter Tryz.func100,Tryz.ntmps100
 go_wp2_with (first
  | (go_at_call 108;refine (hL _).mono ?_;rintro e w1 ⟨rfl,b1⟩;have hb1:=hq0.trans (b1.mono hq0.size);have hr1:=h.on hb1))
 go_ret
 exact ⟨rfl,⟨_,_,hr1⟩,hb1.mono (Nat.le_of_lt h.lt)⟩
theorem Rdr.setO {w:World}{X:Nat}{V:List Sx}{W:List Sg2}{o:Nat}{b:Bool}{vv ww:Value}(h:Rdr w X ⟨V,W,o,b⟩ vv ww) (o':Nat):Rdr (w.setCell ⟨X,2,none⟩ (.int .i64 (o':Int))) X ⟨V,W,o',b⟩ vv ww:=
 ⟨h.b.set2 _,ownsRow_setCell_below h.v (Nat.lt_succ_self X) _,ownsRow_setCell_below h.w (Nat.lt_succ_self X) _,h.a⟩
theorem Rdr.setB {w:World}{X:Nat}{V:List Sx}{W:List Sg2}{o:Nat}{b:Bool}{vv ww:Value}(h:Rdr w X ⟨V,W,o,b⟩ vv ww) (b':Bool):Rdr (w.setCell ⟨X,3,none⟩ (.bool b')) X ⟨V,W,o,b'⟩ vv ww:=
 ⟨h.b.set3 _,ownsRow_setCell_below h.v (Nat.lt_succ_self X) _,ownsRow_setCell_below h.w (Nat.lt_succ_self X) _,h.a⟩
abbrev sgV (t:List UInt8) (ln co:Int):Value:=.agg #[.int .i64 3,.string ⟨t.toArray⟩,.int .i64 ln,.int .i64 co]
theorem zjl {w:World}{X:Nat}{V:List Sx}{W:List Sg2}{o:Nat}{vv ww:Value}(h:Rdr w X ⟨V,W,o,false⟩ vv ww) (ln co:Int) (hl:W.length<=3001) (ho:o<=4000) :
  Calls Tryz.prog 100 #[.pointer (some ⟨X,0,none⟩),sgV [40] ln co] w fun e w'=>e=.returned (.bool true)/\(∃ vv' ww',Rdr w' X ⟨V,([40],0) :: W,o+1,false⟩ vv' ww')/\Below X w w':=by
 have hX:=h.lt
 have hq1:Rdr (w.setCell ⟨X,2,none⟩ (.int .i64 ((o:Int)+1))) X ⟨V,W,o+1,false⟩ vv ww:=h.setO (o+1)
 have hq0:Below w.heap.size w (w.alloc (.cells #[.int .i64 3,.string ⟨#[40]⟩,.int .i64 ln,.int .i64 co] 73)):=zn3.alloc zn2 _
 have hA0:=At4.new w (.int .i64 3) (.string ⟨#[40]⟩) (.int .i64 ln) (.int .i64 co) 73
 obtain ⟨y0,y1,y2,y3⟩:=id hA0
 have hr0:=h.on hq0
 obtain ⟨z0,z1,z2,z3,g0,g1,g2,g3⟩:=id hr0.b
 have i1:IntKind.i64.wrap ((o:Int)+1)=(o:Int)+1:=by rw [IntKind.wrap_i64];omega
 simp only at z2
 have hW:=fun w1 (hr:Rdr w1 X ⟨V,W,o+1,false⟩ vv ww)=>zeg hr [40] 0 (by omega) hl (by simp)
 unfold sgV
 go_enter Tryz.func100,Tryz.ntmps100
 go_wp2_with (first
  | (go_at_call 107;refine (hW _ (hq1.on (zn3.alloc zn2 _))).mono ?_;rintro e w1 ⟨⟨u,rfl⟩,⟨ww1,hr1⟩,b1⟩))
 go_ret
 refine ⟨rfl,⟨_,_,hr1⟩,Below.trans (((Below.refl X w).setCell (Nat.le_refl X) _).alloc (by simp;omega) _) b1⟩
theorem zj7 {w:World}{X:Nat}{V:List Sx}{W:List Sg2}{o:Nat}{vv ww:Value}(h:Rdr w X ⟨V,W,o,false⟩ vv ww) (t:List UInt8) (hu:t=[33]∨t=[45]) (ln co:Int) (hl:W.length<=3001) :
  Calls Tryz.prog 100 #[.pointer (some ⟨X,0,none⟩),sgV t ln co] w fun e w'=>e=.returned (.bool true)/\(∃ vv' ww',Rdr w' X ⟨V,(t,6) :: W,o,false⟩ vv' ww')/\Below X w w':=by
 have hX:=h.lt
 have hW:=fun w1 (hr:Rdr w1 X ⟨V,W,o,false⟩ vv ww)=>zeg hr t 6 (by omega) hl (by rcases hu with rfl|rfl<;>simp)
 have hq0:Below w.heap.size w (w.alloc (.cells #[.int .i64 3,.string ⟨t.toArray⟩,.int .i64 ln,.int .i64 co] 73)):=zn3.alloc zn2 _
 have hA0:=At4.new w (.int .i64 3) (.string ⟨t.toArray⟩) (.int .i64 ln) (.int .i64 co) 73
 obtain ⟨y0,y1,y2,y3⟩:=id hA0
 have hr0:=h.on hq0
 have hW0:=hW _ hr0
 unfold sgV
 rcases hu with rfl|rfl
 all_goals (
  go_enter Tryz.func100,Tryz.ntmps100
  go_wp2_with (first
   | (go_at_call 107;refine hW0.mono ?_;rintro e w1 ⟨⟨u,rfl⟩,⟨ww1,hr1⟩,b1⟩))
  go_ret
  exact ⟨rfl,⟨_,_,hr1⟩,(hq0.mono (Nat.le_of_lt hX)).trans b1⟩)
theorem zhf {w:World}{X:Nat}{V:List Sx}{W:List Sg2}{o:Nat}{vv ww:Value}(h:Rdr w X ⟨V,W,o,false⟩ vv ww) (t:List UInt8) (ht:t.length<=12000) (ln co:Int) (hl:W.length<=3001) (ho:o<=4000) :
  Calls Tryz.prog 100 #[.pointer (some ⟨X,0,none⟩),sgV t ln co] w fun e w'=>e=.returned (.bool (stA (zL (zz 0) zX) ⟨V,W,o,false⟩ (3,t)).2)/\(∃ vv' ww',Rdr w' X (stA (zL (zz 0) zX) ⟨V,W,o,false⟩ (3,t)).1 vv' ww')/\Below X w w':=by
 have hq0:Below w.heap.size w (w.alloc (.cells #[.int .i64 3,.string ⟨t.toArray⟩,.int .i64 ln,.int .i64 co] 73)):=zn3.alloc zn2 _
 have hA0:=At4.new w (.int .i64 3) (.string ⟨t.toArray⟩) (.int .i64 ln) (.int .i64 co) 73
 obtain ⟨y0,y1,y2,y3⟩:=id hA0
 have hr0:=h.on hq0
 have hX:=h.lt
 obtain ⟨z0,z1,z2,z3,g0,g1,g2,g3⟩:=id hr0.b
 unfold stA sgV
 rw [if_neg (by simp)]
 by_cases h40:t=[40]
 ·subst h40
  rw [if_pos rfl]
  exact zjl h ln co hl ho
 ·rw [if_neg h40]
  by_cases hu:t=[33]∨t=[45]
  ·rw [if_pos hu]
   exact zj7 h t hu ln co hl
  ·rw [if_neg hu]
   have e1:(t == [40])=false:=beq_eq_false_iff_ne.2 h40
   have e2:(t == [33])=false:=beq_eq_false_iff_ne.2 (fun e=>hu (.inl e))
   have e3:(t == [45])=false:=beq_eq_false_iff_ne.2 (fun e=>hu (.inr e))
   go_enter Tryz.func100,Tryz.ntmps100
   go_wp2
   go_ret
   exact ⟨rfl,⟨_,_,hr0⟩,hq0.mono (Nat.le_of_lt h.lt)⟩
theorem zf4 {w:World}{X K:Nat}{seg:List Ru}{y:Yd}{vv ww:Value}(h:Rdr w X y vv ww) (ln co:Int) (hK:K≠3) :
  Calls Tryz.prog 99 #[.pointer (some ⟨X,0,none⟩),wdV K seg ln co] w fun e w'=>e=.returned (.bool false)/\(∃ vv' ww',Rdr w' X y vv' ww')/\Below X w w':=by
 obtain ⟨tx,htx⟩:∃ tx,txt seg=tx:=⟨_,rfl⟩
 unfold wdV
 rw [htx]
 have hq0:Below w.heap.size w (w.alloc (.cells #[.int .i64 (K:Int),.string tx,.int .i64 ln,.int .i64 co] 73)):=zn3.alloc zn2 _
 have k3:((K:Int) != 3)=true:=by simp;omega
 go_enter Tryz.func99,Tryz.ntmps99
 go_wp2
 go_ret
 exact ⟨rfl,⟨_,_,h.on hq0⟩,hq0.mono (Nat.le_of_lt h.lt)⟩
theorem zgG {w:World}{X:Nat}{V:List Sx}{W:List Sg2}{o:Nat}{b:Bool}{vv ww:Value}(h:Rdr w X ⟨V,W,o,b⟩ vv ww) (ln co:Int) (hob:o=brk W) (hV:V.length=zbg W+1) (hl:W.length<=3001) :
  Calls Tryz.prog 99 #[.pointer (some ⟨X,0,none⟩),sgV [41] ln co] w fun e w'=>e=.returned (.bool (stB ⟨V,W,o,b⟩ (3,[41])).2)/\(∃ vv' ww',Rdr w' X (stB ⟨V,W,o,b⟩ (3,[41])).1 vv' ww')/\Below X w w':=by
 have hq0:Below w.heap.size w (w.alloc (.cells #[.int .i64 3,.string ⟨#[41]⟩,.int .i64 ln,.int .i64 co] 73)):=zn3.alloc zn2 _
 have hr0:=h.on hq0
 have hX:=h.lt
 have hb0:=hq0.mono (Nat.le_of_lt hX)
 unfold sgV
 by_cases ho:o=0
 ·rw [zbX (by simp) rfl ho]
  subst ho
  clear hob
  have hC:=zjC hr0
  go_enter Tryz.func99,Tryz.ntmps99
  go_wp2_with (first
   | (go_at_call 104;refine hC.mono ?_;rintro e w1 ⟨rfl,rfl⟩))
  go_ret
  exact ⟨rfl,⟨_,_,hr0⟩,hb0⟩
 ·rw [zcC (by simp) rfl ho]
  have hC:=zhu hr0 ho hob hV hl
  go_enter Tryz.func99,Tryz.ntmps99
  go_wp2_with (first
   | (go_at_call 104;refine hC.mono ?_;rintro e w1 ⟨rfl,⟨vv1,ww1,hr1⟩,b1⟩))
  go_ret
  exact ⟨rfl,⟨_,_,hr1⟩,hb0.trans b1⟩
theorem zfY {w:World}{X:Nat}{y:Yd}{vv ww:Value}(h:Rdr w X y vv ww) (t:List UInt8) (ln co:Int) (h41:¬ t=[41]) (hv:lv t=0) :
  Calls Tryz.prog 99 #[.pointer (some ⟨X,0,none⟩),sgV t ln co] w fun e w'=>e=.returned (.bool false)/\(∃ vv' ww',Rdr w' X y vv' ww')/\Below X w w':=by
 have hq0:Below w.heap.size w (w.alloc (.cells #[.int .i64 3,.string ⟨t.toArray⟩,.int .i64 ln,.int .i64 co] 73)):=zn3.alloc zn2 _
 have hL:=fun w1=>zed ⟨t.toArray⟩ w1
 have e:lv (bl ⟨t.toArray⟩)=0:=hv
 rw [e] at hL
 have e1:(t == [41])=false:=beq_eq_false_iff_ne.2 h41
 clear e hv
 unfold sgV
 go_enter Tryz.func99,Tryz.ntmps99
 go_wp2_with (first
  | (go_at_call 105;refine (hL _).mono ?_;rintro e w1 ⟨rfl,rfl⟩))
 go_ret
 exact ⟨rfl,⟨_,_,h.on hq0⟩,hq0.mono (Nat.le_of_lt h.lt)⟩
theorem At4.blk {w w':World}{N:Nat}{a b c e:Value}(h:At4 w N a b c e) (hb:w'.heap[N]?=w.heap[N]?):At4 w' N a b c e:=by
 refine ⟨?_,?_,?_,?_⟩
 ·rw [World.cell?_of_block (w:=w) (a:=⟨N,0,none⟩) hb];exact h.1
 ·rw [World.cell?_of_block (w:=w) (a:=⟨N,1,none⟩) hb];exact h.2.1
 ·rw [World.cell?_of_block (w:=w) (a:=⟨N,2,none⟩) hb];exact h.2.2.1
 ·rw [World.cell?_of_block (w:=w) (a:=⟨N,3,none⟩) hb];exact h.2.2.2
theorem ziX {w:World}{X:Nat}{V:List Sx}{W:List Sg2}{o:Nat}{b:Bool}{vv ww:Value}(h:Rdr w X ⟨V,W,o,b⟩ vv ww) (t:List UInt8) (ln co:Int) (k:Nat) (hk:lv t=k) (hk1:1<=k) (hV:V.length=zbg W+1) (hl:W.length<=3001) :
  Calls Tryz.prog 99 #[.pointer (some ⟨X,0,none⟩),sgV t ln co] w fun e w'=>e=.returned (.bool (stB ⟨V,W,o,b⟩ (3,t)).2)/\(∃ vv' ww',Rdr w' X (stB ⟨V,W,o,b⟩ (3,t)).1 vv' ww')/\Below X w w':=by
 have hq0:Below w.heap.size w (w.alloc (.cells #[.int .i64 3,.string ⟨t.toArray⟩,.int .i64 ln,.int .i64 co] 73)):=zn3.alloc zn2 _
 have hr0:=h.on hq0
 have hX:=h.lt
 have hb0:=hq0.mono (Nat.le_of_lt hX)
 have hA0:=At4.new w (.int .i64 3) (.string ⟨t.toArray⟩) (.int .i64 ln) (.int .i64 co) 73
 have hkeep:∀ w1 vv1 ww1,Fr2 X vv ww (w.alloc (.cells #[.int .i64 3,.string ⟨t.toArray⟩,.int .i64 ln,.int .i64 co] 73)) w1 vv1 ww1->At4 w1 w.heap.size (.int .i64 3) (.string ⟨t.toArray⟩) (.int .i64 ln) (.int .i64 co):=fun w1 vv1 ww1 hf=>
  hA0.blk (hf.block _ (by simp) (by omega) (fun e=>by have:=(World.ownsRow.lt h.v _ e).2;omega) (fun e=>by have:=(World.ownsRow.lt h.w _ e).2;omega))
 have hL:=fun w1=>zed ⟨t.toArray⟩ w1
 have e:lv (bl ⟨t.toArray⟩)=k:=hk
 rw [e] at hL
 have hk5:=zkN t
 rw [hk] at hk5
 have e1:(t == [41])=false:=beq_eq_false_iff_ne.2 (zkz (by omega))
 have ht:=(zky (s:=t) (by omega)).2
 have k0:((k:Int) == 0)=false:=beq_eq_false_iff_ne.2 (by omega)
 have i1:IntKind.i64.wrap ((k:Int)+1)=(k:Int)+1:=by rw [IntKind.wrap_i64];omega
 have hJ1:=zdg hr0 (k+1) (by omega) (by omega) hV hl
 obtain ⟨a1,a2,a3,a4⟩:=zdW (k:=k+1) (by omega) W V hV
 have hjj:=zfc (k:=k) (k':=k+1) (by omega) W V
 obtain ⟨b1,b2,b3,b4⟩:=zdW (k:=k) (by omega) W V hV
 have hN:∀ m:Nat,(((m+1:Nat)):Int)=(m:Int)+1:=fun m=>by omega
 rw [hN] at hJ1
 have hLa:=fun w1 vv1 ww1 (hr1:Rdr w1 X ⟨(jn (k+1) V W).1,(jn (k+1) V W).2,o,b⟩ vv1 ww1)=>zgy hr1 (by show (jn (k+1) V W).2.length<=4000;omega)
 simp only at hLa
 have hJ2:=fun w1 vv1 ww1 (hr1:Rdr w1 X ⟨(jn (k+1) V W).1,(jn (k+1) V W).2,o,b⟩ vv1 ww1)=>zdg hr1 k (by omega) (by omega) a1 (by omega)
 rw [hjj] at hJ2
 obtain ⟨V1,hV1⟩:∃ V1,(jn (k+1) V W).1=V1:=⟨_,rfl⟩
 obtain ⟨W1,hW1⟩:∃ W1,(jn (k+1) V W).2=W1:=⟨_,rfl⟩
 obtain ⟨V2,hV2⟩:∃ V2,(jn k V W).1=V2:=⟨_,rfl⟩
 obtain ⟨W2,hW2⟩:∃ W2,(jn k V W).2=W2:=⟨_,rfl⟩
 have hWt:=fun w1 vv1 ww1 (hr1:Rdr w1 X ⟨V2,W2,o,b⟩ vv1 ww1)=>zeg hr1 t k (by omega) (by rw [<- hW2];omega) (by omega)
 simp only [hV1,hW1,hV2,hW2] at hJ1 hJ2 hLa a1 a2 a3 a4
 by_cases htwo:k=3/\zbV (jn (k+1) V W).2=3
 ·obtain ⟨h3,ht3⟩:=htwo
  subst h3
  rw [zdx (by simp) hk ht3]
  simp only [hV1,hW1] at ht3 ⊢
  rw [ht3] at hLa
  clear hjj hV1 hW1 hV2 hW2 hWt hJ2 h hk
  unfold sgV
  go_enter Tryz.func99,Tryz.ntmps99
  go_wp2_with (first
   | (go_at_call 105;refine (hL _).mono ?_;rintro e w1 ⟨rfl,rfl⟩)
   | (go_at_call 101;refine hJ1.mono ?_;rintro e w1 ⟨⟨u,rfl⟩,⟨vv1,ww1,hr1,hf1⟩,b1⟩)
   | (go_at_call 106;refine (hLa _ _ _ hr1).mono ?_;rintro e w2 ⟨rfl,m,rfl⟩))
  go_ret
  exact ⟨rfl,⟨_,_,hr1.drewN m⟩,(hb0.trans b1).trans (zar _ _ m)⟩
 ·rw [zcZ (by simp) hk hk1 htwo]
  simp only [hV1,hW1] at htwo
  simp only [hV2,hW2]
  unfold sgV
  by_cases h3:k=3
  ·have ht3:((zbV W1:Int) == 3)=false:=beq_eq_false_iff_ne.2 (fun e=>htwo ⟨h3,by omega⟩)
   have k3:((k:Int) == 3)=true:=by simp;omega
   clear hjj hV1 hW1 hV2 hW2 h hk htwo h3 e
   go_enter Tryz.func99,Tryz.ntmps99
   go_wp2_with (first
    | (go_at_call 107;refine (hWt _ _ _ hr3).mono ?_;rintro e w4 ⟨⟨u4,rfl⟩,⟨ww4,hr4⟩,b4⟩;obtain ⟨z0,z1,z2,z3,g0,g1,g2,g3⟩:=id hr4.b)
    | (go_at_call 101;refine (hJ2 _ _ _ hr2).mono ?_;rintro e w3 ⟨⟨u3,rfl⟩,⟨vv3,ww3,hr3,hf3⟩,b3⟩;obtain ⟨x0,x1,x2,x3⟩:=hkeep _ _ _ ((hf1.on (zar _ _ m)).trans hf3))
    | (go_at_call 106;refine (hLa _ _ _ hr1).mono ?_;rintro e w2 ⟨rfl,m,rfl⟩;have hr2:=hr1.drewN m)
    | (go_at_call 105;refine (hL _).mono ?_;rintro e w1 ⟨rfl,rfl⟩)
    | (go_at_call 101;refine hJ1.mono ?_;rintro e w1 ⟨⟨u,rfl⟩,⟨vv1,ww1,hr1,hf1⟩,b1⟩))
   go_ret
   exact ⟨rfl,⟨_,_,hr4.setB false⟩,((((hb0.trans b1).trans (zar _ _ m)).trans b3).trans b4).setCell (Nat.le_refl X) _⟩
  ·have k3:((k:Int) == 3)=false:=beq_eq_false_iff_ne.2 (by omega)
   clear hjj hV1 hW1 hV2 hW2 h hk htwo h3 e
   go_enter Tryz.func99,Tryz.ntmps99
   go_wp2_with (first
    | (go_at_call 107;refine (hWt _ _ _ hr3).mono ?_;rintro e w4 ⟨⟨u4,rfl⟩,⟨ww4,hr4⟩,b4⟩;obtain ⟨z0,z1,z2,z3,g0,g1,g2,g3⟩:=id hr4.b)
    | (go_at_call 101;refine (hJ2 _ _ _ hr1).mono ?_;rintro e w3 ⟨⟨u3,rfl⟩,⟨vv3,ww3,hr3,hf3⟩,b3⟩;obtain ⟨x0,x1,x2,x3⟩:=hkeep _ _ _ (hf1.trans hf3))
    | (go_at_call 105;refine (hL _).mono ?_;rintro e w1 ⟨rfl,rfl⟩)
    | (go_at_call 101;refine hJ1.mono ?_;rintro e w1 ⟨⟨u,rfl⟩,⟨vv1,ww1,hr1,hf1⟩,b1⟩))
   go_ret
   exact ⟨rfl,⟨_,_,hr4.setB false⟩,(((hb0.trans b1).trans b3).trans b4).setCell (Nat.le_refl X) _⟩
