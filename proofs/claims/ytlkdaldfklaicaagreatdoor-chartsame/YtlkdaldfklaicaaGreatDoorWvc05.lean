import Derived.Test.YtlkdaldfklaicaaGreatDoorWvc01
import Derived.Test.YtlkdaldfklaicaaGreatDoorRows
import Derived.Test.YtlkdaldfklaicaaGreatDoorWvc02
import Derived.WalkSmall
import Derived.Shelf.Strconv.Clone
import Derived.Test.YtlkdaldfklaicaaGreatDoorWvc04
import Derived.Deep.RegionLaw
set_option maxRecDepth 100000
set_option maxHeartbeats 32000000
namespace Go.Proofs.YtlkdaldfklaicaaGreatDoor
open Go.RowKit Go.Lib
set_option linter.unusedSimpArgs false
set_option linter.unusedVariables false
attribute [local go_sem ↓] Go.wp_at_zero Go.wp_at_succ
def rn (r:Int):Int:=if r = -1 then 65533 else r
theorem zaN {r k:Int}(hk:0<=k/\k < 128):rn r=k↔r=k:=by unfold rn;split<;>omega
theorem zfi (r:Int):zS (rn r)=zS r:=by
 unfold rn
 split
 ·rename_i h;subst h;decide
 ·rfl
theorem zhR (r:Int):dgt (rn r)=dgt r:=by
 unfold rn
 split
 ·rename_i h;subst h;decide
 ·rfl
theorem ziI (r:Int):zbU (rn r)=zbU r:=by
 unfold rn
 split
 ·rename_i h;subst h;decide
 ·rfl
theorem zcV {s:ByteArray}{pos:Nat}(h:pos < s.size):((Utf8.decode s pos).1:Int)=rn (nx ((bl s).drop pos)).1/\(Utf8.decode s pos).2=(nx ((bl s).drop pos)).2:=by
 have hne:=zam (l:=bl s) (k:=pos) (by rw [zo];exact h)
 have hd:decodeL ((bl s).drop pos)=Utf8.decode s pos:=decodeL_drop s pos
 refine ⟨?_,by rw [zd6 hne,hd]⟩
 unfold nx rn
 rw [if_neg hne,hd]
 by_cases hc:(Utf8.decode s pos).1=65533/\(Utf8.decode s pos).2<=1
 ·rw [if_pos hc,if_pos rfl,hc.1];rfl
 ·rw [if_neg hc,if_neg (by simp only;omega)]
structure Gone (l:List UInt8) (m k:Nat):Prop where
 le:k<=l.length
 left:runes (l.drop k)=(runes l).drop m
 size:(byt ((runes l).take m)).length=k
 few:m<=k
theorem Gone.zero (l:List UInt8):Gone l 0 0:=⟨by omega,rfl,rfl,by omega⟩
theorem Gone.step {l:List UInt8}{m k:Nat}(h:Gone l m k) (hk:k < l.length):Gone l (m+1) (k+(nx (l.drop k)).2):=by
 have hne:=zam hk
 have hc:=zq hne
 have hle:=zcT hne
 have hps:=zaC hne
 rw [List.length_drop] at hle
 have hd:(runes l).drop m=((nx (l.drop k)).1,(l.drop k).take (nx (l.drop k)).2) :: runes ((l.drop k).drop (nx (l.drop k)).2):=by rw [<- h.left,hc]
 have hd1:(runes l).drop (m+1)=runes (l.drop (k+(nx (l.drop k)).2)):=by
  have:=congrArg List.tail hd
  rw [List.tail_drop,List.tail_cons,List.drop_drop] at this
  exact this
 refine ⟨by omega,hd1.symm,?_,by have:=h.few;omega⟩
 have e1:=zbY (runes l) (m+1)
 rw [hd1,zan _ _ zn2,zan _ _ zn2,List.length_drop] at e1
 omega
theorem Gone.take {l:List UInt8}{m k:Nat}(h:Gone l m k) (hk:k < l.length):(runes l).take (m+1)=(runes l).take m++[((nx (l.drop k)).1,(l.drop k).take (nx (l.drop k)).2)]:=by
 have hc:=zq (zam hk)
 rw [h.left] at hc
 have hlt:m < (runes l).length:=by
  rcases Nat.lt_or_ge m (runes l).length with h1|h1
  ·exact h1
  ·rw [List.drop_eq_nil_of_le h1] at hc;cases hc
 rw [List.take_succ_eq_append_getElem hlt]
 rw [List.drop_eq_getElem_cons hlt] at hc
 rw [(List.cons.inj hc).1]
theorem ziw:∀ (m:Nat) (R:List Ru),m<=R.length->(∀ v∈R.take m,v.1≠10)->(R.drop m=[]∨∃ v t,R.drop m=v :: t/\v.1=10)->rest R=m
 | 0,R,_,_,h=>by
  rcases h with h|⟨v,t,h,h10⟩
  ·rw [List.drop_zero] at h;rw [h];rfl
  ·rw [List.drop_zero] at h;rw [h];unfold rest;rw [if_pos h10]
 | m+1,[],hm,_,_=>by simp at hm
 | m+1,v :: t,hm,h1,h2=>by
  unfold rest
  rw [if_neg (h1 v (by simp)),ziw m t (by simpa using hm) (fun x hx=>h1 x (by simp [hx])) (by simpa using h2)]
def rsb (l:List UInt8):Nat:=(byt ((runes l).take (rest (runes l)))).length
theorem Gone.rest_end {l:List UInt8}{m k:Nat}(h:Gone l m k) (hn:∀ v∈(runes l).take m,v.1≠10) (hs:l.length<=k∨(nx (l.drop k)).1=10) (hm:m<=(runes l).length):rest (runes l)=m/\rsb l=k:=by
 have e:rest (runes l)=m:=by
  refine ziw m _ hm hn ?_
  rw [<- h.left]
  by_cases hk:l.length<=k
  ·left;rw [List.drop_eq_nil_of_le hk];rfl
  ·right
   refine ⟨_,_,zq (zam (by omega)),?_⟩
   rcases hs with hs|hs
   ·omega
   ·exact hs
 exact ⟨e,by unfold rsb;rw [e];exact h.size⟩
theorem zcx (r:Int) (w:World):Calls Tryz.prog 63 #[.int .i32 r] w fun e w'=>e=.returned (.bool (zS r))/\w=w':=by
 rw [zfh]
 go_enter Tryz.func63,Tryz.ntmps63
 go_wp2
 all_goals go_ret
 all_goals (refine ⟨zT ?_,rfl⟩;first|rfl|(rw [Bool.eq_iff_iff];simp;omega)|(rw [Bool.eq_iff_iff];simp [*];omega))
theorem zcp (r:Int) (w:World):Calls Tryz.prog 65 #[.int .i32 r] w fun e w'=>e=.returned (.bool (dgt r))/\w=w':=by
 rw [znx]
 go_enter Tryz.func65,Tryz.ntmps65
 go_wp2
 all_goals go_ret
 all_goals (refine ⟨zT ?_,rfl⟩;first|rfl|(rw [Bool.eq_iff_iff];simp;omega)|(rw [Bool.eq_iff_iff];simp [*];omega))
theorem zdU (r:Int) (w:World):Calls Tryz.prog 77 #[.int .i32 r] w fun e w'=>e=.returned (.bool (zbU r))/\w=w':=by
 have h1:=zcx r w
 have h2:=zcp r w
 have h3:zbU r=(zS r || dgt r || r == 95):=rfl
 rw [h3]
 cases ha:zS r<;>rw [ha] at h1
 ·cases hb:dgt r<;>rw [hb] at h2
  ·go_enter Tryz.func77,Tryz.ntmps77
   go_wp2_with (first
    | (go_at_call 63;refine h1.mono ?_;rintro e w' ⟨rfl,rfl⟩)
    | (go_at_call 65;refine h2.mono ?_;rintro e w' ⟨rfl,rfl⟩))
   go_ret
   exact ⟨zT (by simp),rfl⟩
  ·go_enter Tryz.func77,Tryz.ntmps77
   go_wp2_with (first
    | (go_at_call 63;refine h1.mono ?_;rintro e w' ⟨rfl,rfl⟩)
    | (go_at_call 65;refine h2.mono ?_;rintro e w' ⟨rfl,rfl⟩))
   go_ret
   exact ⟨zT (by simp),rfl⟩
 ·go_enter Tryz.func77,Tryz.ntmps77
  go_wp2_with (first
   | (go_at_call 63;refine h1.mono ?_;rintro e w' ⟨rfl,rfl⟩)
   | (go_at_call 65;refine h2.mono ?_;rintro e w' ⟨rfl,rfl⟩))
  go_ret
  exact ⟨zT (by simp),rfl⟩
theorem zkC (s:ByteArray) (w:World) (hs:s.size<=140737488351232) :
  Calls Tryz.prog 64 #[.string s] w fun e w'=>e=.returned (.int .i64 (spb (bl s):Int))/\Below w.heap.size w w':=by
 go_enter Tryz.func64,Tryz.ntmps64
 go_wp2
 go_loopw [] (fun wr=>∃ (m k:Nat),wr.heap[w.heap.size]?=some (.stringIter s k)/\Hid (Adv (bl s) m k)/\Below w.heap.size w wr) (fun wr=>s.size - wr.iterPos w.heap.size)
 case atStart=>exact ⟨0,0,World.iter_heap w s 0,Adv.zero _,(Below.refl _ w).alloc zn2 _⟩
 case round=>
  obtain ⟨m,k,hit,ha,hb⟩:=hrel
  have hle:=ha.out.le
  rw [zo] at hle
  by_cases hk:k < s.size
  ·have hnx:∀ ty,(Instr.next (.pointer (some ⟨w.heap.size,0,none⟩)) true ty).run Tryz.prog wr=_:=fun ty=>Lib.run_next_any_at wr w.heap.size s k ty hit hk
   obtain ⟨d1,d2⟩:=zcV hk
   have hne:=zam (l:=bl s) (by rw [zo];exact hk)
   have hps:=zaC hne
   have hnl:=zcT hne
   rw [List.length_drop,zo] at hnl
   obtain ⟨r,hr⟩:∃ r,(nx ((bl s).drop k)).1=r:=⟨_,rfl⟩
   obtain ⟨q,hq⟩:∃ q,(nx ((bl s).drop k)).2=q:=⟨_,rfl⟩
   rw [hr] at d1
   rw [hq] at d2 hps hnl
   rw [d1,d2] at hnx
   have hit2:=Lib.iterAt_heap wr w.heap.size s k (k+q) hit
   have hb2:=Lib.below_iterAt hb (k:=w.heap.size) zn2 s (k+q)
   have h26:=fun w1=>zdU (rn r) w1
   rw [ziI] at h26
   cases hi:zbU r with
   | true=>
    rw [hi] at h26
    have hA:Hid (Adv (bl s) (m+1) (k+q)):=by have:=ha.out.step (by rw [zo];exact hk) (by rw [hr];exact hi);rw [hq] at this;exact this
    clear hr hq hne hi d1 d2
    go_wp2_with (first
     | (go_at_call 77;refine (h26 _).mono ?_;rintro e w' ⟨rfl,rfl⟩))
    go_roundw
    case rel=>exact ⟨m+1,k+q,hit2,hA,hb2⟩
    case measure=>rw [iterPos_of hit2,iterPos_of hit];omega
   | false=>
    rw [hi] at h26
    have hE:Hid (spn (runes (bl s))=m):=ha.out.stop (.inr (by rw [hr];exact hi))
    have hZ:Hid (spb (bl s)=k):=by show spb (bl s)=k;unfold spb;rw [hE.out];exact ha.out.size
    clear hr hq hne hi d1 d2
    go_wp2_with (first
     | (go_at_call 77;refine (h26 _).mono ?_;rintro e w' ⟨rfl,rfl⟩))
    go_ret
    rw [hZ.out]
    exact ⟨rfl,hb2⟩
  ·have hnx:∀ ty,(Instr.next (.pointer (some ⟨w.heap.size,0,none⟩)) true ty).run Tryz.prog wr=_:=fun ty=>Lib.run_next_end_at wr w.heap.size s k ty hit hk
   have hE:Hid (spn (runes (bl s))=m):=ha.out.stop (.inl (by rw [zo];omega))
   have hZ:Hid (spb (bl s)=k):=by show spb (bl s)=k;unfold spb;rw [hE.out];exact ha.out.size
   have hks:k=s.size:=by omega
   go_wp2
   go_ret
   rw [hZ.out,hks]
   exact ⟨rfl,hb⟩
theorem zgQ (s:ByteArray) (w:World) (hs:s.size<=140737488351232) :
  Calls Tryz.prog 62 #[.string s] w fun e w'=>e=.returned (.int .i64 (rsb (bl s):Int))/\Below w.heap.size w w':=by
 go_enter Tryz.func62,Tryz.ntmps62
 go_wp2
 go_loopw [] (fun wr=>∃ (m k:Nat),wr.heap[w.heap.size]?=some (.stringIter s k)/\Hid (Gone (bl s) m k)/\Hid (∀ v∈(runes (bl s)).take m,v.1≠10)/\Hid (m<=(runes (bl s)).length)/\Below w.heap.size w wr) (fun wr=>s.size - wr.iterPos w.heap.size)
 case atStart=>exact ⟨0,0,World.iter_heap w s 0,Gone.zero _,fun v hv=>by simp at hv,Nat.zero_le _,(Below.refl _ w).alloc zn2 _⟩
 case round=>
  obtain ⟨m,k,hit,ha,hno,hmr,hb⟩:=hrel
  have hle:=ha.out.le
  rw [zo] at hle
  by_cases hk:k < s.size
  ·have hnx:∀ ty,(Instr.next (.pointer (some ⟨w.heap.size,0,none⟩)) true ty).run Tryz.prog wr=_:=fun ty=>Lib.run_next_any_at wr w.heap.size s k ty hit hk
   obtain ⟨d1,d2⟩:=zcV hk
   have hkl:k < (bl s).length:=by rw [zo];exact hk
   have hne:=zam hkl
   have hps:=zaC hne
   have hnl:=zcT hne
   rw [List.length_drop,zo] at hnl
   have hst:=ha.out.step hkl
   have htk:=ha.out.take hkl
   have hre:=fun h=>ha.out.rest_end hno.out (.inr h) hmr.out
   have hml:m < (runes (bl s)).length:=by
    have:=congrArg List.length htk
    rw [List.length_append,List.length_take,List.length_take] at this
    simp at this
    omega
   obtain ⟨r,hr⟩:∃ r,(nx ((bl s).drop k)).1=r:=⟨_,rfl⟩
   obtain ⟨q,hq⟩:∃ q,(nx ((bl s).drop k)).2=q:=⟨_,rfl⟩
   rw [hr] at d1 htk hre
   rw [hq] at d2 hps hnl hst htk
   rw [d1,d2] at hnx
   have hit2:=Lib.iterAt_heap wr w.heap.size s k (k+q) hit
   have hb2:=Lib.below_iterAt hb (k:=w.heap.size) zn2 s (k+q)
   have h10:=zaN (r:=r) (k:=10) (by omega)
   by_cases hi:r=10
   ·have e1:(rn r == 10)=true:=by rw [h10.2 hi];rfl
    have hZ:Hid (rsb (bl s)=k):=(hre hi).2
    clear hr hq hne hi d1 d2 htk hre hst h10
    go_wp2
    go_ret
    rw [hZ.out]
    exact ⟨rfl,hb2⟩
   ·have e1:(rn r == 10)=false:=beq_eq_false_iff_ne.2 (fun e=>hi (h10.1 e))
    have hN:Hid (∀ v∈(runes (bl s)).take (m+1),v.1≠10):=fun v hv=>by
     rw [htk] at hv
     rcases List.mem_append.1 hv with hv|hv
     ·exact hno.out v hv
     ·simp only [List.mem_singleton] at hv;rw [hv];exact hi
    have hA:Hid (Gone (bl s) (m+1) (k+q)):=hst
    have hM:Hid (m+1<=(runes (bl s)).length):=hml
    clear hr hq hne hi d1 d2 htk hre hst h10 hml
    go_wp2
    go_roundw
    case rel=>exact ⟨m+1,k+q,hit2,hA,hN,hM,hb2⟩
    case measure=>rw [iterPos_of hit2,iterPos_of hit];omega
  ·have hnx:∀ ty,(Instr.next (.pointer (some ⟨w.heap.size,0,none⟩)) true ty).run Tryz.prog wr=_:=fun ty=>Lib.run_next_end_at wr w.heap.size s k ty hit hk
   have hZ:Hid (rsb (bl s)=k):=(ha.out.rest_end hno.out (.inl (by rw [zo];omega)) hmr.out).2
   have hks:k=s.size:=by omega
   go_wp2
   go_ret
   rw [hZ.out,hks]
   exact ⟨rfl,hb⟩
theorem zgB {l:List UInt8}(h:spb l≠l.length):zae l=false:=by
 unfold zae
 have:((spb l:Int) == (l.length:Int))=false:=beq_eq_false_iff_ne.2 (by omega)
 rw [this];simp
theorem zhH {l:List UInt8}(h:zS (nx l).1=false):zae l=false:=by
 unfold zae
 rw [h];simp
theorem ziR {l:List UInt8}{m:Nat}(h1:zS (nx l).1=true) (h2:spb l=l.length) (h3:spn (runes l)=m):zae l=decide ((m:Int)<=24):=by
 unfold zae
 rw [h1,h2,h3]
 rw [Bool.eq_iff_iff]
 simp
 omega
theorem zfq (s:ByteArray) (w:World) (hs:s.size<=140737488351232) :
  Calls Tryz.prog 67 #[.string s] w fun e w'=>e=.returned (.bool (zae (bl s)))/\Below w.heap.size w w':=by
 go_enter Tryz.func67,Tryz.ntmps67
 go_wp2
 go_loopw [3] (fun c wr=>∃ (m k:Nat),c=.int .i64 (m:Int)/\wr.heap[w.heap.size]?=some (.stringIter s k)/\Hid (Adv (bl s) m k)/\(m=0->k=0)/\Hid (0 < m->zS (nx (bl s)).1=true)/\Below w.heap.size w wr) (fun _ wr=>s.size - wr.iterPos w.heap.size)
 case atStart=>exact ⟨0,0,rfl,World.iter_heap w s 0,Adv.zero _,fun _=>rfl,fun h=>by omega,(Below.refl _ w).alloc zn2 _⟩
 case round=>
  obtain ⟨m,k,rfl,hit,ha,hm0,hlt,hb⟩:=hrel
  have hle:=ha.out.le
  have hfw:=ha.out.few
  rw [zo] at hle
  by_cases hk:k < s.size
  ·have hnx:∀ ty,(Instr.next (.pointer (some ⟨w.heap.size,0,none⟩)) true ty).run Tryz.prog wr=_:=fun ty=>Lib.run_next_any_at wr w.heap.size s k ty hit hk
   obtain ⟨d1,d2⟩:=zcV hk
   have hne:=zam (l:=bl s) (by rw [zo];exact hk)
   have hps:=zaC hne
   have hnl:=zcT hne
   rw [List.length_drop,zo] at hnl
   obtain ⟨r,hr⟩:∃ r,(nx ((bl s).drop k)).1=r:=⟨_,rfl⟩
   obtain ⟨q,hq⟩:∃ q,(nx ((bl s).drop k)).2=q:=⟨_,rfl⟩
   rw [hr] at d1
   rw [hq] at d2 hps hnl
   rw [d1,d2] at hnx
   have hit2:=Lib.iterAt_heap wr w.heap.size s k (k+q) hit
   have hb2:=Lib.below_iterAt hb (k:=w.heap.size) zn2 s (k+q)
   have h26:=fun w1=>zdU (rn r) w1
   have h27:=fun w1=>zcx (rn r) w1
   rw [ziI] at h26
   rw [zfi] at h27
   cases hi:zbU r with
   | true=>
    rw [hi] at h26
    have hA:Hid (Adv (bl s) (m+1) (k+q)):=by have:=ha.out.step (by rw [zo];exact hk) (by rw [hr];exact hi);rw [hq] at this;exact this
    by_cases hmz:m=0
    ·have e0:((m:Int) == 0)=true:=by simp;omega
     have hk0:=hm0 hmz
     have hrr:(nx (bl s)).1=r:=by rw [<- hr,hk0];rfl
     cases hl:zS r with
     | true=>
      rw [hl] at h27
      have hL:Hid (0 < m+1->zS (nx (bl s)).1=true):=fun _=>by rw [hrr];exact hl
      clear hr hq hne hi d1 d2 hrr hl hm0 hmz hk0
      go_wp2_with (first
       | (go_at_call 77;refine (h26 _).mono ?_;rintro e w' ⟨rfl,rfl⟩)
       | (go_at_call 63;refine (h27 _).mono ?_;rintro e w' ⟨rfl,rfl⟩))
      go_roundw
      case rel=>exact ⟨m+1,k+q,by go_num,hit2,hA,fun h=>by omega,hL,hb2⟩
      case measure=>rw [iterPos_of hit2,iterPos_of hit];omega
     | false=>
      rw [hl] at h27
      have hF:Hid (zae (bl s)=false):=zhH (by rw [hrr];exact hl)
      clear hr hq hne hi d1 d2 hrr hl hm0 hmz hk0
      go_wp2_with (first
       | (go_at_call 77;refine (h26 _).mono ?_;rintro e w' ⟨rfl,rfl⟩)
       | (go_at_call 63;refine (h27 _).mono ?_;rintro e w' ⟨rfl,rfl⟩))
      go_ret
      rw [hF.out]
      exact ⟨rfl,hb2⟩
    ·have e0:((m:Int) == 0)=false:=beq_eq_false_iff_ne.2 (by omega)
     have hL:Hid (0 < m+1->zS (nx (bl s)).1=true):=fun _=>hlt.out (by omega)
     clear hr hq hne hi d1 d2 hm0 hmz
     go_wp2_with (first
      | (go_at_call 77;refine (h26 _).mono ?_;rintro e w' ⟨rfl,rfl⟩))
     go_roundw
     case rel=>exact ⟨m+1,k+q,by go_num,hit2,hA,fun h=>by omega,hL,hb2⟩
     case measure=>rw [iterPos_of hit2,iterPos_of hit];omega
   | false=>
    rw [hi] at h26
    have hE:Hid (spn (runes (bl s))=m):=ha.out.stop (.inr (by rw [hr];exact hi))
    have hZ:Hid (spb (bl s)=k):=by show spb (bl s)=k;unfold spb;rw [hE.out];exact ha.out.size
    have hF:Hid (zae (bl s)=false):=zgB (by rw [hZ.out,zo];omega)
    clear hr hq hne hi d1 d2 hm0
    go_wp2_with (first
     | (go_at_call 77;refine (h26 _).mono ?_;rintro e w' ⟨rfl,rfl⟩))
    go_ret
    rw [hF.out]
    exact ⟨rfl,hb2⟩
  ·have hnx:∀ ty,(Instr.next (.pointer (some ⟨w.heap.size,0,none⟩)) true ty).run Tryz.prog wr=_:=fun ty=>Lib.run_next_end_at wr w.heap.size s k ty hit hk
   have hE:Hid (spn (runes (bl s))=m):=ha.out.stop (.inl (by rw [zo];omega))
   have hZ:Hid (spb (bl s)=k):=by show spb (bl s)=k;unfold spb;rw [hE.out];exact ha.out.size
   have hks:k=s.size:=by omega
   by_cases hmz:m=0
   ·have hF:Hid (zae (bl s)=false):=by
     have:bl s=[]:=List.eq_nil_of_length_eq_zero (by rw [zo];have:=hm0 hmz;omega)
     show zae (bl s)=false
     rw [this];rfl
    subst hmz
    clear hm0
    go_wp2
    go_ret
    rw [hF.out]
    exact ⟨rfl,hb⟩
   ·have hF:Hid (zae (bl s)=decide ((m:Int)<=24)):=ziR (hlt.out (by omega)) (by rw [hZ.out,hks];rfl) hE.out
    have e1:(1:Int)<=(m:Int):=by omega
    clear hm0
    go_wp2
    all_goals go_ret
    all_goals rw [hF.out]
    all_goals exact ⟨rfl,hb⟩
theorem zmx {l:List UInt8}{k:Nat}{d:UInt8}(h:k < l.length) (hd:l[k]=d):dgt (nx (l.drop k)).1=dB d/\(dB d=true->nx (l.drop k)=((d.toNat:Int),1)):=by
 have e:l.drop k=d :: l.drop (k+1):=by rw [List.drop_eq_getElem_cons h,hd]
 rw [e]
 by_cases hs:d.toNat < 128
 ·rw [zdl hs]
  refine ⟨?_,fun _=>rfl⟩
  unfold dgt dB
  rw [Bool.eq_iff_iff]
  simp
  omega
 ·have hb:=zhz hs (l.drop (k+1))
  have e1:dB d=false:=zmE (by omega)
  rw [e1]
  refine ⟨decide_eq_false (by omega),fun h=>by cases h⟩
theorem zg1 (s:ByteArray) (w:World) (hs:s.size<=140737488351232) :
  Calls Tryz.prog 68 #[.string s] w fun e w'=>e=.returned (.bool (zai (bl s)))/\Below w.heap.size w w':=by
 have hlen:(bl s).length=s.size:=rfl
 by_cases h1:s.size < 1
 ·rw [zgV (by omega)]
  have hz:s=⟨#[]⟩:=by
   apply ByteArray.ext
   exact Array.eq_empty_of_size_eq_zero (show s.data.size=0 by show s.size=0;omega)
  subst hz
  go_enter Tryz.func68,Tryz.ntmps68
  go_wp2
  go_ret
  exact ⟨rfl,Below.refl _ _⟩
 have he0:(s.toList == [])=false:=by
  rw [ByteArray.toList_eq,beq_eq_false_iff_ne]
  intro e
  have:=congrArg List.length e
  simp at this
  have h2:s.size=0:=by show s.data.size=0;rw [this];rfl
  omega
 by_cases h2:10 < s.size
 ·rw [zgV (by omega)]
  have e2:(s.size:Int) > 10:=by omega
  go_enter Tryz.func68,Tryz.ntmps68
  go_wp2
  go_ret
  exact ⟨rfl,Below.refl _ _⟩
 have e2:¬ (s.size:Int) > 10:=by omega
 obtain ⟨c,r,hl⟩:∃ c r,bl s=c :: r:=by
  match hb:bl s with
  | []=>rw [hb] at hlen;simp at hlen;omega
  | c :: r=>exact ⟨c,r,rfl⟩
 have hs0:s[0]=c:=by rw [znw];simp [hl]
 have hz:(0:Int) < (s.size:Int):=by omega
 by_cases h3:c.toNat=48/\1 < s.size
 ·rw [hl,zgC h3.1 (by rw [<- hl,hlen];exact h3.2)]
  have e3:((c.toNat:Int) == 48)=true:=by simp;omega
  have e4:(s.size:Int) > 1:=by omega
  clear h3
  go_enter Tryz.func68,Tryz.ntmps68
  go_wp2
  go_ret
  exact ⟨rfl,Below.refl _ _⟩
 have hL1:1<=(bl s).length/\(bl s).length<=10:=by omega
 have hL2:¬ (((bl s).headD 0).toNat=48/\1 < (bl s).length):=by rw [hlen,hl];exact h3
 have HA:Hid ((bl s).all dB=true->zai (bl s)=decide (zz 0 (bl s)<=1000000000)):=fun h=>zj5 hL1 hL2 h
 have H0:Hid (zz 0 ((bl s).drop 0)=zz 0 (bl s)):=rfl
 clear hL2 hL1 hl
 by_cases h1s:1 < s.size
 ·have e4:(s.size:Int) > 1:=by omega
  have e3:((c.toNat:Int) == 48)=false:=beq_eq_false_iff_ne.2 (by omega)
  clear h3
  go_enter Tryz.func68,Tryz.ntmps68
  go_wp2
  go_loopw [3] (fun a wr=>∃ (n:Int) (k:Nat),a=.int .i64 n/\wr.heap[w.heap.size]?=some (.stringIter s k)/\k<=s.size/\Hid (zz n ((bl s).drop k)=zz 0 (bl s))/\Hid (((bl s).take k).all dB=true)/\0<=n/\Hid (n < 10 ^ k)/\Below w.heap.size w wr) (fun _ wr=>s.size - wr.iterPos w.heap.size)
  case atStart=>exact ⟨0,0,rfl,World.iter_heap w s 0,by omega,H0,rfl,by omega,(show (0:Int) < 10 ^ 0 by decide),(Below.refl _ w).alloc zn2 _⟩
  case round=>
   obtain ⟨n,k,rfl,hit,hk,hv,ha,hn0,hn1,hb⟩:=hrel
   by_cases hlt:k < s.size
   ·have hnx:∀ ty,(Instr.next (.pointer (some ⟨w.heap.size,0,none⟩)) true ty).run Tryz.prog wr=_:=fun ty=>Lib.run_next_any_at wr w.heap.size s k ty hit hlt
    obtain ⟨d1,d2⟩:=zcV hlt
    have hkl:k < (bl s).length:=by rw [hlen];exact hlt
    obtain ⟨d,hdl⟩:∃ d,(bl s)[k]=d:=⟨_,rfl⟩
    obtain ⟨f1,f2⟩:=zmx hkl hdl
    have h26:=fun w1=>zcp (rn (nx ((bl s).drop k)).1) w1
    rw [zhR,f1] at h26
    have hp:=ziG (k:=k) (by omega)
    have hnb:n < 1000000000:=by have:=hn1.out;omega
    cases hdg:dB d with
    | true=>
     rw [hdg] at h26
     have hdd:48<=d.toNat/\d.toNat<=57:=of_decide_eq_true hdg
     rw [f2 hdg] at d1 d2 h26
     have hrn:rn ((d.toNat:Int),1).1=(d.toNat:Int):=by unfold rn;rw [if_neg (by simp only;omega)]
     rw [hrn] at d1 h26
     rw [d1,d2] at hnx
     have hit2:=Lib.iterAt_heap wr w.heap.size s k (k+1) hit
     have hb2:=Lib.below_iterAt hb (k:=w.heap.size) zn2 s (k+1)
     have hA:Hid (((bl s).take (k+1)).all dB=true):=zgP ha.out hkl (by rw [hdl];exact hdg)
     have hV:Hid (zz (10*n+((d.toNat:Int) - 48)) ((bl s).drop (k+1))=zz 0 (bl s)):=by have:=zfp hv.out hkl;rw [hdl] at this;exact this
     have hN:Hid (10*n+((d.toNat:Int) - 48) < 10 ^ (k+1)):=by show 10*n+((d.toNat:Int) - 48) < 10 ^ (k+1);rw [zfX];have:=hn1.out;omega
     have w1:IntKind.i32.wrap ((d.toNat:Int) - 48)=(d.toNat:Int) - 48:=by rw [IntKind.wrap_i32];omega
     have hN0:0<=10*n+((d.toNat:Int) - 48):=by omega
     clear hdl hp f1 f2 d1 d2 hdg hrn
     go_wp2_with (first
      | (go_at_call 65;refine (h26 _).mono ?_;rintro e w' ⟨rfl,rfl⟩))
     go_roundw
     case rel=>exact ⟨_,k+1,rfl,hit2,by omega,hV,hA,hN0,hN,hb2⟩
     case measure=>rw [iterPos_of hit2,iterPos_of hit];omega
    | false=>
     rw [hdg] at h26
     have hF:Hid (zai (bl s)=false):=zee (zjR (k:=k) hkl (by rw [hdl];exact hdg))
     have hps:=zaC (zam hkl)
     obtain ⟨x,hx⟩:∃ x,rn (nx ((bl s).drop k)).1=x:=⟨_,rfl⟩
     obtain ⟨q,hq⟩:∃ q,(nx ((bl s).drop k)).2=q:=⟨_,rfl⟩
     rw [hx] at d1 h26
     rw [hq] at d2
     rw [d1,d2] at hnx
     have hb2:=Lib.below_iterAt hb (k:=w.heap.size) zn2 s (k+q)
     clear hdl hp f1 f2 d1 d2 hdg hx hq hps
     go_wp2_with (first
      | (go_at_call 65;refine (h26 _).mono ?_;rintro e w' ⟨rfl,rfl⟩))
     go_ret
     rw [hF.out]
     exact ⟨rfl,hb2⟩
   ·have hnx:∀ ty,(Instr.next (.pointer (some ⟨w.heap.size,0,none⟩)) true ty).run Tryz.prog wr=_:=fun ty=>Lib.run_next_end_at wr w.heap.size s k ty hit hlt
    have hall:Hid ((bl s).all dB=true):=by have:=ha.out;rw [List.take_of_length_le (by rw [hlen];omega)] at this;exact this
    have hval:Hid (zz 0 (bl s)=n):=(zgE hv.out (by rw [hlen];omega)).symm
    have hF:Hid (zai (bl s)=decide (n<=1000000000)):=by show zai (bl s)=_;rw [HA.out hall.out,hval.out]
    clear hn0
    go_wp2
    all_goals go_ret
    all_goals rw [hF.out]
    all_goals exact ⟨rfl,hb⟩
 ·have e4:¬ (s.size:Int) > 1:=by omega
  clear h3
  go_enter Tryz.func68,Tryz.ntmps68
  go_wp2
  go_loopw [3] (fun a wr=>∃ (n:Int) (k:Nat),a=.int .i64 n/\wr.heap[w.heap.size]?=some (.stringIter s k)/\k<=s.size/\Hid (zz n ((bl s).drop k)=zz 0 (bl s))/\Hid (((bl s).take k).all dB=true)/\0<=n/\Hid (n < 10 ^ k)/\Below w.heap.size w wr) (fun _ wr=>s.size - wr.iterPos w.heap.size)
  case atStart=>exact ⟨0,0,rfl,World.iter_heap w s 0,by omega,H0,rfl,by omega,(show (0:Int) < 10 ^ 0 by decide),(Below.refl _ w).alloc zn2 _⟩
  case round=>
   obtain ⟨n,k,rfl,hit,hk,hv,ha,hn0,hn1,hb⟩:=hrel
   by_cases hlt:k < s.size
   ·have hnx:∀ ty,(Instr.next (.pointer (some ⟨w.heap.size,0,none⟩)) true ty).run Tryz.prog wr=_:=fun ty=>Lib.run_next_any_at wr w.heap.size s k ty hit hlt
    obtain ⟨d1,d2⟩:=zcV hlt
    have hkl:k < (bl s).length:=by rw [hlen];exact hlt
    obtain ⟨d,hdl⟩:∃ d,(bl s)[k]=d:=⟨_,rfl⟩
    obtain ⟨f1,f2⟩:=zmx hkl hdl
    have h26:=fun w1=>zcp (rn (nx ((bl s).drop k)).1) w1
    rw [zhR,f1] at h26
    have hp:=ziG (k:=k) (by omega)
    have hnb:n < 1000000000:=by have:=hn1.out;omega
    cases hdg:dB d with
    | true=>
     rw [hdg] at h26
     have hdd:48<=d.toNat/\d.toNat<=57:=of_decide_eq_true hdg
     rw [f2 hdg] at d1 d2 h26
     have hrn:rn ((d.toNat:Int),1).1=(d.toNat:Int):=by unfold rn;rw [if_neg (by simp only;omega)]
     rw [hrn] at d1 h26
     rw [d1,d2] at hnx
     have hit2:=Lib.iterAt_heap wr w.heap.size s k (k+1) hit
     have hb2:=Lib.below_iterAt hb (k:=w.heap.size) zn2 s (k+1)
     have hA:Hid (((bl s).take (k+1)).all dB=true):=zgP ha.out hkl (by rw [hdl];exact hdg)
     have hV:Hid (zz (10*n+((d.toNat:Int) - 48)) ((bl s).drop (k+1))=zz 0 (bl s)):=by have:=zfp hv.out hkl;rw [hdl] at this;exact this
     have hN:Hid (10*n+((d.toNat:Int) - 48) < 10 ^ (k+1)):=by show 10*n+((d.toNat:Int) - 48) < 10 ^ (k+1);rw [zfX];have:=hn1.out;omega
     have w1:IntKind.i32.wrap ((d.toNat:Int) - 48)=(d.toNat:Int) - 48:=by rw [IntKind.wrap_i32];omega
     have hN0:0<=10*n+((d.toNat:Int) - 48):=by omega
     clear hdl hp f1 f2 d1 d2 hdg hrn
     go_wp2_with (first
      | (go_at_call 65;refine (h26 _).mono ?_;rintro e w' ⟨rfl,rfl⟩))
     go_roundw
     case rel=>exact ⟨_,k+1,rfl,hit2,by omega,hV,hA,hN0,hN,hb2⟩
     case measure=>rw [iterPos_of hit2,iterPos_of hit];omega
    | false=>
     rw [hdg] at h26
     have hF:Hid (zai (bl s)=false):=zee (zjR (k:=k) hkl (by rw [hdl];exact hdg))
     have hps:=zaC (zam hkl)
     obtain ⟨x,hx⟩:∃ x,rn (nx ((bl s).drop k)).1=x:=⟨_,rfl⟩
     obtain ⟨q,hq⟩:∃ q,(nx ((bl s).drop k)).2=q:=⟨_,rfl⟩
     rw [hx] at d1 h26
     rw [hq] at d2
     rw [d1,d2] at hnx
     have hb2:=Lib.below_iterAt hb (k:=w.heap.size) zn2 s (k+q)
     clear hdl hp f1 f2 d1 d2 hdg hx hq hps
     go_wp2_with (first
      | (go_at_call 65;refine (h26 _).mono ?_;rintro e w' ⟨rfl,rfl⟩))
     go_ret
     rw [hF.out]
     exact ⟨rfl,hb2⟩
   ·have hnx:∀ ty,(Instr.next (.pointer (some ⟨w.heap.size,0,none⟩)) true ty).run Tryz.prog wr=_:=fun ty=>Lib.run_next_end_at wr w.heap.size s k ty hit hlt
    have hall:Hid ((bl s).all dB=true):=by have:=ha.out;rw [List.take_of_length_le (by rw [hlen];omega)] at this;exact this
    have hval:Hid (zz 0 (bl s)=n):=(zgE hv.out (by rw [hlen];omega)).symm
    have hF:Hid (zai (bl s)=decide (n<=1000000000)):=by show zai (bl s)=_;rw [HA.out hall.out,hval.out]
    clear hn0
    go_wp2
    all_goals go_ret
    all_goals rw [hF.out]
    all_goals exact ⟨rfl,hb⟩
theorem zi0 (s:ByteArray) (w:World) (c:UInt8) (h0:0 < s.size) (h1:¬ 1 < s.size) (hs0:s[0]=c) (G:Nat) (hg:one (c.toNat:Int)=G) :
  Calls Tryz.prog 66 #[.string s] w fun e w'=>e=.returned (.int .i64 (G:Int))/\w=w':=by
 have hz:(0:Int) < (s.size:Int):=by omega
 have hz1:¬ (1:Int) < (s.size:Int):=by omega
 by_cases f0:c.toNat=123
 ·have g0:((c.toNat:Int) == 123)=true:=by simp;omega
  have hG:1=G:=by rw [<- hg];exact (zac (by omega)).symm
  clear f0 hg
  subst hG
  go_enter Tryz.func66,Tryz.ntmps66
  go_wp2
  go_ret
  exact ⟨rfl,rfl⟩
 have g0:((c.toNat:Int) == 123)=false:=beq_eq_false_iff_ne.2 (by omega)
 by_cases f1:c.toNat=125
 ·have g1:((c.toNat:Int) == 125)=true:=by simp;omega
  have hG:1=G:=by rw [<- hg];exact (zac (by omega)).symm
  clear f1 hg f0
  subst hG
  go_enter Tryz.func66,Tryz.ntmps66
  go_wp2
  go_ret
  exact ⟨rfl,rfl⟩
 have g1:((c.toNat:Int) == 125)=false:=beq_eq_false_iff_ne.2 (by omega)
 by_cases f2:c.toNat=40
 ·have g2:((c.toNat:Int) == 40)=true:=by simp;omega
  have hG:1=G:=by rw [<- hg];exact (zac (by omega)).symm
  clear f2 hg f0 f1
  subst hG
  go_enter Tryz.func66,Tryz.ntmps66
  go_wp2
  go_ret
  exact ⟨rfl,rfl⟩
 have g2:((c.toNat:Int) == 40)=false:=beq_eq_false_iff_ne.2 (by omega)
 by_cases f3:c.toNat=41
 ·have g3:((c.toNat:Int) == 41)=true:=by simp;omega
  have hG:1=G:=by rw [<- hg];exact (zac (by omega)).symm
  clear f3 hg f0 f1 f2
  subst hG
  go_enter Tryz.func66,Tryz.ntmps66
  go_wp2
  go_ret
  exact ⟨rfl,rfl⟩
 have g3:((c.toNat:Int) == 41)=false:=beq_eq_false_iff_ne.2 (by omega)
 by_cases f4:c.toNat=61
 ·have g4:((c.toNat:Int) == 61)=true:=by simp;omega
  have hG:1=G:=by rw [<- hg];exact (zac (by omega)).symm
  clear f4 hg f0 f1 f2 f3
  subst hG
  go_enter Tryz.func66,Tryz.ntmps66
  go_wp2
  go_ret
  exact ⟨rfl,rfl⟩
 have g4:((c.toNat:Int) == 61)=false:=beq_eq_false_iff_ne.2 (by omega)
 by_cases f5:c.toNat=33
 ·have g5:((c.toNat:Int) == 33)=true:=by simp;omega
  have hG:1=G:=by rw [<- hg];exact (zac (by omega)).symm
  clear f5 hg f0 f1 f2 f3 f4
  subst hG
  go_enter Tryz.func66,Tryz.ntmps66
  go_wp2
  go_ret
  exact ⟨rfl,rfl⟩
 have g5:((c.toNat:Int) == 33)=false:=beq_eq_false_iff_ne.2 (by omega)
 by_cases f6:c.toNat=60
 ·have g6:((c.toNat:Int) == 60)=true:=by simp;omega
  have hG:1=G:=by rw [<- hg];exact (zac (by omega)).symm
  clear f6 hg f0 f1 f2 f3 f4 f5
  subst hG
  go_enter Tryz.func66,Tryz.ntmps66
  go_wp2
  go_ret
  exact ⟨rfl,rfl⟩
 have g6:((c.toNat:Int) == 60)=false:=beq_eq_false_iff_ne.2 (by omega)
 by_cases f7:c.toNat=43
 ·have g7:((c.toNat:Int) == 43)=true:=by simp;omega
  have hG:1=G:=by rw [<- hg];exact (zac (by omega)).symm
  clear f7 hg f0 f1 f2 f3 f4 f5 f6
  subst hG
  go_enter Tryz.func66,Tryz.ntmps66
  go_wp2
  go_ret
  exact ⟨rfl,rfl⟩
 have g7:((c.toNat:Int) == 43)=false:=beq_eq_false_iff_ne.2 (by omega)
 by_cases f8:c.toNat=45
 ·have g8:((c.toNat:Int) == 45)=true:=by simp;omega
  have hG:1=G:=by rw [<- hg];exact (zac (by omega)).symm
  clear f8 hg f0 f1 f2 f3 f4 f5 f6 f7
  subst hG
  go_enter Tryz.func66,Tryz.ntmps66
  go_wp2
  go_ret
  exact ⟨rfl,rfl⟩
 have g8:((c.toNat:Int) == 45)=false:=beq_eq_false_iff_ne.2 (by omega)
 by_cases f9:c.toNat=42
 ·have g9:((c.toNat:Int) == 42)=true:=by simp;omega
  have hG:1=G:=by rw [<- hg];exact (zac (by omega)).symm
  clear f9 hg f0 f1 f2 f3 f4 f5 f6 f7 f8
  subst hG
  go_enter Tryz.func66,Tryz.ntmps66
  go_wp2
  go_ret
  exact ⟨rfl,rfl⟩
 have g9:((c.toNat:Int) == 42)=false:=beq_eq_false_iff_ne.2 (by omega)
 have hG:0=G:=by rw [<- hg];exact (zkO (by omega)).symm
 clear hg f0 f1 f2 f3 f4 f5 f6 f7 f8 f9
 subst hG
 go_enter Tryz.func66,Tryz.ntmps66
 go_wp2
 go_ret
 exact ⟨rfl,rfl⟩
theorem zjA (s:ByteArray) (w:World) (c:UInt8) (h1:1 < s.size) (hs0:s[0]=c) (G:Nat) (hg:one (c.toNat:Int)=G)
  (p0:((s.extract 0 2).toList == [61,61])=false)
  (p1:((s.extract 0 2).toList == [33,61])=false)
  (p2:((s.extract 0 2).toList == [60,61])=false)
  (p3:((s.extract 0 2).toList == [38,38])=false)
  (p4:((s.extract 0 2).toList == [124,124])=false)
  : Calls Tryz.prog 66 #[.string s] w fun e w'=>e=.returned (.int .i64 (G:Int))/\w=w':=by
 have hz:(0:Int) < (s.size:Int):=by omega
 have hz1:(1:Int) < (s.size:Int):=by omega
 have hz2:(2:Int)<=(s.size:Int):=by omega
 by_cases f0:c.toNat=123
 ·have g0:((c.toNat:Int) == 123)=true:=by simp;omega
  have hG:1=G:=by rw [<- hg];exact (zac (by omega)).symm
  clear f0 hg
  subst hG
  go_enter Tryz.func66,Tryz.ntmps66
  go_wp2
  go_ret
  exact ⟨rfl,rfl⟩
 have g0:((c.toNat:Int) == 123)=false:=beq_eq_false_iff_ne.2 (by omega)
 by_cases f1:c.toNat=125
 ·have g1:((c.toNat:Int) == 125)=true:=by simp;omega
  have hG:1=G:=by rw [<- hg];exact (zac (by omega)).symm
  clear f1 hg f0
  subst hG
  go_enter Tryz.func66,Tryz.ntmps66
  go_wp2
  go_ret
  exact ⟨rfl,rfl⟩
 have g1:((c.toNat:Int) == 125)=false:=beq_eq_false_iff_ne.2 (by omega)
 by_cases f2:c.toNat=40
 ·have g2:((c.toNat:Int) == 40)=true:=by simp;omega
  have hG:1=G:=by rw [<- hg];exact (zac (by omega)).symm
  clear f2 hg f0 f1
  subst hG
  go_enter Tryz.func66,Tryz.ntmps66
  go_wp2
  go_ret
  exact ⟨rfl,rfl⟩
 have g2:((c.toNat:Int) == 40)=false:=beq_eq_false_iff_ne.2 (by omega)
 by_cases f3:c.toNat=41
 ·have g3:((c.toNat:Int) == 41)=true:=by simp;omega
  have hG:1=G:=by rw [<- hg];exact (zac (by omega)).symm
  clear f3 hg f0 f1 f2
  subst hG
  go_enter Tryz.func66,Tryz.ntmps66
  go_wp2
  go_ret
  exact ⟨rfl,rfl⟩
 have g3:((c.toNat:Int) == 41)=false:=beq_eq_false_iff_ne.2 (by omega)
 by_cases f4:c.toNat=61
 ·have g4:((c.toNat:Int) == 61)=true:=by simp;omega
  have hG:1=G:=by rw [<- hg];exact (zac (by omega)).symm
  clear f4 hg f0 f1 f2 f3
  subst hG
  go_enter Tryz.func66,Tryz.ntmps66
  go_wp2
  go_ret
  exact ⟨rfl,rfl⟩
 have g4:((c.toNat:Int) == 61)=false:=beq_eq_false_iff_ne.2 (by omega)
 by_cases f5:c.toNat=33
 ·have g5:((c.toNat:Int) == 33)=true:=by simp;omega
  have hG:1=G:=by rw [<- hg];exact (zac (by omega)).symm
  clear f5 hg f0 f1 f2 f3 f4
  subst hG
  go_enter Tryz.func66,Tryz.ntmps66
  go_wp2
  go_ret
  exact ⟨rfl,rfl⟩
 have g5:((c.toNat:Int) == 33)=false:=beq_eq_false_iff_ne.2 (by omega)
 by_cases f6:c.toNat=60
 ·have g6:((c.toNat:Int) == 60)=true:=by simp;omega
  have hG:1=G:=by rw [<- hg];exact (zac (by omega)).symm
  clear f6 hg f0 f1 f2 f3 f4 f5
  subst hG
  go_enter Tryz.func66,Tryz.ntmps66
  go_wp2
  go_ret
  exact ⟨rfl,rfl⟩
 have g6:((c.toNat:Int) == 60)=false:=beq_eq_false_iff_ne.2 (by omega)
 by_cases f7:c.toNat=43
 ·have g7:((c.toNat:Int) == 43)=true:=by simp;omega
  have hG:1=G:=by rw [<- hg];exact (zac (by omega)).symm
  clear f7 hg f0 f1 f2 f3 f4 f5 f6
  subst hG
  go_enter Tryz.func66,Tryz.ntmps66
  go_wp2
  go_ret
  exact ⟨rfl,rfl⟩
 have g7:((c.toNat:Int) == 43)=false:=beq_eq_false_iff_ne.2 (by omega)
 by_cases f8:c.toNat=45
 ·have g8:((c.toNat:Int) == 45)=true:=by simp;omega
  have hG:1=G:=by rw [<- hg];exact (zac (by omega)).symm
  clear f8 hg f0 f1 f2 f3 f4 f5 f6 f7
  subst hG
  go_enter Tryz.func66,Tryz.ntmps66
  go_wp2
  go_ret
  exact ⟨rfl,rfl⟩
 have g8:((c.toNat:Int) == 45)=false:=beq_eq_false_iff_ne.2 (by omega)
 by_cases f9:c.toNat=42
 ·have g9:((c.toNat:Int) == 42)=true:=by simp;omega
  have hG:1=G:=by rw [<- hg];exact (zac (by omega)).symm
  clear f9 hg f0 f1 f2 f3 f4 f5 f6 f7 f8
  subst hG
  go_enter Tryz.func66,Tryz.ntmps66
  go_wp2
  go_ret
  exact ⟨rfl,rfl⟩
 have g9:((c.toNat:Int) == 42)=false:=beq_eq_false_iff_ne.2 (by omega)
 have hG:0=G:=by rw [<- hg];exact (zkO (by omega)).symm
 clear hg f0 f1 f2 f3 f4 f5 f6 f7 f8 f9
 subst hG
 go_enter Tryz.func66,Tryz.ntmps66
 go_wp2
 go_ret
 exact ⟨rfl,rfl⟩
theorem zjg (s:ByteArray) (w:World) (h0:0 < s.size) :
  Calls Tryz.prog 66 #[.string s] w fun e w'=>e=.returned (.int .i64 (sgn (runes (bl s)):Int))/\w=w':=by
 have hlen:(bl s).length=s.size:=rfl
 by_cases h1:1 < s.size
 ·obtain ⟨c,d,r,hl⟩:∃ c d r,bl s=c :: d :: r:=by
   match hb:bl s with
   | []=>rw [hb] at hlen;simp at hlen;omega
   | [_]=>rw [hb] at hlen;simp at hlen;omega
   | c :: d :: r=>exact ⟨c,d,r,rfl⟩
  have hs0:s[0]=c:=by
   have:s[0]=(bl s)[0]'(by omega):=rfl
   rw [this];simp [hl]
  have hq:∀ x y:UInt8,((s.extract 0 2).toList == [x,y])=(decide (c=x) && decide (d=y)):=fun x y=>zly s c d x y r hl
  rw [hl,zmp]
  have hz:(0:Int) < (s.size:Int):=by omega
  have hz1:(1:Int) < (s.size:Int):=by omega
  have hz2:(2:Int)<=(s.size:Int):=by omega
  by_cases a0:c=61/\d=61
  ·have p0:((s.extract 0 2).toList == [61,61])=true:=by rw [hq];simp [a0.1,a0.2]
   have hG:(if zbi (c.toNat:Int) (d.toNat:Int)=true then 2 else one (c.toNat:Int))=2:=by rw [a0.1,a0.2];decide
   rw [hG]
   clear hq a0 hG
   go_enter Tryz.func66,Tryz.ntmps66
   go_wp2
   go_ret
   exact ⟨rfl,rfl⟩
  have p0:((s.extract 0 2).toList == [61,61])=false:=by rw [hq];exact zdC a0
  by_cases a1:c=33/\d=61
  ·have p1:((s.extract 0 2).toList == [33,61])=true:=by rw [hq];simp [a1.1,a1.2]
   have hG:(if zbi (c.toNat:Int) (d.toNat:Int)=true then 2 else one (c.toNat:Int))=2:=by rw [a1.1,a1.2];decide
   rw [hG]
   clear hq a1 hG a0
   go_enter Tryz.func66,Tryz.ntmps66
   go_wp2
   go_ret
   exact ⟨rfl,rfl⟩
  have p1:((s.extract 0 2).toList == [33,61])=false:=by rw [hq];exact zdC a1
  by_cases a2:c=60/\d=61
  ·have p2:((s.extract 0 2).toList == [60,61])=true:=by rw [hq];simp [a2.1,a2.2]
   have hG:(if zbi (c.toNat:Int) (d.toNat:Int)=true then 2 else one (c.toNat:Int))=2:=by rw [a2.1,a2.2];decide
   rw [hG]
   clear hq a2 hG a0 a1
   go_enter Tryz.func66,Tryz.ntmps66
   go_wp2
   go_ret
   exact ⟨rfl,rfl⟩
  have p2:((s.extract 0 2).toList == [60,61])=false:=by rw [hq];exact zdC a2
  by_cases a3:c=38/\d=38
  ·have p3:((s.extract 0 2).toList == [38,38])=true:=by rw [hq];simp [a3.1,a3.2]
   have hG:(if zbi (c.toNat:Int) (d.toNat:Int)=true then 2 else one (c.toNat:Int))=2:=by rw [a3.1,a3.2];decide
   rw [hG]
   clear hq a3 hG a0 a1 a2
   go_enter Tryz.func66,Tryz.ntmps66
   go_wp2
   go_ret
   exact ⟨rfl,rfl⟩
  have p3:((s.extract 0 2).toList == [38,38])=false:=by rw [hq];exact zdC a3
  by_cases a4:c=124/\d=124
  ·have p4:((s.extract 0 2).toList == [124,124])=true:=by rw [hq];simp [a4.1,a4.2]
   have hG:(if zbi (c.toNat:Int) (d.toNat:Int)=true then 2 else one (c.toNat:Int))=2:=by rw [a4.1,a4.2];decide
   rw [hG]
   clear hq a4 hG a0 a1 a2 a3
   go_enter Tryz.func66,Tryz.ntmps66
   go_wp2
   go_ret
   exact ⟨rfl,rfl⟩
  have p4:((s.extract 0 2).toList == [124,124])=false:=by rw [hq];exact zdC a4
  have hp:zbi (c.toNat:Int) (d.toNat:Int)=false:=by
   have hi:∀ (x:UInt8) (k:Nat),(k:Int)=(x.toNat:Int)->x=UInt8.ofNat k:=fun x k h=>by
    have e:k=x.toNat:=by omega
    rw [e];simp
   refine decide_eq_false ?_
   rintro (⟨hb,ha⟩|⟨ha,hb⟩|⟨ha,hb⟩)
   ·rcases ha with ha|ha|ha
    ·exact a0 ⟨hi c 61 ha.symm,hi d 61 hb.symm⟩
    ·exact a1 ⟨hi c 33 ha.symm,hi d 61 hb.symm⟩
    ·exact a2 ⟨hi c 60 ha.symm,hi d 61 hb.symm⟩
   ·exact a3 ⟨hi c 38 ha.symm,hi d 38 hb.symm⟩
   ·exact a4 ⟨hi c 124 ha.symm,hi d 124 hb.symm⟩
  have hG:(if zbi (c.toNat:Int) (d.toNat:Int)=true then 2 else one (c.toNat:Int))=one (c.toNat:Int):=by rw [hp];rfl
  rw [hG]
  exact zjA s w c h1 hs0 _ rfl p0 p1 p2 p3 p4
 ·obtain ⟨c,hl⟩:∃ c,bl s=[c]:=by
   match hb:bl s with
   | []=>rw [hb] at hlen;simp at hlen;omega
   | [c]=>exact ⟨c,rfl⟩
   | _ :: _ :: _=>rw [hb] at hlen;simp at hlen;omega
  have hs0:s[0]=c:=by
   have:s[0]=(bl s)[0]'(by omega):=rfl
   rw [this];simp [hl]
  rw [hl,zlx]
  exact zi0 s w c h0 h1 hs0 _ rfl
def pc (l:List UInt8):Nat × Nat:=
 if (nx l).1=32∨(nx l).1=9∨(nx l).1=10 then (0,1) else if (nx l).1=35 then (0,rest (runes l)) else if zS (nx l).1=true then (1,spn (runes l))
 else if dgt (nx l).1=true then (2,spn (runes l)) else (3,sgn (runes l))
def pcB (l:List UInt8):Nat:=(byt ((runes l).take (pc l).2)).length
abbrev znU (a b:Nat):Value:=.tuple #[.int .i64 (a:Int),.int .i64 (b:Int)]
theorem zhO (s:ByteArray) (w:World) (hs:s.size<=140737488351232) (h0:0 < s.size) :
  Calls Tryz.prog 42 #[.int .i32 (rn (nx (bl s)).1),.string s] w fun e w'=>e=.returned (znU (pc (bl s)).1 (pcB (bl s)))/\Below w.heap.size w w':=by
 have hne:bl s≠[]:=by intro e;have:=zo s;rw [e] at this;simp at this;omega
 have h1:=zgQ s w hs
 have h2:=zkC s w hs
 have h3:=zjg s w h0
 have h4:=zcx (rn (nx (bl s)).1) w
 have h5:=zcp (rn (nx (bl s)).1) w
 rw [zfi] at h4
 rw [zhR] at h5
 have hone:0<=(nx (bl s)).1/\(nx (bl s)).1 < 128->(byt ((runes (bl s)).take 1)).length=1:=fun h=>by
  obtain ⟨c,e1,_⟩:=zfu (l:=bl s) (v:=((nx (bl s)).1,(bl s).take (nx (bl s)).2)) (by rw [zq hne];simp) h
  rw [zq hne,List.take_succ_cons,List.take_zero,zaQ]
  simp only at e1
  rw [e1];rfl
 have hsg:=ze0 (bl s)
 unfold pcB
 unfold pc
 have q1:=zaN (r:=(nx (bl s)).1) (k:=32) (by omega)
 have q2:=zaN (r:=(nx (bl s)).1) (k:=9) (by omega)
 have q3:=zaN (r:=(nx (bl s)).1) (k:=10) (by omega)
 have q4:=zaN (r:=(nx (bl s)).1) (k:=35) (by omega)
 have hR:(byt ((runes (bl s)).take (rest (runes (bl s))))).length=rsb (bl s):=rfl
 have hS:(byt ((runes (bl s)).take (spn (runes (bl s))))).length=spb (bl s):=rfl
 obtain ⟨r,hr⟩:∃ r,(nx (bl s)).1=r:=⟨_,rfl⟩
 obtain ⟨x,hx⟩:∃ x,rn r=x:=⟨_,rfl⟩
 obtain ⟨a,ha⟩:∃ a,rsb (bl s)=a:=⟨_,rfl⟩
 obtain ⟨b,hb⟩:∃ b,spb (bl s)=b:=⟨_,rfl⟩
 obtain ⟨c,hc⟩:∃ c,sgn (runes (bl s))=c:=⟨_,rfl⟩
 rw [hr] at h4 h5 q1 q2 q3 q4 hone ⊢
 rw [hx] at h4 h5 q1 q2 q3 q4 ⊢
 rw [ha] at h1 hR
 rw [hb] at h2 hS
 rw [hc] at h3 hsg ⊢
 by_cases c1:r=32∨r=9∨r=10
 ·rw [if_pos c1]
  simp only [hone (by omega)]
  clear h1 h2 h3 h4 h5 hone hsg hR hS hr hx ha hb hc hne q4
  by_cases k1:r=32
  ·have e1:(x == 32)=true:=by rw [q1.2 k1];rfl
   clear c1 q1 q2 q3 k1
   go_enter Tryz.func42,Tryz.ntmps42
   go_wp2
   go_ret2
   exact ⟨rfl,Below.refl _ _⟩
  have e1:(x == 32)=false:=beq_eq_false_iff_ne.2 (fun e=>k1 (q1.1 e))
  by_cases k2:r=9
  ·have e2:(x == 9)=true:=by rw [q2.2 k2];rfl
   clear c1 q1 q2 q3 k1 k2
   go_enter Tryz.func42,Tryz.ntmps42
   go_wp2
   go_ret2
   exact ⟨rfl,Below.refl _ _⟩
  have e2:(x == 9)=false:=beq_eq_false_iff_ne.2 (fun e=>k2 (q2.1 e))
  have e3:(x == 10)=true:=by rw [q3.2 (by omega)];rfl
  clear c1 q1 q2 q3 k1 k2
  go_enter Tryz.func42,Tryz.ntmps42
  go_wp2
  go_ret2
  exact ⟨rfl,Below.refl _ _⟩
 rw [if_neg c1]
 have e1:(x == 32)=false:=beq_eq_false_iff_ne.2 (fun e=>c1 (.inl (q1.1 e)))
 have e2:(x == 9)=false:=beq_eq_false_iff_ne.2 (fun e=>c1 (.inr (.inl (q2.1 e))))
 have e3:(x == 10)=false:=beq_eq_false_iff_ne.2 (fun e=>c1 (.inr (.inr (q3.1 e))))
 by_cases c2:r=35
 ·rw [if_pos c2]
  simp only [hR]
  have e4:(x == 35)=true:=by rw [q4.2 c2];rfl
  clear h2 h3 h4 h5 hone hsg hR hS hr hx ha hb hc hne q1 q2 q3 q4 c1 c2
  go_enter Tryz.func42,Tryz.ntmps42
  go_wp2_with (first
   | (go_at_call 62;refine h1.mono ?_;rintro e w1 ⟨rfl,b1⟩))
  go_ret2
  exact ⟨rfl,b1⟩
 rw [if_neg c2]
 have e4:(x == 35)=false:=beq_eq_false_iff_ne.2 (fun e=>c2 (q4.1 e))
 cases hl:zS r with
 | true=>
  rw [if_pos rfl]
  simp only [hS]
  rw [hl] at h4
  clear h1 h3 h5 hone hsg hR hS hr hx ha hb hc hne q1 q2 q3 q4 c1 c2 hl
  go_enter Tryz.func42,Tryz.ntmps42
  go_wp2_with (first
   | (go_at_call 63;refine h4.mono ?_;rintro e w' ⟨rfl,rfl⟩)
   | (go_at_call 64;refine h2.mono ?_;rintro e w1 ⟨rfl,b1⟩))
  go_ret2
  exact ⟨rfl,b1⟩
 | false=>
  rw [if_neg (by decide)]
  rw [hl] at h4
  cases hd:dgt r with
  | true=>
   rw [if_pos rfl]
   simp only [hS]
   rw [hd] at h5
   clear h1 h3 hone hsg hR hS hr hx ha hb hc hne q1 q2 q3 q4 c1 c2 hl hd
   go_enter Tryz.func42,Tryz.ntmps42
   go_wp2_with (first
    | (go_at_call 63;refine h4.mono ?_;rintro e w' ⟨rfl,rfl⟩)
    | (go_at_call 65;refine h5.mono ?_;rintro e w' ⟨rfl,rfl⟩)
    | (go_at_call 64;refine h2.mono ?_;rintro e w1 ⟨rfl,b1⟩))
   go_ret2
   exact ⟨rfl,b1⟩
  | false=>
   rw [if_neg (by decide)]
   simp only [hsg]
   rw [hd] at h5
   clear h1 h2 hone hsg hR hS hr hx ha hb hc hne q1 q2 q3 q4 c1 c2 hl hd
   go_enter Tryz.func42,Tryz.ntmps42
   go_wp2_with (first
    | (go_at_call 63;refine h4.mono ?_;rintro e w' ⟨rfl,rfl⟩)
    | (go_at_call 65;refine h5.mono ?_;rintro e w' ⟨rfl,rfl⟩)
    | (go_at_call 66;refine h3.mono ?_;rintro e w' ⟨rfl,rfl⟩))
   go_ret2
   exact ⟨rfl,Below.refl _ _⟩
def zck (K:Nat) (t:List UInt8):Bool:=if K=1 then zae t else if K=2 then zai t else if K=3 then !(decide (t=[])) else true
theorem zhw (K:Nat) (t:ByteArray) (w:World) (hs:t.size<=140737488351232) :
  Calls Tryz.prog 43 #[.int .i64 (K:Int),.string t] w fun e w'=>e=.returned (.bool (zck K (bl t)))/\Below w.heap.size w w':=by
 have h1:=zfq t w hs
 have h2:=zg1 t w hs
 unfold zck
 obtain ⟨a,ha⟩:∃ a,zae (bl t)=a:=⟨_,rfl⟩
 obtain ⟨b,hb⟩:∃ b,zai (bl t)=b:=⟨_,rfl⟩
 rw [ha] at h1 ⊢
 rw [hb] at h2 ⊢
 clear ha hb
 by_cases k1:K=1
 ·subst k1
  rw [if_pos rfl]
  go_enter Tryz.func43,Tryz.ntmps43
  go_wp2_with (first
   | (go_at_call 67;refine h1.mono ?_;rintro e w1 ⟨rfl,b1⟩))
  go_ret
  exact ⟨rfl,b1⟩
 rw [if_neg k1]
 have e1:((K:Int) == 1)=false:=beq_eq_false_iff_ne.2 (by omega)
 by_cases k2:K=2
 ·subst k2
  rw [if_pos rfl]
  go_enter Tryz.func43,Tryz.ntmps43
  go_wp2_with (first
   | (go_at_call 68;refine h2.mono ?_;rintro e w1 ⟨rfl,b1⟩))
  go_ret
  exact ⟨rfl,b1⟩
 rw [if_neg k2]
 have e2:((K:Int) == 2)=false:=beq_eq_false_iff_ne.2 (by omega)
 by_cases k3:K=3
 ·subst k3
  rw [if_pos rfl]
  have e:(t.toList == [])=decide (bl t=[]):=by rw [ByteArray.toList_eq,Bool.eq_iff_iff];simp
  obtain ⟨z,hz⟩:∃ z,decide (bl t=[])=z:=⟨_,rfl⟩
  rw [hz] at e ⊢
  clear hz h1 h2 e1 e2
  go_enter Tryz.func43,Tryz.ntmps43
  go_wp2
  go_ret
  exact ⟨by simp [bne,e],Below.refl _ _⟩
 rw [if_neg k3]
 have e3:((K:Int) == 3)=false:=beq_eq_false_iff_ne.2 (by omega)
 clear h1 h2
 go_enter Tryz.func43,Tryz.ntmps43
 go_wp2
 go_ret
 exact ⟨rfl,Below.refl _ _⟩
abbrev ps (a b:Int):Value:=.agg #[.int .i64 a,.int .i64 b]
theorem zdu (ln co:Int) (w:World) (h1:0<=ln/\ln<=140737488351233) :
  Calls Tryz.prog 44 #[ps ln co,.int .i32 10] w fun e w'=>e=.returned (ps (ln+1) 1)/\Below w.heap.size w w':=by
 go_enter Tryz.func44,Tryz.ntmps44
 go_wp2
 exact bodyPost_ret (v:=ps (ln+1) 1) (by simp [results,Tryz.results44,go_sem]) rfl ⟨rfl,(zn3.alloc zn2 _).alloc (by simp) _⟩
theorem zcY (ln co r:Int) (w:World) (h1:0<=co/\co<=140737488351233) (hr:r≠10) :
  Calls Tryz.prog 44 #[ps ln co,.int .i32 r] w fun e w'=>e=.returned (ps ln (co+1))/\Below w.heap.size w w':=by
 have e1:(r == 10)=false:=beq_eq_false_iff_ne.2 hr
 clear hr
 go_enter Tryz.func44,Tryz.ntmps44
 go_wp2
 exact bodyPost_ret (v:=ps ln (co+1)) (by simp [results,Tryz.results44,go_sem]) rfl ⟨rfl,(zn3.alloc zn2 _).alloc (by simp) _⟩
def It0 (w:World) (k:Nat) (s:ByteArray) (p:Nat):Prop:=w.heap[k]?=some (.stringIter s p)
theorem It0.keepB {w w':World}{k B:Nat}{s:ByteArray}{p:Nat}(h:It0 w k s p) (hb:Below B w w') (hB:k < B):It0 w' k s p:=(hb.block k hB).trans h
theorem It0.lt {w:World}{k:Nat}{s:ByteArray}{p:Nat}(h:It0 w k s p):k < w.heap.size:=(Array.getElem?_eq_some_iff.1 h).1
theorem It0.keep {w w':World}{k:Nat}{s:ByteArray}{p:Nat}(h:It0 w k s p) (hb:Below w.heap.size w w'):It0 w' k s p:=h.keepB hb h.lt
theorem It0.set {w:World}{k X i:Nat}{s:ByteArray}{p:Nat}(h:It0 w k s p) (hne:X≠k) (v:Value):It0 (w.setCell ⟨X,i,none⟩ v) k s p:=by
 unfold It0
 rw [Below.heap_setCell _ _ _ _ (fun e=>hne e.symm)]
 exact h
theorem zkk (s:ByteArray) (w:World) (hs:s.size<=140737488351232) :
  Calls Tryz.prog 31 #[.string s] w fun e w'=>e=.returned (.agg #[.int .i64 (zdj (runes (bl s)) 1 1).1,.int .i64 (zdj (runes (bl s)) 1 1).2])/\Below w.heap.size w w':=by
 obtain ⟨⟨eL,eC⟩,hE⟩:∃ x,zdj (runes (bl s)) 1 1=x:=⟨_,rfl⟩
 rw [hE]
 have HE:Hid (zdj (runes ((bl s).drop 0)) 1 1=(eL,eC)):=hE
 clear hE
 go_enter Tryz.func31,Tryz.ntmps31
 go_wp2
 go_loopw [] (fun wr=>∃ (k:Nat) (ln co:Int),It0 wr (w.heap.size+2) s k/\k<=s.size/\Hid (zdj (runes ((bl s).drop k)) ln co=(eL,eC))/\1<=ln/\1<=co/\ln<=1+k/\co<=1+k/\
  At wr (w.heap.size+1) (.int .i64 ln) (.int .i64 co)/\(∃ a b,At wr w.heap.size a b)/\Below w.heap.size w wr) (fun wr=>s.size - wr.iterPos (w.heap.size+2))
 case atStart=>
  refine ⟨0,1,1,?_,by omega,HE,by omega,by omega,by omega,by omega,(At.new _ _ _ _ _ (by simp)).keep (zn3.alloc zn2 _),⟨_,_,((At.new w (.int .i64 0) (.int .i64 0) 23 _ rfl).keep (zn3.alloc zn2 _)).keep (zn3.alloc zn2 _)⟩,((zn3.alloc zn2 _).alloc (by simp) _).alloc (by simp;omega) _⟩
  have:=World.iter_heap ((w.alloc (.cells #[.int .i64 0,.int .i64 0] 23)).alloc (.cells #[.int .i64 1,.int .i64 1] 23)) s 0
  simpa [It0] using this
 case round=>
  obtain ⟨k,ln,co,hit,hk,hv,hl1,hc1,hl2,hc2,hA,⟨a,b,hR⟩,hb⟩:=hrel
  by_cases hlt:k < s.size
  ·have hnx:∀ ty,(Instr.next (.pointer (some ⟨w.heap.size+2,0,none⟩)) true ty).run Tryz.prog wr=_:=fun ty=>Lib.run_next_any_at wr (w.heap.size+2) s k ty hit hlt
   obtain ⟨d1,d2⟩:=zcV hlt
   have hne:=zam (l:=bl s) (by rw [zo];exact hlt)
   have hc:=zq hne
   have hps:=zaC hne
   have hnl:=zcT hne
   rw [List.length_drop,zo] at hnl
   obtain ⟨r,hr⟩:∃ r,(nx ((bl s).drop k)).1=r:=⟨_,rfl⟩
   obtain ⟨q,hq⟩:∃ q,(nx ((bl s).drop k)).2=q:=⟨_,rfl⟩
   rw [hr] at d1
   rw [hr,hq] at hc
   rw [hq] at d2 hps hnl
   rw [d1,d2] at hnx
   have hvv:=hv.out
   rw [hc,List.drop_drop] at hvv
   have bi:=Lib.below_iterAt (Below.refl (w.heap.size+2) wr) (k:=w.heap.size+2) zn2 s (k+q)
   have hit2:It0 (wr.iterAt (w.heap.size+2) s (k+q)) (w.heap.size+2) s (k+q):=Lib.iterAt_heap wr (w.heap.size+2) s k (k+q) hit
   have hA2:=hA.keepB bi (by omega)
   have hR2:=hR.keepB bi (by omega)
   have hb2:=hb.trans (bi.mono (by omega))
   obtain ⟨wq,hwq⟩:∃ wq,wr.iterAt (w.heap.size+2) s (k+q)=wq:=⟨_,rfl⟩
   rw [hwq] at hnx hit2 hA2 hR2 hb2
   obtain ⟨y0,y1,y2,y3⟩:=id hA2
   by_cases h10:r=10
   ·have hx:rn r=10:=(zaN (by omega)).2 h10
    rw [hx] at hnx
    have hn:Hid (zdj (runes ((bl s).drop (k+q))) (ln+1) 1=(eL,eC)):=by rw [zdj,if_pos h10] at hvv;exact hvv
    have h26:=zdu ln co wq (by omega)
    clear hvv hc hr hq hne d1 d2 h10 hx hwq bi hA hR
    go_wp2_with (first
     | (go_at_call 44;refine h26.mono ?_;rintro e w1 ⟨rfl,b1⟩;have hA1:=hA2.keep b1;have hR1:=hR2.keep b1;have hI1:=hit2.keep b1;obtain ⟨z0,z1,z2,z3⟩:=id hA1;have b2:=hb2.trans (b1.mono hb2.size);clear h26 hA2 hR2 hb2 y0 y1 y2 y3))
    have hI2:=(hI1.set (X:=w.heap.size+1) (i:=0) (by omega) (.int .i64 (ln+1))).set (X:=w.heap.size+1) (i:=1) (by omega) (.int .i64 1)
    go_roundw
    case rel=>
     exact ⟨k+q,ln+1,1,hI2,by omega,hn,by omega,by omega,by omega,by omega,(hA1.set0 _).set1 _,⟨a,b,(hR1.far (by omega) _).far (by omega) _⟩,(b2.setCell (by simp) _).setCell (by simp) _⟩
    case measure=>rw [iterPos_of hI2,iterPos_of hit];omega
   ·have hx:rn r≠10:=fun e=>h10 ((zaN (by omega)).1 e)
    have hn:Hid (zdj (runes ((bl s).drop (k+q))) ln (co+1)=(eL,eC)):=by rw [zdj,if_neg h10] at hvv;exact hvv
    have h26:=zcY ln co (rn r) wq (by omega) hx
    clear hvv hc hr hq hne d1 d2 h10 hx hwq bi hA hR
    go_wp2_with (first
     | (go_at_call 44;refine h26.mono ?_;rintro e w1 ⟨rfl,b1⟩;have hA1:=hA2.keep b1;have hR1:=hR2.keep b1;have hI1:=hit2.keep b1;obtain ⟨z0,z1,z2,z3⟩:=id hA1;have b2:=hb2.trans (b1.mono hb2.size);clear h26 hA2 hR2 hb2 y0 y1 y2 y3))
    have hI2:=(hI1.set (X:=w.heap.size+1) (i:=0) (by omega) (.int .i64 ln)).set (X:=w.heap.size+1) (i:=1) (by omega) (.int .i64 (co+1))
    go_roundw
    case rel=>
     exact ⟨k+q,ln,co+1,hI2,by omega,hn,by omega,by omega,by omega,by omega,(hA1.set0 _).set1 _,⟨a,b,(hR1.far (by omega) _).far (by omega) _⟩,(b2.setCell (by simp) _).setCell (by simp) _⟩
    case measure=>rw [iterPos_of hI2,iterPos_of hit];omega
  ·have hnx:∀ ty,(Instr.next (.pointer (some ⟨w.heap.size+2,0,none⟩)) true ty).run Tryz.prog wr=_:=fun ty=>Lib.run_next_end_at wr (w.heap.size+2) s k ty hit hlt
   have hnil:(bl s).drop k=[]:=List.drop_eq_nil_of_le (by rw [zo];omega)
   have hvv:=hv.out
   rw [hnil] at hvv
   have h2:(ln,co)=(eL,eC):=hvv
   obtain ⟨rfl,rfl⟩:=Prod.mk.inj h2
   obtain ⟨y0,y1,y2,y3⟩:=id hA
   obtain ⟨z0,z1,z2,z3⟩:=id hR
   have r0:=(hR.set0 (.int .i64 ln)).set1 (.int .i64 co)
   obtain ⟨u0,u1,u2,u3⟩:=id r0
   have b2:Below w.heap.size w ((wr.setCell ⟨w.heap.size,0,none⟩ (.int .i64 ln)).setCell ⟨w.heap.size,1,none⟩ (.int .i64 co)):=(hb.setCell (by simp) _).setCell (by simp) _
   clear hvv hnil h2 hA hR
   go_wp2
   exact bodyPost_ret (v:=.agg #[.int .i64 ln,.int .i64 co]) (by simp [results,Tryz.results31,go_sem,u0,u1]) rfl ⟨rfl,b2⟩
end Go.Proofs.YtlkdaldfklaicaaGreatDoor
namespace Go.Proofs.YtlkdaldfklaicaaGreatDoor
open Go.Shelf Go.RowKit Go.Lib
set_option linter.unusedSimpArgs false
set_option linter.unusedVariables false
def znX:Ren:={ f:=fun x=>match x with|316=>39|n=>n,t:=fun x=>match x with|9=>9|3=>3|4=>4|37=>129|0=>0|127=>130|5=>5|n=>n,g:=fun x=>x }
theorem znI:LaysM.n316 Tryz.prog znX:=
 {mixed:=by kernel_rfl,f316:=Tryz.func39.trans (congrArg some (by kernel_rfl)),
  t0:=Tryz.underlying0,a0:=Tryz.isAgg0,z0:=Tryz.sizeOf0,v0:=Tryz.zeroValue0,t3:=Tryz.underlying3,a3:=Tryz.isAgg3,z3:=Tryz.sizeOf3,v3:=Tryz.zeroValue3,t4:=Tryz.underlying4,a4:=Tryz.isAgg4,z4:=Tryz.sizeOf4,v4:=Tryz.zeroValue4,
  t9:=Tryz.underlying9,a9:=Tryz.isAgg9,z9:=Tryz.sizeOf9,v9:=Tryz.zeroValue9,t37:=Tryz.underlying129,a37:=Tryz.isAgg129,z37:=Tryz.sizeOf129,v37:=Tryz.zeroValue129,
  t127:=Tryz.underlying130,a127:=Tryz.isAgg130,z127:=Tryz.sizeOf130,v127:=Tryz.zeroValue130,t5:=Tryz.underlying5,a5:=Tryz.isAgg5,z5:=Tryz.sizeOf5,v5:=Tryz.zeroValue5,
  i0:=by kernel_rfl,i3:=by kernel_rfl,i4:=by kernel_rfl,i5:=by kernel_rfl,i9:=by kernel_rfl,i37:=by kernel_rfl,i127:=by kernel_rfl }
theorem zQ (s:ByteArray) (w:World) (hs:s.size<=140737488351232) :
  Calls Tryz.prog 22 #[.string s] w fun e w'=>e=.returned (.string s)/\Below w.heap.size w w':=by
 have h1:Calls Tryz.prog 39 #[.string s] w fun e w'=>e=.returned (.string s)/\Below w.heap.size w w':=Any.stringslite_Clone znI s w (by omega)
 go_enter Tryz.func22,Tryz.ntmps22
 go_wp2_with (first
  | (go_at_call 39;refine h1.mono ?_;rintro e w1 ⟨rfl,b1⟩))
 go_ret
 exact ⟨rfl,b1⟩
theorem zex {l:List UInt8}(hl:l≠[]) (h10:(nx l).1≠10) (h32:¬ ((nx l).1=32∨(nx l).1=9)) (h35:(nx l).1≠35) :
  1<=(pc l).1/\(zck (pc l).1 (l.take (pcB l))=true->zat (runes l)=pc l)/\(zck (pc l).1 (l.take (pcB l))=false->(zat (runes l)).1=0):=by
 have hc:=zq hl
 have hf:=zbw ((nx l).1,l.take (nx l).2) (runes (l.drop (nx l).2))
 rw [<- hc] at hf
 simp only at hf
 have htk:∀ m,m<=(runes l).length->l.take (byt ((runes l).take m)).length=byt ((runes l).take m):=fun m _=>by
  have e2:byt ((runes l).take m)++byt ((runes l).drop m)=l:=by rw [<- zbG,List.take_append_drop,zan _ l zn2]
  have e3:∀ (a b l:List UInt8),a++b=l->l.take a.length=a:=fun a b l h=>by rw [<- h];exact List.take_left
  exact e3 _ _ _ e2
 have hp:pc l=if zS (nx l).1=true then (1,spn (runes l)) else if dgt (nx l).1=true then (2,spn (runes l)) else (3,sgn (runes l)):=by
  unfold pc
  rw [if_neg (by omega),if_neg h35]
 unfold pcB
 rw [hp,hf]
 by_cases a:zS (nx l).1=true
 ·have hn:=zkE hl a
  have hsp:l.take (byt ((runes l).take (spn (runes l)))).length=l.take (spb l):=rfl
  simp only [if_pos a]
  rw [hsp]
  unfold zck
  rw [if_pos rfl,hn]
  refine ⟨Nat.le_refl _,fun h=>?_,fun h=>?_⟩
  ·rw [if_pos (of_decide_eq_true h)]
  ·rw [if_neg (of_decide_eq_false h)]
 ·simp only [if_neg a]
  by_cases d:dgt (nx l).1=true
  ·simp only [if_pos d]
   rw [htk _ (zfD _)]
   unfold zck
   rw [if_neg (by decide),if_pos rfl,zeZ (l:=l) _ (fun v hv=>List.mem_of_mem_take hv)]
   refine ⟨by decide,fun h=>?_,fun h=>?_⟩
   ·rw [if_pos h]
   ·rw [if_neg (by rw [h];decide)]
  ·simp only [if_neg d]
   have hsb:=ze0 l
   rw [htk _ (zhc _)]
   unfold zck
   rw [if_neg (by decide),if_neg (by decide),if_pos rfl]
   refine ⟨by decide,fun h=>?_,fun h=>?_⟩
   ·rw [if_neg]
    intro e
    rw [e] at hsb
    have:byt ((runes l).take (sgn (runes l)))=[]:=List.eq_nil_of_length_eq_zero (by rw [e];exact hsb)
    rw [decide_eq_true this] at h
    cases h
   ·rw [if_pos]
    have:byt ((runes l).take (sgn (runes l)))=[]:=by simpa using h
    rw [this] at hsb
    exact hsb.symm
theorem zgF {rs:List Ru}:∀ v∈rs.take (spn rs),v.1≠10:=fun v hv e=>by
 have:=zdq rs v hv
 rw [e] at this
 revert this
 decide
theorem zlh:∀ (rs:List Ru),∀ v∈rs.take (sgn rs),v.1≠10
 | [],v,h=>by simp [sgn] at h
 | [u],v,h=>by
  have hm:=List.mem_of_mem_take h
  rcases List.mem_cons.1 hm with rfl|hm
  ·intro e
   have:sgn [v]=0:=by show one v.1=0;rw [e];decide
   rw [this] at h
   simp at h
  ·simp at hm
 | u :: x :: t,v,h=>by
  have e:sgn (u :: x :: t)=if zbi u.1 x.1=true then 2 else one u.1:=rfl
  by_cases hp:zbi u.1 x.1=true
  ·rw [e,if_pos hp] at h
   have:=of_decide_eq_true hp
   simp only [List.take_succ_cons,List.take_zero,List.mem_cons,List.not_mem_nil,or_false] at h
   rcases h with rfl|rfl<;>omega
  ·rw [e,if_neg hp] at h
   intro h10
   unfold one at h
   split at h
   ·simp only [List.take_succ_cons,List.take_zero,List.mem_cons,List.not_mem_nil,or_false] at h
    subst h;omega
   ·simp at h
theorem zeU:∀ (rs:List Ru),∀ v∈rs.take (rest rs),v.1≠10
 | [],v,h=>by simp [rest] at h
 | u :: t,v,h=>by
  unfold rest at h
  by_cases hu:u.1=10
  ·rw [if_pos hu] at h;simp at h
  ·rw [if_neg hu,List.take_succ_cons] at h
   rcases List.mem_cons.1 h with rfl|h
   ·exact hu
   ·exact zeU t v h
end Go.Proofs.YtlkdaldfklaicaaGreatDoor
namespace Go.Proofs.YtlkdaldfklaicaaGreatDoor
open Go.RowKit Go.Lib
set_option linter.unusedSimpArgs false
set_option linter.unusedVariables false
attribute [local go_sem ↓] Go.wp_at_zero Go.wp_at_succ
theorem Tryz.infoSg:(Tryz.prog.info? 192).map (fun i=>(i.zero,i.size,i.bytes))=some (some (.agg #[.string ⟨#[]⟩,.int .i64 0]),2,24):=by kernel_rfl
theorem zk3 {P:Program}{t e:TypeId}(ht:P.underlying t=some (.slice e)) (w:World) (s:Sg2) :
  Src P 2 t (.slice (some ⟨w.heap.size,0,none⟩) 1 1) 1 (zgs s) (w.alloc (.cells #[.string ⟨s.1.toArray⟩,.int .i64 (s.2:Int)] e)):=by
 have h:=World.ownsRow_lit (base:=w.heap.size) (e:=e) (size:=2) w #[.string ⟨s.1.toArray⟩,.int .i64 (s.2:Int)] 1 zn2 (by simp [maxLen]) (by simp)
 exact Src.ofSlice _ ht _ 1 1 _ (by simp [zgs]) (by simpa [zgs] using h.cells (g:=w.heap.size) rfl) (by simp [zgs,Value.oneCell'])
theorem zeg {w:World}{X:Nat}{V:List Sx}{W:List Sg2}{o:Nat}{b:Bool}{vv ww:Value}(h:Rdr w X ⟨V,W,o,b⟩ vv ww) (t:List UInt8) (k:Nat) (hk:k<=6) (hl:W.length<=3001) (ht:t.length<=12000) :
  Calls Tryz.prog 107 #[.pointer (some ⟨X,0,none⟩),.string ⟨t.toArray⟩,.int .i64 (k:Int)] w fun e w'=>(∃ u,e=.returned u)/\(∃ ww',Rdr w' X ⟨V,(t,k) :: W,o,b⟩ vv ww')/\Below X w w':=by
 obtain ⟨i0,hi,hz0,hz1,hz2⟩:=info_parts Tryz.infoSg
 obtain ⟨a,cap,rfl,hcap⟩:=zbH h.w
 simp only at h
 have hC:=fun w1=>zQ ⟨t.toArray⟩ w1 (by show t.toArray.size<=_;simp;omega)
 obtain ⟨y0,y1,y2,y3,f0,f1,f2,f3⟩:=id h.b
 go_enter Tryz.func107,Tryz.ntmps107
 go_wp2
 go_region_law (first
   | (refine zA _ (by rfl) (.tmp 10) (.tmp 15) 174 174 (by rfl) (X+1) 192 i0 (.agg #[.string ⟨#[]⟩,.int .i64 0]) 2 24 Tryz.underlying174 hi hz0 hz1 hz2 rfl _ W.length _ (by rfl) (World.ownsRow.alloc hr3.w _) _ 1 (zgs (t,k)) (by rfl) (zk3 Tryz.underlying174 w3 (t,k)) 1 (.inr (by omega)) zn2 (by unfold maxLen;omega) (by simp;have:=hr3.lt;omega) ?_;intro v4 w4 ho6 hg4 hat;obtain ⟨a4,cap4,rfl,hc4⟩:=zbH ho6;have hb4:Below (X+1) (w3.alloc (.cells #[.string ⟨t.toArray⟩,.int .i64 (k:Int)] 192)) w4:=zn3.grown hg4 (by simp;have:=hr3.lt;omega) (fun k hk=>(World.ownsRow.lt hr3.w k hk).1);have hB4:=hr4.b.keepB hb4 (Nat.lt_succ_self X);have p1:=hB4.c1;have r1:=hB4.f1)
   | (go_simp;refine (hC _).mono ?_;rintro e w3 ⟨rfl,b3⟩;have b3':Below w.heap.size w w3:=((Below.refl _ w).drew).trans b3;have hr3:=h.on b3';have c1:=hr3.b.c1;have d1:=hr3.b.f1;have hr4:=hr3.on (((Below.refl _ w3).alloc zn2 (.cells #[.string ⟨t.toArray⟩,.int .i64 (k:Int)] 192)));have c2:=hr4.b.c1;have d2:=hr4.b.f1))
 all_goals (
  have hne:vv.ownBlock=none∨vv.ownBlock≠(Value.slice a W.length cap).ownBlock:=by
   cases hq:vv.ownBlock with
   | none=>exact .inl rfl
   | some g=>exact .inr (fun e=>h.a g hq e.symm)
  have hv4:=World.ownsRow.kept hr4.v hg4 hne
  have hbb:Below X w w4:=((b3'.mono (Nat.le_of_lt h.lt)).alloc (Nat.le_of_lt hr3.lt) _).trans (hb4.mono (Nat.le_succ X))
  go_end0
  refine ⟨⟨_,rfl⟩,⟨_,hB4.set1 _,ownsRow_setCell_below hv4 (Nat.lt_succ_self X) _,?_,fun g hg e=>?_⟩,hbb.setCell (Nat.le_refl X) _⟩
  ·refine ownsRow_setCell_below ?_ (Nat.lt_succ_self X) _
   rw [List.reverse_cons,ze3]
   have e:zbJ [(t,k)]=zgs (t,k):=by simp [zbJ]
   rw [e]
   exact ho6
  ·rcases hat with q|q
   ·exact h.a g hg (q.symm.trans e)
   ·have hlt:=(World.ownsRow.lt hr3.v g hg).2
    have:some g=some (w3.alloc (.cells #[.string ⟨t.toArray⟩,.int .i64 (k:Int)] 192)).heap.size:=e.symm.trans q
    simp at this
    omega)
