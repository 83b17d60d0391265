import Derived.Test.YtlgnahpfggagoaaGreatDoorWzc04
import Derived.Shelf.Strconv.Clone
import Derived.Deep.RegionLaw
import Derived.Test.YtlgnahpfggagoaaGreatDoorWzc02
import Derived.Test.YtlgnahpfggagoaaGreatDoorWzc01
import Derived.Deep.LoopGhost
import Derived.Deep.DeepCutAuto
/- What the program's Name, number, behind and End do. -/
namespace Go.Proofs.YtlgnahpfggagoaaGreatDoor
open Go.RowKit Go.Lib
set_option linter.unusedSimpArgs false
set_option linter.unusedVariables false
theorem nameS_short {l:List UInt8}(h:spb l≠l.length):nameS l=false:=by
 unfold nameS
 have:((spb l:Int) == (l.length:Int))=false:=beq_eq_false_iff_ne.2 (by omega)
 rw [this];simp
theorem nameS_head {l:List UInt8}(h:letter (nx l).1=false):nameS l=false:=by
 unfold nameS
 rw [h];simp
theorem nameS_all {l:List UInt8}{m:Nat}(h1:letter (nx l).1=true) (h2:spb l=l.length) (h3:spn (runes l)=m):nameS l=decide ((m:Int)≤24):=by
 unfold nameS
 rw [h1,h2,h3]
 rw [Bool.eq_iff_iff]
 simp
 omega
set_option maxHeartbeats 1000000 in
theorem pName_any (s:ByteArray) (w:World) (hs:s.size≤140737488351232) :
  Calls Tryz.prog 40 #[.string s] w fun e w'=>e=.returned (.bool (nameS (bl s)))∧Below w.heap.size w w':=by
 go_enter Tryz.func40,Tryz.ntmps40
 go_wp2
 go_loopw [3] (fun c wr=>∃ (m k:Nat),c=.int .i64 (m:Int)∧wr.heap[w.heap.size]?=some (.stringIter s k)∧Hid (Adv (bl s) m k)∧(m=0→k=0)∧Hid (0 < m→letter (nx (bl s)).1=true)∧Below w.heap.size w wr) (fun _ wr=>s.size - wr.iterPos w.heap.size)
 case atStart=>exact ⟨0,0,rfl,World.iter_heap w s 0,Adv.zero _,fun _=>rfl,fun h=>by omega,(Below.refl _ w).alloc (Nat.le_refl _) _⟩
 case round=>
  obtain ⟨m,k,rfl,hit,ha,hm0,hlt,hb⟩:=hrel
  have hle:=ha.out.le
  have hfw:=ha.out.few
  rw [bl_length] at hle
  by_cases hk:k < s.size
  ·have hnx:∀ ty,(Instr.next (.pointer (some ⟨w.heap.size,0,none⟩)) true ty).run Tryz.prog wr=_:=fun ty=>Lib.run_next_any_at wr w.heap.size s k ty hit hk
   obtain ⟨d1,d2⟩:=dec_nx hk
   have hne:=drop_ne (l:=bl s) (by rw [bl_length];exact hk)
   have hps:=nx_pos hne
   have hnl:=nx_le hne
   rw [List.length_drop,bl_length] at hnl
   obtain ⟨r,hr⟩:∃ r,(nx ((bl s).drop k)).1=r:=⟨_,rfl⟩
   obtain ⟨q,hq⟩:∃ q,(nx ((bl s).drop k)).2=q:=⟨_,rfl⟩
   rw [hr] at d1
   rw [hq] at d2 hps hnl
   rw [d1,d2] at hnx
   have hit2:=Lib.iterAt_heap wr w.heap.size s k (k+q) hit
   have hb2:=Lib.below_iterAt hb (k:=w.heap.size) (Nat.le_refl _) s (k+q)
   have h26:=fun w1=>pInside_any (rn r) w1
   have h27:=fun w1=>pLetter_any (rn r) w1
   rw [insd_rn] at h26
   rw [letter_rn] at h27
   cases hi:insd r with
   | true=>
    rw [hi] at h26
    have hA:Hid (Adv (bl s) (m+1) (k+q)):=by have:=ha.out.step (by rw [bl_length];exact hk) (by rw [hr];exact hi);rw [hq] at this;exact this
    by_cases hmz:m=0
    ·have e0:((m:Int) == 0)=true:=by simp;omega
     have hk0:=hm0 hmz
     have hrr:(nx (bl s)).1=r:=by rw [← hr,hk0];rfl
     cases hl:letter r with
     | true=>
      rw [hl] at h27
      have hL:Hid (0 < m+1→letter (nx (bl s)).1=true):=fun _=>by rw [hrr];exact hl
      clear hr hq hne hi d1 d2 hrr hl hm0 hmz hk0
      go_wp2_with (first
       | (go_at_call 79;refine (h26 _).mono ?_;rintro e w' ⟨rfl,rfl⟩)
       | (go_at_call 80;refine (h27 _).mono ?_;rintro e w' ⟨rfl,rfl⟩))
      go_roundw
      case rel=>exact ⟨m+1,k+q,by go_num,hit2,hA,fun h=>by omega,hL,hb2⟩
      case measure=>rw [iterPos_of hit2,iterPos_of hit];omega
     | false=>
      rw [hl] at h27
      have hF:Hid (nameS (bl s)=false):=nameS_head (by rw [hrr];exact hl)
      clear hr hq hne hi d1 d2 hrr hl hm0 hmz hk0
      go_wp2_with (first
       | (go_at_call 79;refine (h26 _).mono ?_;rintro e w' ⟨rfl,rfl⟩)
       | (go_at_call 80;refine (h27 _).mono ?_;rintro e w' ⟨rfl,rfl⟩))
      go_ret
      rw [hF.out]
      exact ⟨rfl,hb2⟩
    ·have e0:((m:Int) == 0)=false:=beq_eq_false_iff_ne.2 (by omega)
     have hL:Hid (0 < m+1→letter (nx (bl s)).1=true):=fun _=>hlt.out (by omega)
     clear hr hq hne hi d1 d2 hm0 hmz
     go_wp2_with (first
      | (go_at_call 79;refine (h26 _).mono ?_;rintro e w' ⟨rfl,rfl⟩))
     go_roundw
     case rel=>exact ⟨m+1,k+q,by go_num,hit2,hA,fun h=>by omega,hL,hb2⟩
     case measure=>rw [iterPos_of hit2,iterPos_of hit];omega
   | false=>
    rw [hi] at h26
    have hE:Hid (spn (runes (bl s))=m):=ha.out.stop (.inr (by rw [hr];exact hi))
    have hZ:Hid (spb (bl s)=k):=by show spb (bl s)=k;unfold spb;rw [hE.out];exact ha.out.size
    have hF:Hid (nameS (bl s)=false):=nameS_short (by rw [hZ.out,bl_length];omega)
    clear hr hq hne hi d1 d2 hm0
    go_wp2_with (first
     | (go_at_call 79;refine (h26 _).mono ?_;rintro e w' ⟨rfl,rfl⟩))
    go_ret
    rw [hF.out]
    exact ⟨rfl,hb2⟩
  ·have hnx:∀ ty,(Instr.next (.pointer (some ⟨w.heap.size,0,none⟩)) true ty).run Tryz.prog wr=_:=fun ty=>Lib.run_next_end_at wr w.heap.size s k ty hit hk
   have hE:Hid (spn (runes (bl s))=m):=ha.out.stop (.inl (by rw [bl_length];omega))
   have hZ:Hid (spb (bl s)=k):=by show spb (bl s)=k;unfold spb;rw [hE.out];exact ha.out.size
   have hks:k=s.size:=by omega
   by_cases hmz:m=0
   ·have hF:Hid (nameS (bl s)=false):=by
     have:bl s=[]:=List.eq_nil_of_length_eq_zero (by rw [bl_length];have:=hm0 hmz;omega)
     show nameS (bl s)=false
     rw [this];rfl
    subst hmz
    clear hm0
    go_wp2
    go_ret
    rw [hF.out]
    exact ⟨rfl,hb⟩
   ·have hF:Hid (nameS (bl s)=decide ((m:Int)≤24)):=nameS_all (hlt.out (by omega)) (by rw [hZ.out,hks];rfl) hE.out
    have e1:(1:Int)≤(m:Int):=by omega
    clear hm0
    go_wp2
    all_goals go_ret
    all_goals rw [hF.out]
    all_goals exact ⟨rfl,hb⟩
theorem nx_dB {l:List UInt8}{k:Nat}{d:UInt8}(h:k < l.length) (hd:l[k]=d):dgt (nx (l.drop k)).1=dB d∧(dB d=true→nx (l.drop k)=((d.toNat:Int),1)):=by
 have e:l.drop k=d :: l.drop (k+1):=by rw [List.drop_eq_getElem_cons h,hd]
 rw [e]
 by_cases hs:d.toNat < 128
 ·rw [nx_ascii hs]
  refine ⟨?_,fun _=>rfl⟩
  unfold dgt dB
  rw [Bool.eq_iff_iff]
  simp
  omega
 ·have hb:=nx_big hs (l.drop (k+1))
  have e1:dB d=false:=dB_no (by omega)
  rw [e1]
  refine ⟨decide_eq_false (by omega),fun h=>by cases h⟩
set_option maxHeartbeats 2000000 in
theorem pNumber_any (s:ByteArray) (w:World) (hs:s.size≤140737488351232) :
  Calls Tryz.prog 102 #[.string s] w fun e w'=>e=.returned (.bool (numB (bl s)))∧Below w.heap.size w w':=by
 have hlen:(bl s).length=s.size:=rfl
 by_cases h1:s.size < 1
 ·rw [numB_len (by omega)]
  have hz:s=⟨#[]⟩:=by
   apply ByteArray.ext
   exact Array.eq_empty_of_size_eq_zero (show s.data.size=0 by show s.size=0;omega)
  subst hz
  go_enter Tryz.func102,Tryz.ntmps102
  go_wp2
  go_ret
  exact ⟨rfl,Below.refl _ _⟩
 have he0:(s.toList == [])=false:=by
  rw [ByteArray.toList_eq,beq_eq_false_iff_ne]
  intro e
  have:=congrArg List.length e
  simp at this
  have h2:s.size=0:=by show s.data.size=0;rw [this];rfl
  omega
 by_cases h2:10 < s.size
 ·rw [numB_len (by omega)]
  have e2:(s.size:Int) > 10:=by omega
  go_enter Tryz.func102,Tryz.ntmps102
  go_wp2
  go_ret
  exact ⟨rfl,Below.refl _ _⟩
 have e2:¬ (s.size:Int) > 10:=by omega
 obtain ⟨c,r,hl⟩:∃ c r,bl s=c :: r:=by
  match hb:bl s with
  | []=>rw [hb] at hlen;simp at hlen;omega
  | c :: r=>exact ⟨c,r,rfl⟩
 have hs0:s[0]=c:=by rw [get_bl];simp [hl]
 have hz:(0:Int) < (s.size:Int):=by omega
 by_cases h3:c.toNat=48∧1 < s.size
 ·rw [hl,numB_nought h3.1 (by rw [← hl,hlen];exact h3.2)]
  have e3:((c.toNat:Int) == 48)=true:=by simp;omega
  have e4:(s.size:Int) > 1:=by omega
  clear h3
  go_enter Tryz.func102,Tryz.ntmps102
  go_wp2
  go_ret
  exact ⟨rfl,Below.refl _ _⟩
 have hL1:1≤(bl s).length∧(bl s).length≤10:=by omega
 have hL2:¬ (((bl s).headD 0).toNat=48∧1 < (bl s).length):=by rw [hlen,hl];exact h3
 have HA:Hid ((bl s).all dB=true→numB (bl s)=decide (valB 0 (bl s)≤1000000000)):=fun h=>numB_all hL1 hL2 h
 have H0:Hid (valB 0 ((bl s).drop 0)=valB 0 (bl s)):=rfl
 clear hL2 hL1 hl
 by_cases h1s:1 < s.size
 ·have e4:(s.size:Int) > 1:=by omega
  have e3:((c.toNat:Int) == 48)=false:=beq_eq_false_iff_ne.2 (by omega)
  clear h3
  go_enter Tryz.func102,Tryz.ntmps102
  go_wp2
  go_loopw [3] (fun a wr=>∃ (n:Int) (k:Nat),a=.int .i64 n∧wr.heap[w.heap.size]?=some (.stringIter s k)∧k≤s.size∧Hid (valB n ((bl s).drop k)=valB 0 (bl s))∧Hid (((bl s).take k).all dB=true)∧0≤n∧Hid (n < 10 ^ k)∧Below w.heap.size w wr) (fun _ wr=>s.size - wr.iterPos w.heap.size)
  case atStart=>exact ⟨0,0,rfl,World.iter_heap w s 0,by omega,H0,rfl,by omega,(show (0:Int) < 10 ^ 0 by decide),(Below.refl _ w).alloc (Nat.le_refl _) _⟩
  case round=>
   obtain ⟨n,k,rfl,hit,hk,hv,ha,hn0,hn1,hb⟩:=hrel
   by_cases hlt:k < s.size
   ·have hnx:∀ ty,(Instr.next (.pointer (some ⟨w.heap.size,0,none⟩)) true ty).run Tryz.prog wr=_:=fun ty=>Lib.run_next_any_at wr w.heap.size s k ty hit hlt
    obtain ⟨d1,d2⟩:=dec_nx hlt
    have hkl:k < (bl s).length:=by rw [hlen];exact hlt
    obtain ⟨d,hdl⟩:∃ d,(bl s)[k]=d:=⟨_,rfl⟩
    obtain ⟨f1,f2⟩:=nx_dB hkl hdl
    have h26:=fun w1=>pDigit_any (rn (nx ((bl s).drop k)).1) w1
    rw [dgt_rn,f1] at h26
    have hp:=pow_le9 (k:=k) (by omega)
    have hnb:n < 1000000000:=by have:=hn1.out;omega
    cases hdg:dB d with
    | true=>
     rw [hdg] at h26
     have hdd:48≤d.toNat∧d.toNat≤57:=of_decide_eq_true hdg
     rw [f2 hdg] at d1 d2 h26
     have hrn:rn ((d.toNat:Int),1).1=(d.toNat:Int):=by unfold rn;rw [if_neg (by simp only;omega)]
     rw [hrn] at d1 h26
     rw [d1,d2] at hnx
     have hit2:=Lib.iterAt_heap wr w.heap.size s k (k+1) hit
     have hb2:=Lib.below_iterAt hb (k:=w.heap.size) (Nat.le_refl _) s (k+1)
     have hA:Hid (((bl s).take (k+1)).all dB=true):=all_step ha.out hkl (by rw [hdl];exact hdg)
     have hV:Hid (valB (10*n+((d.toNat:Int) - 48)) ((bl s).drop (k+1))=valB 0 (bl s)):=by have:=valB_step hv.out hkl;rw [hdl] at this;exact this
     have hN:Hid (10*n+((d.toNat:Int) - 48) < 10 ^ (k+1)):=by show 10*n+((d.toNat:Int) - 48) < 10 ^ (k+1);rw [pow_next];have:=hn1.out;omega
     have w1:IntKind.i32.wrap ((d.toNat:Int) - 48)=(d.toNat:Int) - 48:=by rw [IntKind.wrap_i32];omega
     have hN0:0≤10*n+((d.toNat:Int) - 48):=by omega
     clear hdl hp f1 f2 d1 d2 hdg hrn
     go_wp2_with (first
      | (go_at_call 100;refine (h26 _).mono ?_;rintro e w' ⟨rfl,rfl⟩))
     go_roundw
     case rel=>exact ⟨_,k+1,rfl,hit2,by omega,hV,hA,hN0,hN,hb2⟩
     case measure=>rw [iterPos_of hit2,iterPos_of hit];omega
    | false=>
     rw [hdg] at h26
     have hF:Hid (numB (bl s)=false):=numB_not (all_no (k:=k) hkl (by rw [hdl];exact hdg))
     have hps:=nx_pos (drop_ne hkl)
     obtain ⟨x,hx⟩:∃ x,rn (nx ((bl s).drop k)).1=x:=⟨_,rfl⟩
     obtain ⟨q,hq⟩:∃ q,(nx ((bl s).drop k)).2=q:=⟨_,rfl⟩
     rw [hx] at d1 h26
     rw [hq] at d2
     rw [d1,d2] at hnx
     have hb2:=Lib.below_iterAt hb (k:=w.heap.size) (Nat.le_refl _) s (k+q)
     clear hdl hp f1 f2 d1 d2 hdg hx hq hps
     go_wp2_with (first
      | (go_at_call 100;refine (h26 _).mono ?_;rintro e w' ⟨rfl,rfl⟩))
     go_ret
     rw [hF.out]
     exact ⟨rfl,hb2⟩
   ·have hnx:∀ ty,(Instr.next (.pointer (some ⟨w.heap.size,0,none⟩)) true ty).run Tryz.prog wr=_:=fun ty=>Lib.run_next_end_at wr w.heap.size s k ty hit hlt
    have hall:Hid ((bl s).all dB=true):=by have:=ha.out;rw [List.take_of_length_le (by rw [hlen];omega)] at this;exact this
    have hval:Hid (valB 0 (bl s)=n):=(valB_end hv.out (by rw [hlen];omega)).symm
    have hF:Hid (numB (bl s)=decide (n≤1000000000)):=by show numB (bl s)=_;rw [HA.out hall.out,hval.out]
    clear hn0
    go_wp2
    all_goals go_ret
    all_goals rw [hF.out]
    all_goals exact ⟨rfl,hb⟩
 ·have e4:¬ (s.size:Int) > 1:=by omega
  clear h3
  go_enter Tryz.func102,Tryz.ntmps102
  go_wp2
  go_loopw [3] (fun a wr=>∃ (n:Int) (k:Nat),a=.int .i64 n∧wr.heap[w.heap.size]?=some (.stringIter s k)∧k≤s.size∧Hid (valB n ((bl s).drop k)=valB 0 (bl s))∧Hid (((bl s).take k).all dB=true)∧0≤n∧Hid (n < 10 ^ k)∧Below w.heap.size w wr) (fun _ wr=>s.size - wr.iterPos w.heap.size)
  case atStart=>exact ⟨0,0,rfl,World.iter_heap w s 0,by omega,H0,rfl,by omega,(show (0:Int) < 10 ^ 0 by decide),(Below.refl _ w).alloc (Nat.le_refl _) _⟩
  case round=>
   obtain ⟨n,k,rfl,hit,hk,hv,ha,hn0,hn1,hb⟩:=hrel
   by_cases hlt:k < s.size
   ·have hnx:∀ ty,(Instr.next (.pointer (some ⟨w.heap.size,0,none⟩)) true ty).run Tryz.prog wr=_:=fun ty=>Lib.run_next_any_at wr w.heap.size s k ty hit hlt
    obtain ⟨d1,d2⟩:=dec_nx hlt
    have hkl:k < (bl s).length:=by rw [hlen];exact hlt
    obtain ⟨d,hdl⟩:∃ d,(bl s)[k]=d:=⟨_,rfl⟩
    obtain ⟨f1,f2⟩:=nx_dB hkl hdl
    have h26:=fun w1=>pDigit_any (rn (nx ((bl s).drop k)).1) w1
    rw [dgt_rn,f1] at h26
    have hp:=pow_le9 (k:=k) (by omega)
    have hnb:n < 1000000000:=by have:=hn1.out;omega
    cases hdg:dB d with
    | true=>
     rw [hdg] at h26
     have hdd:48≤d.toNat∧d.toNat≤57:=of_decide_eq_true hdg
     rw [f2 hdg] at d1 d2 h26
     have hrn:rn ((d.toNat:Int),1).1=(d.toNat:Int):=by unfold rn;rw [if_neg (by simp only;omega)]
     rw [hrn] at d1 h26
     rw [d1,d2] at hnx
     have hit2:=Lib.iterAt_heap wr w.heap.size s k (k+1) hit
     have hb2:=Lib.below_iterAt hb (k:=w.heap.size) (Nat.le_refl _) s (k+1)
     have hA:Hid (((bl s).take (k+1)).all dB=true):=all_step ha.out hkl (by rw [hdl];exact hdg)
     have hV:Hid (valB (10*n+((d.toNat:Int) - 48)) ((bl s).drop (k+1))=valB 0 (bl s)):=by have:=valB_step hv.out hkl;rw [hdl] at this;exact this
     have hN:Hid (10*n+((d.toNat:Int) - 48) < 10 ^ (k+1)):=by show 10*n+((d.toNat:Int) - 48) < 10 ^ (k+1);rw [pow_next];have:=hn1.out;omega
     have w1:IntKind.i32.wrap ((d.toNat:Int) - 48)=(d.toNat:Int) - 48:=by rw [IntKind.wrap_i32];omega
     have hN0:0≤10*n+((d.toNat:Int) - 48):=by omega
     clear hdl hp f1 f2 d1 d2 hdg hrn
     go_wp2_with (first
      | (go_at_call 100;refine (h26 _).mono ?_;rintro e w' ⟨rfl,rfl⟩))
     go_roundw
     case rel=>exact ⟨_,k+1,rfl,hit2,by omega,hV,hA,hN0,hN,hb2⟩
     case measure=>rw [iterPos_of hit2,iterPos_of hit];omega
    | false=>
     rw [hdg] at h26
     have hF:Hid (numB (bl s)=false):=numB_not (all_no (k:=k) hkl (by rw [hdl];exact hdg))
     have hps:=nx_pos (drop_ne hkl)
     obtain ⟨x,hx⟩:∃ x,rn (nx ((bl s).drop k)).1=x:=⟨_,rfl⟩
     obtain ⟨q,hq⟩:∃ q,(nx ((bl s).drop k)).2=q:=⟨_,rfl⟩
     rw [hx] at d1 h26
     rw [hq] at d2
     rw [d1,d2] at hnx
     have hb2:=Lib.below_iterAt hb (k:=w.heap.size) (Nat.le_refl _) s (k+q)
     clear hdl hp f1 f2 d1 d2 hdg hx hq hps
     go_wp2_with (first
      | (go_at_call 100;refine (h26 _).mono ?_;rintro e w' ⟨rfl,rfl⟩))
     go_ret
     rw [hF.out]
     exact ⟨rfl,hb2⟩
   ·have hnx:∀ ty,(Instr.next (.pointer (some ⟨w.heap.size,0,none⟩)) true ty).run Tryz.prog wr=_:=fun ty=>Lib.run_next_end_at wr w.heap.size s k ty hit hlt
    have hall:Hid ((bl s).all dB=true):=by have:=ha.out;rw [List.take_of_length_le (by rw [hlen];omega)] at this;exact this
    have hval:Hid (valB 0 (bl s)=n):=(valB_end hv.out (by rw [hlen];omega)).symm
    have hF:Hid (numB (bl s)=decide (n≤1000000000)):=by show numB (bl s)=_;rw [HA.out hall.out,hval.out]
    clear hn0
    go_wp2
    all_goals go_ret
    all_goals rw [hF.out]
    all_goals exact ⟨rfl,hb⟩
set_option maxHeartbeats 2000000 in
theorem pSign_one (s:ByteArray) (w:World) (c:UInt8) (h0:0 < s.size) (h1:¬ 1 < s.size) (hs0:s[0]=c) (G:Nat) (hg:one (c.toNat:Int)=G) :
  Calls Tryz.prog 101 #[.string s] w fun e w'=>e=.returned (.int .i64 (G:Int))∧w=w':=by
 have hz:(0:Int) < (s.size:Int):=by omega
 have hz1:¬ (1:Int) < (s.size:Int):=by omega
 by_cases f0:c.toNat=123
 ·have g0:((c.toNat:Int) == 123)=true:=by simp;omega
  have hG:1=G:=by rw [← hg];exact (one_yes (by omega)).symm
  clear f0 hg
  subst hG
  go_enter Tryz.func101,Tryz.ntmps101
  go_wp2
  go_ret
  exact ⟨rfl,rfl⟩
 have g0:((c.toNat:Int) == 123)=false:=beq_eq_false_iff_ne.2 (by omega)
 by_cases f1:c.toNat=125
 ·have g1:((c.toNat:Int) == 125)=true:=by simp;omega
  have hG:1=G:=by rw [← hg];exact (one_yes (by omega)).symm
  clear f1 hg f0
  subst hG
  go_enter Tryz.func101,Tryz.ntmps101
  go_wp2
  go_ret
  exact ⟨rfl,rfl⟩
 have g1:((c.toNat:Int) == 125)=false:=beq_eq_false_iff_ne.2 (by omega)
 by_cases f2:c.toNat=40
 ·have g2:((c.toNat:Int) == 40)=true:=by simp;omega
  have hG:1=G:=by rw [← hg];exact (one_yes (by omega)).symm
  clear f2 hg f0 f1
  subst hG
  go_enter Tryz.func101,Tryz.ntmps101
  go_wp2
  go_ret
  exact ⟨rfl,rfl⟩
 have g2:((c.toNat:Int) == 40)=false:=beq_eq_false_iff_ne.2 (by omega)
 by_cases f3:c.toNat=41
 ·have g3:((c.toNat:Int) == 41)=true:=by simp;omega
  have hG:1=G:=by rw [← hg];exact (one_yes (by omega)).symm
  clear f3 hg f0 f1 f2
  subst hG
  go_enter Tryz.func101,Tryz.ntmps101
  go_wp2
  go_ret
  exact ⟨rfl,rfl⟩
 have g3:((c.toNat:Int) == 41)=false:=beq_eq_false_iff_ne.2 (by omega)
 by_cases f4:c.toNat=61
 ·have g4:((c.toNat:Int) == 61)=true:=by simp;omega
  have hG:1=G:=by rw [← hg];exact (one_yes (by omega)).symm
  clear f4 hg f0 f1 f2 f3
  subst hG
  go_enter Tryz.func101,Tryz.ntmps101
  go_wp2
  go_ret
  exact ⟨rfl,rfl⟩
 have g4:((c.toNat:Int) == 61)=false:=beq_eq_false_iff_ne.2 (by omega)
 by_cases f5:c.toNat=33
 ·have g5:((c.toNat:Int) == 33)=true:=by simp;omega
  have hG:1=G:=by rw [← hg];exact (one_yes (by omega)).symm
  clear f5 hg f0 f1 f2 f3 f4
  subst hG
  go_enter Tryz.func101,Tryz.ntmps101
  go_wp2
  go_ret
  exact ⟨rfl,rfl⟩
 have g5:((c.toNat:Int) == 33)=false:=beq_eq_false_iff_ne.2 (by omega)
 by_cases f6:c.toNat=60
 ·have g6:((c.toNat:Int) == 60)=true:=by simp;omega
  have hG:1=G:=by rw [← hg];exact (one_yes (by omega)).symm
  clear f6 hg f0 f1 f2 f3 f4 f5
  subst hG
  go_enter Tryz.func101,Tryz.ntmps101
  go_wp2
  go_ret
  exact ⟨rfl,rfl⟩
 have g6:((c.toNat:Int) == 60)=false:=beq_eq_false_iff_ne.2 (by omega)
 by_cases f7:c.toNat=43
 ·have g7:((c.toNat:Int) == 43)=true:=by simp;omega
  have hG:1=G:=by rw [← hg];exact (one_yes (by omega)).symm
  clear f7 hg f0 f1 f2 f3 f4 f5 f6
  subst hG
  go_enter Tryz.func101,Tryz.ntmps101
  go_wp2
  go_ret
  exact ⟨rfl,rfl⟩
 have g7:((c.toNat:Int) == 43)=false:=beq_eq_false_iff_ne.2 (by omega)
 by_cases f8:c.toNat=45
 ·have g8:((c.toNat:Int) == 45)=true:=by simp;omega
  have hG:1=G:=by rw [← hg];exact (one_yes (by omega)).symm
  clear f8 hg f0 f1 f2 f3 f4 f5 f6 f7
  subst hG
  go_enter Tryz.func101,Tryz.ntmps101
  go_wp2
  go_ret
  exact ⟨rfl,rfl⟩
 have g8:((c.toNat:Int) == 45)=false:=beq_eq_false_iff_ne.2 (by omega)
 by_cases f9:c.toNat=42
 ·have g9:((c.toNat:Int) == 42)=true:=by simp;omega
  have hG:1=G:=by rw [← hg];exact (one_yes (by omega)).symm
  clear f9 hg f0 f1 f2 f3 f4 f5 f6 f7 f8
  subst hG
  go_enter Tryz.func101,Tryz.ntmps101
  go_wp2
  go_ret
  exact ⟨rfl,rfl⟩
 have g9:((c.toNat:Int) == 42)=false:=beq_eq_false_iff_ne.2 (by omega)
 have hG:0=G:=by rw [← hg];exact (one_no (by omega)).symm
 clear hg f0 f1 f2 f3 f4 f5 f6 f7 f8 f9
 subst hG
 go_enter Tryz.func101,Tryz.ntmps101
 go_wp2
 go_ret
 exact ⟨rfl,rfl⟩
set_option maxHeartbeats 2000000 in
theorem pSign_two (s:ByteArray) (w:World) (c:UInt8) (h1:1 < s.size) (hs0:s[0]=c) (G:Nat) (hg:one (c.toNat:Int)=G)
  (p0:((s.extract 0 2).toList == [61,61])=false)
  (p1:((s.extract 0 2).toList == [33,61])=false)
  (p2:((s.extract 0 2).toList == [60,61])=false)
  (p3:((s.extract 0 2).toList == [38,38])=false)
  (p4:((s.extract 0 2).toList == [124,124])=false)
  : Calls Tryz.prog 101 #[.string s] w fun e w'=>e=.returned (.int .i64 (G:Int))∧w=w':=by
 have hz:(0:Int) < (s.size:Int):=by omega
 have hz1:(1:Int) < (s.size:Int):=by omega
 have hz2:(2:Int)≤(s.size:Int):=by omega
 by_cases f0:c.toNat=123
 ·have g0:((c.toNat:Int) == 123)=true:=by simp;omega
  have hG:1=G:=by rw [← hg];exact (one_yes (by omega)).symm
  clear f0 hg
  subst hG
  go_enter Tryz.func101,Tryz.ntmps101
  go_wp2
  go_ret
  exact ⟨rfl,rfl⟩
 have g0:((c.toNat:Int) == 123)=false:=beq_eq_false_iff_ne.2 (by omega)
 by_cases f1:c.toNat=125
 ·have g1:((c.toNat:Int) == 125)=true:=by simp;omega
  have hG:1=G:=by rw [← hg];exact (one_yes (by omega)).symm
  clear f1 hg f0
  subst hG
  go_enter Tryz.func101,Tryz.ntmps101
  go_wp2
  go_ret
  exact ⟨rfl,rfl⟩
 have g1:((c.toNat:Int) == 125)=false:=beq_eq_false_iff_ne.2 (by omega)
 by_cases f2:c.toNat=40
 ·have g2:((c.toNat:Int) == 40)=true:=by simp;omega
  have hG:1=G:=by rw [← hg];exact (one_yes (by omega)).symm
  clear f2 hg f0 f1
  subst hG
  go_enter Tryz.func101,Tryz.ntmps101
  go_wp2
  go_ret
  exact ⟨rfl,rfl⟩
 have g2:((c.toNat:Int) == 40)=false:=beq_eq_false_iff_ne.2 (by omega)
 by_cases f3:c.toNat=41
 ·have g3:((c.toNat:Int) == 41)=true:=by simp;omega
  have hG:1=G:=by rw [← hg];exact (one_yes (by omega)).symm
  clear f3 hg f0 f1 f2
  subst hG
  go_enter Tryz.func101,Tryz.ntmps101
  go_wp2
  go_ret
  exact ⟨rfl,rfl⟩
 have g3:((c.toNat:Int) == 41)=false:=beq_eq_false_iff_ne.2 (by omega)
 by_cases f4:c.toNat=61
 ·have g4:((c.toNat:Int) == 61)=true:=by simp;omega
  have hG:1=G:=by rw [← hg];exact (one_yes (by omega)).symm
  clear f4 hg f0 f1 f2 f3
  subst hG
  go_enter Tryz.func101,Tryz.ntmps101
  go_wp2
  go_ret
  exact ⟨rfl,rfl⟩
 have g4:((c.toNat:Int) == 61)=false:=beq_eq_false_iff_ne.2 (by omega)
 by_cases f5:c.toNat=33
 ·have g5:((c.toNat:Int) == 33)=true:=by simp;omega
  have hG:1=G:=by rw [← hg];exact (one_yes (by omega)).symm
  clear f5 hg f0 f1 f2 f3 f4
  subst hG
  go_enter Tryz.func101,Tryz.ntmps101
  go_wp2
  go_ret
  exact ⟨rfl,rfl⟩
 have g5:((c.toNat:Int) == 33)=false:=beq_eq_false_iff_ne.2 (by omega)
 by_cases f6:c.toNat=60
 ·have g6:((c.toNat:Int) == 60)=true:=by simp;omega
  have hG:1=G:=by rw [← hg];exact (one_yes (by omega)).symm
  clear f6 hg f0 f1 f2 f3 f4 f5
  subst hG
  go_enter Tryz.func101,Tryz.ntmps101
  go_wp2
  go_ret
  exact ⟨rfl,rfl⟩
 have g6:((c.toNat:Int) == 60)=false:=beq_eq_false_iff_ne.2 (by omega)
 by_cases f7:c.toNat=43
 ·have g7:((c.toNat:Int) == 43)=true:=by simp;omega
  have hG:1=G:=by rw [← hg];exact (one_yes (by omega)).symm
  clear f7 hg f0 f1 f2 f3 f4 f5 f6
  subst hG
  go_enter Tryz.func101,Tryz.ntmps101
  go_wp2
  go_ret
  exact ⟨rfl,rfl⟩
 have g7:((c.toNat:Int) == 43)=false:=beq_eq_false_iff_ne.2 (by omega)
 by_cases f8:c.toNat=45
 ·have g8:((c.toNat:Int) == 45)=true:=by simp;omega
  have hG:1=G:=by rw [← hg];exact (one_yes (by omega)).symm
  clear f8 hg f0 f1 f2 f3 f4 f5 f6 f7
  subst hG
  go_enter Tryz.func101,Tryz.ntmps101
  go_wp2
  go_ret
  exact ⟨rfl,rfl⟩
 have g8:((c.toNat:Int) == 45)=false:=beq_eq_false_iff_ne.2 (by omega)
 by_cases f9:c.toNat=42
 ·have g9:((c.toNat:Int) == 42)=true:=by simp;omega
  have hG:1=G:=by rw [← hg];exact (one_yes (by omega)).symm
  clear f9 hg f0 f1 f2 f3 f4 f5 f6 f7 f8
  subst hG
  go_enter Tryz.func101,Tryz.ntmps101
  go_wp2
  go_ret
  exact ⟨rfl,rfl⟩
 have g9:((c.toNat:Int) == 42)=false:=beq_eq_false_iff_ne.2 (by omega)
 have hG:0=G:=by rw [← hg];exact (one_no (by omega)).symm
 clear hg f0 f1 f2 f3 f4 f5 f6 f7 f8 f9
 subst hG
 go_enter Tryz.func101,Tryz.ntmps101
 go_wp2
 go_ret
 exact ⟨rfl,rfl⟩
set_option maxHeartbeats 2000000 in
theorem pSign_any (s:ByteArray) (w:World) (h0:0 < s.size) :
  Calls Tryz.prog 101 #[.string s] w fun e w'=>e=.returned (.int .i64 (sgn (runes (bl s)):Int))∧w=w':=by
 have hlen:(bl s).length=s.size:=rfl
 by_cases h1:1 < s.size
 ·obtain ⟨c,d,r,hl⟩:∃ c d r,bl s=c :: d :: r:=by
   match hb:bl s with
   | []=>rw [hb] at hlen;simp at hlen;omega
   | [_]=>rw [hb] at hlen;simp at hlen;omega
   | c :: d :: r=>exact ⟨c,d,r,rfl⟩
  have hs0:s[0]=c:=by
   have:s[0]=(bl s)[0]'(by omega):=rfl
   rw [this];simp [hl]
  have hq:∀ x y:UInt8,((s.extract 0 2).toList == [x,y])=(decide (c=x) && decide (d=y)):=fun x y=>two_beq s c d x y r hl
  rw [hl,sgn_two]
  have hz:(0:Int) < (s.size:Int):=by omega
  have hz1:(1:Int) < (s.size:Int):=by omega
  have hz2:(2:Int)≤(s.size:Int):=by omega
  by_cases a0:c=61∧d=61
  ·have p0:((s.extract 0 2).toList == [61,61])=true:=by rw [hq];simp [a0.1,a0.2]
   have hG:(if pair (c.toNat:Int) (d.toNat:Int)=true then 2 else one (c.toNat:Int))=2:=by rw [a0.1,a0.2];decide
   rw [hG]
   clear hq a0 hG
   go_enter Tryz.func101,Tryz.ntmps101
   go_wp2
   go_ret
   exact ⟨rfl,rfl⟩
  have p0:((s.extract 0 2).toList == [61,61])=false:=by rw [hq];exact and_no a0
  by_cases a1:c=33∧d=61
  ·have p1:((s.extract 0 2).toList == [33,61])=true:=by rw [hq];simp [a1.1,a1.2]
   have hG:(if pair (c.toNat:Int) (d.toNat:Int)=true then 2 else one (c.toNat:Int))=2:=by rw [a1.1,a1.2];decide
   rw [hG]
   clear hq a1 hG a0
   go_enter Tryz.func101,Tryz.ntmps101
   go_wp2
   go_ret
   exact ⟨rfl,rfl⟩
  have p1:((s.extract 0 2).toList == [33,61])=false:=by rw [hq];exact and_no a1
  by_cases a2:c=60∧d=61
  ·have p2:((s.extract 0 2).toList == [60,61])=true:=by rw [hq];simp [a2.1,a2.2]
   have hG:(if pair (c.toNat:Int) (d.toNat:Int)=true then 2 else one (c.toNat:Int))=2:=by rw [a2.1,a2.2];decide
   rw [hG]
   clear hq a2 hG a0 a1
   go_enter Tryz.func101,Tryz.ntmps101
   go_wp2
   go_ret
   exact ⟨rfl,rfl⟩
  have p2:((s.extract 0 2).toList == [60,61])=false:=by rw [hq];exact and_no a2
  by_cases a3:c=38∧d=38
  ·have p3:((s.extract 0 2).toList == [38,38])=true:=by rw [hq];simp [a3.1,a3.2]
   have hG:(if pair (c.toNat:Int) (d.toNat:Int)=true then 2 else one (c.toNat:Int))=2:=by rw [a3.1,a3.2];decide
   rw [hG]
   clear hq a3 hG a0 a1 a2
   go_enter Tryz.func101,Tryz.ntmps101
   go_wp2
   go_ret
   exact ⟨rfl,rfl⟩
  have p3:((s.extract 0 2).toList == [38,38])=false:=by rw [hq];exact and_no a3
  by_cases a4:c=124∧d=124
  ·have p4:((s.extract 0 2).toList == [124,124])=true:=by rw [hq];simp [a4.1,a4.2]
   have hG:(if pair (c.toNat:Int) (d.toNat:Int)=true then 2 else one (c.toNat:Int))=2:=by rw [a4.1,a4.2];decide
   rw [hG]
   clear hq a4 hG a0 a1 a2 a3
   go_enter Tryz.func101,Tryz.ntmps101
   go_wp2
   go_ret
   exact ⟨rfl,rfl⟩
  have p4:((s.extract 0 2).toList == [124,124])=false:=by rw [hq];exact and_no a4
  have hp:pair (c.toNat:Int) (d.toNat:Int)=false:=by
   have hi:∀ (x:UInt8) (k:Nat),(k:Int)=(x.toNat:Int)→x=UInt8.ofNat k:=fun x k h=>by
    have e:k=x.toNat:=by omega
    rw [e];simp
   refine decide_eq_false ?_
   rintro (⟨hb,ha⟩ | ⟨ha,hb⟩ | ⟨ha,hb⟩)
   ·rcases ha with ha | ha | ha
    ·exact a0 ⟨hi c 61 ha.symm,hi d 61 hb.symm⟩
    ·exact a1 ⟨hi c 33 ha.symm,hi d 61 hb.symm⟩
    ·exact a2 ⟨hi c 60 ha.symm,hi d 61 hb.symm⟩
   ·exact a3 ⟨hi c 38 ha.symm,hi d 38 hb.symm⟩
   ·exact a4 ⟨hi c 124 ha.symm,hi d 124 hb.symm⟩
  have hG:(if pair (c.toNat:Int) (d.toNat:Int)=true then 2 else one (c.toNat:Int))=one (c.toNat:Int):=by rw [hp];rfl
  rw [hG]
  exact pSign_two s w c h1 hs0 _ rfl p0 p1 p2 p3 p4
 ·obtain ⟨c,hl⟩:∃ c,bl s=[c]:=by
   match hb:bl s with
   | []=>rw [hb] at hlen;simp at hlen;omega
   | [c]=>exact ⟨c,rfl⟩
   | _ :: _ :: _=>rw [hb] at hlen;simp at hlen;omega
  have hs0:s[0]=c:=by
   have:s[0]=(bl s)[0]'(by omega):=rfl
   rw [this];simp [hl]
  rw [hl,sgn_one]
  exact pSign_one s w c h0 h1 hs0 _ rfl
/-- Of which kind what a text begins with would be, and how many runes it has. -/
def pc (l:List UInt8):Nat × Nat:=
 if (nx l).1=32∨(nx l).1=9∨(nx l).1=10 then (0,1) else if (nx l).1=35 then (0,rest (runes l)) else if letter (nx l).1=true then (1,spn (runes l))
 else if dgt (nx l).1=true then (2,spn (runes l)) else (3,sgn (runes l))
def pcB (l:List UInt8):Nat:=(byt ((runes l).take (pc l).2)).length
abbrev tup22 (a b:Nat):Value:=.tuple #[.int .i64 (a:Int),.int .i64 (b:Int)]
set_option maxHeartbeats 2000000 in
theorem pPiece_any (s:ByteArray) (w:World) (hs:s.size≤140737488351232) (h0:0 < s.size) :
  Calls Tryz.prog 67 #[.int .i32 (rn (nx (bl s)).1),.string s] w fun e w'=>e=.returned (tup22 (pc (bl s)).1 (pcB (bl s)))∧Below w.heap.size w w':=by
 have hne:bl s≠[]:=by intro e;have:=bl_length s;rw [e] at this;simp at this;omega
 have h1:=pRemark_any s w hs
 have h2:=pRun_any s w hs
 have h3:=pSign_any s w h0
 have h4:=pLetter_any (rn (nx (bl s)).1) w
 have h5:=pDigit_any (rn (nx (bl s)).1) w
 rw [letter_rn] at h4
 rw [dgt_rn] at h5
 have hone:0≤(nx (bl s)).1∧(nx (bl s)).1 < 128→(byt ((runes (bl s)).take 1)).length=1:=fun h=>by
  obtain ⟨c,e1,_⟩:=asc_one (l:=bl s) (v:=((nx (bl s)).1,(bl s).take (nx (bl s)).2)) (by rw [runes_cons hne];simp) h
  rw [runes_cons hne,List.take_succ_cons,List.take_zero,byt_cons]
  simp only at e1
  rw [e1];rfl
 have hsg:=sgn_bytes (bl s)
 unfold pcB
 unfold pc
 have q1:=rn_small (r:=(nx (bl s)).1) (k:=32) (by omega)
 have q2:=rn_small (r:=(nx (bl s)).1) (k:=9) (by omega)
 have q3:=rn_small (r:=(nx (bl s)).1) (k:=10) (by omega)
 have q4:=rn_small (r:=(nx (bl s)).1) (k:=35) (by omega)
 have hR:(byt ((runes (bl s)).take (rest (runes (bl s))))).length=rsb (bl s):=rfl
 have hS:(byt ((runes (bl s)).take (spn (runes (bl s))))).length=spb (bl s):=rfl
 obtain ⟨r,hr⟩:∃ r,(nx (bl s)).1=r:=⟨_,rfl⟩
 obtain ⟨x,hx⟩:∃ x,rn r=x:=⟨_,rfl⟩
 obtain ⟨a,ha⟩:∃ a,rsb (bl s)=a:=⟨_,rfl⟩
 obtain ⟨b,hb⟩:∃ b,spb (bl s)=b:=⟨_,rfl⟩
 obtain ⟨c,hc⟩:∃ c,sgn (runes (bl s))=c:=⟨_,rfl⟩
 rw [hr] at h4 h5 q1 q2 q3 q4 hone ⊢
 rw [hx] at h4 h5 q1 q2 q3 q4 ⊢
 rw [ha] at h1 hR
 rw [hb] at h2 hS
 rw [hc] at h3 hsg ⊢
 by_cases c1:r=32∨r=9∨r=10
 ·rw [if_pos c1]
  simp only [hone (by omega)]
  clear h1 h2 h3 h4 h5 hone hsg hR hS hr hx ha hb hc hne q4
  by_cases k1:r=32
  ·have e1:(x == 32)=true:=by rw [q1.2 k1];rfl
   clear c1 q1 q2 q3 k1
   go_enter Tryz.func67,Tryz.ntmps67
   go_wp2
   go_ret2
   exact ⟨rfl,Below.refl _ _⟩
  have e1:(x == 32)=false:=beq_eq_false_iff_ne.2 (fun e=>k1 (q1.1 e))
  by_cases k2:r=9
  ·have e2:(x == 9)=true:=by rw [q2.2 k2];rfl
   clear c1 q1 q2 q3 k1 k2
   go_enter Tryz.func67,Tryz.ntmps67
   go_wp2
   go_ret2
   exact ⟨rfl,Below.refl _ _⟩
  have e2:(x == 9)=false:=beq_eq_false_iff_ne.2 (fun e=>k2 (q2.1 e))
  have e3:(x == 10)=true:=by rw [q3.2 (by omega)];rfl
  clear c1 q1 q2 q3 k1 k2
  go_enter Tryz.func67,Tryz.ntmps67
  go_wp2
  go_ret2
  exact ⟨rfl,Below.refl _ _⟩
 rw [if_neg c1]
 have e1:(x == 32)=false:=beq_eq_false_iff_ne.2 (fun e=>c1 (.inl (q1.1 e)))
 have e2:(x == 9)=false:=beq_eq_false_iff_ne.2 (fun e=>c1 (.inr (.inl (q2.1 e))))
 have e3:(x == 10)=false:=beq_eq_false_iff_ne.2 (fun e=>c1 (.inr (.inr (q3.1 e))))
 by_cases c2:r=35
 ·rw [if_pos c2]
  simp only [hR]
  have e4:(x == 35)=true:=by rw [q4.2 c2];rfl
  clear h2 h3 h4 h5 hone hsg hR hS hr hx ha hb hc hne q1 q2 q3 q4 c1 c2
  go_enter Tryz.func67,Tryz.ntmps67
  go_wp2_with (first
   | (go_at_call 98;refine h1.mono ?_;rintro e w1 ⟨rfl,b1⟩))
  go_ret2
  exact ⟨rfl,b1⟩
 rw [if_neg c2]
 have e4:(x == 35)=false:=beq_eq_false_iff_ne.2 (fun e=>c2 (q4.1 e))
 cases hl:letter r with
 | true=>
  rw [if_pos rfl]
  simp only [hS]
  rw [hl] at h4
  clear h1 h3 h5 hone hsg hR hS hr hx ha hb hc hne q1 q2 q3 q4 c1 c2 hl
  go_enter Tryz.func67,Tryz.ntmps67
  go_wp2_with (first
   | (go_at_call 80;refine h4.mono ?_;rintro e w' ⟨rfl,rfl⟩)
   | (go_at_call 99;refine h2.mono ?_;rintro e w1 ⟨rfl,b1⟩))
  go_ret2
  exact ⟨rfl,b1⟩
 | false=>
  rw [if_neg (by decide)]
  rw [hl] at h4
  cases hd:dgt r with
  | true=>
   rw [if_pos rfl]
   simp only [hS]
   rw [hd] at h5
   clear h1 h3 hone hsg hR hS hr hx ha hb hc hne q1 q2 q3 q4 c1 c2 hl hd
   go_enter Tryz.func67,Tryz.ntmps67
   go_wp2_with (first
    | (go_at_call 80;refine h4.mono ?_;rintro e w' ⟨rfl,rfl⟩)
    | (go_at_call 100;refine h5.mono ?_;rintro e w' ⟨rfl,rfl⟩)
    | (go_at_call 99;refine h2.mono ?_;rintro e w1 ⟨rfl,b1⟩))
   go_ret2
   exact ⟨rfl,b1⟩
  | false=>
   rw [if_neg (by decide)]
   simp only [hsg]
   rw [hd] at h5
   clear h1 h2 hone hsg hR hS hr hx ha hb hc hne q1 q2 q3 q4 c1 c2 hl hd
   go_enter Tryz.func67,Tryz.ntmps67
   go_wp2_with (first
    | (go_at_call 80;refine h4.mono ?_;rintro e w' ⟨rfl,rfl⟩)
    | (go_at_call 100;refine h5.mono ?_;rintro e w' ⟨rfl,rfl⟩)
    | (go_at_call 101;refine h3.mono ?_;rintro e w' ⟨rfl,rfl⟩))
   go_ret2
   exact ⟨rfl,Below.refl _ _⟩
/-- May a piece of that kind stand in a text? -/
def rightS (K:Nat) (t:List UInt8):Bool:=if K=1 then nameS t else if K=2 then numB t else if K=3 then !(decide (t=[])) else true
set_option maxHeartbeats 1000000 in
theorem pRight_any (K:Nat) (t:ByteArray) (w:World) (hs:t.size≤140737488351232) :
  Calls Tryz.prog 68 #[.int .i64 (K:Int),.string t] w fun e w'=>e=.returned (.bool (rightS K (bl t)))∧Below w.heap.size w w':=by
 have h1:=pName_any t w hs
 have h2:=pNumber_any t w hs
 unfold rightS
 obtain ⟨a,ha⟩:∃ a,nameS (bl t)=a:=⟨_,rfl⟩
 obtain ⟨b,hb⟩:∃ b,numB (bl t)=b:=⟨_,rfl⟩
 rw [ha] at h1 ⊢
 rw [hb] at h2 ⊢
 clear ha hb
 by_cases k1:K=1
 ·subst k1
  rw [if_pos rfl]
  go_enter Tryz.func68,Tryz.ntmps68
  go_wp2_with (first
   | (go_at_call 40;refine h1.mono ?_;rintro e w1 ⟨rfl,b1⟩))
  go_ret
  exact ⟨rfl,b1⟩
 rw [if_neg k1]
 have e1:((K:Int) == 1)=false:=beq_eq_false_iff_ne.2 (by omega)
 by_cases k2:K=2
 ·subst k2
  rw [if_pos rfl]
  go_enter Tryz.func68,Tryz.ntmps68
  go_wp2_with (first
   | (go_at_call 102;refine h2.mono ?_;rintro e w1 ⟨rfl,b1⟩))
  go_ret
  exact ⟨rfl,b1⟩
 rw [if_neg k2]
 have e2:((K:Int) == 2)=false:=beq_eq_false_iff_ne.2 (by omega)
 by_cases k3:K=3
 ·subst k3
  rw [if_pos rfl]
  have e:(t.toList == [])=decide (bl t=[]):=by rw [ByteArray.toList_eq,Bool.eq_iff_iff];simp
  obtain ⟨z,hz⟩:∃ z,decide (bl t=[])=z:=⟨_,rfl⟩
  rw [hz] at e ⊢
  clear hz h1 h2 e1 e2
  go_enter Tryz.func68,Tryz.ntmps68
  go_wp2
  go_ret
  exact ⟨by simp [bne,e],Below.refl _ _⟩
 rw [if_neg k3]
 have e3:((K:Int) == 3)=false:=beq_eq_false_iff_ne.2 (by omega)
 clear h1 h2
 go_enter Tryz.func68,Tryz.ntmps68
 go_wp2
 go_ret
 exact ⟨rfl,Below.refl _ _⟩
abbrev ps (a b:Int):Value:=.agg #[.int .i64 a,.int .i64 b]
theorem pBehind_feed (ln co:Int) (w:World) (h1:0≤ln∧ln≤140737488351233) :
  Calls Tryz.prog 70 #[ps ln co,.int .i32 10] w fun e w'=>e=.returned (ps (ln+1) 1)∧Below w.heap.size w w':=by
 go_enter Tryz.func70,Tryz.ntmps70
 go_wp2
 exact bodyPost_ret (v:=ps (ln+1) 1) (by simp [results,Tryz.results70,go_sem]) rfl ⟨rfl,((Below.refl _ _).alloc (Nat.le_refl _) _).alloc (by simp) _⟩
theorem pBehind_on (ln co r:Int) (w:World) (h1:0≤co∧co≤140737488351233) (hr:r≠10) :
  Calls Tryz.prog 70 #[ps ln co,.int .i32 r] w fun e w'=>e=.returned (ps ln (co+1))∧Below w.heap.size w w':=by
 have e1:(r == 10)=false:=beq_eq_false_iff_ne.2 hr
 clear hr
 go_enter Tryz.func70,Tryz.ntmps70
 go_wp2
 exact bodyPost_ret (v:=ps ln (co+1)) (by simp [results,Tryz.results70,go_sem]) rfl ⟨rfl,((Below.refl _ _).alloc (Nat.le_refl _) _).alloc (by simp) _⟩
/-- A string's iterator. -/
def It0 (w:World) (k:Nat) (s:ByteArray) (p:Nat):Prop:=w.heap[k]?=some (.stringIter s p)
theorem It0.keepB {w w':World}{k B:Nat}{s:ByteArray}{p:Nat}(h:It0 w k s p) (hb:Below B w w') (hB:k < B):It0 w' k s p:=(hb.block k hB).trans h
theorem It0.lt {w:World}{k:Nat}{s:ByteArray}{p:Nat}(h:It0 w k s p):k < w.heap.size:=(Array.getElem?_eq_some_iff.1 h).1
theorem It0.keep {w w':World}{k:Nat}{s:ByteArray}{p:Nat}(h:It0 w k s p) (hb:Below w.heap.size w w'):It0 w' k s p:=h.keepB hb h.lt
theorem It0.set {w:World}{k X i:Nat}{s:ByteArray}{p:Nat}(h:It0 w k s p) (hne:X≠k) (v:Value):It0 (w.setCell ⟨X,i,none⟩ v) k s p:=by
 unfold It0
 rw [Below.heap_setCell _ _ _ _ (fun e=>hne e.symm)]
 exact h
set_option maxHeartbeats 1000000 in
theorem pEnd_any (s:ByteArray) (w:World) (hs:s.size≤140737488351232) :
  Calls Tryz.prog 37 #[.string s] w fun e w'=>e=.returned (.agg #[.int .i64 (endR (runes (bl s)) 1 1).1,.int .i64 (endR (runes (bl s)) 1 1).2])∧Below w.heap.size w w':=by
 obtain ⟨⟨eL,eC⟩,hE⟩:∃ x,endR (runes (bl s)) 1 1=x:=⟨_,rfl⟩
 rw [hE]
 have HE:Hid (endR (runes ((bl s).drop 0)) 1 1=(eL,eC)):=hE
 clear hE
 go_enter Tryz.func37,Tryz.ntmps37
 go_wp2
 go_loopw [] (fun wr=>∃ (k:Nat) (ln co:Int),It0 wr (w.heap.size+2) s k∧k≤s.size∧Hid (endR (runes ((bl s).drop k)) ln co=(eL,eC))∧1≤ln∧1≤co∧ln≤1+k∧co≤1+k∧
  At wr (w.heap.size+1) (.int .i64 ln) (.int .i64 co)∧(∃ a b,At wr w.heap.size a b)∧Below w.heap.size w wr) (fun wr=>s.size - wr.iterPos (w.heap.size+2))
 case atStart=>
  refine ⟨0,1,1,?_,by omega,HE,by omega,by omega,by omega,by omega,(At.new _ _ _ _ _ (by simp)).keep ((Below.refl _ _).alloc (Nat.le_refl _) _),⟨_,_,((At.new w (.int .i64 0) (.int .i64 0) 23 _ rfl).keep ((Below.refl _ _).alloc (Nat.le_refl _) _)).keep ((Below.refl _ _).alloc (Nat.le_refl _) _)⟩,(((Below.refl _ _).alloc (Nat.le_refl _) _).alloc (by simp) _).alloc (by simp;omega) _⟩
  have:=World.iter_heap ((w.alloc (.cells #[.int .i64 0,.int .i64 0] 23)).alloc (.cells #[.int .i64 1,.int .i64 1] 23)) s 0
  simpa [It0] using this
 case round=>
  obtain ⟨k,ln,co,hit,hk,hv,hl1,hc1,hl2,hc2,hA,⟨a,b,hR⟩,hb⟩:=hrel
  by_cases hlt:k < s.size
  ·have hnx:∀ ty,(Instr.next (.pointer (some ⟨w.heap.size+2,0,none⟩)) true ty).run Tryz.prog wr=_:=fun ty=>Lib.run_next_any_at wr (w.heap.size+2) s k ty hit hlt
   obtain ⟨d1,d2⟩:=dec_nx hlt
   have hne:=drop_ne (l:=bl s) (by rw [bl_length];exact hlt)
   have hc:=runes_cons hne
   have hps:=nx_pos hne
   have hnl:=nx_le hne
   rw [List.length_drop,bl_length] at hnl
   obtain ⟨r,hr⟩:∃ r,(nx ((bl s).drop k)).1=r:=⟨_,rfl⟩
   obtain ⟨q,hq⟩:∃ q,(nx ((bl s).drop k)).2=q:=⟨_,rfl⟩
   rw [hr] at d1
   rw [hr,hq] at hc
   rw [hq] at d2 hps hnl
   rw [d1,d2] at hnx
   have hvv:=hv.out
   rw [hc,List.drop_drop] at hvv
   have bi:=Lib.below_iterAt (Below.refl (w.heap.size+2) wr) (k:=w.heap.size+2) (Nat.le_refl _) s (k+q)
   have hit2:It0 (wr.iterAt (w.heap.size+2) s (k+q)) (w.heap.size+2) s (k+q):=Lib.iterAt_heap wr (w.heap.size+2) s k (k+q) hit
   have hA2:=hA.keepB bi (by omega)
   have hR2:=hR.keepB bi (by omega)
   have hb2:=hb.trans (bi.mono (by omega))
   obtain ⟨wq,hwq⟩:∃ wq,wr.iterAt (w.heap.size+2) s (k+q)=wq:=⟨_,rfl⟩
   rw [hwq] at hnx hit2 hA2 hR2 hb2
   obtain ⟨y0,y1,y2,y3⟩:=id hA2
   by_cases h10:r=10
   ·have hx:rn r=10:=(rn_small (by omega)).2 h10
    rw [hx] at hnx
    have hn:Hid (endR (runes ((bl s).drop (k+q))) (ln+1) 1=(eL,eC)):=by rw [endR,if_pos h10] at hvv;exact hvv
    have h26:=pBehind_feed ln co wq (by omega)
    clear hvv hc hr hq hne d1 d2 h10 hx hwq bi hA hR
    go_wp2_with (first
     | (go_at_call 70;refine h26.mono ?_;rintro e w1 ⟨rfl,b1⟩;have hA1:=hA2.keep b1;have hR1:=hR2.keep b1;have hI1:=hit2.keep b1;obtain ⟨z0,z1,z2,z3⟩:=id hA1;have b2:=hb2.trans (b1.mono hb2.size);clear h26 hA2 hR2 hb2 y0 y1 y2 y3))
    have hI2:=(hI1.set (X:=w.heap.size+1) (i:=0) (by omega) (.int .i64 (ln+1))).set (X:=w.heap.size+1) (i:=1) (by omega) (.int .i64 1)
    go_roundw
    case rel=>
     exact ⟨k+q,ln+1,1,hI2,by omega,hn,by omega,by omega,by omega,by omega,(hA1.set0 _).set1 _,⟨a,b,(hR1.far (by omega) _).far (by omega) _⟩,(b2.setCell (by simp) _).setCell (by simp) _⟩
    case measure=>rw [iterPos_of hI2,iterPos_of hit];omega
   ·have hx:rn r≠10:=fun e=>h10 ((rn_small (by omega)).1 e)
    have hn:Hid (endR (runes ((bl s).drop (k+q))) ln (co+1)=(eL,eC)):=by rw [endR,if_neg h10] at hvv;exact hvv
    have h26:=pBehind_on ln co (rn r) wq (by omega) hx
    clear hvv hc hr hq hne d1 d2 h10 hx hwq bi hA hR
    go_wp2_with (first
     | (go_at_call 70;refine h26.mono ?_;rintro e w1 ⟨rfl,b1⟩;have hA1:=hA2.keep b1;have hR1:=hR2.keep b1;have hI1:=hit2.keep b1;obtain ⟨z0,z1,z2,z3⟩:=id hA1;have b2:=hb2.trans (b1.mono hb2.size);clear h26 hA2 hR2 hb2 y0 y1 y2 y3))
    have hI2:=(hI1.set (X:=w.heap.size+1) (i:=0) (by omega) (.int .i64 ln)).set (X:=w.heap.size+1) (i:=1) (by omega) (.int .i64 (co+1))
    go_roundw
    case rel=>
     exact ⟨k+q,ln,co+1,hI2,by omega,hn,by omega,by omega,by omega,by omega,(hA1.set0 _).set1 _,⟨a,b,(hR1.far (by omega) _).far (by omega) _⟩,(b2.setCell (by simp) _).setCell (by simp) _⟩
    case measure=>rw [iterPos_of hI2,iterPos_of hit];omega
  ·have hnx:∀ ty,(Instr.next (.pointer (some ⟨w.heap.size+2,0,none⟩)) true ty).run Tryz.prog wr=_:=fun ty=>Lib.run_next_end_at wr (w.heap.size+2) s k ty hit hlt
   have hnil:(bl s).drop k=[]:=List.drop_eq_nil_of_le (by rw [bl_length];omega)
   have hvv:=hv.out
   rw [hnil] at hvv
   have h2:(ln,co)=(eL,eC):=hvv
   obtain ⟨rfl,rfl⟩:=Prod.mk.inj h2
   obtain ⟨y0,y1,y2,y3⟩:=id hA
   obtain ⟨z0,z1,z2,z3⟩:=id hR
   have r0:=(hR.set0 (.int .i64 ln)).set1 (.int .i64 co)
   obtain ⟨u0,u1,u2,u3⟩:=id r0
   have b2:Below w.heap.size w ((wr.setCell ⟨w.heap.size,0,none⟩ (.int .i64 ln)).setCell ⟨w.heap.size,1,none⟩ (.int .i64 co)):=(hb.setCell (by simp) _).setCell (by simp) _
   clear hvv hnil h2 hA hR
   go_wp2
   exact bodyPost_ret (v:=.agg #[.int .i64 ln,.int .i64 co]) (by simp [results,Tryz.results37,go_sem,u0,u1]) rfl ⟨rfl,b2⟩
end Go.Proofs.YtlgnahpfggagoaaGreatDoor
/- What strings.Clone does: the same bytes. -/
namespace Go.Proofs.YtlgnahpfggagoaaGreatDoor
open Go.Shelf Go.RowKit Go.Lib
set_option linter.unusedSimpArgs false
set_option linter.unusedVariables false
def renC:Ren:={ f:=fun x=>match x with | 316=>103 | n=>n,t:=fun x=>match x with | 9=>9 | 3=>3 | 4=>4 | 37=>162 | 0=>0 | 127=>163 | 5=>5 | n=>n,g:=fun x=>x }
theorem laysC:LaysM.n316 Tryz.prog renC:=
 {mixed:=by kernel_rfl,f316:=Tryz.func103.trans (congrArg some (by kernel_rfl)),
  t0:=Tryz.underlying0,a0:=Tryz.isAgg0,z0:=Tryz.sizeOf0,v0:=Tryz.zeroValue0,t3:=Tryz.underlying3,a3:=Tryz.isAgg3,z3:=Tryz.sizeOf3,v3:=Tryz.zeroValue3,t4:=Tryz.underlying4,a4:=Tryz.isAgg4,z4:=Tryz.sizeOf4,v4:=Tryz.zeroValue4,
  t9:=Tryz.underlying9,a9:=Tryz.isAgg9,z9:=Tryz.sizeOf9,v9:=Tryz.zeroValue9,t37:=Tryz.underlying162,a37:=Tryz.isAgg162,z37:=Tryz.sizeOf162,v37:=Tryz.zeroValue162,
  t127:=Tryz.underlying163,a127:=Tryz.isAgg163,z127:=Tryz.sizeOf163,v127:=Tryz.zeroValue163,t5:=Tryz.underlying5,a5:=Tryz.isAgg5,z5:=Tryz.sizeOf5,v5:=Tryz.zeroValue5,
  i0:=by kernel_rfl,i3:=by kernel_rfl,i4:=by kernel_rfl,i5:=by kernel_rfl,i9:=by kernel_rfl,i37:=by kernel_rfl,i127:=by kernel_rfl }
theorem pClone_any (s:ByteArray) (w:World) (hs:s.size≤140737488351232) :
  Calls Tryz.prog 69 #[.string s] w fun e w'=>e=.returned (.string s)∧Below w.heap.size w w':=by
 have h1:Calls Tryz.prog 103 #[.string s] w fun e w'=>e=.returned (.string s)∧Below w.heap.size w w':=Any.stringslite_Clone laysC s w (by omega)
 go_enter Tryz.func69,Tryz.ntmps69
 go_wp2_with (first
  | (go_at_call 103;refine h1.mono ?_;rintro e w1 ⟨rfl,b1⟩))
 go_ret
 exact ⟨rfl,b1⟩
/-- What is begun is a word just if it is right. -/
theorem right_word {l:List UInt8}(hl:l≠[]) (h10:(nx l).1≠10) (h32:¬ ((nx l).1=32∨(nx l).1=9)) (h35:(nx l).1≠35) :
  1≤(pc l).1∧(rightS (pc l).1 (l.take (pcB l))=true→fst1 (runes l)=pc l)∧(rightS (pc l).1 (l.take (pcB l))=false→(fst1 (runes l)).1=0):=by
 have hc:=runes_cons hl
 have hf:=fst1_cons ((nx l).1,l.take (nx l).2) (runes (l.drop (nx l).2))
 rw [← hc] at hf
 simp only at hf
 have htk:∀ m,m≤(runes l).length→l.take (byt ((runes l).take m)).length=byt ((runes l).take m):=fun m _=>by
  have e2:byt ((runes l).take m)++byt ((runes l).drop m)=l:=by rw [← byt_append,List.take_append_drop,byt_runes _ l (Nat.le_refl _)]
  have e3:∀ (a b l:List UInt8),a++b=l→l.take a.length=a:=fun a b l h=>by rw [← h];exact List.take_left
  exact e3 _ _ _ e2
 have hp:pc l=if letter (nx l).1=true then (1,spn (runes l)) else if dgt (nx l).1=true then (2,spn (runes l)) else (3,sgn (runes l)):=by
  unfold pc
  rw [if_neg (by omega),if_neg h35]
 unfold pcB
 rw [hp,hf]
 by_cases a:letter (nx l).1=true
 ·have hn:=name_spb hl a
  have hsp:l.take (byt ((runes l).take (spn (runes l)))).length=l.take (spb l):=rfl
  simp only [if_pos a]
  rw [hsp]
  unfold rightS
  rw [if_pos rfl,hn]
  refine ⟨Nat.le_refl _,fun h=>?_,fun h=>?_⟩
  ·rw [if_pos (of_decide_eq_true h)]
  ·rw [if_neg (of_decide_eq_false h)]
 ·simp only [if_neg a]
  by_cases d:dgt (nx l).1=true
  ·simp only [if_pos d]
   rw [htk _ (spn_le _)]
   unfold rightS
   rw [if_neg (by decide),if_pos rfl,numB_numb (l:=l) _ (fun v hv=>List.mem_of_mem_take hv)]
   refine ⟨by decide,fun h=>?_,fun h=>?_⟩
   ·rw [if_pos h]
   ·rw [if_neg (by rw [h];decide)]
  ·simp only [if_neg d]
   have hsb:=sgn_bytes l
   rw [htk _ (sgn_le _)]
   unfold rightS
   rw [if_neg (by decide),if_neg (by decide),if_pos rfl]
   refine ⟨by decide,fun h=>?_,fun h=>?_⟩
   ·rw [if_neg]
    intro e
    rw [e] at hsb
    have:byt ((runes l).take (sgn (runes l)))=[]:=List.eq_nil_of_length_eq_zero (by rw [e];exact hsb)
    rw [decide_eq_true this] at h
    cases h
   ·rw [if_pos]
    have:byt ((runes l).take (sgn (runes l)))=[]:=by simpa using h
    rw [this] at hsb
    exact hsb.symm
/-- None of a piece's runes but a line feed's own is one. -/
theorem spn_no10 {rs:List Ru}:∀ v∈rs.take (spn rs),v.1≠10:=fun v hv e=>by
 have:=spn_all rs v hv
 rw [e] at this
 revert this
 decide
theorem sgn_no10:∀ (rs:List Ru),∀ v∈rs.take (sgn rs),v.1≠10
 | [],v,h=>by simp [sgn] at h
 | [u],v,h=>by
  have hm:=List.mem_of_mem_take h
  rcases List.mem_cons.1 hm with rfl | hm
  ·intro e
   have:sgn [v]=0:=by show one v.1=0;rw [e];decide
   rw [this] at h
   simp at h
  ·simp at hm
 | u :: x :: t,v,h=>by
  have e:sgn (u :: x :: t)=if pair u.1 x.1=true then 2 else one u.1:=rfl
  by_cases hp:pair u.1 x.1=true
  ·rw [e,if_pos hp] at h
   have:=of_decide_eq_true hp
   simp only [List.take_succ_cons,List.take_zero,List.mem_cons,List.not_mem_nil,or_false] at h
   rcases h with rfl | rfl <;> omega
  ·rw [e,if_neg hp] at h
   intro h10
   unfold one at h
   split at h
   ·simp only [List.take_succ_cons,List.take_zero,List.mem_cons,List.not_mem_nil,or_false] at h
    subst h;omega
   ·simp at h
theorem rest_no10:∀ (rs:List Ru),∀ v∈rs.take (rest rs),v.1≠10
 | [],v,h=>by simp [rest] at h
 | u :: t,v,h=>by
  unfold rest at h
  by_cases hu:u.1=10
  ·rw [if_pos hu] at h;simp at h
  ·rw [if_neg hu,List.take_succ_cons] at h
   rcases List.mem_cons.1 h with rfl | h
   ·exact hu
   ·exact rest_no10 t v h
end Go.Proofs.YtlgnahpfggagoaaGreatDoor
/- What the program's Nodes does. -/
namespace Go.Proofs.YtlgnahpfggagoaaGreatDoor
open Go.RowKit Go.Lib
set_option linter.unusedSimpArgs false
set_option linter.unusedVariables false
attribute [local go_sem ↓] Go.wp_at_zero Go.wp_at_succ
attribute [local go_sem] fld_i
theorem stk_len:∀ (st:List Sg),st.length≤(st.map cntS).sum
 | []=>by simp
 | x :: r=>by
  have:=stk_len r
  have h1:1≤cntS x:=cnt_pos x.1 x.2
  simp only [List.map_cons,List.sum_cons,List.length_cons]
  omega
set_option maxRecDepth 100000 in
set_option maxHeartbeats 4000000 in
theorem pNodes_cnt (d:Nat) (t:T d) (w:World) (hc:Cl d t) (hn:cnt d t≤100000):Calls Tryz.prog 121 #[exV d t] w fun r w'=>r=.returned (.int .i64 ((min (cnt d t) 41:Nat):Int))∧Below w.heap.size w w':=by
 obtain ⟨i0,hi,hz0,hz1,hz2⟩:=info_parts Tryz.infoE
 obtain ⟨x,hx⟩:∃ x,exV d t=x:=⟨_,rfl⟩
 have hf:=exV_form d t
 obtain ⟨N,hN⟩:∃ N,cnt d t=N:=⟨_,rfl⟩
 have hst:Hid (Stk (w.alloc (.cells #[x] 76)) w.heap.size (.slice (some ⟨w.heap.size,0,none⟩) 1 1) [(⟨d,t⟩:Sg)]):=by
  have:=World.ownsRow_lit (e:=76) (base:=w.heap.size) (size:=1) w #[x] 1 (Nat.le_refl _) (by simp [maxLen]) (by simp)
  show Stk _ _ _ _
  unfold Stk
  simpa [exS,hx] using this
 have hcl:Hid (∀ y∈[(⟨d,t⟩:Sg)],ClS y):=fun y hy=>by simp at hy;subst hy;exact hc
 have hsum:Hid (0+(([(⟨d,t⟩:Sg)]).map cntS).sum=N):=by show 0+(cnt d t+0)=N;omega
 obtain ⟨V,hV⟩:∃ V,min (cnt d t) 41=V:=⟨_,rfl⟩
 rw [hV]
 have HV:Hid (min N 41=V):=by rw [← hN];exact hV
 rw [hN] at hn
 rw [hx] at hf ⊢
 clear hx hN hc hV
 obtain ⟨S,hS⟩:∃ S,[(⟨d,t⟩:Sg)]=S:=⟨_,rfl⟩
 rw [hS] at hst hcl hsum
 clear hS t d
 rcases hf with rfl | ⟨u,y,rfl⟩
 ·go_enter Tryz.func121,Tryz.ntmps121
  go_wp2
  go_loopw [3,4] (fun a v wr=>∃ (c:Nat) (st:List Sg),a=.int .i64 (c:Int)∧c≤41∧Stk wr w.heap.size v st∧Hid (∀ y∈st,ClS y)∧Hid (c+(st.map cntS).sum=N)∧Below w.heap.size w wr) (fun a _ _=>41 - (RowKit.intOf a).toNat)
  case atStart=>exact ⟨0,S,rfl,by omega,hst.out,hcl,hsum,(Below.refl _ _).alloc (Nat.le_refl _) _⟩
  case round=>
   obtain ⟨c,st,rfl,hc41,hS,hC,hM,hb⟩:=hrel
   by_cases he:st=[]
   ·subst he
    obtain ⟨a,cap,rfl⟩:=hS.nil
    have hm:=hM.out
    simp only [List.map_nil,List.sum_nil,Nat.add_zero] at hm
    subst hm
    have hmin:V=c:=by rw [← HV.out];omega
    subst hmin
    clear hsum
    go_wp2
    go_ret
    exact ⟨rfl,hb⟩
   obtain ⟨st',y,rfl⟩:=last_of he
   obtain ⟨g,cap,rfl,hcap,hcm,hgb,hgl,hcell,hS'⟩:=hS.pop
   have hm:=hM.out
   rw [List.map_append,List.sum_append,List.map_singleton,List.sum_singleton] at hm
   have hcl1:=hC.out y (by simp)
   obtain ⟨e,t⟩:=y
   cases e with
   | zero=>exact Empty.elim t
   | succ e=>
   obtain ⟨k,n,s,ps,rfl,htop⟩:=top_any (d:=e) (t:=t) hcl1
   have hcs:cntS ⟨e+1,mkT k n s ps⟩=(ps.map (cnt e)).sum+1:=cnt_mk k n s ps
   rw [hcs] at hm
   have i1:((st'.length:Int)+1 > 0):=by omega
   by_cases hc40:c=41
   ·have i2:¬ (c:Int)≤40:=by omega
    have hmin:V=c:=by rw [← HV.out];omega
    subst hmin
    clear hsum htop hcell hm hcs hC hM hS hS' hcl1 hst HV
    go_wp2
    go_ret
    exact ⟨rfl,hb⟩
   have i2:(c:Int)≤40:=by omega
   have hS2:=fun w1 (b:Below wr.heap.size wr w1)=>hS'.on b (Nat.le_refl _)
   have hq:=hb.size
   have i3:(0:Int)≤(st'.length:Int):=by omega
   have i4:(st'.length:Int)≤(cap:Int):=by omega
   have i5:(st'.length:Int) < (st'.length:Int)+1:=by omega
   have hpl:ps.length≤2:=(Cl.parts hcl1).1
   have hsl:st'.length≤100000:=by
    have:st'.length≤(st'.map cntS).sum:=stk_len st'
    omega
   have hNM:Hid (c+1+((st'++kidS ps).map cntS).sum=N):=by
    show _=_
    rw [List.map_append,List.sum_append,kidS_cnt];omega
   have hNC:Hid (∀ y∈st'++kidS ps,ClS y):=fun y hy=>by
    rcases List.mem_append.1 hy with h | h
    ·exact hC.out y (by simp [h])
    ·obtain ⟨p,hp,rfl⟩:=List.mem_map.1 h
     exact (Cl.parts hcl1).2 p hp
   obtain ⟨L,hL⟩:∃ L,ps.map (exV e)=L:=⟨_,rfl⟩
   obtain ⟨z,hz⟩:∃ z,exS ⟨e+1,mkT k n s ps⟩=z:=⟨_,rfl⟩
   have hzf:=exS_form ⟨e+1,mkT k n s ps⟩
   have hti:Hid (∀ v∈L,Ifc v):=by rw [← hL];exact ifc_map ps
   have hLl:Hid (L.length=ps.length):=by rw [← hL];show _=_;simp
   have hL2:L.length≤2:=by rw [hLl.out];exact hpl
   have htop':∀ w1,Calls Tryz.prog 123 #[z] w1 fun e w'=>∃ sl,e=.returned (.agg #[.int .i64 k,.int .i64 n,.string s,sl])∧Kids w' sl L∧Below w1.heap.size w1 w':=by rw [← hz,← hL];exact htop
   rw [hz] at hcell hzf
   have hLH:Hid (ps.map (exV e)=L):=hL
   clear hL hz htop hm hcs hC hM hS hcl1 hst hsum hS'
   go_wp2
   go_region_law (first
     | (refine step_append_both _ (by rfl) (.tmp 20) (.tmp 26) 170 170 (by rfl) w.heap.size 76 i0 .nilIface 1 16 Tryz.underlying170 hi hz0 hz1 hz2 rfl _ st'.length _ (by rfl) ho1 _ L.length L (by rfl) (hk1.src hti.out) L.length (.inr (by omega)) (Nat.le_refl _) (by unfold maxLen;omega) (Nat.le_trans hq b1'.size) ?_;intro v4 w4 ho4 hg4 _)
     | (go_simp;refine (htop' _).mono ?_;rintro e w1 ⟨sl,rfl,hk1,b1⟩;obtain ⟨a1,rfl⟩:=hk1.form;have b1':Below wr.heap.size wr w1:=((Below.refl _ wr).drew).trans b1;have ho1:=hS2 w1 b1'))
   have bel4:Below w.heap.size w w4:=(hb.trans (b1'.mono hq)).grown hg4 (Nat.le_trans hq b1'.size) (fun k hk=>(World.ownsRow.lt ho1 k hk).1)
   have hS4:Stk w4 w.heap.size v4 (st'++kidS ps):=Stk.push (n:=st'.length+L.length) (by rw [hLl.out]) (by rw [hLH.out];exact ho4)
   clear ho4 hg4 ho1 hk1 b1 b1' hS2 hcell htop' hb
   go_wp2
   go_roundw
   case rel=>exact ⟨c+1,st'++kidS ps,by go_num,by omega,hS4,hNC,hNM,bel4⟩
   case measure=>simp [RowKit.intOf];omega
 ·go_enter Tryz.func121,Tryz.ntmps121
  go_wp2
  go_loopw [3,4] (fun a v wr=>∃ (c:Nat) (st:List Sg),a=.int .i64 (c:Int)∧c≤41∧Stk wr w.heap.size v st∧Hid (∀ y∈st,ClS y)∧Hid (c+(st.map cntS).sum=N)∧Below w.heap.size w wr) (fun a _ _=>41 - (RowKit.intOf a).toNat)
  case atStart=>exact ⟨0,S,rfl,by omega,hst.out,hcl,hsum,(Below.refl _ _).alloc (Nat.le_refl _) _⟩
  case round=>
   obtain ⟨c,st,rfl,hc41,hS,hC,hM,hb⟩:=hrel
   by_cases he:st=[]
   ·subst he
    obtain ⟨a,cap,rfl⟩:=hS.nil
    have hm:=hM.out
    simp only [List.map_nil,List.sum_nil,Nat.add_zero] at hm
    subst hm
    have hmin:V=c:=by rw [← HV.out];omega
    subst hmin
    clear hsum
    go_wp2
    go_ret
    exact ⟨rfl,hb⟩
   obtain ⟨st',y,rfl⟩:=last_of he
   obtain ⟨g,cap,rfl,hcap,hcm,hgb,hgl,hcell,hS'⟩:=hS.pop
   have hm:=hM.out
   rw [List.map_append,List.sum_append,List.map_singleton,List.sum_singleton] at hm
   have hcl1:=hC.out y (by simp)
   obtain ⟨e,t⟩:=y
   cases e with
   | zero=>exact Empty.elim t
   | succ e=>
   obtain ⟨k,n,s,ps,rfl,htop⟩:=top_any (d:=e) (t:=t) hcl1
   have hcs:cntS ⟨e+1,mkT k n s ps⟩=(ps.map (cnt e)).sum+1:=cnt_mk k n s ps
   rw [hcs] at hm
   have i1:((st'.length:Int)+1 > 0):=by omega
   by_cases hc40:c=41
   ·have i2:¬ (c:Int)≤40:=by omega
    have hmin:V=c:=by rw [← HV.out];omega
    subst hmin
    clear hsum htop hcell hm hcs hC hM hS hS' hcl1 hst HV
    go_wp2
    go_ret
    exact ⟨rfl,hb⟩
   have i2:(c:Int)≤40:=by omega
   have hS2:=fun w1 (b:Below wr.heap.size wr w1)=>hS'.on b (Nat.le_refl _)
   have hq:=hb.size
   have i3:(0:Int)≤(st'.length:Int):=by omega
   have i4:(st'.length:Int)≤(cap:Int):=by omega
   have i5:(st'.length:Int) < (st'.length:Int)+1:=by omega
   have hpl:ps.length≤2:=(Cl.parts hcl1).1
   have hsl:st'.length≤100000:=by
    have:st'.length≤(st'.map cntS).sum:=stk_len st'
    omega
   have hNM:Hid (c+1+((st'++kidS ps).map cntS).sum=N):=by
    show _=_
    rw [List.map_append,List.sum_append,kidS_cnt];omega
   have hNC:Hid (∀ y∈st'++kidS ps,ClS y):=fun y hy=>by
    rcases List.mem_append.1 hy with h | h
    ·exact hC.out y (by simp [h])
    ·obtain ⟨p,hp,rfl⟩:=List.mem_map.1 h
     exact (Cl.parts hcl1).2 p hp
   obtain ⟨L,hL⟩:∃ L,ps.map (exV e)=L:=⟨_,rfl⟩
   obtain ⟨z,hz⟩:∃ z,exS ⟨e+1,mkT k n s ps⟩=z:=⟨_,rfl⟩
   have hzf:=exS_form ⟨e+1,mkT k n s ps⟩
   have hti:Hid (∀ v∈L,Ifc v):=by rw [← hL];exact ifc_map ps
   have hLl:Hid (L.length=ps.length):=by rw [← hL];show _=_;simp
   have hL2:L.length≤2:=by rw [hLl.out];exact hpl
   have htop':∀ w1,Calls Tryz.prog 123 #[z] w1 fun e w'=>∃ sl,e=.returned (.agg #[.int .i64 k,.int .i64 n,.string s,sl])∧Kids w' sl L∧Below w1.heap.size w1 w':=by rw [← hz,← hL];exact htop
   rw [hz] at hcell hzf
   have hLH:Hid (ps.map (exV e)=L):=hL
   clear hL hz htop hm hcs hC hM hS hcl1 hst hsum hS'
   go_wp2
   go_region_law (first
     | (refine step_append_both _ (by rfl) (.tmp 20) (.tmp 26) 170 170 (by rfl) w.heap.size 76 i0 .nilIface 1 16 Tryz.underlying170 hi hz0 hz1 hz2 rfl _ st'.length _ (by rfl) ho1 _ L.length L (by rfl) (hk1.src hti.out) L.length (.inr (by omega)) (Nat.le_refl _) (by unfold maxLen;omega) (Nat.le_trans hq b1'.size) ?_;intro v4 w4 ho4 hg4 _)
     | (go_simp;refine (htop' _).mono ?_;rintro e w1 ⟨sl,rfl,hk1,b1⟩;obtain ⟨a1,rfl⟩:=hk1.form;have b1':Below wr.heap.size wr w1:=((Below.refl _ wr).drew).trans b1;have ho1:=hS2 w1 b1'))
   have bel4:Below w.heap.size w w4:=(hb.trans (b1'.mono hq)).grown hg4 (Nat.le_trans hq b1'.size) (fun k hk=>(World.ownsRow.lt ho1 k hk).1)
   have hS4:Stk w4 w.heap.size v4 (st'++kidS ps):=Stk.push (n:=st'.length+L.length) (by rw [hLl.out]) (by rw [hLH.out];exact ho4)
   clear ho4 hg4 ho1 hk1 b1 b1' hS2 hcell htop' hb
   go_wp2
   go_roundw
   case rel=>exact ⟨c+1,st'++kidS ps,by go_num,by omega,hS4,hNC,hNM,bel4⟩
   case measure=>simp [RowKit.intOf];omega
end Go.Proofs.YtlgnahpfggagoaaGreatDoor
/- What an expression is by itself, its parts in new memory. -/
namespace Go.Proofs.YtlgnahpfggagoaaGreatDoor
open Go.RowKit Go.Lib
set_option linter.unusedSimpArgs false
set_option linter.unusedVariables false
attribute [local go_sem ↓] Go.wp_at_zero Go.wp_at_succ
attribute [local go_sem] as_lit_lit as_ref_lit as_ref_ref as_not_lit as_not_ref as_not_not as_neg_lit as_neg_ref as_neg_not as_neg_neg as_bin_lit as_bin_ref as_bin_not as_bin_neg as_bin_bin
/-- The slice v holds the values l, in a block from lo on. -/
def KidsN (lo:Nat) (w:World) (v:Value) (l:List Value):Prop:=Kids w v l∧∀ g,v.ownBlock=some g→lo≤g
theorem kidsN0 (lo:Nat) (w:World):KidsN lo w (.slice none 0 0) []:=⟨kids0 w,fun g hg=>by cases hg⟩
theorem kidsN1 {lo:Nat}{w:World}{g:Nat}{x:Value}(hl:lo≤g) (h:w.cell? ⟨g,0,none⟩=some x):KidsN lo w (.slice (some ⟨g,0,none⟩) 1 1) [x]:=⟨kids1 h,fun g' hg=>by simp [Value.ownBlock] at hg;omega⟩
theorem kidsN2 {lo:Nat}{w:World}{g:Nat}{x y:Value}(hl:lo≤g) (h:w.cell? ⟨g,0,none⟩=some x) (h':w.cell? ⟨g,1,none⟩=some y):KidsN lo w (.slice (some ⟨g,0,none⟩) 2 2) [x,y]:=⟨kids2 h h',fun g' hg=>by simp [Value.ownBlock] at hg;omega⟩
theorem topN_nil (w:World):Calls Tryz.prog 123 #[.nilIface] w fun e w'=>∃ sl,e=.returned (topV 0 0 ⟨#[]⟩ sl)∧KidsN w.heap.size w' sl []∧Below w.heap.size w w':=by
 go_enter Tryz.func123,Tryz.ntmps123
 go_wp2
 refine bodyPost_ret (v:=topV 0 0 ⟨#[]⟩ (.slice none 0 0)) (by simp [results,Tryz.results123,go_sem]) rfl ⟨_,rfl,kidsN0 _ _,?_⟩
 ·(repeat (refine Below.alloc ?_ (by simp <;> omega) _));exact Below.refl _ _
theorem topN_lit (n:Int) (w:World):Calls Tryz.prog 123 #[.iface 104 (.agg #[.int .i64 n])] w fun e w'=>∃ sl,e=.returned (topV 1 n ⟨#[]⟩ sl)∧KidsN w.heap.size w' sl []∧Below w.heap.size w w':=by
 go_enter Tryz.func123,Tryz.ntmps123
 go_wp2
 refine bodyPost_ret (v:=topV 1 n ⟨#[]⟩ (.slice none 0 0)) (by simp [results,Tryz.results123,go_sem]) rfl ⟨_,rfl,kidsN0 _ _,?_⟩
 ·(repeat (refine Below.alloc ?_ (by simp <;> omega) _));exact Below.refl _ _
theorem topN_ref (s:ByteArray) (w:World):Calls Tryz.prog 123 #[.iface 106 (.agg #[.string s])] w fun e w'=>∃ sl,e=.returned (topV 2 0 s sl)∧KidsN w.heap.size w' sl []∧Below w.heap.size w w':=by
 go_enter Tryz.func123,Tryz.ntmps123
 go_wp2
 refine bodyPost_ret (v:=topV 2 0 s (.slice none 0 0)) (by simp [results,Tryz.results123,go_sem]) rfl ⟨_,rfl,kidsN0 _ _,?_⟩
 ·(repeat (refine Below.alloc ?_ (by simp <;> omega) _));exact Below.refl _ _
theorem topN_not (x:Value) (hx:Ifc x) (w:World):Calls Tryz.prog 123 #[.iface 108 (.agg #[x])] w fun e w'=>∃ sl,e=.returned (topV 3 0 ⟨#[]⟩ sl)∧KidsN w.heap.size w' sl [x]∧Below w.heap.size w w':=by
 rcases hx with rfl | ⟨u,y,rfl⟩
 ·go_enter Tryz.func123,Tryz.ntmps123
  go_wp2
  refine bodyPost_ret (v:=topV 3 0 ⟨#[]⟩ (.slice (some ⟨w.heap.size+4,0,none⟩) 1 1)) (by simp [results,Tryz.results123,go_sem]) rfl ⟨_,rfl,kidsN1 ?_ ?_,?_⟩
  ·simp
  ·exact cell1_new _ _ _ _ (by simp)
  ·(repeat (refine Below.alloc ?_ (by simp <;> omega) _));exact Below.refl _ _
 ·go_enter Tryz.func123,Tryz.ntmps123
  go_wp2
  refine bodyPost_ret (v:=topV 3 0 ⟨#[]⟩ (.slice (some ⟨w.heap.size+4,0,none⟩) 1 1)) (by simp [results,Tryz.results123,go_sem]) rfl ⟨_,rfl,kidsN1 ?_ ?_,?_⟩
  ·simp
  ·exact cell1_new _ _ _ _ (by simp)
  ·(repeat (refine Below.alloc ?_ (by simp <;> omega) _));exact Below.refl _ _
theorem topN_neg (x:Value) (hx:Ifc x) (w:World):Calls Tryz.prog 123 #[.iface 109 (.agg #[x])] w fun e w'=>∃ sl,e=.returned (topV 4 0 ⟨#[]⟩ sl)∧KidsN w.heap.size w' sl [x]∧Below w.heap.size w w':=by
 rcases hx with rfl | ⟨u,y,rfl⟩
 ·go_enter Tryz.func123,Tryz.ntmps123
  go_wp2
  refine bodyPost_ret (v:=topV 4 0 ⟨#[]⟩ (.slice (some ⟨w.heap.size+5,0,none⟩) 1 1)) (by simp [results,Tryz.results123,go_sem]) rfl ⟨_,rfl,kidsN1 ?_ ?_,?_⟩
  ·simp
  ·exact cell1_new _ _ _ _ (by simp)
  ·(repeat (refine Below.alloc ?_ (by simp <;> omega) _));exact Below.refl _ _
 ·go_enter Tryz.func123,Tryz.ntmps123
  go_wp2
  refine bodyPost_ret (v:=topV 4 0 ⟨#[]⟩ (.slice (some ⟨w.heap.size+5,0,none⟩) 1 1)) (by simp [results,Tryz.results123,go_sem]) rfl ⟨_,rfl,kidsN1 ?_ ?_,?_⟩
  ·simp
  ·exact cell1_new _ _ _ _ (by simp)
  ·(repeat (refine Below.alloc ?_ (by simp <;> omega) _));exact Below.refl _ _
theorem topN_bin (s:ByteArray) (x x':Value) (hx:Ifc x) (hx':Ifc x') (w:World):Calls Tryz.prog 123 #[.iface 111 (.agg #[.string s,x,x'])] w fun e w'=>∃ sl,e=.returned (topV 5 0 s sl)∧KidsN w.heap.size w' sl [x,x']∧Below w.heap.size w w':=by
 rcases hx with rfl | ⟨u,y,rfl⟩ <;> rcases hx' with rfl | ⟨u',y',rfl⟩
 ·go_enter Tryz.func123,Tryz.ntmps123
  go_wp2
  refine bodyPost_ret (v:=topV 5 0 s (.slice (some ⟨w.heap.size+6,0,none⟩) 2 2)) (by simp [results,Tryz.results123,go_sem]) rfl ⟨_,rfl,kidsN2 ?_ ?_ ?_,?_⟩
  ·simp
  ·exact (cell2_new _ _ _ _ _ (by simp)).1
  ·exact (cell2_new _ _ _ _ _ (by simp)).2
  ·(repeat (refine Below.alloc ?_ (by simp <;> omega) _));exact Below.refl _ _
 ·go_enter Tryz.func123,Tryz.ntmps123
  go_wp2
  refine bodyPost_ret (v:=topV 5 0 s (.slice (some ⟨w.heap.size+6,0,none⟩) 2 2)) (by simp [results,Tryz.results123,go_sem]) rfl ⟨_,rfl,kidsN2 ?_ ?_ ?_,?_⟩
  ·simp
  ·exact (cell2_new _ _ _ _ _ (by simp)).1
  ·exact (cell2_new _ _ _ _ _ (by simp)).2
  ·(repeat (refine Below.alloc ?_ (by simp <;> omega) _));exact Below.refl _ _
 ·go_enter Tryz.func123,Tryz.ntmps123
  go_wp2
  refine bodyPost_ret (v:=topV 5 0 s (.slice (some ⟨w.heap.size+6,0,none⟩) 2 2)) (by simp [results,Tryz.results123,go_sem]) rfl ⟨_,rfl,kidsN2 ?_ ?_ ?_,?_⟩
  ·simp
  ·exact (cell2_new _ _ _ _ _ (by simp)).1
  ·exact (cell2_new _ _ _ _ _ (by simp)).2
  ·(repeat (refine Below.alloc ?_ (by simp <;> omega) _));exact Below.refl _ _
 ·go_enter Tryz.func123,Tryz.ntmps123
  go_wp2
  refine bodyPost_ret (v:=topV 5 0 s (.slice (some ⟨w.heap.size+6,0,none⟩) 2 2)) (by simp [results,Tryz.results123,go_sem]) rfl ⟨_,rfl,kidsN2 ?_ ?_ ?_,?_⟩
  ·simp
  ·exact (cell2_new _ _ _ _ _ (by simp)).1
  ·exact (cell2_new _ _ _ _ _ (by simp)).2
  ·(repeat (refine Below.alloc ?_ (by simp <;> omega) _));exact Below.refl _ _
theorem topN_any {d:Nat}{t:T (d+1)}(hc:Cl (d+1) t):∃ k n s ps,t=mkT k n s ps∧∀ w,Calls Tryz.prog 123 #[exV (d+1) t] w fun e w'=>∃ sl,e=.returned (.agg #[.int .i64 k,.int .i64 n,.string s,sl])∧KidsN w.heap.size w' sl (ps.map (exV d))∧Below w.heap.size w w':=by
 rcases hc.cases with ⟨n,rfl⟩ | ⟨s,rfl⟩ | ⟨k,p,hk,rfl,hp⟩ | ⟨s,p,q,rfl,hp,hq⟩ | rfl
 ·exact ⟨1,n,_,[],rfl,fun w=>topN_lit n w⟩
 ·exact ⟨2,0,s,[],rfl,fun w=>topN_ref s w⟩
 ·rcases hk with rfl | rfl
  ·exact ⟨3,0,_,[p],rfl,fun w=>topN_not (exV d p) (ifc_ex p) w⟩
  ·exact ⟨4,0,_,[p],rfl,fun w=>topN_neg (exV d p) (ifc_ex p) w⟩
 ·exact ⟨5,0,s,[p,q],rfl,fun w=>topN_bin s (exV d p) (exV d q) (ifc_ex p) (ifc_ex q) w⟩
 ·exact ⟨0,0,_,[],rfl,fun w=>topN_nil w⟩
end Go.Proofs.YtlgnahpfggagoaaGreatDoor
/- What the program's Same does: what its rounds lean on. -/
namespace Go.Proofs.YtlgnahpfggagoaaGreatDoor
open Go.RowKit Go.Lib
set_option linter.unusedSimpArgs false
set_option linter.unusedVariables false
attribute [local go_sem ↓] Go.wp_at_zero Go.wp_at_succ
theorem cell_al {w:World}{p:Addr}{v:Value}{O:Obj}(h:w.cell? p=some v):(w.alloc O).cell? p=some v:=(((Below.refl w.heap.size w).alloc (Nat.le_refl _) O).cell (World.block_lt_of_cell? w _ h)).trans h
abbrev z4 (w:World) (X:Nat):Prop:=B4 w X (.int .i64 0) (.int .i64 0) (.string ⟨#[]⟩) (.slice none 0 0)
theorem cell_dr {w:World}{p:Addr}{v:Value}(h:w.cell? p=some v):w.drew.cell? p=some v:=h
theorem ne_pt {X Y i j:Nat}(h:Y≠X):¬ (X=Y∧i=j):=fun e=>h e.1.symm
abbrev O0:Obj:=.cells #[.int .i64 0,.int .i64 0,.string ⟨#[]⟩,.slice none 0 0] 172
section
variable {wr w2:World}{X Y:Nat}{a b c sl a' b' c' sl':Value}{L M:List Value}
end
end Go.Proofs.YtlgnahpfggagoaaGreatDoor
