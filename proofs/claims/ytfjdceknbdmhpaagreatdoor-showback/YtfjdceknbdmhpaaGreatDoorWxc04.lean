import Derived.Shelf.LaysM
import Derived.Shelf.Strconv.Itoa4
import Derived.Test.YtfjdceknbdmhpaaGreatDoorRows
import Derived.Test.YtfjdceknbdmhpaaGreatDoorWxc01
import Derived.WalkSmall
import Derived.Shelf.Strconv.Clone
import Derived.Test.YtfjdceknbdmhpaaGreatDoorWxc03
set_option maxRecDepth 100000
set_option maxHeartbeats 32000000
namespace Go.Proofs.YtfjdceknbdmhpaaGreatDoor
open Go.Shelf
set_option linter.unusedVariables false
def renF:Ren:={ f:=fun x=>match x with|173=>48|246=>85|283=>147|284=>148|285=>149|286=>150|129=>201|317=>200|318=>202|319=>203|320=>204|337=>236|338=>237|n=>n,t:=fun x=>match x with|2=>2|3=>3|9=>9|4=>4|171=>211|0=>0|53=>212|37=>76|5=>5|173=>215|212=>252|51=>253|20=>20|213=>254|46=>255|232=>307|233=>308|n=>n,g:=fun x=>match x with|17=>0|18=>3|19=>4|n=>n }
theorem laysF:LaysM.n173 Tryz.prog renF:=
 {mixed:=by kernel_rfl,f129:=Tryz.func201.trans (congrArg some (by kernel_rfl)),f173:=Tryz.func48.trans (congrArg some (by kernel_rfl)),f246:=Tryz.func85.trans (congrArg some (by kernel_rfl)),f283:=Tryz.func147.trans (congrArg some (by kernel_rfl)),f284:=Tryz.func148.trans (congrArg some (by kernel_rfl)),f285:=Tryz.func149.trans (congrArg some (by kernel_rfl)),f286:=Tryz.func150.trans (congrArg some (by kernel_rfl)),f317:=Tryz.func200.trans (congrArg some (by kernel_rfl)),f318:=Tryz.func202.trans (congrArg some (by kernel_rfl)),f319:=Tryz.func203.trans (congrArg some (by kernel_rfl)),f320:=Tryz.func204.trans (congrArg some (by kernel_rfl)),f337:=Tryz.func236.trans (congrArg some (by kernel_rfl)),f338:=Tryz.func237.trans (congrArg some (by kernel_rfl)),t0:=Tryz.underlying0,a0:=Tryz.isAgg0,z0:=Tryz.sizeOf0,v0:=Tryz.zeroValue0,t2:=Tryz.underlying2,a2:=Tryz.isAgg2,z2:=Tryz.sizeOf2,v2:=Tryz.zeroValue2,t3:=Tryz.underlying3,a3:=Tryz.isAgg3,z3:=Tryz.sizeOf3,v3:=Tryz.zeroValue3,t4:=Tryz.underlying4,a4:=Tryz.isAgg4,z4:=Tryz.sizeOf4,v4:=Tryz.zeroValue4,t5:=Tryz.underlying5,a5:=Tryz.isAgg5,z5:=Tryz.sizeOf5,v5:=Tryz.zeroValue5,t9:=Tryz.underlying9,a9:=Tryz.isAgg9,z9:=Tryz.sizeOf9,v9:=Tryz.zeroValue9,t20:=Tryz.underlying20,a20:=Tryz.isAgg20,z20:=Tryz.sizeOf20,v20:=Tryz.zeroValue20,t37:=Tryz.underlying76,a37:=Tryz.isAgg76,z37:=Tryz.sizeOf76,v37:=Tryz.zeroValue76,t46:=Tryz.underlying255,a46:=Tryz.isAgg255,z46:=Tryz.sizeOf255,v46:=Tryz.zeroValue255,t51:=Tryz.underlying253,a51:=Tryz.isAgg253,z51:=Tryz.sizeOf253,v51:=Tryz.zeroValue253,t53:=Tryz.underlying212,a53:=Tryz.isAgg212,z53:=Tryz.sizeOf212,v53:=Tryz.zeroValue212,t171:=Tryz.underlying211,a171:=Tryz.isAgg211,z171:=Tryz.sizeOf211,v171:=Tryz.zeroValue211,t173:=Tryz.underlying215,a173:=Tryz.isAgg215,z173:=Tryz.sizeOf215,v173:=Tryz.zeroValue215,t212:=Tryz.underlying252,a212:=Tryz.isAgg252,z212:=Tryz.sizeOf252,v212:=Tryz.zeroValue252,t213:=Tryz.underlying254,a213:=Tryz.isAgg254,z213:=Tryz.sizeOf254,t232:=Tryz.underlying307,a232:=Tryz.isAgg307,z232:=Tryz.sizeOf307,v232:=Tryz.zeroValue307,t233:=Tryz.underlying308,a233:=Tryz.isAgg308,z233:=Tryz.sizeOf308,v233:=Tryz.zeroValue308,g17:=by kernel_rfl,g18:=by kernel_rfl,g19:=by kernel_rfl,i0:=by kernel_rfl,i2:=by kernel_rfl,i3:=by kernel_rfl,i4:=by kernel_rfl,i5:=by kernel_rfl,i9:=by kernel_rfl,i20:=by kernel_rfl,i37:=by kernel_rfl,i46:=by kernel_rfl,i51:=by kernel_rfl,i53:=by kernel_rfl,i171:=by kernel_rfl,i173:=by kernel_rfl,i212:=by kernel_rfl,i232:=by kernel_rfl,i233:=by kernel_rfl,m17:=by kernel_rfl,m18:=by kernel_rfl,m19:=by kernel_rfl }
end Go.Proofs.YtfjdceknbdmhpaaGreatDoor
namespace Go.Proofs.YtfjdceknbdmhpaaGreatDoor
open Go.RowKit Go.Lib
set_option linter.unusedSimpArgs false
set_option linter.unusedVariables false
attribute [local go_sem ↓] Go.wp_at_zero Go.wp_at_succ
def rn (r:Int):Int:=if r = -1 then 65533 else r
theorem rn_small {r k:Int}(hk:0<=k/\k < 128):rn r=k↔r=k:=by unfold rn;split<;>omega
theorem letter_rn (r:Int):letter (rn r)=letter r:=by
 unfold rn
 split
 ·rename_i h;subst h;decide
 ·rfl
theorem dgt_rn (r:Int):dgt (rn r)=dgt r:=by
 unfold rn
 split
 ·rename_i h;subst h;decide
 ·rfl
theorem insd_rn (r:Int):insd (rn r)=insd r:=by
 unfold rn
 split
 ·rename_i h;subst h;decide
 ·rfl
theorem dec_nx {s:ByteArray}{pos:Nat}(h:pos < s.size):((Utf8.decode s pos).1:Int)=rn (nx ((bl s).drop pos)).1/\(Utf8.decode s pos).2=(nx ((bl s).drop pos)).2:=by
 have hne:=drop_ne (l:=bl s) (k:=pos) (by rw [bl_length];exact h)
 have hd:decodeL ((bl s).drop pos)=Utf8.decode s pos:=decodeL_drop s pos
 refine ⟨?_,by rw [nx_size hne,hd]⟩
 unfold nx rn
 rw [if_neg hne,hd]
 by_cases hc:(Utf8.decode s pos).1=65533/\(Utf8.decode s pos).2<=1
 ·rw [if_pos hc,if_pos rfl,hc.1];rfl
 ·rw [if_neg hc,if_neg (by simp only;omega)]
structure Gone (l:List UInt8) (m k:Nat):Prop where
 le:k<=l.length
 left:runes (l.drop k)=(runes l).drop m
 size:(byt ((runes l).take m)).length=k
 few:m<=k
theorem Gone.zero (l:List UInt8):Gone l 0 0:=⟨by omega,rfl,rfl,by omega⟩
theorem Gone.step {l:List UInt8}{m k:Nat}(h:Gone l m k) (hk:k < l.length):Gone l (m+1) (k+(nx (l.drop k)).2):=by
 have hne:=drop_ne hk
 have hc:=runes_cons hne
 have hle:=nx_le hne
 have hps:=nx_pos hne
 rw [List.length_drop] at hle
 have hd:(runes l).drop m=((nx (l.drop k)).1,(l.drop k).take (nx (l.drop k)).2) :: runes ((l.drop k).drop (nx (l.drop k)).2):=by rw [<- h.left,hc]
 have hd1:(runes l).drop (m+1)=runes (l.drop (k+(nx (l.drop k)).2)):=by
  have:=congrArg List.tail hd
  rw [List.tail_drop,List.tail_cons,List.drop_drop] at this
  exact this
 refine ⟨by omega,hd1.symm,?_,by have:=h.few;omega⟩
 have e1:=byt_split (runes l) (m+1)
 rw [hd1,byt_runes _ _ Nat.le.refl,byt_runes _ _ Nat.le.refl,List.length_drop] at e1
 omega
theorem Gone.take {l:List UInt8}{m k:Nat}(h:Gone l m k) (hk:k < l.length):(runes l).take (m+1)=(runes l).take m++[((nx (l.drop k)).1,(l.drop k).take (nx (l.drop k)).2)]:=by
 have hc:=runes_cons (drop_ne hk)
 rw [h.left] at hc
 have hlt:m < (runes l).length:=by
  rcases Nat.lt_or_ge m (runes l).length with h1|h1
  ·exact h1
  ·rw [List.drop_eq_nil_of_le h1] at hc;cases hc
 rw [List.take_succ_eq_append_getElem hlt]
 rw [List.drop_eq_getElem_cons hlt] at hc
 rw [(List.cons.inj hc).1]
theorem rest_of:∀ (m:Nat) (R:List Ru),m<=R.length->(∀ v∈R.take m,v.1≠10)->(R.drop m=[]∨∃ v t,R.drop m=v :: t/\v.1=10)->rest R=m
 | 0,R,_,_,h=>by
  rcases h with h|⟨v,t,h,h10⟩
  ·rw [List.drop_zero] at h;rw [h];rfl
  ·rw [List.drop_zero] at h;rw [h];unfold rest;rw [if_pos h10]
 | m+1,[],hm,_,_=>by simp at hm
 | m+1,v :: t,hm,h1,h2=>by
  unfold rest
  rw [if_neg (h1 v (by simp)),rest_of m t (by simpa using hm) (fun x hx=>h1 x (by simp [hx])) (by simpa using h2)]
def rsb (l:List UInt8):Nat:=(byt ((runes l).take (rest (runes l)))).length
theorem Gone.rest_end {l:List UInt8}{m k:Nat}(h:Gone l m k) (hn:∀ v∈(runes l).take m,v.1≠10) (hs:l.length<=k∨(nx (l.drop k)).1=10) (hm:m<=(runes l).length):rest (runes l)=m/\rsb l=k:=by
 have e:rest (runes l)=m:=by
  refine rest_of m _ hm hn ?_
  rw [<- h.left]
  by_cases hk:l.length<=k
  ·left;rw [List.drop_eq_nil_of_le hk];rfl
  ·right
   refine ⟨_,_,runes_cons (drop_ne (by omega)),?_⟩
   rcases hs with hs|hs
   ·omega
   ·exact hs
 exact ⟨e,by unfold rsb;rw [e];exact h.size⟩
theorem pLetter_any (r:Int) (w:World):Calls Tryz.prog 142 #[.int .i32 r] w fun e w'=>e=.returned (.bool (letter r))/\w=w':=by
 rw [letter_eq]
 go_enter Tryz.func142,Tryz.ntmps142
 go_wp2
 all_goals go_ret
 all_goals (refine ⟨ret_bool ?_,rfl⟩;first|rfl|(rw [Bool.eq_iff_iff];simp;omega)|(rw [Bool.eq_iff_iff];simp [*];omega))
theorem pDigit_any (r:Int) (w:World):Calls Tryz.prog 144 #[.int .i32 r] w fun e w'=>e=.returned (.bool (dgt r))/\w=w':=by
 rw [dgt_eq]
 go_enter Tryz.func144,Tryz.ntmps144
 go_wp2
 all_goals go_ret
 all_goals (refine ⟨ret_bool ?_,rfl⟩;first|rfl|(rw [Bool.eq_iff_iff];simp;omega)|(rw [Bool.eq_iff_iff];simp [*];omega))
theorem pInside_any (r:Int) (w:World):Calls Tryz.prog 158 #[.int .i32 r] w fun e w'=>e=.returned (.bool (insd r))/\w=w':=by
 have h1:=pLetter_any r w
 have h2:=pDigit_any r w
 have h3:insd r=(letter r || dgt r || r == 95):=rfl
 rw [h3]
 cases ha:letter r<;>rw [ha] at h1
 ·cases hb:dgt r<;>rw [hb] at h2
  ·go_enter Tryz.func158,Tryz.ntmps158
   go_wp2_with (first
    | (go_at_call 142;refine h1.mono ?_;rintro e w' ⟨rfl,rfl⟩)
    | (go_at_call 144;refine h2.mono ?_;rintro e w' ⟨rfl,rfl⟩))
   go_ret
   exact ⟨ret_bool (by simp),rfl⟩
  ·go_enter Tryz.func158,Tryz.ntmps158
   go_wp2_with (first
    | (go_at_call 142;refine h1.mono ?_;rintro e w' ⟨rfl,rfl⟩)
    | (go_at_call 144;refine h2.mono ?_;rintro e w' ⟨rfl,rfl⟩))
   go_ret
   exact ⟨ret_bool (by simp),rfl⟩
 ·go_enter Tryz.func158,Tryz.ntmps158
  go_wp2_with (first
   | (go_at_call 142;refine h1.mono ?_;rintro e w' ⟨rfl,rfl⟩)
   | (go_at_call 144;refine h2.mono ?_;rintro e w' ⟨rfl,rfl⟩))
  go_ret
  exact ⟨ret_bool (by simp),rfl⟩
theorem pRun_any (s:ByteArray) (w:World) (hs:s.size<=140737488351232) :
  Calls Tryz.prog 143 #[.string s] w fun e w'=>e=.returned (.int .i64 (spb (bl s):Int))/\Below w.heap.size w w':=by
 go_enter Tryz.func143,Tryz.ntmps143
 go_wp2
 go_loopw [] (fun wr=>∃ (m k:Nat),wr.heap[w.heap.size]?=some (.stringIter s k)/\Hid (Adv (bl s) m k)/\Below w.heap.size w wr) (fun wr=>s.size - wr.iterPos w.heap.size)
 case atStart=>exact ⟨0,0,World.iter_heap w s 0,Adv.zero _,(Below.refl _ w).alloc Nat.le.refl _⟩
 case round=>
  obtain ⟨m,k,hit,ha,hb⟩:=hrel
  have hle:=ha.out.le
  rw [bl_length] at hle
  by_cases hk:k < s.size
  ·have hnx:∀ ty,(Instr.next (.pointer (some ⟨w.heap.size,0,none⟩)) true ty).run Tryz.prog wr=_:=fun ty=>Lib.run_next_any_at wr w.heap.size s k ty hit hk
   obtain ⟨d1,d2⟩:=dec_nx hk
   have hne:=drop_ne (l:=bl s) (by rw [bl_length];exact hk)
   have hps:=nx_pos hne
   have hnl:=nx_le hne
   rw [List.length_drop,bl_length] at hnl
   obtain ⟨r,hr⟩:∃ r,(nx ((bl s).drop k)).1=r:=⟨_,rfl⟩
   obtain ⟨q,hq⟩:∃ q,(nx ((bl s).drop k)).2=q:=⟨_,rfl⟩
   rw [hr] at d1
   rw [hq] at d2 hps hnl
   rw [d1,d2] at hnx
   have hit2:=Lib.iterAt_heap wr w.heap.size s k (k+q) hit
   have hb2:=Lib.below_iterAt hb (k:=w.heap.size) Nat.le.refl s (k+q)
   have h26:=fun w1=>pInside_any (rn r) w1
   rw [insd_rn] at h26
   cases hi:insd r with
   | true=>
    rw [hi] at h26
    have hA:Hid (Adv (bl s) (m+1) (k+q)):=by have:=ha.out.step (by rw [bl_length];exact hk) (by rw [hr];exact hi);rw [hq] at this;exact this
    clear hr hq hne hi d1 d2
    go_wp2_with (first
     | (go_at_call 158;refine (h26 _).mono ?_;rintro e w' ⟨rfl,rfl⟩))
    go_roundw
    case rel=>exact ⟨m+1,k+q,hit2,hA,hb2⟩
    case measure=>rw [iterPos_of hit2,iterPos_of hit];omega
   | false=>
    rw [hi] at h26
    have hE:Hid (spn (runes (bl s))=m):=ha.out.stop (.inr (by rw [hr];exact hi))
    have hZ:Hid (spb (bl s)=k):=by show spb (bl s)=k;unfold spb;rw [hE.out];exact ha.out.size
    clear hr hq hne hi d1 d2
    go_wp2_with (first
     | (go_at_call 158;refine (h26 _).mono ?_;rintro e w' ⟨rfl,rfl⟩))
    go_ret
    rw [hZ.out]
    exact ⟨rfl,hb2⟩
  ·have hnx:∀ ty,(Instr.next (.pointer (some ⟨w.heap.size,0,none⟩)) true ty).run Tryz.prog wr=_:=fun ty=>Lib.run_next_end_at wr w.heap.size s k ty hit hk
   have hE:Hid (spn (runes (bl s))=m):=ha.out.stop (.inl (by rw [bl_length];omega))
   have hZ:Hid (spb (bl s)=k):=by show spb (bl s)=k;unfold spb;rw [hE.out];exact ha.out.size
   have hks:k=s.size:=by omega
   go_wp2
   go_ret
   rw [hZ.out,hks]
   exact ⟨rfl,hb⟩
theorem pRemark_any (s:ByteArray) (w:World) (hs:s.size<=140737488351232) :
  Calls Tryz.prog 141 #[.string s] w fun e w'=>e=.returned (.int .i64 (rsb (bl s):Int))/\Below w.heap.size w w':=by
 go_enter Tryz.func141,Tryz.ntmps141
 go_wp2
 go_loopw [] (fun wr=>∃ (m k:Nat),wr.heap[w.heap.size]?=some (.stringIter s k)/\Hid (Gone (bl s) m k)/\Hid (∀ v∈(runes (bl s)).take m,v.1≠10)/\Hid (m<=(runes (bl s)).length)/\Below w.heap.size w wr) (fun wr=>s.size - wr.iterPos w.heap.size)
 case atStart=>exact ⟨0,0,World.iter_heap w s 0,Gone.zero _,fun v hv=>by simp at hv,Nat.zero_le _,(Below.refl _ w).alloc Nat.le.refl _⟩
 case round=>
  obtain ⟨m,k,hit,ha,hno,hmr,hb⟩:=hrel
  have hle:=ha.out.le
  rw [bl_length] at hle
  by_cases hk:k < s.size
  ·have hnx:∀ ty,(Instr.next (.pointer (some ⟨w.heap.size,0,none⟩)) true ty).run Tryz.prog wr=_:=fun ty=>Lib.run_next_any_at wr w.heap.size s k ty hit hk
   obtain ⟨d1,d2⟩:=dec_nx hk
   have hkl:k < (bl s).length:=by rw [bl_length];exact hk
   have hne:=drop_ne hkl
   have hps:=nx_pos hne
   have hnl:=nx_le hne
   rw [List.length_drop,bl_length] at hnl
   have hst:=ha.out.step hkl
   have htk:=ha.out.take hkl
   have hre:=fun h=>ha.out.rest_end hno.out (.inr h) hmr.out
   have hml:m < (runes (bl s)).length:=by
    have:=congrArg List.length htk
    rw [List.length_append,List.length_take,List.length_take] at this
    simp at this
    omega
   obtain ⟨r,hr⟩:∃ r,(nx ((bl s).drop k)).1=r:=⟨_,rfl⟩
   obtain ⟨q,hq⟩:∃ q,(nx ((bl s).drop k)).2=q:=⟨_,rfl⟩
   rw [hr] at d1 htk hre
   rw [hq] at d2 hps hnl hst htk
   rw [d1,d2] at hnx
   have hit2:=Lib.iterAt_heap wr w.heap.size s k (k+q) hit
   have hb2:=Lib.below_iterAt hb (k:=w.heap.size) Nat.le.refl s (k+q)
   have h10:=rn_small (r:=r) (k:=10) (by omega)
   by_cases hi:r=10
   ·have e1:(rn r == 10)=true:=by rw [h10.2 hi];rfl
    have hZ:Hid (rsb (bl s)=k):=(hre hi).2
    clear hr hq hne hi d1 d2 htk hre hst h10
    go_wp2
    go_ret
    rw [hZ.out]
    exact ⟨rfl,hb2⟩
   ·have e1:(rn r == 10)=false:=beq_eq_false_iff_ne.2 (fun e=>hi (h10.1 e))
    have hN:Hid (∀ v∈(runes (bl s)).take (m+1),v.1≠10):=fun v hv=>by
     rw [htk] at hv
     rcases List.mem_append.1 hv with hv|hv
     ·exact hno.out v hv
     ·simp only [List.mem_singleton] at hv;rw [hv];exact hi
    have hA:Hid (Gone (bl s) (m+1) (k+q)):=hst
    have hM:Hid (m+1<=(runes (bl s)).length):=hml
    clear hr hq hne hi d1 d2 htk hre hst h10 hml
    go_wp2
    go_roundw
    case rel=>exact ⟨m+1,k+q,hit2,hA,hN,hM,hb2⟩
    case measure=>rw [iterPos_of hit2,iterPos_of hit];omega
  ·have hnx:∀ ty,(Instr.next (.pointer (some ⟨w.heap.size,0,none⟩)) true ty).run Tryz.prog wr=_:=fun ty=>Lib.run_next_end_at wr w.heap.size s k ty hit hk
   have hZ:Hid (rsb (bl s)=k):=(ha.out.rest_end hno.out (.inl (by rw [bl_length];omega)) hmr.out).2
   have hks:k=s.size:=by omega
   go_wp2
   go_ret
   rw [hZ.out,hks]
   exact ⟨rfl,hb⟩
theorem nameS_short {l:List UInt8}(h:spb l≠l.length):nameS l=false:=by
 unfold nameS
 have:((spb l:Int) == (l.length:Int))=false:=beq_eq_false_iff_ne.2 (by omega)
 rw [this];simp
theorem nameS_head {l:List UInt8}(h:letter (nx l).1=false):nameS l=false:=by
 unfold nameS
 rw [h];simp
theorem nameS_all {l:List UInt8}{m:Nat}(h1:letter (nx l).1=true) (h2:spb l=l.length) (h3:spn (runes l)=m):nameS l=decide ((m:Int)<=24):=by
 unfold nameS
 rw [h1,h2,h3]
 rw [Bool.eq_iff_iff]
 simp
 omega
theorem pName_any (s:ByteArray) (w:World) (hs:s.size<=140737488351232) :
  Calls Tryz.prog 89 #[.string s] w fun e w'=>e=.returned (.bool (nameS (bl s)))/\Below w.heap.size w w':=by
 go_enter Tryz.func89,Tryz.ntmps89
 go_wp2
 go_loopw [3] (fun c wr=>∃ (m k:Nat),c=.int .i64 (m:Int)/\wr.heap[w.heap.size]?=some (.stringIter s k)/\Hid (Adv (bl s) m k)/\(m=0->k=0)/\Hid (0 < m->letter (nx (bl s)).1=true)/\Below w.heap.size w wr) (fun _ wr=>s.size - wr.iterPos w.heap.size)
 case atStart=>exact ⟨0,0,rfl,World.iter_heap w s 0,Adv.zero _,fun _=>rfl,fun h=>by omega,(Below.refl _ w).alloc Nat.le.refl _⟩
 case round=>
  obtain ⟨m,k,rfl,hit,ha,hm0,hlt,hb⟩:=hrel
  have hle:=ha.out.le
  have hfw:=ha.out.few
  rw [bl_length] at hle
  by_cases hk:k < s.size
  ·have hnx:∀ ty,(Instr.next (.pointer (some ⟨w.heap.size,0,none⟩)) true ty).run Tryz.prog wr=_:=fun ty=>Lib.run_next_any_at wr w.heap.size s k ty hit hk
   obtain ⟨d1,d2⟩:=dec_nx hk
   have hne:=drop_ne (l:=bl s) (by rw [bl_length];exact hk)
   have hps:=nx_pos hne
   have hnl:=nx_le hne
   rw [List.length_drop,bl_length] at hnl
   obtain ⟨r,hr⟩:∃ r,(nx ((bl s).drop k)).1=r:=⟨_,rfl⟩
   obtain ⟨q,hq⟩:∃ q,(nx ((bl s).drop k)).2=q:=⟨_,rfl⟩
   rw [hr] at d1
   rw [hq] at d2 hps hnl
   rw [d1,d2] at hnx
   have hit2:=Lib.iterAt_heap wr w.heap.size s k (k+q) hit
   have hb2:=Lib.below_iterAt hb (k:=w.heap.size) Nat.le.refl s (k+q)
   have h26:=fun w1=>pInside_any (rn r) w1
   have h27:=fun w1=>pLetter_any (rn r) w1
   rw [insd_rn] at h26
   rw [letter_rn] at h27
   cases hi:insd r with
   | true=>
    rw [hi] at h26
    have hA:Hid (Adv (bl s) (m+1) (k+q)):=by have:=ha.out.step (by rw [bl_length];exact hk) (by rw [hr];exact hi);rw [hq] at this;exact this
    by_cases hmz:m=0
    ·have e0:((m:Int) == 0)=true:=by simp;omega
     have hk0:=hm0 hmz
     have hrr:(nx (bl s)).1=r:=by rw [<- hr,hk0];rfl
     cases hl:letter r with
     | true=>
      rw [hl] at h27
      have hL:Hid (0 < m+1->letter (nx (bl s)).1=true):=fun _=>by rw [hrr];exact hl
      clear hr hq hne hi d1 d2 hrr hl hm0 hmz hk0
      go_wp2_with (first
       | (go_at_call 158;refine (h26 _).mono ?_;rintro e w' ⟨rfl,rfl⟩)
       | (go_at_call 142;refine (h27 _).mono ?_;rintro e w' ⟨rfl,rfl⟩))
      go_roundw
      case rel=>exact ⟨m+1,k+q,by go_num,hit2,hA,fun h=>by omega,hL,hb2⟩
      case measure=>rw [iterPos_of hit2,iterPos_of hit];omega
     | false=>
      rw [hl] at h27
      have hF:Hid (nameS (bl s)=false):=nameS_head (by rw [hrr];exact hl)
      clear hr hq hne hi d1 d2 hrr hl hm0 hmz hk0
      go_wp2_with (first
       | (go_at_call 158;refine (h26 _).mono ?_;rintro e w' ⟨rfl,rfl⟩)
       | (go_at_call 142;refine (h27 _).mono ?_;rintro e w' ⟨rfl,rfl⟩))
      go_ret
      rw [hF.out]
      exact ⟨rfl,hb2⟩
    ·have e0:((m:Int) == 0)=false:=beq_eq_false_iff_ne.2 (by omega)
     have hL:Hid (0 < m+1->letter (nx (bl s)).1=true):=fun _=>hlt.out (by omega)
     clear hr hq hne hi d1 d2 hm0 hmz
     go_wp2_with (first
      | (go_at_call 158;refine (h26 _).mono ?_;rintro e w' ⟨rfl,rfl⟩))
     go_roundw
     case rel=>exact ⟨m+1,k+q,by go_num,hit2,hA,fun h=>by omega,hL,hb2⟩
     case measure=>rw [iterPos_of hit2,iterPos_of hit];omega
   | false=>
    rw [hi] at h26
    have hE:Hid (spn (runes (bl s))=m):=ha.out.stop (.inr (by rw [hr];exact hi))
    have hZ:Hid (spb (bl s)=k):=by show spb (bl s)=k;unfold spb;rw [hE.out];exact ha.out.size
    have hF:Hid (nameS (bl s)=false):=nameS_short (by rw [hZ.out,bl_length];omega)
    clear hr hq hne hi d1 d2 hm0
    go_wp2_with (first
     | (go_at_call 158;refine (h26 _).mono ?_;rintro e w' ⟨rfl,rfl⟩))
    go_ret
    rw [hF.out]
    exact ⟨rfl,hb2⟩
  ·have hnx:∀ ty,(Instr.next (.pointer (some ⟨w.heap.size,0,none⟩)) true ty).run Tryz.prog wr=_:=fun ty=>Lib.run_next_end_at wr w.heap.size s k ty hit hk
   have hE:Hid (spn (runes (bl s))=m):=ha.out.stop (.inl (by rw [bl_length];omega))
   have hZ:Hid (spb (bl s)=k):=by show spb (bl s)=k;unfold spb;rw [hE.out];exact ha.out.size
   have hks:k=s.size:=by omega
   by_cases hmz:m=0
   ·have hF:Hid (nameS (bl s)=false):=by
     have:bl s=[]:=List.eq_nil_of_length_eq_zero (by rw [bl_length];have:=hm0 hmz;omega)
     show nameS (bl s)=false
     rw [this];rfl
    subst hmz
    clear hm0
    go_wp2
    go_ret
    rw [hF.out]
    exact ⟨rfl,hb⟩
   ·have hF:Hid (nameS (bl s)=decide ((m:Int)<=24)):=nameS_all (hlt.out (by omega)) (by rw [hZ.out,hks];rfl) hE.out
    have e1:(1:Int)<=(m:Int):=by omega
    clear hm0
    go_wp2
    all_goals go_ret
    all_goals rw [hF.out]
    all_goals exact ⟨rfl,hb⟩
theorem nx_dB {l:List UInt8}{k:Nat}{d:UInt8}(h:k < l.length) (hd:l[k]=d):dgt (nx (l.drop k)).1=dB d/\(dB d=true->nx (l.drop k)=((d.toNat:Int),1)):=by
 have e:l.drop k=d :: l.drop (k+1):=by rw [List.drop_eq_getElem_cons h,hd]
 rw [e]
 by_cases hs:d.toNat < 128
 ·rw [nx_ascii hs]
  refine ⟨?_,fun _=>rfl⟩
  unfold dgt dB
  rw [Bool.eq_iff_iff]
  simp
  omega
 ·have hb:=nx_big hs (l.drop (k+1))
  have e1:dB d=false:=dB_no (by omega)
  rw [e1]
  refine ⟨decide_eq_false (by omega),fun h=>by cases h⟩
theorem pNumber_any (s:ByteArray) (w:World) (hs:s.size<=140737488351232) :
  Calls Tryz.prog 146 #[.string s] w fun e w'=>e=.returned (.bool (numB (bl s)))/\Below w.heap.size w w':=by
 have hlen:(bl s).length=s.size:=rfl
 by_cases h1:s.size < 1
 ·rw [numB_len (by omega)]
  have hz:s=⟨#[]⟩:=by
   apply ByteArray.ext
   exact Array.eq_empty_of_size_eq_zero (show s.data.size=0 by show s.size=0;omega)
  subst hz
  go_enter Tryz.func146,Tryz.ntmps146
  go_wp2
  go_ret
  exact ⟨rfl,Below.refl _ _⟩
 have he0:(s.toList == [])=false:=by
  rw [ByteArray.toList_eq,beq_eq_false_iff_ne]
  intro e
  have:=congrArg List.length e
  simp at this
  have h2:s.size=0:=by show s.data.size=0;rw [this];rfl
  omega
 by_cases h2:10 < s.size
 ·rw [numB_len (by omega)]
  have e2:(s.size:Int) > 10:=by omega
  go_enter Tryz.func146,Tryz.ntmps146
  go_wp2
  go_ret
  exact ⟨rfl,Below.refl _ _⟩
 have e2:¬ (s.size:Int) > 10:=by omega
 obtain ⟨c,r,hl⟩:∃ c r,bl s=c :: r:=by
  match hb:bl s with
  | []=>rw [hb] at hlen;simp at hlen;omega
  | c :: r=>exact ⟨c,r,rfl⟩
 have hs0:s[0]=c:=by rw [get_bl];simp [hl]
 have hz:(0:Int) < (s.size:Int):=by omega
 by_cases h3:c.toNat=48/\1 < s.size
 ·rw [hl,numB_nought h3.1 (by rw [<- hl,hlen];exact h3.2)]
  have e3:((c.toNat:Int) == 48)=true:=by simp;omega
  have e4:(s.size:Int) > 1:=by omega
  clear h3
  go_enter Tryz.func146,Tryz.ntmps146
  go_wp2
  go_ret
  exact ⟨rfl,Below.refl _ _⟩
 have hL1:1<=(bl s).length/\(bl s).length<=10:=by omega
 have hL2:¬ (((bl s).headD 0).toNat=48/\1 < (bl s).length):=by rw [hlen,hl];exact h3
 have HA:Hid ((bl s).all dB=true->numB (bl s)=decide (valB 0 (bl s)<=1000000000)):=fun h=>numB_all hL1 hL2 h
 have H0:Hid (valB 0 ((bl s).drop 0)=valB 0 (bl s)):=rfl
 clear hL2 hL1 hl
 by_cases h1s:1 < s.size
 ·have e4:(s.size:Int) > 1:=by omega
  have e3:((c.toNat:Int) == 48)=false:=beq_eq_false_iff_ne.2 (by omega)
  clear h3
  go_enter Tryz.func146,Tryz.ntmps146
  go_wp2
  go_loopw [3] (fun a wr=>∃ (n:Int) (k:Nat),a=.int .i64 n/\wr.heap[w.heap.size]?=some (.stringIter s k)/\k<=s.size/\Hid (valB n ((bl s).drop k)=valB 0 (bl s))/\Hid (((bl s).take k).all dB=true)/\0<=n/\Hid (n < 10 ^ k)/\Below w.heap.size w wr) (fun _ wr=>s.size - wr.iterPos w.heap.size)
  case atStart=>exact ⟨0,0,rfl,World.iter_heap w s 0,by omega,H0,rfl,by omega,(show (0:Int) < 10 ^ 0 by decide),(Below.refl _ w).alloc Nat.le.refl _⟩
  case round=>
   obtain ⟨n,k,rfl,hit,hk,hv,ha,hn0,hn1,hb⟩:=hrel
   by_cases hlt:k < s.size
   ·have hnx:∀ ty,(Instr.next (.pointer (some ⟨w.heap.size,0,none⟩)) true ty).run Tryz.prog wr=_:=fun ty=>Lib.run_next_any_at wr w.heap.size s k ty hit hlt
    obtain ⟨d1,d2⟩:=dec_nx hlt
    have hkl:k < (bl s).length:=by rw [hlen];exact hlt
    obtain ⟨d,hdl⟩:∃ d,(bl s)[k]=d:=⟨_,rfl⟩
    obtain ⟨f1,f2⟩:=nx_dB hkl hdl
    have h26:=fun w1=>pDigit_any (rn (nx ((bl s).drop k)).1) w1
    rw [dgt_rn,f1] at h26
    have hp:=pow_le9 (k:=k) (by omega)
    have hnb:n < 1000000000:=by have:=hn1.out;omega
    cases hdg:dB d with
    | true=>
     rw [hdg] at h26
     have hdd:48<=d.toNat/\d.toNat<=57:=of_decide_eq_true hdg
     rw [f2 hdg] at d1 d2 h26
     have hrn:rn ((d.toNat:Int),1).1=(d.toNat:Int):=by unfold rn;rw [if_neg (by simp only;omega)]
     rw [hrn] at d1 h26
     rw [d1,d2] at hnx
     have hit2:=Lib.iterAt_heap wr w.heap.size s k (k+1) hit
     have hb2:=Lib.below_iterAt hb (k:=w.heap.size) Nat.le.refl s (k+1)
     have hA:Hid (((bl s).take (k+1)).all dB=true):=all_step ha.out hkl (by rw [hdl];exact hdg)
     have hV:Hid (valB (10*n+((d.toNat:Int) - 48)) ((bl s).drop (k+1))=valB 0 (bl s)):=by have:=valB_step hv.out hkl;rw [hdl] at this;exact this
     have hN:Hid (10*n+((d.toNat:Int) - 48) < 10 ^ (k+1)):=by show 10*n+((d.toNat:Int) - 48) < 10 ^ (k+1);rw [pow_next];have:=hn1.out;omega
     have w1:IntKind.i32.wrap ((d.toNat:Int) - 48)=(d.toNat:Int) - 48:=by rw [IntKind.wrap_i32];omega
     have hN0:0<=10*n+((d.toNat:Int) - 48):=by omega
     clear hdl hp f1 f2 d1 d2 hdg hrn
     go_wp2_with (first
      | (go_at_call 144;refine (h26 _).mono ?_;rintro e w' ⟨rfl,rfl⟩))
     go_roundw
     case rel=>exact ⟨_,k+1,rfl,hit2,by omega,hV,hA,hN0,hN,hb2⟩
     case measure=>rw [iterPos_of hit2,iterPos_of hit];omega
    | false=>
     rw [hdg] at h26
     have hF:Hid (numB (bl s)=false):=numB_not (all_no (k:=k) hkl (by rw [hdl];exact hdg))
     have hps:=nx_pos (drop_ne hkl)
     obtain ⟨x,hx⟩:∃ x,rn (nx ((bl s).drop k)).1=x:=⟨_,rfl⟩
     obtain ⟨q,hq⟩:∃ q,(nx ((bl s).drop k)).2=q:=⟨_,rfl⟩
     rw [hx] at d1 h26
     rw [hq] at d2
     rw [d1,d2] at hnx
     have hb2:=Lib.below_iterAt hb (k:=w.heap.size) Nat.le.refl s (k+q)
     clear hdl hp f1 f2 d1 d2 hdg hx hq hps
     go_wp2_with (first
      | (go_at_call 144;refine (h26 _).mono ?_;rintro e w' ⟨rfl,rfl⟩))
     go_ret
     rw [hF.out]
     exact ⟨rfl,hb2⟩
   ·have hnx:∀ ty,(Instr.next (.pointer (some ⟨w.heap.size,0,none⟩)) true ty).run Tryz.prog wr=_:=fun ty=>Lib.run_next_end_at wr w.heap.size s k ty hit hlt
    have hall:Hid ((bl s).all dB=true):=by have:=ha.out;rw [List.take_of_length_le (by rw [hlen];omega)] at this;exact this
    have hval:Hid (valB 0 (bl s)=n):=(valB_end hv.out (by rw [hlen];omega)).symm
    have hF:Hid (numB (bl s)=decide (n<=1000000000)):=by show numB (bl s)=_;rw [HA.out hall.out,hval.out]
    clear hn0
    go_wp2
    all_goals go_ret
    all_goals rw [hF.out]
    all_goals exact ⟨rfl,hb⟩
 ·have e4:¬ (s.size:Int) > 1:=by omega
  clear h3
  go_enter Tryz.func146,Tryz.ntmps146
  go_wp2
  go_loopw [3] (fun a wr=>∃ (n:Int) (k:Nat),a=.int .i64 n/\wr.heap[w.heap.size]?=some (.stringIter s k)/\k<=s.size/\Hid (valB n ((bl s).drop k)=valB 0 (bl s))/\Hid (((bl s).take k).all dB=true)/\0<=n/\Hid (n < 10 ^ k)/\Below w.heap.size w wr) (fun _ wr=>s.size - wr.iterPos w.heap.size)
  case atStart=>exact ⟨0,0,rfl,World.iter_heap w s 0,by omega,H0,rfl,by omega,(show (0:Int) < 10 ^ 0 by decide),(Below.refl _ w).alloc Nat.le.refl _⟩
  case round=>
   obtain ⟨n,k,rfl,hit,hk,hv,ha,hn0,hn1,hb⟩:=hrel
   by_cases hlt:k < s.size
   ·have hnx:∀ ty,(Instr.next (.pointer (some ⟨w.heap.size,0,none⟩)) true ty).run Tryz.prog wr=_:=fun ty=>Lib.run_next_any_at wr w.heap.size s k ty hit hlt
    obtain ⟨d1,d2⟩:=dec_nx hlt
    have hkl:k < (bl s).length:=by rw [hlen];exact hlt
    obtain ⟨d,hdl⟩:∃ d,(bl s)[k]=d:=⟨_,rfl⟩
    obtain ⟨f1,f2⟩:=nx_dB hkl hdl
    have h26:=fun w1=>pDigit_any (rn (nx ((bl s).drop k)).1) w1
    rw [dgt_rn,f1] at h26
    have hp:=pow_le9 (k:=k) (by omega)
    have hnb:n < 1000000000:=by have:=hn1.out;omega
    cases hdg:dB d with
    | true=>
     rw [hdg] at h26
     have hdd:48<=d.toNat/\d.toNat<=57:=of_decide_eq_true hdg
     rw [f2 hdg] at d1 d2 h26
     have hrn:rn ((d.toNat:Int),1).1=(d.toNat:Int):=by unfold rn;rw [if_neg (by simp only;omega)]
     rw [hrn] at d1 h26
     rw [d1,d2] at hnx
     have hit2:=Lib.iterAt_heap wr w.heap.size s k (k+1) hit
     have hb2:=Lib.below_iterAt hb (k:=w.heap.size) Nat.le.refl s (k+1)
     have hA:Hid (((bl s).take (k+1)).all dB=true):=all_step ha.out hkl (by rw [hdl];exact hdg)
     have hV:Hid (valB (10*n+((d.toNat:Int) - 48)) ((bl s).drop (k+1))=valB 0 (bl s)):=by have:=valB_step hv.out hkl;rw [hdl] at this;exact this
     have hN:Hid (10*n+((d.toNat:Int) - 48) < 10 ^ (k+1)):=by show 10*n+((d.toNat:Int) - 48) < 10 ^ (k+1);rw [pow_next];have:=hn1.out;omega
     have w1:IntKind.i32.wrap ((d.toNat:Int) - 48)=(d.toNat:Int) - 48:=by rw [IntKind.wrap_i32];omega
     have hN0:0<=10*n+((d.toNat:Int) - 48):=by omega
     clear hdl hp f1 f2 d1 d2 hdg hrn
     go_wp2_with (first
      | (go_at_call 144;refine (h26 _).mono ?_;rintro e w' ⟨rfl,rfl⟩))
     go_roundw
     case rel=>exact ⟨_,k+1,rfl,hit2,by omega,hV,hA,hN0,hN,hb2⟩
     case measure=>rw [iterPos_of hit2,iterPos_of hit];omega
    | false=>
     rw [hdg] at h26
     have hF:Hid (numB (bl s)=false):=numB_not (all_no (k:=k) hkl (by rw [hdl];exact hdg))
     have hps:=nx_pos (drop_ne hkl)
     obtain ⟨x,hx⟩:∃ x,rn (nx ((bl s).drop k)).1=x:=⟨_,rfl⟩
     obtain ⟨q,hq⟩:∃ q,(nx ((bl s).drop k)).2=q:=⟨_,rfl⟩
     rw [hx] at d1 h26
     rw [hq] at d2
     rw [d1,d2] at hnx
     have hb2:=Lib.below_iterAt hb (k:=w.heap.size) Nat.le.refl s (k+q)
     clear hdl hp f1 f2 d1 d2 hdg hx hq hps
     go_wp2_with (first
      | (go_at_call 144;refine (h26 _).mono ?_;rintro e w' ⟨rfl,rfl⟩))
     go_ret
     rw [hF.out]
     exact ⟨rfl,hb2⟩
   ·have hnx:∀ ty,(Instr.next (.pointer (some ⟨w.heap.size,0,none⟩)) true ty).run Tryz.prog wr=_:=fun ty=>Lib.run_next_end_at wr w.heap.size s k ty hit hlt
    have hall:Hid ((bl s).all dB=true):=by have:=ha.out;rw [List.take_of_length_le (by rw [hlen];omega)] at this;exact this
    have hval:Hid (valB 0 (bl s)=n):=(valB_end hv.out (by rw [hlen];omega)).symm
    have hF:Hid (numB (bl s)=decide (n<=1000000000)):=by show numB (bl s)=_;rw [HA.out hall.out,hval.out]
    clear hn0
    go_wp2
    all_goals go_ret
    all_goals rw [hF.out]
    all_goals exact ⟨rfl,hb⟩
theorem pSign_one (s:ByteArray) (w:World) (c:UInt8) (h0:0 < s.size) (h1:¬ 1 < s.size) (hs0:s[0]=c) (G:Nat) (hg:one (c.toNat:Int)=G) :
  Calls Tryz.prog 145 #[.string s] w fun e w'=>e=.returned (.int .i64 (G:Int))/\w=w':=by
 have hz:(0:Int) < (s.size:Int):=by omega
 have hz1:¬ (1:Int) < (s.size:Int):=by omega
 by_cases f0:c.toNat=123
 ·have g0:((c.toNat:Int) == 123)=true:=by simp;omega
  have hG:1=G:=by rw [<- hg];exact (one_yes (by omega)).symm
  clear f0 hg
  subst hG
  go_enter Tryz.func145,Tryz.ntmps145
  go_wp2
  go_ret
  exact ⟨rfl,rfl⟩
 have g0:((c.toNat:Int) == 123)=false:=beq_eq_false_iff_ne.2 (by omega)
 by_cases f1:c.toNat=125
 ·have g1:((c.toNat:Int) == 125)=true:=by simp;omega
  have hG:1=G:=by rw [<- hg];exact (one_yes (by omega)).symm
  clear f1 hg f0
  subst hG
  go_enter Tryz.func145,Tryz.ntmps145
  go_wp2
  go_ret
  exact ⟨rfl,rfl⟩
 have g1:((c.toNat:Int) == 125)=false:=beq_eq_false_iff_ne.2 (by omega)
 by_cases f2:c.toNat=40
 ·have g2:((c.toNat:Int) == 40)=true:=by simp;omega
  have hG:1=G:=by rw [<- hg];exact (one_yes (by omega)).symm
  clear f2 hg f0 f1
  subst hG
  go_enter Tryz.func145,Tryz.ntmps145
  go_wp2
  go_ret
  exact ⟨rfl,rfl⟩
 have g2:((c.toNat:Int) == 40)=false:=beq_eq_false_iff_ne.2 (by omega)
 by_cases f3:c.toNat=41
 ·have g3:((c.toNat:Int) == 41)=true:=by simp;omega
  have hG:1=G:=by rw [<- hg];exact (one_yes (by omega)).symm
  clear f3 hg f0 f1 f2
  subst hG
  go_enter Tryz.func145,Tryz.ntmps145
  go_wp2
  go_ret
  exact ⟨rfl,rfl⟩
 have g3:((c.toNat:Int) == 41)=false:=beq_eq_false_iff_ne.2 (by omega)
 by_cases f4:c.toNat=61
 ·have g4:((c.toNat:Int) == 61)=true:=by simp;omega
  have hG:1=G:=by rw [<- hg];exact (one_yes (by omega)).symm
  clear f4 hg f0 f1 f2 f3
  subst hG
  go_enter Tryz.func145,Tryz.ntmps145
  go_wp2
  go_ret
  exact ⟨rfl,rfl⟩
 have g4:((c.toNat:Int) == 61)=false:=beq_eq_false_iff_ne.2 (by omega)
 by_cases f5:c.toNat=33
 ·have g5:((c.toNat:Int) == 33)=true:=by simp;omega
  have hG:1=G:=by rw [<- hg];exact (one_yes (by omega)).symm
  clear f5 hg f0 f1 f2 f3 f4
  subst hG
  go_enter Tryz.func145,Tryz.ntmps145
  go_wp2
  go_ret
  exact ⟨rfl,rfl⟩
 have g5:((c.toNat:Int) == 33)=false:=beq_eq_false_iff_ne.2 (by omega)
 by_cases f6:c.toNat=60
 ·have g6:((c.toNat:Int) == 60)=true:=by simp;omega
  have hG:1=G:=by rw [<- hg];exact (one_yes (by omega)).symm
  clear f6 hg f0 f1 f2 f3 f4 f5
  subst hG
  go_enter Tryz.func145,Tryz.ntmps145
  go_wp2
  go_ret
  exact ⟨rfl,rfl⟩
 have g6:((c.toNat:Int) == 60)=false:=beq_eq_false_iff_ne.2 (by omega)
 by_cases f7:c.toNat=43
 ·have g7:((c.toNat:Int) == 43)=true:=by simp;omega
  have hG:1=G:=by rw [<- hg];exact (one_yes (by omega)).symm
  clear f7 hg f0 f1 f2 f3 f4 f5 f6
  subst hG
  go_enter Tryz.func145,Tryz.ntmps145
  go_wp2
  go_ret
  exact ⟨rfl,rfl⟩
 have g7:((c.toNat:Int) == 43)=false:=beq_eq_false_iff_ne.2 (by omega)
 by_cases f8:c.toNat=45
 ·have g8:((c.toNat:Int) == 45)=true:=by simp;omega
  have hG:1=G:=by rw [<- hg];exact (one_yes (by omega)).symm
  clear f8 hg f0 f1 f2 f3 f4 f5 f6 f7
  subst hG
  go_enter Tryz.func145,Tryz.ntmps145
  go_wp2
  go_ret
  exact ⟨rfl,rfl⟩
 have g8:((c.toNat:Int) == 45)=false:=beq_eq_false_iff_ne.2 (by omega)
 by_cases f9:c.toNat=42
 ·have g9:((c.toNat:Int) == 42)=true:=by simp;omega
  have hG:1=G:=by rw [<- hg];exact (one_yes (by omega)).symm
  clear f9 hg f0 f1 f2 f3 f4 f5 f6 f7 f8
  subst hG
  go_enter Tryz.func145,Tryz.ntmps145
  go_wp2
  go_ret
  exact ⟨rfl,rfl⟩
 have g9:((c.toNat:Int) == 42)=false:=beq_eq_false_iff_ne.2 (by omega)
 have hG:0=G:=by rw [<- hg];exact (one_no (by omega)).symm
 clear hg f0 f1 f2 f3 f4 f5 f6 f7 f8 f9
 subst hG
 go_enter Tryz.func145,Tryz.ntmps145
 go_wp2
 go_ret
 exact ⟨rfl,rfl⟩
theorem pSign_two (s:ByteArray) (w:World) (c:UInt8) (h1:1 < s.size) (hs0:s[0]=c) (G:Nat) (hg:one (c.toNat:Int)=G)
  (p0:((s.extract 0 2).toList == [61,61])=false)
  (p1:((s.extract 0 2).toList == [33,61])=false)
  (p2:((s.extract 0 2).toList == [60,61])=false)
  (p3:((s.extract 0 2).toList == [38,38])=false)
  (p4:((s.extract 0 2).toList == [124,124])=false)
  : Calls Tryz.prog 145 #[.string s] w fun e w'=>e=.returned (.int .i64 (G:Int))/\w=w':=by
 have hz:(0:Int) < (s.size:Int):=by omega
 have hz1:(1:Int) < (s.size:Int):=by omega
 have hz2:(2:Int)<=(s.size:Int):=by omega
 by_cases f0:c.toNat=123
 ·have g0:((c.toNat:Int) == 123)=true:=by simp;omega
  have hG:1=G:=by rw [<- hg];exact (one_yes (by omega)).symm
  clear f0 hg
  subst hG
  go_enter Tryz.func145,Tryz.ntmps145
  go_wp2
  go_ret
  exact ⟨rfl,rfl⟩
 have g0:((c.toNat:Int) == 123)=false:=beq_eq_false_iff_ne.2 (by omega)
 by_cases f1:c.toNat=125
 ·have g1:((c.toNat:Int) == 125)=true:=by simp;omega
  have hG:1=G:=by rw [<- hg];exact (one_yes (by omega)).symm
  clear f1 hg f0
  subst hG
  go_enter Tryz.func145,Tryz.ntmps145
  go_wp2
  go_ret
  exact ⟨rfl,rfl⟩
 have g1:((c.toNat:Int) == 125)=false:=beq_eq_false_iff_ne.2 (by omega)
 by_cases f2:c.toNat=40
 ·have g2:((c.toNat:Int) == 40)=true:=by simp;omega
  have hG:1=G:=by rw [<- hg];exact (one_yes (by omega)).symm
  clear f2 hg f0 f1
  subst hG
  go_enter Tryz.func145,Tryz.ntmps145
  go_wp2
  go_ret
  exact ⟨rfl,rfl⟩
 have g2:((c.toNat:Int) == 40)=false:=beq_eq_false_iff_ne.2 (by omega)
 by_cases f3:c.toNat=41
 ·have g3:((c.toNat:Int) == 41)=true:=by simp;omega
  have hG:1=G:=by rw [<- hg];exact (one_yes (by omega)).symm
  clear f3 hg f0 f1 f2
  subst hG
  go_enter Tryz.func145,Tryz.ntmps145
  go_wp2
  go_ret
  exact ⟨rfl,rfl⟩
 have g3:((c.toNat:Int) == 41)=false:=beq_eq_false_iff_ne.2 (by omega)
 by_cases f4:c.toNat=61
 ·have g4:((c.toNat:Int) == 61)=true:=by simp;omega
  have hG:1=G:=by rw [<- hg];exact (one_yes (by omega)).symm
  clear f4 hg f0 f1 f2 f3
  subst hG
  go_enter Tryz.func145,Tryz.ntmps145
  go_wp2
  go_ret
  exact ⟨rfl,rfl⟩
 have g4:((c.toNat:Int) == 61)=false:=beq_eq_false_iff_ne.2 (by omega)
 by_cases f5:c.toNat=33
 ·have g5:((c.toNat:Int) == 33)=true:=by simp;omega
  have hG:1=G:=by rw [<- hg];exact (one_yes (by omega)).symm
  clear f5 hg f0 f1 f2 f3 f4
  subst hG
  go_enter Tryz.func145,Tryz.ntmps145
  go_wp2
  go_ret
  exact ⟨rfl,rfl⟩
 have g5:((c.toNat:Int) == 33)=false:=beq_eq_false_iff_ne.2 (by omega)
 by_cases f6:c.toNat=60
 ·have g6:((c.toNat:Int) == 60)=true:=by simp;omega
  have hG:1=G:=by rw [<- hg];exact (one_yes (by omega)).symm
  clear f6 hg f0 f1 f2 f3 f4 f5
  subst hG
  go_enter Tryz.func145,Tryz.ntmps145
  go_wp2
  go_ret
  exact ⟨rfl,rfl⟩
 have g6:((c.toNat:Int) == 60)=false:=beq_eq_false_iff_ne.2 (by omega)
 by_cases f7:c.toNat=43
 ·have g7:((c.toNat:Int) == 43)=true:=by simp;omega
  have hG:1=G:=by rw [<- hg];exact (one_yes (by omega)).symm
  clear f7 hg f0 f1 f2 f3 f4 f5 f6
  subst hG
  go_enter Tryz.func145,Tryz.ntmps145
  go_wp2
  go_ret
  exact ⟨rfl,rfl⟩
 have g7:((c.toNat:Int) == 43)=false:=beq_eq_false_iff_ne.2 (by omega)
 by_cases f8:c.toNat=45
 ·have g8:((c.toNat:Int) == 45)=true:=by simp;omega
  have hG:1=G:=by rw [<- hg];exact (one_yes (by omega)).symm
  clear f8 hg f0 f1 f2 f3 f4 f5 f6 f7
  subst hG
  go_enter Tryz.func145,Tryz.ntmps145
  go_wp2
  go_ret
  exact ⟨rfl,rfl⟩
 have g8:((c.toNat:Int) == 45)=false:=beq_eq_false_iff_ne.2 (by omega)
 by_cases f9:c.toNat=42
 ·have g9:((c.toNat:Int) == 42)=true:=by simp;omega
  have hG:1=G:=by rw [<- hg];exact (one_yes (by omega)).symm
  clear f9 hg f0 f1 f2 f3 f4 f5 f6 f7 f8
  subst hG
  go_enter Tryz.func145,Tryz.ntmps145
  go_wp2
  go_ret
  exact ⟨rfl,rfl⟩
 have g9:((c.toNat:Int) == 42)=false:=beq_eq_false_iff_ne.2 (by omega)
 have hG:0=G:=by rw [<- hg];exact (one_no (by omega)).symm
 clear hg f0 f1 f2 f3 f4 f5 f6 f7 f8 f9
 subst hG
 go_enter Tryz.func145,Tryz.ntmps145
 go_wp2
 go_ret
 exact ⟨rfl,rfl⟩
theorem pSign_any (s:ByteArray) (w:World) (h0:0 < s.size) :
  Calls Tryz.prog 145 #[.string s] w fun e w'=>e=.returned (.int .i64 (sgn (runes (bl s)):Int))/\w=w':=by
 have hlen:(bl s).length=s.size:=rfl
 by_cases h1:1 < s.size
 ·obtain ⟨c,d,r,hl⟩:∃ c d r,bl s=c :: d :: r:=by
   match hb:bl s with
   | []=>rw [hb] at hlen;simp at hlen;omega
   | [_]=>rw [hb] at hlen;simp at hlen;omega
   | c :: d :: r=>exact ⟨c,d,r,rfl⟩
  have hs0:s[0]=c:=by
   have:s[0]=(bl s)[0]'(by omega):=rfl
   rw [this];simp [hl]
  have hq:∀ x y:UInt8,((s.extract 0 2).toList == [x,y])=(decide (c=x) && decide (d=y)):=fun x y=>two_beq s c d x y r hl
  rw [hl,sgn_two]
  have hz:(0:Int) < (s.size:Int):=by omega
  have hz1:(1:Int) < (s.size:Int):=by omega
  have hz2:(2:Int)<=(s.size:Int):=by omega
  by_cases a0:c=61/\d=61
  ·have p0:((s.extract 0 2).toList == [61,61])=true:=by rw [hq];simp [a0.1,a0.2]
   have hG:(if pair (c.toNat:Int) (d.toNat:Int)=true then 2 else one (c.toNat:Int))=2:=by rw [a0.1,a0.2];decide
   rw [hG]
   clear hq a0 hG
   go_enter Tryz.func145,Tryz.ntmps145
   go_wp2
   go_ret
   exact ⟨rfl,rfl⟩
  have p0:((s.extract 0 2).toList == [61,61])=false:=by rw [hq];exact and_no a0
  by_cases a1:c=33/\d=61
  ·have p1:((s.extract 0 2).toList == [33,61])=true:=by rw [hq];simp [a1.1,a1.2]
   have hG:(if pair (c.toNat:Int) (d.toNat:Int)=true then 2 else one (c.toNat:Int))=2:=by rw [a1.1,a1.2];decide
   rw [hG]
   clear hq a1 hG a0
   go_enter Tryz.func145,Tryz.ntmps145
   go_wp2
   go_ret
   exact ⟨rfl,rfl⟩
  have p1:((s.extract 0 2).toList == [33,61])=false:=by rw [hq];exact and_no a1
  by_cases a2:c=60/\d=61
  ·have p2:((s.extract 0 2).toList == [60,61])=true:=by rw [hq];simp [a2.1,a2.2]
   have hG:(if pair (c.toNat:Int) (d.toNat:Int)=true then 2 else one (c.toNat:Int))=2:=by rw [a2.1,a2.2];decide
   rw [hG]
   clear hq a2 hG a0 a1
   go_enter Tryz.func145,Tryz.ntmps145
   go_wp2
   go_ret
   exact ⟨rfl,rfl⟩
  have p2:((s.extract 0 2).toList == [60,61])=false:=by rw [hq];exact and_no a2
  by_cases a3:c=38/\d=38
  ·have p3:((s.extract 0 2).toList == [38,38])=true:=by rw [hq];simp [a3.1,a3.2]
   have hG:(if pair (c.toNat:Int) (d.toNat:Int)=true then 2 else one (c.toNat:Int))=2:=by rw [a3.1,a3.2];decide
   rw [hG]
   clear hq a3 hG a0 a1 a2
   go_enter Tryz.func145,Tryz.ntmps145
   go_wp2
   go_ret
   exact ⟨rfl,rfl⟩
  have p3:((s.extract 0 2).toList == [38,38])=false:=by rw [hq];exact and_no a3
  by_cases a4:c=124/\d=124
  ·have p4:((s.extract 0 2).toList == [124,124])=true:=by rw [hq];simp [a4.1,a4.2]
   have hG:(if pair (c.toNat:Int) (d.toNat:Int)=true then 2 else one (c.toNat:Int))=2:=by rw [a4.1,a4.2];decide
   rw [hG]
   clear hq a4 hG a0 a1 a2 a3
   go_enter Tryz.func145,Tryz.ntmps145
   go_wp2
   go_ret
   exact ⟨rfl,rfl⟩
  have p4:((s.extract 0 2).toList == [124,124])=false:=by rw [hq];exact and_no a4
  have hp:pair (c.toNat:Int) (d.toNat:Int)=false:=by
   have hi:∀ (x:UInt8) (k:Nat),(k:Int)=(x.toNat:Int)->x=UInt8.ofNat k:=fun x k h=>by
    have e:k=x.toNat:=by omega
    rw [e];simp
   refine decide_eq_false ?_
   rintro (⟨hb,ha⟩|⟨ha,hb⟩|⟨ha,hb⟩)
   ·rcases ha with ha|ha|ha
    ·exact a0 ⟨hi c 61 ha.symm,hi d 61 hb.symm⟩
    ·exact a1 ⟨hi c 33 ha.symm,hi d 61 hb.symm⟩
    ·exact a2 ⟨hi c 60 ha.symm,hi d 61 hb.symm⟩
   ·exact a3 ⟨hi c 38 ha.symm,hi d 38 hb.symm⟩
   ·exact a4 ⟨hi c 124 ha.symm,hi d 124 hb.symm⟩
  have hG:(if pair (c.toNat:Int) (d.toNat:Int)=true then 2 else one (c.toNat:Int))=one (c.toNat:Int):=by rw [hp];rfl
  rw [hG]
  exact pSign_two s w c h1 hs0 _ rfl p0 p1 p2 p3 p4
 ·obtain ⟨c,hl⟩:∃ c,bl s=[c]:=by
   match hb:bl s with
   | []=>rw [hb] at hlen;simp at hlen;omega
   | [c]=>exact ⟨c,rfl⟩
   | _ :: _ :: _=>rw [hb] at hlen;simp at hlen;omega
  have hs0:s[0]=c:=by
   have:s[0]=(bl s)[0]'(by omega):=rfl
   rw [this];simp [hl]
  rw [hl,sgn_one]
  exact pSign_one s w c h0 h1 hs0 _ rfl
def pc (l:List UInt8):Nat × Nat:=
 if (nx l).1=32∨(nx l).1=9∨(nx l).1=10 then (0,1) else if (nx l).1=35 then (0,rest (runes l)) else if letter (nx l).1=true then (1,spn (runes l))
 else if dgt (nx l).1=true then (2,spn (runes l)) else (3,sgn (runes l))
def pcB (l:List UInt8):Nat:=(byt ((runes l).take (pc l).2)).length
abbrev tup22 (a b:Nat):Value:=.tuple #[.int .i64 (a:Int),.int .i64 (b:Int)]
theorem pPiece_any (s:ByteArray) (w:World) (hs:s.size<=140737488351232) (h0:0 < s.size) :
  Calls Tryz.prog 81 #[.int .i32 (rn (nx (bl s)).1),.string s] w fun e w'=>e=.returned (tup22 (pc (bl s)).1 (pcB (bl s)))/\Below w.heap.size w w':=by
 have hne:bl s≠[]:=by intro e;have:=bl_length s;rw [e] at this;simp at this;omega
 have h1:=pRemark_any s w hs
 have h2:=pRun_any s w hs
 have h3:=pSign_any s w h0
 have h4:=pLetter_any (rn (nx (bl s)).1) w
 have h5:=pDigit_any (rn (nx (bl s)).1) w
 rw [letter_rn] at h4
 rw [dgt_rn] at h5
 have hone:0<=(nx (bl s)).1/\(nx (bl s)).1 < 128->(byt ((runes (bl s)).take 1)).length=1:=fun h=>by
  obtain ⟨c,e1,_⟩:=asc_one (l:=bl s) (v:=((nx (bl s)).1,(bl s).take (nx (bl s)).2)) (by rw [runes_cons hne];simp) h
  rw [runes_cons hne,List.take_succ_cons,List.take_zero,byt_cons]
  simp only at e1
  rw [e1];rfl
 have hsg:=sgn_bytes (bl s)
 unfold pcB
 unfold pc
 have q1:=rn_small (r:=(nx (bl s)).1) (k:=32) (by omega)
 have q2:=rn_small (r:=(nx (bl s)).1) (k:=9) (by omega)
 have q3:=rn_small (r:=(nx (bl s)).1) (k:=10) (by omega)
 have q4:=rn_small (r:=(nx (bl s)).1) (k:=35) (by omega)
 have hR:(byt ((runes (bl s)).take (rest (runes (bl s))))).length=rsb (bl s):=rfl
 have hS:(byt ((runes (bl s)).take (spn (runes (bl s))))).length=spb (bl s):=rfl
 obtain ⟨r,hr⟩:∃ r,(nx (bl s)).1=r:=⟨_,rfl⟩
 obtain ⟨x,hx⟩:∃ x,rn r=x:=⟨_,rfl⟩
 obtain ⟨a,ha⟩:∃ a,rsb (bl s)=a:=⟨_,rfl⟩
 obtain ⟨b,hb⟩:∃ b,spb (bl s)=b:=⟨_,rfl⟩
 obtain ⟨c,hc⟩:∃ c,sgn (runes (bl s))=c:=⟨_,rfl⟩
 rw [hr] at h4 h5 q1 q2 q3 q4 hone ⊢
 rw [hx] at h4 h5 q1 q2 q3 q4 ⊢
 rw [ha] at h1 hR
 rw [hb] at h2 hS
 rw [hc] at h3 hsg ⊢
 by_cases c1:r=32∨r=9∨r=10
 ·rw [if_pos c1]
  simp only [hone (by omega)]
  clear h1 h2 h3 h4 h5 hone hsg hR hS hr hx ha hb hc hne q4
  by_cases k1:r=32
  ·have e1:(x == 32)=true:=by rw [q1.2 k1];rfl
   clear c1 q1 q2 q3 k1
   go_enter Tryz.func81,Tryz.ntmps81
   go_wp2
   go_ret2
   exact ⟨rfl,Below.refl _ _⟩
  have e1:(x == 32)=false:=beq_eq_false_iff_ne.2 (fun e=>k1 (q1.1 e))
  by_cases k2:r=9
  ·have e2:(x == 9)=true:=by rw [q2.2 k2];rfl
   clear c1 q1 q2 q3 k1 k2
   go_enter Tryz.func81,Tryz.ntmps81
   go_wp2
   go_ret2
   exact ⟨rfl,Below.refl _ _⟩
  have e2:(x == 9)=false:=beq_eq_false_iff_ne.2 (fun e=>k2 (q2.1 e))
  have e3:(x == 10)=true:=by rw [q3.2 (by omega)];rfl
  clear c1 q1 q2 q3 k1 k2
  go_enter Tryz.func81,Tryz.ntmps81
  go_wp2
  go_ret2
  exact ⟨rfl,Below.refl _ _⟩
 rw [if_neg c1]
 have e1:(x == 32)=false:=beq_eq_false_iff_ne.2 (fun e=>c1 (.inl (q1.1 e)))
 have e2:(x == 9)=false:=beq_eq_false_iff_ne.2 (fun e=>c1 (.inr (.inl (q2.1 e))))
 have e3:(x == 10)=false:=beq_eq_false_iff_ne.2 (fun e=>c1 (.inr (.inr (q3.1 e))))
 by_cases c2:r=35
 ·rw [if_pos c2]
  simp only [hR]
  have e4:(x == 35)=true:=by rw [q4.2 c2];rfl
  clear h2 h3 h4 h5 hone hsg hR hS hr hx ha hb hc hne q1 q2 q3 q4 c1 c2
  go_enter Tryz.func81,Tryz.ntmps81
  go_wp2_with (first
   | (go_at_call 141;refine h1.mono ?_;rintro e w1 ⟨rfl,b1⟩))
  go_ret2
  exact ⟨rfl,b1⟩
 rw [if_neg c2]
 have e4:(x == 35)=false:=beq_eq_false_iff_ne.2 (fun e=>c2 (q4.1 e))
 cases hl:letter r with
 | true=>
  rw [if_pos rfl]
  simp only [hS]
  rw [hl] at h4
  clear h1 h3 h5 hone hsg hR hS hr hx ha hb hc hne q1 q2 q3 q4 c1 c2 hl
  go_enter Tryz.func81,Tryz.ntmps81
  go_wp2_with (first
   | (go_at_call 142;refine h4.mono ?_;rintro e w' ⟨rfl,rfl⟩)
   | (go_at_call 143;refine h2.mono ?_;rintro e w1 ⟨rfl,b1⟩))
  go_ret2
  exact ⟨rfl,b1⟩
 | false=>
  rw [if_neg (by decide)]
  rw [hl] at h4
  cases hd:dgt r with
  | true=>
   rw [if_pos rfl]
   simp only [hS]
   rw [hd] at h5
   clear h1 h3 hone hsg hR hS hr hx ha hb hc hne q1 q2 q3 q4 c1 c2 hl hd
   go_enter Tryz.func81,Tryz.ntmps81
   go_wp2_with (first
    | (go_at_call 142;refine h4.mono ?_;rintro e w' ⟨rfl,rfl⟩)
    | (go_at_call 144;refine h5.mono ?_;rintro e w' ⟨rfl,rfl⟩)
    | (go_at_call 143;refine h2.mono ?_;rintro e w1 ⟨rfl,b1⟩))
   go_ret2
   exact ⟨rfl,b1⟩
  | false=>
   rw [if_neg (by decide)]
   simp only [hsg]
   rw [hd] at h5
   clear h1 h2 hone hsg hR hS hr hx ha hb hc hne q1 q2 q3 q4 c1 c2 hl hd
   go_enter Tryz.func81,Tryz.ntmps81
   go_wp2_with (first
    | (go_at_call 142;refine h4.mono ?_;rintro e w' ⟨rfl,rfl⟩)
    | (go_at_call 144;refine h5.mono ?_;rintro e w' ⟨rfl,rfl⟩)
    | (go_at_call 145;refine h3.mono ?_;rintro e w' ⟨rfl,rfl⟩))
   go_ret2
   exact ⟨rfl,Below.refl _ _⟩
def rightS (K:Nat) (t:List UInt8):Bool:=if K=1 then nameS t else if K=2 then numB t else if K=3 then !(decide (t=[])) else true
theorem pRight_any (K:Nat) (t:ByteArray) (w:World) (hs:t.size<=140737488351232) :
  Calls Tryz.prog 82 #[.int .i64 (K:Int),.string t] w fun e w'=>e=.returned (.bool (rightS K (bl t)))/\Below w.heap.size w w':=by
 have h1:=pName_any t w hs
 have h2:=pNumber_any t w hs
 unfold rightS
 obtain ⟨a,ha⟩:∃ a,nameS (bl t)=a:=⟨_,rfl⟩
 obtain ⟨b,hb⟩:∃ b,numB (bl t)=b:=⟨_,rfl⟩
 rw [ha] at h1 ⊢
 rw [hb] at h2 ⊢
 clear ha hb
 by_cases k1:K=1
 ·subst k1
  rw [if_pos rfl]
  go_enter Tryz.func82,Tryz.ntmps82
  go_wp2_with (first
   | (go_at_call 89;refine h1.mono ?_;rintro e w1 ⟨rfl,b1⟩))
  go_ret
  exact ⟨rfl,b1⟩
 rw [if_neg k1]
 have e1:((K:Int) == 1)=false:=beq_eq_false_iff_ne.2 (by omega)
 by_cases k2:K=2
 ·subst k2
  rw [if_pos rfl]
  go_enter Tryz.func82,Tryz.ntmps82
  go_wp2_with (first
   | (go_at_call 146;refine h2.mono ?_;rintro e w1 ⟨rfl,b1⟩))
  go_ret
  exact ⟨rfl,b1⟩
 rw [if_neg k2]
 have e2:((K:Int) == 2)=false:=beq_eq_false_iff_ne.2 (by omega)
 by_cases k3:K=3
 ·subst k3
  rw [if_pos rfl]
  have e:(t.toList == [])=decide (bl t=[]):=by rw [ByteArray.toList_eq,Bool.eq_iff_iff];simp
  obtain ⟨z,hz⟩:∃ z,decide (bl t=[])=z:=⟨_,rfl⟩
  rw [hz] at e ⊢
  clear hz h1 h2 e1 e2
  go_enter Tryz.func82,Tryz.ntmps82
  go_wp2
  go_ret
  exact ⟨by simp [bne,e],Below.refl _ _⟩
 rw [if_neg k3]
 have e3:((K:Int) == 3)=false:=beq_eq_false_iff_ne.2 (by omega)
 clear h1 h2
 go_enter Tryz.func82,Tryz.ntmps82
 go_wp2
 go_ret
 exact ⟨rfl,Below.refl _ _⟩
abbrev ps (a b:Int):Value:=.agg #[.int .i64 a,.int .i64 b]
theorem pBehind_feed (ln co:Int) (w:World) (h1:0<=ln/\ln<=140737488351233) :
  Calls Tryz.prog 83 #[ps ln co,.int .i32 10] w fun e w'=>e=.returned (ps (ln+1) 1)/\Below w.heap.size w w':=by
 go_enter Tryz.func83,Tryz.ntmps83
 go_wp2
 exact bodyPost_ret (v:=ps (ln+1) 1) (by simp [results,Tryz.results83,go_sem]) rfl ⟨rfl,((Below.refl _ _).alloc Nat.le.refl _).alloc (by simp) _⟩
theorem pBehind_on (ln co r:Int) (w:World) (h1:0<=co/\co<=140737488351233) (hr:r≠10) :
  Calls Tryz.prog 83 #[ps ln co,.int .i32 r] w fun e w'=>e=.returned (ps ln (co+1))/\Below w.heap.size w w':=by
 have e1:(r == 10)=false:=beq_eq_false_iff_ne.2 hr
 clear hr
 go_enter Tryz.func83,Tryz.ntmps83
 go_wp2
 exact bodyPost_ret (v:=ps ln (co+1)) (by simp [results,Tryz.results83,go_sem]) rfl ⟨rfl,((Below.refl _ _).alloc Nat.le.refl _).alloc (by simp) _⟩
def It0 (w:World) (k:Nat) (s:ByteArray) (p:Nat):Prop:=w.heap[k]?=some (.stringIter s p)
theorem It0.keepB {w w':World}{k B:Nat}{s:ByteArray}{p:Nat}(h:It0 w k s p) (hb:Below B w w') (hB:k < B):It0 w' k s p:=(hb.block k hB).trans h
theorem It0.lt {w:World}{k:Nat}{s:ByteArray}{p:Nat}(h:It0 w k s p):k < w.heap.size:=(Array.getElem?_eq_some_iff.1 h).1
theorem It0.keep {w w':World}{k:Nat}{s:ByteArray}{p:Nat}(h:It0 w k s p) (hb:Below w.heap.size w w'):It0 w' k s p:=h.keepB hb h.lt
theorem It0.set {w:World}{k X i:Nat}{s:ByteArray}{p:Nat}(h:It0 w k s p) (hne:X≠k) (v:Value):It0 (w.setCell ⟨X,i,none⟩ v) k s p:=by
 unfold It0
 rw [Below.heap_setCell _ _ _ _ (fun e=>hne e.symm)]
 exact h
theorem pEnd_any (s:ByteArray) (w:World) (hs:s.size<=140737488351232) :
  Calls Tryz.prog 61 #[.string s] w fun e w'=>e=.returned (.agg #[.int .i64 (endR (runes (bl s)) 1 1).1,.int .i64 (endR (runes (bl s)) 1 1).2])/\Below w.heap.size w w':=by
 obtain ⟨⟨eL,eC⟩,hE⟩:∃ x,endR (runes (bl s)) 1 1=x:=⟨_,rfl⟩
 rw [hE]
 have HE:Hid (endR (runes ((bl s).drop 0)) 1 1=(eL,eC)):=hE
 clear hE
 go_enter Tryz.func61,Tryz.ntmps61
 go_wp2
 go_loopw [] (fun wr=>∃ (k:Nat) (ln co:Int),It0 wr (w.heap.size+2) s k/\k<=s.size/\Hid (endR (runes ((bl s).drop k)) ln co=(eL,eC))/\1<=ln/\1<=co/\ln<=1+k/\co<=1+k/\
  At wr (w.heap.size+1) (.int .i64 ln) (.int .i64 co)/\(∃ a b,At wr w.heap.size a b)/\Below w.heap.size w wr) (fun wr=>s.size - wr.iterPos (w.heap.size+2))
 case atStart=>
  refine ⟨0,1,1,?_,by omega,HE,by omega,by omega,by omega,by omega,(At.new _ _ _ _ _ (by simp)).keep ((Below.refl _ _).alloc Nat.le.refl _),⟨_,_,((At.new w (.int .i64 0) (.int .i64 0) 23 _ rfl).keep ((Below.refl _ _).alloc Nat.le.refl _)).keep ((Below.refl _ _).alloc Nat.le.refl _)⟩,(((Below.refl _ _).alloc Nat.le.refl _).alloc (by simp) _).alloc (by simp;omega) _⟩
  have:=World.iter_heap ((w.alloc (.cells #[.int .i64 0,.int .i64 0] 23)).alloc (.cells #[.int .i64 1,.int .i64 1] 23)) s 0
  simpa [It0] using this
 case round=>
  obtain ⟨k,ln,co,hit,hk,hv,hl1,hc1,hl2,hc2,hA,⟨a,b,hR⟩,hb⟩:=hrel
  by_cases hlt:k < s.size
  ·have hnx:∀ ty,(Instr.next (.pointer (some ⟨w.heap.size+2,0,none⟩)) true ty).run Tryz.prog wr=_:=fun ty=>Lib.run_next_any_at wr (w.heap.size+2) s k ty hit hlt
   obtain ⟨d1,d2⟩:=dec_nx hlt
   have hne:=drop_ne (l:=bl s) (by rw [bl_length];exact hlt)
   have hc:=runes_cons hne
   have hps:=nx_pos hne
   have hnl:=nx_le hne
   rw [List.length_drop,bl_length] at hnl
   obtain ⟨r,hr⟩:∃ r,(nx ((bl s).drop k)).1=r:=⟨_,rfl⟩
   obtain ⟨q,hq⟩:∃ q,(nx ((bl s).drop k)).2=q:=⟨_,rfl⟩
   rw [hr] at d1
   rw [hr,hq] at hc
   rw [hq] at d2 hps hnl
   rw [d1,d2] at hnx
   have hvv:=hv.out
   rw [hc,List.drop_drop] at hvv
   have bi:=Lib.below_iterAt (Below.refl (w.heap.size+2) wr) (k:=w.heap.size+2) Nat.le.refl s (k+q)
   have hit2:It0 (wr.iterAt (w.heap.size+2) s (k+q)) (w.heap.size+2) s (k+q):=Lib.iterAt_heap wr (w.heap.size+2) s k (k+q) hit
   have hA2:=hA.keepB bi (by omega)
   have hR2:=hR.keepB bi (by omega)
   have hb2:=hb.trans (bi.mono (by omega))
   obtain ⟨wq,hwq⟩:∃ wq,wr.iterAt (w.heap.size+2) s (k+q)=wq:=⟨_,rfl⟩
   rw [hwq] at hnx hit2 hA2 hR2 hb2
   obtain ⟨y0,y1,y2,y3⟩:=id hA2
   by_cases h10:r=10
   ·have hx:rn r=10:=(rn_small (by omega)).2 h10
    rw [hx] at hnx
    have hn:Hid (endR (runes ((bl s).drop (k+q))) (ln+1) 1=(eL,eC)):=by rw [endR,if_pos h10] at hvv;exact hvv
    have h26:=pBehind_feed ln co wq (by omega)
    clear hvv hc hr hq hne d1 d2 h10 hx hwq bi hA hR
    go_wp2_with (first
     | (go_at_call 83;refine h26.mono ?_;rintro e w1 ⟨rfl,b1⟩;have hA1:=hA2.keep b1;have hR1:=hR2.keep b1;have hI1:=hit2.keep b1;obtain ⟨z0,z1,z2,z3⟩:=id hA1;have b2:=hb2.trans (b1.mono hb2.size);clear h26 hA2 hR2 hb2 y0 y1 y2 y3))
    have hI2:=(hI1.set (X:=w.heap.size+1) (i:=0) (by omega) (.int .i64 (ln+1))).set (X:=w.heap.size+1) (i:=1) (by omega) (.int .i64 1)
    go_roundw
    case rel=>
     exact ⟨k+q,ln+1,1,hI2,by omega,hn,by omega,by omega,by omega,by omega,(hA1.set0 _).set1 _,⟨a,b,(hR1.far (by omega) _).far (by omega) _⟩,(b2.setCell (by simp) _).setCell (by simp) _⟩
    case measure=>rw [iterPos_of hI2,iterPos_of hit];omega
   ·have hx:rn r≠10:=fun e=>h10 ((rn_small (by omega)).1 e)
    have hn:Hid (endR (runes ((bl s).drop (k+q))) ln (co+1)=(eL,eC)):=by rw [endR,if_neg h10] at hvv;exact hvv
    have h26:=pBehind_on ln co (rn r) wq (by omega) hx
    clear hvv hc hr hq hne d1 d2 h10 hx hwq bi hA hR
    go_wp2_with (first
     | (go_at_call 83;refine h26.mono ?_;rintro e w1 ⟨rfl,b1⟩;have hA1:=hA2.keep b1;have hR1:=hR2.keep b1;have hI1:=hit2.keep b1;obtain ⟨z0,z1,z2,z3⟩:=id hA1;have b2:=hb2.trans (b1.mono hb2.size);clear h26 hA2 hR2 hb2 y0 y1 y2 y3))
    have hI2:=(hI1.set (X:=w.heap.size+1) (i:=0) (by omega) (.int .i64 ln)).set (X:=w.heap.size+1) (i:=1) (by omega) (.int .i64 (co+1))
    go_roundw
    case rel=>
     exact ⟨k+q,ln,co+1,hI2,by omega,hn,by omega,by omega,by omega,by omega,(hA1.set0 _).set1 _,⟨a,b,(hR1.far (by omega) _).far (by omega) _⟩,(b2.setCell (by simp) _).setCell (by simp) _⟩
    case measure=>rw [iterPos_of hI2,iterPos_of hit];omega
  ·have hnx:∀ ty,(Instr.next (.pointer (some ⟨w.heap.size+2,0,none⟩)) true ty).run Tryz.prog wr=_:=fun ty=>Lib.run_next_end_at wr (w.heap.size+2) s k ty hit hlt
   have hnil:(bl s).drop k=[]:=List.drop_eq_nil_of_le (by rw [bl_length];omega)
   have hvv:=hv.out
   rw [hnil] at hvv
   have h2:(ln,co)=(eL,eC):=hvv
   obtain ⟨rfl,rfl⟩:=Prod.mk.inj h2
   obtain ⟨y0,y1,y2,y3⟩:=id hA
   obtain ⟨z0,z1,z2,z3⟩:=id hR
   have r0:=(hR.set0 (.int .i64 ln)).set1 (.int .i64 co)
   obtain ⟨u0,u1,u2,u3⟩:=id r0
   have b2:Below w.heap.size w ((wr.setCell ⟨w.heap.size,0,none⟩ (.int .i64 ln)).setCell ⟨w.heap.size,1,none⟩ (.int .i64 co)):=(hb.setCell (by simp) _).setCell (by simp) _
   clear hvv hnil h2 hA hR
   go_wp2
   exact bodyPost_ret (v:=.agg #[.int .i64 ln,.int .i64 co]) (by simp [results,Tryz.results61,go_sem,u0,u1]) rfl ⟨rfl,b2⟩
end Go.Proofs.YtfjdceknbdmhpaaGreatDoor
namespace Go.Proofs.YtfjdceknbdmhpaaGreatDoor
open Go.Shelf Go.RowKit Go.Lib
set_option linter.unusedSimpArgs false
set_option linter.unusedVariables false
def renC:Ren:={ f:=fun x=>match x with|316=>76|n=>n,t:=fun x=>match x with|9=>9|3=>3|4=>4|37=>76|0=>0|127=>147|5=>5|n=>n,g:=fun x=>x }
theorem laysC:LaysM.n316 Tryz.prog renC:=
 {mixed:=by kernel_rfl,f316:=Tryz.func76.trans (congrArg some (by kernel_rfl)),
  t0:=Tryz.underlying0,a0:=Tryz.isAgg0,z0:=Tryz.sizeOf0,v0:=Tryz.zeroValue0,t3:=Tryz.underlying3,a3:=Tryz.isAgg3,z3:=Tryz.sizeOf3,v3:=Tryz.zeroValue3,t4:=Tryz.underlying4,a4:=Tryz.isAgg4,z4:=Tryz.sizeOf4,v4:=Tryz.zeroValue4,
  t9:=Tryz.underlying9,a9:=Tryz.isAgg9,z9:=Tryz.sizeOf9,v9:=Tryz.zeroValue9,t37:=Tryz.underlying76,a37:=Tryz.isAgg76,z37:=Tryz.sizeOf76,v37:=Tryz.zeroValue76,
  t127:=Tryz.underlying147,a127:=Tryz.isAgg147,z127:=Tryz.sizeOf147,v127:=Tryz.zeroValue147,t5:=Tryz.underlying5,a5:=Tryz.isAgg5,z5:=Tryz.sizeOf5,v5:=Tryz.zeroValue5,
  i0:=by kernel_rfl,i3:=by kernel_rfl,i4:=by kernel_rfl,i5:=by kernel_rfl,i9:=by kernel_rfl,i37:=by kernel_rfl,i127:=by kernel_rfl }
theorem pClone_any (s:ByteArray) (w:World) (hs:s.size<=140737488351232) :
  Calls Tryz.prog 38 #[.string s] w fun e w'=>e=.returned (.string s)/\Below w.heap.size w w':=by
 have h1:Calls Tryz.prog 76 #[.string s] w fun e w'=>e=.returned (.string s)/\Below w.heap.size w w':=Any.stringslite_Clone laysC s w (by omega)
 go_enter Tryz.func38,Tryz.ntmps38
 go_wp2_with (first
  | (go_at_call 76;refine h1.mono ?_;rintro e w1 ⟨rfl,b1⟩))
 go_ret
 exact ⟨rfl,b1⟩
theorem right_word {l:List UInt8}(hl:l≠[]) (h10:(nx l).1≠10) (h32:¬ ((nx l).1=32∨(nx l).1=9)) (h35:(nx l).1≠35) :
  1<=(pc l).1/\(rightS (pc l).1 (l.take (pcB l))=true->fst1 (runes l)=pc l)/\(rightS (pc l).1 (l.take (pcB l))=false->(fst1 (runes l)).1=0):=by
 have hc:=runes_cons hl
 have hf:=fst1_cons ((nx l).1,l.take (nx l).2) (runes (l.drop (nx l).2))
 rw [<- hc] at hf
 simp only at hf
 have htk:∀ m,m<=(runes l).length->l.take (byt ((runes l).take m)).length=byt ((runes l).take m):=fun m _=>by
  have e2:byt ((runes l).take m)++byt ((runes l).drop m)=l:=by rw [<- byt_append,List.take_append_drop,byt_runes _ l Nat.le.refl]
  have e3:∀ (a b l:List UInt8),a++b=l->l.take a.length=a:=fun a b l h=>by rw [<- h];exact List.take_left
  exact e3 _ _ _ e2
 have hp:pc l=if letter (nx l).1=true then (1,spn (runes l)) else if dgt (nx l).1=true then (2,spn (runes l)) else (3,sgn (runes l)):=by
  unfold pc
  rw [if_neg (by omega),if_neg h35]
 unfold pcB
 rw [hp,hf]
 by_cases a:letter (nx l).1=true
 ·have hn:=name_spb hl a
  have hsp:l.take (byt ((runes l).take (spn (runes l)))).length=l.take (spb l):=rfl
  simp only [if_pos a]
  rw [hsp]
  unfold rightS
  rw [if_pos rfl,hn]
  refine ⟨Nat.le_refl _,fun h=>?_,fun h=>?_⟩
  ·rw [if_pos (of_decide_eq_true h)]
  ·rw [if_neg (of_decide_eq_false h)]
 ·simp only [if_neg a]
  by_cases d:dgt (nx l).1=true
  ·simp only [if_pos d]
   rw [htk _ (spn_le _)]
   unfold rightS
   rw [if_neg (by decide),if_pos rfl,numB_numb (l:=l) _ (fun v hv=>List.mem_of_mem_take hv)]
   refine ⟨by decide,fun h=>?_,fun h=>?_⟩
   ·rw [if_pos h]
   ·rw [if_neg (by rw [h];decide)]
  ·simp only [if_neg d]
   have hsb:=sgn_bytes l
   rw [htk _ (sgn_le _)]
   unfold rightS
   rw [if_neg (by decide),if_neg (by decide),if_pos rfl]
   refine ⟨by decide,fun h=>?_,fun h=>?_⟩
   ·rw [if_neg]
    intro e
    rw [e] at hsb
    have:byt ((runes l).take (sgn (runes l)))=[]:=List.eq_nil_of_length_eq_zero (by rw [e];exact hsb)
    rw [decide_eq_true this] at h
    cases h
   ·rw [if_pos]
    have:byt ((runes l).take (sgn (runes l)))=[]:=by simpa using h
    rw [this] at hsb
    exact hsb.symm
theorem spn_no10 {rs:List Ru}:∀ v∈rs.take (spn rs),v.1≠10:=fun v hv e=>by
 have:=spn_all rs v hv
 rw [e] at this
 revert this
 decide
theorem sgn_no10:∀ (rs:List Ru),∀ v∈rs.take (sgn rs),v.1≠10
 | [],v,h=>by simp [sgn] at h
 | [u],v,h=>by
  have hm:=List.mem_of_mem_take h
  rcases List.mem_cons.1 hm with rfl|hm
  ·intro e
   have:sgn [v]=0:=by show one v.1=0;rw [e];decide
   rw [this] at h
   simp at h
  ·simp at hm
 | u :: x :: t,v,h=>by
  have e:sgn (u :: x :: t)=if pair u.1 x.1=true then 2 else one u.1:=rfl
  by_cases hp:pair u.1 x.1=true
  ·rw [e,if_pos hp] at h
   have:=of_decide_eq_true hp
   simp only [List.take_succ_cons,List.take_zero,List.mem_cons,List.not_mem_nil,or_false] at h
   rcases h with rfl|rfl<;>omega
  ·rw [e,if_neg hp] at h
   intro h10
   unfold one at h
   split at h
   ·simp only [List.take_succ_cons,List.take_zero,List.mem_cons,List.not_mem_nil,or_false] at h
    subst h;omega
   ·simp at h
theorem rest_no10:∀ (rs:List Ru),∀ v∈rs.take (rest rs),v.1≠10
 | [],v,h=>by simp [rest] at h
 | u :: t,v,h=>by
  unfold rest at h
  by_cases hu:u.1=10
  ·rw [if_pos hu] at h;simp at h
  ·rw [if_neg hu,List.take_succ_cons] at h
   rcases List.mem_cons.1 h with rfl|h
   ·exact hu
   ·exact rest_no10 t v h
end Go.Proofs.YtfjdceknbdmhpaaGreatDoor
namespace Go.Proofs.YtfjdceknbdmhpaaGreatDoor
open Go.RowKit Go.Lib
set_option linter.unusedSimpArgs false
set_option linter.unusedVariables false
attribute [local go_sem ↓] Go.wp_at_zero Go.wp_at_succ
def FormedP:Prop:=∀ (d:Nat) (t:T d) (w:World),Cl d t->cnt d t<=100000->shrt 1000 d t=true->Calls Tryz.prog 240 #[exV d t] w fun r w'=>r=.returned (.bool (fmC d t))/\Below w.heap.size w w'
theorem bthen {a b c:World}(h:Below a.heap.size a b) (k:Below b.heap.size b c):Below a.heap.size a c:=h.trans (k.mono h.size)
theorem At4.on {w w':World}{X:Nat}{a b c e:Value}(h:At4 w X a b c e) (hb:Below w.heap.size w w'):At4 w' X a b c e:=h.keepB hb (World.block_lt_of_cell? w _ h.1)
theorem small_cln {d:Nat}{t:T d}(h:0<=sml d t 0 200):cnt (d+1) (cln d t)<=1000/\shrt 1000 (d+1) (cln d t)=true:=by
 obtain ⟨h1,h2⟩:=sml_ok d t 0 200 h
 have h3:=cnt_cln d t
 exact ⟨by omega,shrt_cln 1000 d t h2⟩
