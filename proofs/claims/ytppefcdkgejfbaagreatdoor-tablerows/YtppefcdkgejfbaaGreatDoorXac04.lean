import Derived.Test.YtppefcdkgejfbaaGreatDoorRows
import Derived.Test.YtppefcdkgejfbaaGreatDoorXac03
import Derived.Test.YtppefcdkgejfbaaGreatDoorXac01
import Derived.Deep.AppendLies
import Derived.WalkSmall
import Derived.Shelf.Strconv.Clone
import Derived.Test.YtppefcdkgejfbaaGreatDoorXac02
import Derived.Deep.RegionHeldLaw
import Derived.OwnWalk
import Derived.Deep.Cut
import Derived.Deep.DeepCutAuto
import Derived.Deep.RegionHeld
import Derived.Deep.DrawnRows
set_option maxRecDepth 100000
set_option maxHeartbeats 32000000
namespace Go.Proofs.YtppefcdkgejfbaaGreatDoor
open Go.RowKit Go.Lib
set_option linter.unusedSimpArgs false
set_option linter.unusedVariables false
attribute [local go_sem ↓] Go.wp_at_zero Go.wp_at_succ
abbrev Ins:=ByteArray × Int
def wPush:ByteArray:=⟨#[112,117,115,104]⟩
def wLoad:ByteArray:=⟨#[108,111,97,100]⟩
def wNot:ByteArray:=⟨#[110,111,116]⟩
def wNeg:ByteArray:=⟨#[110,101,103]⟩
def wAnd:ByteArray:=⟨#[97,110,100]⟩
def wOr:ByteArray:=⟨#[111,114]⟩
def wBool:ByteArray:=⟨#[98,111,111,108]⟩
def vix (s:ByteArray):List Vr->Nat->Int
 | [],_=>-1
 | x :: r,k=>if x.1=s then (k:Int) else vix s r (k+1)
def jmpI (j:ByteArray) (a b:List Ins):List Ins:=a++[(j,((b.length+1:Nat):Int))]++(b++[(wBool,0)])
def binI (s:ByteArray) (a b:List Ins):List Ins:=if bl s=[38,38] then jmpI wAnd a b else if bl s=[124,124] then jmpI wOr a b else a++b++[(s,0)]
def cdC (vs:List Vr):(d:Nat)->T d->List Ins:=fold (fun k n s l=>
 if k=1 then [(wPush,n)] else if k=2 then [(wLoad,vix s vs 0)] else if k=3 then l.getD 0 []++[(wNot,0)] else if k=4 then l.getD 0 []++[(wNeg,0)] else if k=5 then binI s (l.getD 0 []) (l.getD 1 []) else [])
theorem cdC_lit (vs:List Vr) {d:Nat}(n:Int) (s:ByteArray) (ps:List (T d)):cdC vs (d+1) (mkT 1 n s ps)=[(wPush,n)]:=rfl
theorem cdC_ref (vs:List Vr) {d:Nat}(n:Int) (s:ByteArray) (ps:List (T d)):cdC vs (d+1) (mkT 2 n s ps)=[(wLoad,vix s vs 0)]:=rfl
theorem cdC_not (vs:List Vr) {d:Nat}(n:Int) (s:ByteArray) (p:T d):cdC vs (d+1) (mkT 3 n s [p])=cdC vs d p++[(wNot,0)]:=rfl
theorem cdC_neg (vs:List Vr) {d:Nat}(n:Int) (s:ByteArray) (p:T d):cdC vs (d+1) (mkT 4 n s [p])=cdC vs d p++[(wNeg,0)]:=rfl
theorem cdC_bin (vs:List Vr) {d:Nat}(n:Int) (s:ByteArray) (p q:T d):cdC vs (d+1) (mkT 5 n s [p,q])=binI s (cdC vs d p) (cdC vs d q):=rfl
theorem cdC_none (vs:List Vr) {d:Nat}:cdC vs (d+1) (none0:T (d+1))=[]:=rfl
theorem binI_len (s:ByteArray) (a b:List Ins):(binI s a b).length<=a.length+b.length+2:=by
 unfold binI jmpI
 split
 ·simp;omega
 split
 ·simp;omega
 ·simp;omega
theorem cdC_len (vs:List Vr):∀ (d:Nat) (t:T d),Cl d t->(cdC vs d t).length<=2*cnt d t
 | 0,t,_=>Empty.elim t
 | d+1,t,h=>by
  rcases h.cases with ⟨n,rfl⟩|⟨s,rfl⟩|⟨k,p,hk,rfl,hp⟩|⟨s,p,q,rfl,hp,hq⟩|rfl
  ·rw [cdC_lit,cnt_mk];simp
  ·rw [cdC_ref,cnt_mk];simp
  ·have:=cdC_len vs d p hp
   rcases hk with rfl|rfl
   ·rw [cdC_not,cnt_mk];simp;omega
   ·rw [cdC_neg,cnt_mk];simp;omega
  ·have h1:=cdC_len vs d p hp
   have h2:=cdC_len vs d q hq
   have h3:=binI_len s (cdC vs d p) (cdC vs d q)
   rw [cdC_bin,cnt_mk]
   simp only [List.map_cons,List.map_nil,List.sum_cons,List.sum_nil]
   omega
  ·rw [cdC_none,cnt_none];simp
theorem vix_ge (s:ByteArray):∀ (l:List Vr) (k:Nat),-1<=vix s l k
 | [],_=>by unfold vix;omega
 | x :: r,k=>by
  unfold vix
  split
  ·omega
  ·exact vix_ge s r (k+1)
theorem vix_lt (s:ByteArray):∀ (l:List Vr) (k:Nat),vix s l k < ((k+l.length+1:Nat):Int)
 | [],_=>by unfold vix;simp;omega
 | x :: r,k=>by
  unfold vix
  split
  ·simp;omega
  ·have:=vix_lt s r (k+1)
   simp only [List.length_cons]
   omega
def celI (l:List Ins):List Value:=l.flatMap (fun x=>[.string x.1,.int .i64 x.2])
theorem celI_app (a b:List Ins):celI (a++b)=celI a++celI b:=List.flatMap_append
theorem celI_one (l:List Ins):∀ u∈celI l,u.oneCell'=true:=fun u hu=>by
 obtain ⟨x,_,hx⟩:=List.mem_flatMap.1 hu
 simp only [List.mem_cons,List.not_mem_nil,or_false] at hx
 rcases hx with rfl|rfl<;>rfl
theorem celI_at:∀ (l:List Ins) (i:Nat) (h:i < l.length),(celI l)[i*2]?=some (.string (l[i]).1)/\(celI l)[i*2+1]?=some (.int .i64 (l[i]).2)
 | [],i,h=>by simp at h
 | x :: r,0,_=>⟨rfl,rfl⟩
 | x :: r,i+1,h=>by
  have:=celI_at r i (by simpa using h)
  rw [show (i+1)*2=i*2+2 by omega,show i*2+2+1=i*2+1+2 by omega]
  exact this
def OwnI (w:World) (base:Nat) (e:TypeId) (v:Value) (l:List Ins):Prop:=w.ownsRow base e 2 v l.length (celI l)
theorem ownI_nil (w:World) (base:Nat) (e:TypeId):OwnI w base e (.slice none 0 0) []:=World.ownsRow_nil w base e 2
theorem OwnI.form {w:World}{base:Nat}{e:TypeId}{v:Value}{l:List Ins}(h:OwnI w base e v l):∃ a cap,v=.slice a l.length cap/\l.length<=cap/\cap<=maxLen:=by
 rcases h.2 with ⟨h1,h2⟩|⟨g,cap,cur,h1,_,_,h3,h4,_⟩
 ·exact ⟨none,0,by rw [h1,h2],by omega,by simp [maxLen]⟩
 ·exact ⟨_,_,h1,h3,h4⟩
theorem OwnI.lt {w:World}{base:Nat}{e:TypeId}{v:Value}{l:List Ins}(h:OwnI w base e v l):∀ g,v.ownBlock=some g->base<=g/\g < w.heap.size:=ownsRow_lt h
theorem OwnI.keep {w w':World}{base:Nat}{e:TypeId}{v:Value}{l:List Ins}(h:OwnI w base e v l) (hk:∀ g,v.ownBlock=some g->w'.heap[g]?=w.heap[g]?):OwnI w' base e v l:=ownsRow_keep h hk
theorem OwnI.on {w w':World}{base:Nat}{e:TypeId}{v:Value}{l:List Ins}(h:OwnI w base e v l) (hb:Below w.heap.size w w'):OwnI w' base e v l:=h.keep (fun g hg=>hb.block g (h.lt g hg).2)
theorem OwnI.low {w:World}{base lo:Nat}{e:TypeId}{v:Value}{l:List Ins}(h:OwnI w base e v l) (hlo:lo<=base):OwnI w lo e v l:=by
 refine ⟨h.1,?_⟩
 rcases h.2 with h1|⟨g,cap,cur,h1,h2,h3⟩
 ·exact .inl h1
 ·exact .inr ⟨g,cap,cur,h1,by omega,h3⟩
theorem OwnI.src {w:World}{base:Nat}{e tx:TypeId}{v:Value}{l:List Ins}(h:OwnI w base e v l) (ht:Tryz.prog.underlying tx=some (.slice e)):Src Tryz.prog 2 tx v l.length (celI l) w:=by
 have hc:=fun g=>World.ownsRow.cells h (g:=g)
 rcases h.2 with ⟨rfl,hn⟩|⟨g,cap,cur,rfl,hb,hg,hnc,hcm,hcs,htake⟩
 ·have hx:l=[]:=List.eq_nil_of_length_eq_zero hn
  subst hx
  exact Src.ofNil w ht 0
 ·exact Src.ofSlice w ht _ l.length cap (celI l) h.1 (hc g rfl) (celI_one l)
theorem OwnI.at {w:World}{base:Nat}{e:TypeId}{a:Option Addr}{n c:Nat}{l:List Ins}(h:OwnI w base e (.slice a n c) l) (i:Nat) (hi:i < l.length):∃ g,a=some ⟨g,0,none⟩/\g < w.heap.size/\w.cell? ⟨g,i*2,none⟩=some (.string (l[i]).1)/\w.cell? ⟨g,i*2+1,none⟩=some (.int .i64 (l[i]).2):=by
 have hc:=fun g=>World.ownsRow.cells h (g:=g)
 rcases h.2 with ⟨_,hn⟩|⟨g,cap,cur,he,hb,hg,hnc,hcm,hcs,htake⟩
 ·omega
 ·simp only [Value.slice.injEq] at he
  obtain ⟨rfl,rfl,rfl⟩:=he
  obtain ⟨k1,k2⟩:=celI_at l i hi
  have h1:=hc g rfl _ _ k1
  have h2:=hc g rfl _ _ k2
  rw [add_plain,Nat.zero_add] at h1 h2
  exact ⟨g,rfl,(Array.getElem?_eq_some_iff.1 hg).1,h1,h2⟩
theorem ownI_new (w:World) (e:TypeId) (s:ByteArray) (n:Int) (base:Nat) (hb:base<=w.heap.size):OwnI (w.alloc (.cells #[.string s,.int .i64 n] e)) base e (.slice (some ⟨w.heap.size,0,none⟩) 1 1) [(s,n)]:=
 ⟨rfl,.inr ⟨w.heap.size,1,#[.string s,.int .i64 n],rfl,hb,heap_alloc_new w _,by simp,by simp [maxLen],by simp,by simp [celI]⟩⟩
theorem srcI_new {tx e:TypeId}(ht:Tryz.prog.underlying tx=some (.slice e)) (w:World) (s:ByteArray) (n:Int):Src Tryz.prog 2 tx (.slice (some ⟨w.heap.size,0,none⟩) 1 1) 1 (celI [(s,n)]) (w.alloc (.cells #[.string s,.int .i64 n] e)):=(ownI_new w e s n 0 (Nat.zero_le _)).src ht
def rn (r:Int):Int:=if r = -1 then 65533 else r
theorem letter_rn (r:Int):letter (rn r)=letter r:=by
 unfold rn
 split
 ·rename_i h;subst h;decide
 ·rfl
theorem insd_rn (r:Int):insd (rn r)=insd r:=by
 unfold rn
 split
 ·rename_i h;subst h;decide
 ·rfl
theorem dec_nx {s:ByteArray}{pos:Nat}(h:pos < s.size):((Utf8.decode s pos).1:Int)=rn (nx ((bl s).drop pos)).1/\(Utf8.decode s pos).2=(nx ((bl s).drop pos)).2:=by
 have hne:=drop_ne (l:=bl s) (k:=pos) (by rw [bl_length];exact h)
 have hd:decodeL ((bl s).drop pos)=Utf8.decode s pos:=decodeL_drop s pos
 refine ⟨?_,by rw [nx_size hne,hd]⟩
 unfold nx rn
 rw [if_neg hne,hd]
 by_cases hc:(Utf8.decode s pos).1=65533/\(Utf8.decode s pos).2<=1
 ·rw [if_pos hc,if_pos rfl,hc.1];rfl
 ·rw [if_neg hc,if_neg (by simp only;omega)]
theorem pLetter_any (r:Int) (w:World):Calls Tryz.prog 116 #[.int .i32 r] w fun e w'=>e=.returned (.bool (letter r))/\w=w':=by
 rw [letter_eq]
 go_enter Tryz.func116,Tryz.ntmps116
 go_wp2
 all_goals go_ret
 all_goals (refine ⟨ret_bool ?_,rfl⟩;first|rfl|(rw [Bool.eq_iff_iff];simp;omega)|(rw [Bool.eq_iff_iff];simp [*];omega))
theorem pDigit_any (r:Int) (w:World):Calls Tryz.prog 151 #[.int .i32 r] w fun e w'=>e=.returned (.bool (dgt r))/\w=w':=by
 rw [dgt_eq]
 go_enter Tryz.func151,Tryz.ntmps151
 go_wp2
 all_goals go_ret
 all_goals (refine ⟨ret_bool ?_,rfl⟩;first|rfl|(rw [Bool.eq_iff_iff];simp;omega)|(rw [Bool.eq_iff_iff];simp [*];omega))
theorem pInside_any (r:Int) (w:World):Calls Tryz.prog 115 #[.int .i32 r] w fun e w'=>e=.returned (.bool (insd r))/\w=w':=by
 have h1:=pLetter_any r w
 have h2:=pDigit_any r w
 have h3:insd r=(letter r || dgt r || r == 95):=rfl
 rw [h3]
 cases ha:letter r<;>rw [ha] at h1
 ·cases hb:dgt r<;>rw [hb] at h2
  ·go_enter Tryz.func115,Tryz.ntmps115
   go_wp2_with (first
    | (go_at_call 116;refine h1.mono ?_;rintro e w' ⟨rfl,rfl⟩)
    | (go_at_call 151;refine h2.mono ?_;rintro e w' ⟨rfl,rfl⟩))
   go_ret
   exact ⟨ret_bool (by simp),rfl⟩
  ·go_enter Tryz.func115,Tryz.ntmps115
   go_wp2_with (first
    | (go_at_call 116;refine h1.mono ?_;rintro e w' ⟨rfl,rfl⟩)
    | (go_at_call 151;refine h2.mono ?_;rintro e w' ⟨rfl,rfl⟩))
   go_ret
   exact ⟨ret_bool (by simp),rfl⟩
 ·go_enter Tryz.func115,Tryz.ntmps115
  go_wp2_with (first
   | (go_at_call 116;refine h1.mono ?_;rintro e w' ⟨rfl,rfl⟩)
   | (go_at_call 151;refine h2.mono ?_;rintro e w' ⟨rfl,rfl⟩))
  go_ret
  exact ⟨ret_bool (by simp),rfl⟩
theorem nameS_short {l:List UInt8}(h:spb l≠l.length):nameS l=false:=by
 unfold nameS
 have:((spb l:Int) == (l.length:Int))=false:=beq_eq_false_iff_ne.2 (by omega)
 rw [this];simp
theorem nameS_head {l:List UInt8}(h:letter (nx l).1=false):nameS l=false:=by
 unfold nameS
 rw [h];simp
theorem nameS_all {l:List UInt8}{m:Nat}(h1:letter (nx l).1=true) (h2:spb l=l.length) (h3:spn (runes l)=m):nameS l=decide ((m:Int)<=24):=by
 unfold nameS
 rw [h1,h2,h3]
 rw [Bool.eq_iff_iff]
 simp
 omega
theorem pName_any (s:ByteArray) (w:World) (hs:s.size<=140737488351232) :
  Calls Tryz.prog 84 #[.string s] w fun e w'=>e=.returned (.bool (nameS (bl s)))/\Below w.heap.size w w':=by
 go_enter Tryz.func84,Tryz.ntmps84
 go_wp2
 go_loopw [3] (fun c wr=>∃ (m k:Nat),c=.int .i64 (m:Int)/\wr.heap[w.heap.size]?=some (.stringIter s k)/\Hid (Adv (bl s) m k)/\(m=0->k=0)/\Hid (0 < m->letter (nx (bl s)).1=true)/\Below w.heap.size w wr) (fun _ wr=>s.size - wr.iterPos w.heap.size)
 case atStart=>exact ⟨0,0,rfl,World.iter_heap w s 0,Adv.zero _,fun _=>rfl,fun h=>by omega,(Below.refl _ w).alloc Nat.le.refl _⟩
 case round=>
  obtain ⟨m,k,rfl,hit,ha,hm0,hlt,hb⟩:=hrel
  have hle:=ha.out.le
  have hfw:=ha.out.few
  rw [bl_length] at hle
  by_cases hk:k < s.size
  ·have hnx:∀ ty,(Instr.next (.pointer (some ⟨w.heap.size,0,none⟩)) true ty).run Tryz.prog wr=_:=fun ty=>Lib.run_next_any_at wr w.heap.size s k ty hit hk
   obtain ⟨d1,d2⟩:=dec_nx hk
   have hne:=drop_ne (l:=bl s) (by rw [bl_length];exact hk)
   have hps:=nx_pos hne
   have hnl:=nx_le hne
   rw [List.length_drop,bl_length] at hnl
   obtain ⟨r,hr⟩:∃ r,(nx ((bl s).drop k)).1=r:=⟨_,rfl⟩
   obtain ⟨q,hq⟩:∃ q,(nx ((bl s).drop k)).2=q:=⟨_,rfl⟩
   rw [hr] at d1
   rw [hq] at d2 hps hnl
   rw [d1,d2] at hnx
   have hit2:=Lib.iterAt_heap wr w.heap.size s k (k+q) hit
   have hb2:=Lib.below_iterAt hb (k:=w.heap.size) Nat.le.refl s (k+q)
   have h26:=fun w1=>pInside_any (rn r) w1
   have h27:=fun w1=>pLetter_any (rn r) w1
   rw [insd_rn] at h26
   rw [letter_rn] at h27
   cases hi:insd r with
   | true=>
    rw [hi] at h26
    have hA:Hid (Adv (bl s) (m+1) (k+q)):=by have:=ha.out.step (by rw [bl_length];exact hk) (by rw [hr];exact hi);rw [hq] at this;exact this
    by_cases hmz:m=0
    ·have e0:((m:Int) == 0)=true:=by simp;omega
     have hk0:=hm0 hmz
     have hrr:(nx (bl s)).1=r:=by rw [<- hr,hk0];rfl
     cases hl:letter r with
     | true=>
      rw [hl] at h27
      have hL:Hid (0 < m+1->letter (nx (bl s)).1=true):=fun _=>by rw [hrr];exact hl
      clear hr hq hne hi d1 d2 hrr hl hm0 hmz hk0
      go_wp2_with (first
       | (go_at_call 115;refine (h26 _).mono ?_;rintro e w' ⟨rfl,rfl⟩)
       | (go_at_call 116;refine (h27 _).mono ?_;rintro e w' ⟨rfl,rfl⟩))
      go_roundw
      case rel=>exact ⟨m+1,k+q,by go_num,hit2,hA,fun h=>by omega,hL,hb2⟩
      case measure=>rw [iterPos_of hit2,iterPos_of hit];omega
     | false=>
      rw [hl] at h27
      have hF:Hid (nameS (bl s)=false):=nameS_head (by rw [hrr];exact hl)
      clear hr hq hne hi d1 d2 hrr hl hm0 hmz hk0
      go_wp2_with (first
       | (go_at_call 115;refine (h26 _).mono ?_;rintro e w' ⟨rfl,rfl⟩)
       | (go_at_call 116;refine (h27 _).mono ?_;rintro e w' ⟨rfl,rfl⟩))
      go_ret
      rw [hF.out]
      exact ⟨rfl,hb2⟩
    ·have e0:((m:Int) == 0)=false:=beq_eq_false_iff_ne.2 (by omega)
     have hL:Hid (0 < m+1->letter (nx (bl s)).1=true):=fun _=>hlt.out (by omega)
     clear hr hq hne hi d1 d2 hm0 hmz
     go_wp2_with (first
      | (go_at_call 115;refine (h26 _).mono ?_;rintro e w' ⟨rfl,rfl⟩))
     go_roundw
     case rel=>exact ⟨m+1,k+q,by go_num,hit2,hA,fun h=>by omega,hL,hb2⟩
     case measure=>rw [iterPos_of hit2,iterPos_of hit];omega
   | false=>
    rw [hi] at h26
    have hE:Hid (spn (runes (bl s))=m):=ha.out.stop (.inr (by rw [hr];exact hi))
    have hZ:Hid (spb (bl s)=k):=by show spb (bl s)=k;unfold spb;rw [hE.out];exact ha.out.size
    have hF:Hid (nameS (bl s)=false):=nameS_short (by rw [hZ.out,bl_length];omega)
    clear hr hq hne hi d1 d2 hm0
    go_wp2_with (first
     | (go_at_call 115;refine (h26 _).mono ?_;rintro e w' ⟨rfl,rfl⟩))
    go_ret
    rw [hF.out]
    exact ⟨rfl,hb2⟩
  ·have hnx:∀ ty,(Instr.next (.pointer (some ⟨w.heap.size,0,none⟩)) true ty).run Tryz.prog wr=_:=fun ty=>Lib.run_next_end_at wr w.heap.size s k ty hit hk
   have hE:Hid (spn (runes (bl s))=m):=ha.out.stop (.inl (by rw [bl_length];omega))
   have hZ:Hid (spb (bl s)=k):=by show spb (bl s)=k;unfold spb;rw [hE.out];exact ha.out.size
   have hks:k=s.size:=by omega
   by_cases hmz:m=0
   ·have hF:Hid (nameS (bl s)=false):=by
     have:bl s=[]:=List.eq_nil_of_length_eq_zero (by rw [bl_length];have:=hm0 hmz;omega)
     show nameS (bl s)=false
     rw [this];rfl
    subst hmz
    clear hm0
    go_wp2
    go_ret
    rw [hF.out]
    exact ⟨rfl,hb⟩
   ·have hF:Hid (nameS (bl s)=decide ((m:Int)<=24)):=nameS_all (hlt.out (by omega)) (by rw [hZ.out,hks];rfl) hE.out
    have e1:(1:Int)<=(m:Int):=by omega
    clear hm0
    go_wp2
    all_goals go_ret
    all_goals rw [hF.out]
    all_goals exact ⟨rfl,hb⟩
abbrev ps (a b:Int):Value:=.agg #[.int .i64 a,.int .i64 b]
end Go.Proofs.YtppefcdkgejfbaaGreatDoor
namespace Go.Proofs.YtppefcdkgejfbaaGreatDoor
open Go.Shelf Go.RowKit Go.Lib
set_option linter.unusedSimpArgs false
set_option linter.unusedVariables false
def renC:Ren:={ f:=fun x=>match x with|316=>30|n=>n,t:=fun x=>match x with|9=>9|3=>3|4=>4|37=>143|0=>0|127=>144|5=>5|n=>n,g:=fun x=>x }
theorem laysC:LaysM.n316 Tryz.prog renC:=
 {mixed:=by kernel_rfl,f316:=Tryz.func30.trans (congrArg some (by kernel_rfl)),
  t0:=Tryz.underlying0,a0:=Tryz.isAgg0,z0:=Tryz.sizeOf0,v0:=Tryz.zeroValue0,t3:=Tryz.underlying3,a3:=Tryz.isAgg3,z3:=Tryz.sizeOf3,v3:=Tryz.zeroValue3,t4:=Tryz.underlying4,a4:=Tryz.isAgg4,z4:=Tryz.sizeOf4,v4:=Tryz.zeroValue4,
  t9:=Tryz.underlying9,a9:=Tryz.isAgg9,z9:=Tryz.sizeOf9,v9:=Tryz.zeroValue9,t37:=Tryz.underlying143,a37:=Tryz.isAgg143,z37:=Tryz.sizeOf143,v37:=Tryz.zeroValue143,
  t127:=Tryz.underlying144,a127:=Tryz.isAgg144,z127:=Tryz.sizeOf144,v127:=Tryz.zeroValue144,t5:=Tryz.underlying5,a5:=Tryz.isAgg5,z5:=Tryz.sizeOf5,v5:=Tryz.zeroValue5,
  i0:=by kernel_rfl,i3:=by kernel_rfl,i4:=by kernel_rfl,i5:=by kernel_rfl,i9:=by kernel_rfl,i37:=by kernel_rfl,i127:=by kernel_rfl }
theorem pClone_any (s:ByteArray) (w:World) (hs:s.size<=140737488351232) :
  Calls Tryz.prog 13 #[.string s] w fun e w'=>e=.returned (.string s)/\Below w.heap.size w w':=by
 have h1:Calls Tryz.prog 30 #[.string s] w fun e w'=>e=.returned (.string s)/\Below w.heap.size w w':=Any.stringslite_Clone laysC s w (by omega)
 go_enter Tryz.func13,Tryz.ntmps13
 go_wp2_with (first
  | (go_at_call 30;refine h1.mono ?_;rintro e w1 ⟨rfl,b1⟩))
 go_ret
 exact ⟨rfl,b1⟩
end Go.Proofs.YtppefcdkgejfbaaGreatDoor
namespace Go.Proofs.YtppefcdkgejfbaaGreatDoor
open Go.RowKit Go.Lib
set_option linter.unusedSimpArgs false
set_option linter.unusedVariables false
attribute [local go_sem ↓] Go.wp_at_zero Go.wp_at_succ
theorem str_is2 (s:ByteArray) (x:List UInt8):(s.toList == x)=(bl s == x):=by rw [ByteArray.toList_eq]
theorem pOperator_any (s:ByteArray) (w:World):Calls Tryz.prog 85 #[.string s] w fun e w'=>e=.returned (.bool (opr s))/\w=w':=by
 have hS:=str_is2 s
 obtain ⟨l,hl⟩:∃ l,bl s=l:=⟨_,rfl⟩
 have ho:opr s=ops9.any (fun x=>l == x):=by rw [<- hl];rfl
 rw [ho]
 simp only [hl] at hS
 clear hl ho
 obtain ⟨L,hL⟩:∃ L,s.toList=L:=⟨_,rfl⟩
 have q0:(s.toList == [43])=(l == [43]):=hS _
 have q1:(s.toList == [45])=(l == [45]):=hS _
 have q2:(s.toList == [42])=(l == [42]):=hS _
 have q3:(s.toList == [60])=(l == [60]):=hS _
 have q4:(s.toList == [60,61])=(l == [60,61]):=hS _
 have q5:(s.toList == [61,61])=(l == [61,61]):=hS _
 have q6:(s.toList == [33,61])=(l == [33,61]):=hS _
 have q7:(s.toList == [38,38])=(l == [38,38]):=hS _
 have q8:(s.toList == [124,124])=(l == [124,124]):=hS _
 clear hS hL
 simp only [ops9,List.any_cons,List.any_nil,Bool.or_false]
 cases r0:(l == [43])
 case true=>rw [r0] at q0;clear q1 q2 q3 q4 q5 q6 q7 q8;go_enter Tryz.func85,Tryz.ntmps85;go_wp2;go_ret;exact ⟨ret_bool (by simp),rfl⟩
 cases r1:(l == [45])
 case true=>rw [r0] at q0;rw [r1] at q1;clear q2 q3 q4 q5 q6 q7 q8;go_enter Tryz.func85,Tryz.ntmps85;go_wp2;go_ret;exact ⟨ret_bool (by simp),rfl⟩
 rw [r0] at q0;rw [r1] at q1
 cases r2:(l == [42])
 case true=>rw [r2] at q2;clear q3 q4 q5 q6 q7 q8;go_enter Tryz.func85,Tryz.ntmps85;go_wp2;go_ret;exact ⟨ret_bool (by simp),rfl⟩
 rw [r2] at q2
 cases r3:(l == [60])
 case true=>rw [r3] at q3;clear q4 q5 q6 q7 q8;go_enter Tryz.func85,Tryz.ntmps85;go_wp2;go_ret;exact ⟨ret_bool (by simp),rfl⟩
 rw [r3] at q3
 cases r4:(l == [60,61])
 case true=>rw [r4] at q4;clear q5 q6 q7 q8;go_enter Tryz.func85,Tryz.ntmps85;go_wp2;go_ret;exact ⟨ret_bool (by simp),rfl⟩
 rw [r4] at q4
 cases r5:(l == [61,61])
 case true=>rw [r5] at q5;clear q6 q7 q8;go_enter Tryz.func85,Tryz.ntmps85;go_wp2;go_ret;exact ⟨ret_bool (by simp),rfl⟩
 rw [r5] at q5
 cases r6:(l == [33,61])
 case true=>rw [r6] at q6;clear q7 q8;go_enter Tryz.func85,Tryz.ntmps85;go_wp2;go_ret;exact ⟨ret_bool (by simp),rfl⟩
 rw [r6] at q6
 cases r7:(l == [38,38])
 case true=>rw [r7] at q7;clear q8;go_enter Tryz.func85,Tryz.ntmps85;go_wp2;go_ret;exact ⟨ret_bool (by simp),rfl⟩
 rw [r7] at q7
 cases r8:(l == [124,124])
 case true=>rw [r8] at q8;go_enter Tryz.func85,Tryz.ntmps85;go_wp2;go_ret;exact ⟨ret_bool (by simp),rfl⟩
 rw [r8] at q8
 go_enter Tryz.func85,Tryz.ntmps85
 go_wp2
 go_ret
 exact ⟨ret_bool (by simp),rfl⟩
def rtC (k n:Int) (s:ByteArray):Bool:=if k=1 then decide (0<=n) && decide (n<=1000000000) else if k=2 then nameS (bl s) else if k=3∨k=4 then true else if k=5 then opr s else false
theorem rightTop_any (k n:Int) (s:ByteArray) (a:Option Addr) (m:Nat) (hs:s.size<=1000) (w:World) :
  Calls Tryz.prog 63 #[.agg #[.int .i64 k,.int .i64 n,.string s,.slice a m m]] w fun e w'=>e=.returned (.bool (rtC k n s))/\Below w.heap.size w w':=by
 have hb:Below w.heap.size w (w.alloc (.cells #[.int .i64 k,.int .i64 n,.string s,.slice a m m] 158)):=(Below.refl _ _).alloc Nat.le.refl _
 have h1:=fun w1=>pName_any s w1 (by omega)
 have h2:=fun w1=>pOperator_any s w1
 unfold rtC
 by_cases k1:k=1
 ·subst k1
  rw [if_pos rfl]
  clear h1 h2
  by_cases c1:0<=n
  ·by_cases c2:n<=1000000000
   ·rw [decide_eq_true c1,decide_eq_true c2]
    go_enter Tryz.func63,Tryz.ntmps63
    go_wp2
    go_ret
    exact ⟨rfl,hb⟩
   ·rw [decide_eq_true c1,decide_eq_false c2]
    go_enter Tryz.func63,Tryz.ntmps63
    go_wp2
    go_ret
    exact ⟨rfl,hb⟩
  ·rw [decide_eq_false c1,Bool.false_and]
   go_enter Tryz.func63,Tryz.ntmps63
   go_wp2
   go_ret
   exact ⟨rfl,hb⟩
 rw [if_neg k1]
 have e1:(k == 1)=false:=beq_eq_false_iff_ne.2 k1
 by_cases k2:k=2
 ·subst k2
  rw [if_pos rfl]
  clear h2 k1 e1
  go_enter Tryz.func63,Tryz.ntmps63
  go_wp2_with (first
   | (go_at_call 84;refine (h1 _).mono ?_;rintro e w1 ⟨rfl,b1⟩))
  go_ret
  exact ⟨rfl,hb.trans (b1.mono hb.size)⟩
 rw [if_neg k2]
 have e2:(k == 2)=false:=beq_eq_false_iff_ne.2 k2
 by_cases k34:k=3∨k=4
 ·rw [if_pos k34]
  clear h1 h2
  rcases k34 with rfl|rfl
  ·go_enter Tryz.func63,Tryz.ntmps63
   go_wp2
   go_ret
   exact ⟨rfl,hb⟩
  ·go_enter Tryz.func63,Tryz.ntmps63
   go_wp2
   go_ret
   exact ⟨rfl,hb⟩
 rw [if_neg k34]
 have e3:(k == 3)=false:=beq_eq_false_iff_ne.2 (by omega)
 have e4:(k == 4)=false:=beq_eq_false_iff_ne.2 (by omega)
 clear k34
 by_cases k5:k=5
 ·subst k5
  rw [if_pos rfl]
  clear h1 k1 k2 e1 e2 e3 e4
  go_enter Tryz.func63,Tryz.ntmps63
  go_wp2_with (first
   | (go_at_call 85;refine (h2 _).mono ?_;rintro e w1 ⟨rfl,rfl⟩))
  go_ret
  exact ⟨rfl,hb⟩
 rw [if_neg k5]
 have e5:(k == 5)=false:=beq_eq_false_iff_ne.2 k5
 clear h1 h2
 go_enter Tryz.func63,Tryz.ntmps63
 go_wp2
 go_ret
 exact ⟨rfl,hb⟩
theorem Tryz.infoIns:(Tryz.prog.info? 69).map (fun i=>(i.zero,i.size,i.bytes))=some (some (.agg #[.string ⟨#[]⟩,.int .i64 0]),2,24):=by kernel_rfl
theorem appI {w:World}{ops:Array Oper}{rest:List Oper}{o:Oper}{a:Act}{Q:Exit->Act->World->Prop}(hgd:o.guard=none) (s x:Operand)
  (ho:o.op=.call { callee:=.builtin .append,args:=#[s,x],argTypes:=#[51,51] }) (base:Nat) (v:Value) (l:List Ins) (hs:a.eval s=v) (hown:OwnI w base 69 v l)
  (xv:Value) (r:List Ins) (hx:a.eval x=xv) (hsrc:Src Tryz.prog 2 51 xv r.length (celI r) w) (hle:l.length+r.length<=100000) (hbase:base<=w.heap.size)
  (h:∀ va m vc w',Hid (m=l.length+r.length)->OwnI w' base 69 (.slice va m vc) (l++r)->w.grownBy w' v.ownBlock->Hid ((Value.slice va m vc).ownBlock=v.ownBlock∨(Value.slice va m vc).ownBlock=some w.heap.size)->wpList Tryz.prog ops Q rest (a.put o.dst (.slice va m vc)) w'):wpList Tryz.prog ops Q (o :: rest) a w:=by
 obtain ⟨i0,hi,hz0,hz1,hz2⟩:=info_parts Tryz.infoIns
 refine wpList_append_at w hgd s x 51 51 ho base 69 i0 (.agg #[.string ⟨#[]⟩,.int .i64 0]) 2 24 Tryz.underlying51 hi hz0 hz1 hz2 rfl v l.length (celI l) hs hown xv r.length (celI r) hx hsrc r.length (.inr (by omega)) Nat.le.refl (by unfold maxLen;omega) hbase ?_
 intro v' w' ho' hg hat
 have hO:OwnI w' base 69 v' (l++r):=by
  show w'.ownsRow base 69 2 v' (l++r).length (celI (l++r))
  rw [celI_app,List.length_append]
  exact ho'
 obtain ⟨va,vc,rfl,_⟩:=hO.form
 exact h va _ vc w' (List.length_append ..) hO hg hat
theorem no1_any {W:World}(x:ByteArray) (n:Int) (X:Nat) (s:ByteArray) (hX:Bn W X [.string s]) :
  Calls Tryz.prog 49 #[.agg #[.string x,.int .i64 n],.pointer (some ⟨X,0,none⟩)] W fun e w'=>e=.returned (.bool (x.toList == s.toList))/\Below W.heap.size W w':=by
 have hal:Below W.heap.size W (W.alloc (.cells #[.string x,.int .i64 n] 108)):=(Below.refl _ _).alloc Nat.le.refl _
 have hX2:=hX.on hal
 have c0:=(hX2 0 _ rfl).1
 go_enter Tryz.func49,Tryz.ntmps49
 go_wp2
 go_ret
 exact ⟨rfl,hal⟩
theorem ixA_any {w:World}{vs:List Vr}{vv:Value}(hv:RdV w vv vs) (hl:vs.length<=10000) (X:Nat) (s:ByteArray) (hX:Bn w X [.string s]) :
  Calls Tryz.prog 48 #[vv,.func (.func 49) #[] #[.pointer (some ⟨X,0,none⟩)]] w fun e w'=>e=.returned (.int .i64 (vix s vs 0))/\Below w.heap.size w w':=by
 obtain ⟨a,cap,rfl,hlc,hcm,hcell⟩:=hv.form
 obtain ⟨V,hV⟩:∃ V,vix s vs 0=V:=⟨_,rfl⟩
 rw [hV]
 have HV:Hid (vix s (vs.drop 0) 0=V):=hV
 have HC:Hid (∀ (i:Nat) (hi:i < vs.length),∃ b off,a=some ⟨b,off,none⟩/\b < w.heap.size/\w.cell? ⟨b,off+i*2,none⟩=some (.string (vs[i]).1)/\w.cell? ⟨b,off+i*2+1,none⟩=some (.int .i64 (vs[i]).2)):=hcell
 have eg:∀ args W,(callFunc 49 args).run Tryz.prog W=.ok (.enter 49 args) W:=enters_of Tryz.func49 (by kernel_rfl) rfl
 clear hcell hv hV
 go_enter Tryz.func48,Tryz.ntmps48
 go_wp2
 go_loopw [8] (fun i wr=>∃ (j:Nat),j<=vs.length/\i=.int .i64 (j:Int)/\Hid (vix s (vs.drop j) j=V)/\Below w.heap.size w wr) (fun i _=>vs.length - (RowKit.intOf i).toNat)
 case atStart=>exact ⟨0,Nat.zero_le _,rfl,HV,Below.refl _ _⟩
 case round=>
  obtain ⟨j,hj,rfl,hlk,hb⟩:=hrel
  by_cases hlt:j < vs.length
  ·obtain ⟨b,off,rfl,hbl,k0,k1⟩:=HC.out j hlt
   have C0:=(hb.cell (p:=⟨b,off+j*2,none⟩) hbl).trans k0
   have C1:=(hb.cell (p:=⟨b,off+j*2+1,none⟩) hbl).trans k1
   have hll:=hlk.out
   rw [List.drop_eq_getElem_cons hlt] at hll
   have i1:(j:Int) < (vs.length:Int):=by omega
   have i2:(0:Int)<=(j:Int):=by omega
   obtain ⟨xs,hxs⟩:∃ x,(vs[j]).1=x:=⟨_,rfl⟩
   obtain ⟨xn,hxn⟩:∃ x,(vs[j]).2=x:=⟨_,rfl⟩
   unfold vix at hll
   rw [hxs] at hll C0
   rw [hxn] at C1
   have hcl:=no1_any xs xn X s (hX.on hb)
   clear k0 k1 hxs hxn
   by_cases he:xs=s
   ·subst he
    rw [if_pos rfl] at hll
    subst hll
    have hs:(xs.toList == xs.toList)=true:=by simp
    rw [hs] at hcl
    go_wp2_with (first
     | (refine hcl.mono ?_;rintro e w1 ⟨rfl,b1⟩)
     | fail)
    go_ret
    exact ⟨rfl,hb.trans (b1.mono hb.size)⟩
   ·rw [if_neg he] at hll
    have hN:Hid (vix s (vs.drop (j+1)) (j+1)=V):=hll
    have hs:(xs.toList == s.toList)=false:=by
     rw [ByteArray.toList_eq,ByteArray.toList_eq]
     exact beq_eq_false_iff_ne.2 (fun e=>he (ByteArray.ext (Array.toList_inj.1 e)))
    rw [hs] at hcl
    clear he hll hlk
    go_wp2_with (first
     | (refine hcl.mono ?_;rintro e w1 ⟨rfl,b1⟩)
     | fail)
    go_roundw
    case rel=>exact ⟨j+1,hlt,by go_num,hN,hb.trans (b1.mono hb.size)⟩
    case measure=>simp [RowKit.intOf];omega
  ·have i1:¬ (j:Int) < (vs.length:Int):=by omega
   have hll:=hlk.out
   rw [List.drop_eq_nil_of_le (by omega)] at hll
   subst hll
   go_wp2
   go_ret
   exact ⟨rfl,hb⟩
theorem numberOf_any {w:World}{vs:List Vr}{vv:Value}(hv:RdV w vv vs) (hl:vs.length<=10000) (s:ByteArray) :
  Calls Tryz.prog 25 #[vv,.string s] w fun e w'=>e=.returned (.int .i64 (vix s vs 0))/\Below w.heap.size w w':=by
 have hal:Below w.heap.size w (w.alloc (.cells #[.string s] 9)):=(Below.refl _ _).alloc Nat.le.refl _
 have hX:Bn (w.alloc (.cells #[.string s] 9)) w.heap.size [.string s]:=Bn.new w [.string s] 9 _ rfl
 have hc:=ixA_any (hv.below hal Nat.le.refl) hl _ s hX
 obtain ⟨a,cap,rfl,hlc,hcm,hcell⟩:=hv.form
 obtain ⟨V,hV⟩:∃ V,vix s vs 0=V:=⟨_,rfl⟩
 rw [hV] at hc ⊢
 clear hcell hv hV
 go_enter Tryz.func25,Tryz.ntmps25
 go_wp2_with (first
  | (go_at_call 48;refine hc.mono ?_;rintro e w1 ⟨rfl,b1⟩)
  | fail)
 go_ret
 exact ⟨rfl,hal.trans (b1.mono hal.size)⟩
theorem hidI {p:Prop}(h:p):Hid p:=h
def Apart (v u:Value):Prop:=∀ g,v.ownBlock=some g->u.ownBlock≠some g
theorem jumping_any {w:World}(base:Nat) (j:ByteArray) {la ra:Option Addr}{ln lc rn rc:Nat}{l r:List Ins}(hl:OwnI w base 69 (.slice la ln lc) l) (hr:OwnI w base 69 (.slice ra rn rc) r) (hap:Apart (.slice la ln lc) (.slice ra rn rc)) (hle:l.length+r.length<=50000) (hb:base<=w.heap.size) :
  Calls Tryz.prog 65 #[.string j,.slice la ln lc,.slice ra rn rc] w fun e w'=>∃ a n c,e=.returned (.slice a n c)/\OwnI w' base 69 (.slice a n c) (jmpI j l r)/\Below base w w':=by
 have hsrc:=fun w1 s n=>srcI_new (tx:=51) Tryz.underlying51 w1 s n
 have hal:Below w.heap.size w (w.alloc (.cells #[.string ⟨#[98,111,111,108]⟩,.int .i64 0] 69)):=(Below.refl _ _).alloc Nat.le.refl _
 have hl1:=hl.on hal
 have hr1:=hr.on hal
 have s1:=hsrc w ⟨#[98,111,111,108]⟩ 0
 have hbal:base<=(w.alloc (.cells #[.string ⟨#[98,111,111,108]⟩,.int .i64 0] 69)).heap.size:=Nat.le_trans hb hal.size
 have hBa:Below base w (w.alloc (.cells #[.string ⟨#[98,111,111,108]⟩,.int .i64 0] 69)):=hal.mono hb
 have Hl:=hidI hl1
 have HLT:=hidI hl1.lt
 have HRT:=hidI hr1.lt
 clear hl hr hl1 hsrc hal
 go_enter Tryz.func65,Tryz.ntmps65
 go_upto_region 2 with (first
  | (at_builtin;refine appI rfl _ _ rfl base _ r rfl hr1 _ [(⟨#[98,111,111,108]⟩,0)] rfl s1 (by simp;omega) hbal ?_;intro va m vc w1 HM ho1 hg1 hat1)
  | fail)
 have hl2:OwnI w1 base 69 (.slice la ln lc) l:=Hl.out.keep (fun g hg=>hg1.block g (HLT.out g hg).2 (fun e=>hap g hg e.symm))
 have hb1:Below base w w1:=hBa.grown hg1 hbal (fun k hk=>(HRT.out k hk).1)
 have hap1:Apart (.slice la ln lc) (.slice va m vc):=fun g hg e=>by
  rcases hat1.out with h|h
  ·rw [h] at e;exact hap g hg e
  ·rw [h] at e
   have h1:=(HLT.out g hg).2
   have h2:=Option.some.inj e
   omega
 have hal2:Below w1.heap.size w1 (w1.alloc (.cells #[.string j,.int .i64 (m:Int)] 69)):=(Below.refl _ _).alloc Nat.le.refl _
 have hl3:=hl2.on hal2
 have ho3:=ho1.on hal2
 have s2:=srcI_new (tx:=51) Tryz.underlying51 w1 j (m:Int)
 have hb2:=hb1.trans (hal2.mono (Nat.le_trans hb hb1.size))
 have hb2s:=Nat.le_trans hb hb2.size
 have HO3:=hidI ho3
 have HAP:=hidI hap1
 have HL3:=hidI hl3.lt
 have HR3:=hidI ho3.lt
 clear hl2 ho1 hg1 hat1 Hl HLT HRT hr1 s1 hBa hal2 ho3 hap hap1 hb1 hbal
 go_wp2_with (first
  | (at_builtin;refine appI rfl _ _ rfl base _ (l++[(j,(m:Int))]) rfl ho5 _ (r++[((⟨#[98,111,111,108]⟩:ByteArray),(0:Int))]) rfl hsrc5 (by simp;omega) hb5 ?_;intro vf mf vg w5 HMF ho6 hg6 hat6)
  | (at_builtin;refine appI rfl _ _ rfl base _ l rfl hl3 _ [(j,(m:Int))] rfl s2 (by simp;omega) hb2s ?_;intro vb mb vd w4 HMB ho5 hg5 hat5;have hr5:=HO3.out.keep (fun g hg=>hg5.block g (HR3.out g hg).2 (fun e=>HAP.out g e.symm hg));have hsrc5:=hr5.src (tx:=51) Tryz.underlying51;have hb45:=hb2.grown hg5 hb2s (fun k hk=>(HL3.out k hk).1);have hb5:=Nat.le_trans hb hb45.size)
  | fail)
 go_ret
 have hb6:=hb45.grown hg6 hb5 (fun k hk=>(ho5.lt k hk).1)
 refine ⟨_,_,_,rfl,?_,hb6⟩
 have hmr:m=r.length+1:=HM.out
 unfold jmpI wBool
 rw [<- hmr]
 exact ho6
theorem binCode_any {w:World}(base:Nat) (s:ByteArray) {la ra:Option Addr}{ln lc rn rc:Nat}{l r:List Ins}(hl:OwnI w base 69 (.slice la ln lc) l) (hr:OwnI w base 69 (.slice ra rn rc) r) (hap:Apart (.slice la ln lc) (.slice ra rn rc)) (hle:l.length+r.length<=50000) (hb:base<=w.heap.size) (hsz:s.size<=140737488351232) :
  Calls Tryz.prog 50 #[.string s,.slice la ln lc,.slice ra rn rc] w fun e w'=>∃ a n c,e=.returned (.slice a n c)/\OwnI w' base 69 (.slice a n c) (binI s l r)/\Below base w w':=by
 have hj:=fun j=>jumping_any base j hl hr hap hle hb
 have q7:(s.toList == [38,38])=(bl s == [38,38]):=str_is2 s _
 have q8:(s.toList == [124,124])=(bl s == [124,124]):=str_is2 s _
 unfold binI
 by_cases h1:bl s=[38,38]
 ·have a2:(bl s == [38,38])=true:=by rw [h1];rfl
  rw [a2] at q7
  rw [if_pos h1]
  clear h1 a2 q8 hl hr
  go_enter Tryz.func50,Tryz.ntmps50
  go_wp2_with (first
   | (go_at_call 65;refine (hj _).mono ?_;rintro e w1 ⟨a,n,c,rfl,ho,b1⟩)
   | fail)
  go_ret
  exact ⟨_,_,_,rfl,ho,b1⟩
 have a2:(bl s == [38,38])=false:=beq_eq_false_iff_ne.2 h1
 rw [a2] at q7
 rw [if_neg h1]
 clear h1 a2
 by_cases h1:bl s=[124,124]
 ·have a2:(bl s == [124,124])=true:=by rw [h1];rfl
  rw [a2] at q8
  rw [if_pos h1]
  clear h1 a2 hl hr
  go_enter Tryz.func50,Tryz.ntmps50
  go_wp2_with (first
   | (go_at_call 65;refine (hj _).mono ?_;rintro e w1 ⟨a,n,c,rfl,ho,b1⟩)
   | fail)
  go_ret
  exact ⟨_,_,_,rfl,ho,b1⟩
 have a2:(bl s == [124,124])=false:=beq_eq_false_iff_ne.2 h1
 rw [a2] at q8
 rw [if_neg h1]
 clear h1 a2 hj
 have hcl:=fun w1=>pClone_any s w1 hsz
 have hsr:=hr.src (tx:=51) Tryz.underlying51
 have HLT:=hidI hl.lt
 have hsn:=fun w1=>srcI_new (tx:=51) Tryz.underlying51 w1 s 0
 clear hr hap
 go_enter Tryz.func50,Tryz.ntmps50
 go_wp2_with (first
  | (at_builtin;refine appI rfl _ _ rfl base _ (l++r) rfl ho3 _ [(s,0)] rfl hs3 (by simp;omega) hb3s ?_;intro vf mf vg w5 HMF ho6 hg6 hat6)
  | (at_builtin;refine appI rfl _ _ rfl base _ l rfl hl _ r rfl hsr (by omega) hb ?_;intro va m vc w1 HM ho1 hg1 hat1;have hb1:=(Below.refl base w).grown hg1 hb (fun k hk=>(HLT.out k hk).1);clear hl hsr)
  | (go_at_call 13;refine (hcl _).mono ?_;rintro e w2 ⟨rfl,b2⟩;have hal:Below w2.heap.size w2 (w2.alloc (.cells #[.string s,.int .i64 0] 69)):=(Below.refl _ _).alloc Nat.le.refl _;have hb2:=hb1.trans (b2.mono (Nat.le_trans hb hb1.size));have hb3:=hb2.trans (hal.mono (Nat.le_trans hb hb2.size));have hb3s:=Nat.le_trans hb hb3.size;have ho3:=(ho1.on b2).on hal;have hs3:=hsn w2)
  | fail)
 go_ret
 exact ⟨_,_,_,rfl,ho6,hb3.grown hg6 hb3s (fun k hk=>(ho3.lt k hk).1)⟩
end Go.Proofs.YtppefcdkgejfbaaGreatDoor
namespace Go.Proofs.YtppefcdkgejfbaaGreatDoor
open Go.RowKit
set_option linter.unusedSimpArgs false
set_option linter.unusedVariables false
def exV:(d:Nat)->T d->Value:=fold (fun k n s l=>
 if k=1 then .iface 67 (.agg #[.int .i64 n]) else if k=2 then .iface 133 (.agg #[.string s]) else if k=3 then .iface 135 (.agg #[l.getD 0 .nilIface]) else if k=4 then .iface 136 (.agg #[l.getD 0 .nilIface])
 else if k=5 then .iface 138 (.agg #[.string s,l.getD 0 .nilIface,l.getD 1 .nilIface]) else .nilIface)
def exP {d:Nat}(ps:List (T d)) (i:Nat):Value:=(ps.map (exV d)).getD i .nilIface
theorem exV_mk {d:Nat}(k n:Int) (s:ByteArray) (ps:List (T d)):exV (d+1) (mkT k n s ps) =
  if k=1 then .iface 67 (.agg #[.int .i64 n]) else if k=2 then .iface 133 (.agg #[.string s]) else if k=3 then .iface 135 (.agg #[exP ps 0]) else if k=4 then .iface 136 (.agg #[exP ps 0])
  else if k=5 then .iface 138 (.agg #[.string s,exP ps 0,exP ps 1]) else .nilIface:=rfl
theorem exV_form:∀ (d:Nat) (t:T d),exV d t=.nilIface∨∃ u x,exV d t=.iface u x
 | 0,t=>Empty.elim t
 | d+1,t=>by
  obtain ⟨k,n,s,ps,rfl⟩:=T.open t
  rw [exV_mk]
  repeat' split
  all_goals first|exact .inl rfl|exact .inr ⟨_,_,rfl⟩
theorem exP_form {d:Nat}(ps:List (T d)) (i:Nat):exP ps i=.nilIface∨∃ u x,exP ps i=.iface u x:=by
 unfold exP
 rw [List.getD_eq_getElem?_getD,List.getElem?_map]
 cases ps[i]? with
 | none=>exact .inl rfl
 | some p=>exact exV_form d p
end Go.Proofs.YtppefcdkgejfbaaGreatDoor
namespace Go.Proofs.YtppefcdkgejfbaaGreatDoor
open Go.RowKit Go.Lib
set_option linter.unusedSimpArgs false
set_option linter.unusedVariables false
attribute [local go_sem ↓] Go.wp_at_zero Go.wp_at_succ
def Kids (w:World) (v:Value) (l:List Value):Prop:=
 (v=.slice none 0 0/\l=[])∨∃ g,v=.slice (some ⟨g,0,none⟩) l.length l.length/\∀ (i:Nat) (h:i < l.length),w.cell? ⟨g,i,none⟩=some l[i]
abbrev topV (k n:Int) (s:ByteArray) (v:Value):Value:=.agg #[.int .i64 k,.int .i64 n,.string s,v]
def Ifc (x:Value):Prop:=x=.nilIface∨∃ u y,x=.iface u y
theorem as_lit_lit (v:Value) (w:World):(Instr.typeAssert (.iface 67 v) 85 67 true).run Tryz.prog w=.ok (.tuple #[v,.bool true]) w:=by kernel_rfl
theorem as_ref_lit (v:Value) (w:World):(Instr.typeAssert (.iface 133 v) 85 67 true).run Tryz.prog w=.ok (.tuple #[.agg #[.int .i64 0],.bool false]) w:=by kernel_rfl
theorem as_ref_ref (v:Value) (w:World):(Instr.typeAssert (.iface 133 v) 85 133 true).run Tryz.prog w=.ok (.tuple #[v,.bool true]) w:=by kernel_rfl
theorem as_not_lit (v:Value) (w:World):(Instr.typeAssert (.iface 135 v) 85 67 true).run Tryz.prog w=.ok (.tuple #[.agg #[.int .i64 0],.bool false]) w:=by kernel_rfl
theorem as_not_ref (v:Value) (w:World):(Instr.typeAssert (.iface 135 v) 85 133 true).run Tryz.prog w=.ok (.tuple #[.agg #[.string ⟨#[]⟩],.bool false]) w:=by kernel_rfl
theorem as_not_not (v:Value) (w:World):(Instr.typeAssert (.iface 135 v) 85 135 true).run Tryz.prog w=.ok (.tuple #[v,.bool true]) w:=by kernel_rfl
theorem as_neg_lit (v:Value) (w:World):(Instr.typeAssert (.iface 136 v) 85 67 true).run Tryz.prog w=.ok (.tuple #[.agg #[.int .i64 0],.bool false]) w:=by kernel_rfl
theorem as_neg_ref (v:Value) (w:World):(Instr.typeAssert (.iface 136 v) 85 133 true).run Tryz.prog w=.ok (.tuple #[.agg #[.string ⟨#[]⟩],.bool false]) w:=by kernel_rfl
theorem as_neg_not (v:Value) (w:World):(Instr.typeAssert (.iface 136 v) 85 135 true).run Tryz.prog w=.ok (.tuple #[.agg #[.nilIface],.bool false]) w:=by kernel_rfl
theorem as_neg_neg (v:Value) (w:World):(Instr.typeAssert (.iface 136 v) 85 136 true).run Tryz.prog w=.ok (.tuple #[v,.bool true]) w:=by kernel_rfl
theorem as_bin_lit (v:Value) (w:World):(Instr.typeAssert (.iface 138 v) 85 67 true).run Tryz.prog w=.ok (.tuple #[.agg #[.int .i64 0],.bool false]) w:=by kernel_rfl
theorem as_bin_ref (v:Value) (w:World):(Instr.typeAssert (.iface 138 v) 85 133 true).run Tryz.prog w=.ok (.tuple #[.agg #[.string ⟨#[]⟩],.bool false]) w:=by kernel_rfl
theorem as_bin_not (v:Value) (w:World):(Instr.typeAssert (.iface 138 v) 85 135 true).run Tryz.prog w=.ok (.tuple #[.agg #[.nilIface],.bool false]) w:=by kernel_rfl
theorem as_bin_neg (v:Value) (w:World):(Instr.typeAssert (.iface 138 v) 85 136 true).run Tryz.prog w=.ok (.tuple #[.agg #[.nilIface],.bool false]) w:=by kernel_rfl
theorem as_bin_bin (v:Value) (w:World):(Instr.typeAssert (.iface 138 v) 85 138 true).run Tryz.prog w=.ok (.tuple #[v,.bool true]) w:=by kernel_rfl
attribute [local go_sem] as_lit_lit as_ref_lit as_ref_ref as_not_lit as_not_ref as_not_not as_neg_lit as_neg_ref as_neg_not as_neg_neg as_bin_lit as_bin_ref as_bin_not as_bin_neg as_bin_bin
theorem cell1_new (w:World) (a:Value) (t:TypeId) (n:Nat) (hn:n=w.heap.size):(w.alloc (.cells #[a] t)).cell? ⟨n,0,none⟩=some a:=by subst hn;simp
theorem cell2_new (w:World) (a b:Value) (t:TypeId) (n:Nat) (hn:n=w.heap.size):(w.alloc (.cells #[a,b] t)).cell? ⟨n,0,none⟩=some a/\(w.alloc (.cells #[a,b] t)).cell? ⟨n,1,none⟩=some b:=by subst hn;simp
theorem kids0 (w:World):Kids w (.slice none 0 0) []:=.inl ⟨rfl,rfl⟩
theorem kids1 {w:World}{g:Nat}{x:Value}(h:w.cell? ⟨g,0,none⟩=some x):Kids w (.slice (some ⟨g,0,none⟩) 1 1) [x]:=.inr ⟨g,rfl,fun i hi=>by
 match i,hi with
 | 0,_=>exact h⟩
theorem kids2 {w:World}{g:Nat}{x y:Value}(h:w.cell? ⟨g,0,none⟩=some x) (h':w.cell? ⟨g,1,none⟩=some y):Kids w (.slice (some ⟨g,0,none⟩) 2 2) [x,y]:=.inr ⟨g,rfl,fun i hi=>by
 match i,hi with
 | 0,_=>exact h
 | 1,_=>exact h'⟩
theorem Kids.below {w w':World}{v:Value}{l:List Value}{B:Nat}(h:Kids w v l) (hb:Below B w w') (hB:w.heap.size<=B):Kids w' v l:=by
 rcases h with h|⟨g,hv,hc⟩
 ·exact .inl h
 ·exact .inr ⟨g,hv,fun i hi=>by rw [hb.cell (p:=⟨g,i,none⟩) (Nat.lt_of_lt_of_le (World.block_lt_of_cell? w _ (hc i hi)) hB)];exact hc i hi⟩
theorem top_nil (w:World):Calls Tryz.prog 62 #[.nilIface] w fun e w'=>∃ sl,e=.returned (topV 0 0 ⟨#[]⟩ sl)/\Kids w' sl []/\Below w.heap.size w w':=by
 go_enter Tryz.func62,Tryz.ntmps62
 go_wp2
 refine bodyPost_ret (v:=topV 0 0 ⟨#[]⟩ (.slice none 0 0)) (by simp [results,Tryz.results62,go_sem]) rfl ⟨_,rfl,kids0 _,?_⟩
 ·(repeat (refine Below.alloc ?_ (by simp<;>omega) _));exact Below.refl _ _
theorem top_lit (n:Int) (w:World):Calls Tryz.prog 62 #[.iface 67 (.agg #[.int .i64 n])] w fun e w'=>∃ sl,e=.returned (topV 1 n ⟨#[]⟩ sl)/\Kids w' sl []/\Below w.heap.size w w':=by
 go_enter Tryz.func62,Tryz.ntmps62
 go_wp2
 refine bodyPost_ret (v:=topV 1 n ⟨#[]⟩ (.slice none 0 0)) (by simp [results,Tryz.results62,go_sem]) rfl ⟨_,rfl,kids0 _,?_⟩
 ·(repeat (refine Below.alloc ?_ (by simp<;>omega) _));exact Below.refl _ _
theorem top_ref (s:ByteArray) (w:World):Calls Tryz.prog 62 #[.iface 133 (.agg #[.string s])] w fun e w'=>∃ sl,e=.returned (topV 2 0 s sl)/\Kids w' sl []/\Below w.heap.size w w':=by
 go_enter Tryz.func62,Tryz.ntmps62
 go_wp2
 refine bodyPost_ret (v:=topV 2 0 s (.slice none 0 0)) (by simp [results,Tryz.results62,go_sem]) rfl ⟨_,rfl,kids0 _,?_⟩
 ·(repeat (refine Below.alloc ?_ (by simp<;>omega) _));exact Below.refl _ _
theorem top_not (x:Value) (hx:Ifc x) (w:World):Calls Tryz.prog 62 #[.iface 135 (.agg #[x])] w fun e w'=>∃ sl,e=.returned (topV 3 0 ⟨#[]⟩ sl)/\Kids w' sl [x]/\Below w.heap.size w w':=by
 rcases hx with rfl|⟨u,y,rfl⟩
 ·go_enter Tryz.func62,Tryz.ntmps62
  go_wp2
  refine bodyPost_ret (v:=topV 3 0 ⟨#[]⟩ (.slice (some ⟨w.heap.size+4,0,none⟩) 1 1)) (by simp [results,Tryz.results62,go_sem]) rfl ⟨_,rfl,kids1 ?_,?_⟩
  ·exact cell1_new _ _ _ _ (by simp)
  ·(repeat (refine Below.alloc ?_ (by simp<;>omega) _));exact Below.refl _ _
 ·go_enter Tryz.func62,Tryz.ntmps62
  go_wp2
  refine bodyPost_ret (v:=topV 3 0 ⟨#[]⟩ (.slice (some ⟨w.heap.size+4,0,none⟩) 1 1)) (by simp [results,Tryz.results62,go_sem]) rfl ⟨_,rfl,kids1 ?_,?_⟩
  ·exact cell1_new _ _ _ _ (by simp)
  ·(repeat (refine Below.alloc ?_ (by simp<;>omega) _));exact Below.refl _ _
theorem top_neg (x:Value) (hx:Ifc x) (w:World):Calls Tryz.prog 62 #[.iface 136 (.agg #[x])] w fun e w'=>∃ sl,e=.returned (topV 4 0 ⟨#[]⟩ sl)/\Kids w' sl [x]/\Below w.heap.size w w':=by
 rcases hx with rfl|⟨u,y,rfl⟩
 ·go_enter Tryz.func62,Tryz.ntmps62
  go_wp2
  refine bodyPost_ret (v:=topV 4 0 ⟨#[]⟩ (.slice (some ⟨w.heap.size+5,0,none⟩) 1 1)) (by simp [results,Tryz.results62,go_sem]) rfl ⟨_,rfl,kids1 ?_,?_⟩
  ·exact cell1_new _ _ _ _ (by simp)
  ·(repeat (refine Below.alloc ?_ (by simp<;>omega) _));exact Below.refl _ _
 ·go_enter Tryz.func62,Tryz.ntmps62
  go_wp2
  refine bodyPost_ret (v:=topV 4 0 ⟨#[]⟩ (.slice (some ⟨w.heap.size+5,0,none⟩) 1 1)) (by simp [results,Tryz.results62,go_sem]) rfl ⟨_,rfl,kids1 ?_,?_⟩
  ·exact cell1_new _ _ _ _ (by simp)
  ·(repeat (refine Below.alloc ?_ (by simp<;>omega) _));exact Below.refl _ _
theorem top_bin (s:ByteArray) (x x':Value) (hx:Ifc x) (hx':Ifc x') (w:World):Calls Tryz.prog 62 #[.iface 138 (.agg #[.string s,x,x'])] w fun e w'=>∃ sl,e=.returned (topV 5 0 s sl)/\Kids w' sl [x,x']/\Below w.heap.size w w':=by
 rcases hx with rfl|⟨u,y,rfl⟩<;>rcases hx' with rfl|⟨u',y',rfl⟩
 ·go_enter Tryz.func62,Tryz.ntmps62
  go_wp2
  refine bodyPost_ret (v:=topV 5 0 s (.slice (some ⟨w.heap.size+6,0,none⟩) 2 2)) (by simp [results,Tryz.results62,go_sem]) rfl ⟨_,rfl,kids2 ?_ ?_,?_⟩
  ·exact (cell2_new _ _ _ _ _ (by simp)).1
  ·exact (cell2_new _ _ _ _ _ (by simp)).2
  ·(repeat (refine Below.alloc ?_ (by simp<;>omega) _));exact Below.refl _ _
 ·go_enter Tryz.func62,Tryz.ntmps62
  go_wp2
  refine bodyPost_ret (v:=topV 5 0 s (.slice (some ⟨w.heap.size+6,0,none⟩) 2 2)) (by simp [results,Tryz.results62,go_sem]) rfl ⟨_,rfl,kids2 ?_ ?_,?_⟩
  ·exact (cell2_new _ _ _ _ _ (by simp)).1
  ·exact (cell2_new _ _ _ _ _ (by simp)).2
  ·(repeat (refine Below.alloc ?_ (by simp<;>omega) _));exact Below.refl _ _
 ·go_enter Tryz.func62,Tryz.ntmps62
  go_wp2
  refine bodyPost_ret (v:=topV 5 0 s (.slice (some ⟨w.heap.size+6,0,none⟩) 2 2)) (by simp [results,Tryz.results62,go_sem]) rfl ⟨_,rfl,kids2 ?_ ?_,?_⟩
  ·exact (cell2_new _ _ _ _ _ (by simp)).1
  ·exact (cell2_new _ _ _ _ _ (by simp)).2
  ·(repeat (refine Below.alloc ?_ (by simp<;>omega) _));exact Below.refl _ _
 ·go_enter Tryz.func62,Tryz.ntmps62
  go_wp2
  refine bodyPost_ret (v:=topV 5 0 s (.slice (some ⟨w.heap.size+6,0,none⟩) 2 2)) (by simp [results,Tryz.results62,go_sem]) rfl ⟨_,rfl,kids2 ?_ ?_,?_⟩
  ·exact (cell2_new _ _ _ _ _ (by simp)).1
  ·exact (cell2_new _ _ _ _ _ (by simp)).2
  ·(repeat (refine Below.alloc ?_ (by simp<;>omega) _));exact Below.refl _ _
theorem ifc_ex {d:Nat}(t:T d):Ifc (exV d t):=exV_form d t
theorem top_any {d:Nat}{t:T (d+1)}(hc:Cl (d+1) t):∃ k n s ps,t=mkT k n s ps/\∀ w,Calls Tryz.prog 62 #[exV (d+1) t] w fun e w'=>∃ sl,e=.returned (topV k n s sl)/\Kids w' sl (ps.map (exV d))/\Below w.heap.size w w':=by
 rcases hc.cases with ⟨n,rfl⟩|⟨s,rfl⟩|⟨k,p,hk,rfl,hp⟩|⟨s,p,q,rfl,hp,hq⟩|rfl
 ·exact ⟨1,n,_,[],rfl,fun w=>top_lit n w⟩
 ·exact ⟨2,0,s,[],rfl,fun w=>top_ref s w⟩
 ·rcases hk with rfl|rfl
  ·exact ⟨3,0,_,[p],rfl,fun w=>top_not (exV d p) (ifc_ex p) w⟩
  ·exact ⟨4,0,_,[p],rfl,fun w=>top_neg (exV d p) (ifc_ex p) w⟩
 ·exact ⟨5,0,s,[p,q],rfl,fun w=>top_bin s (exV d p) (exV d q) (ifc_ex p) (ifc_ex q) w⟩
 ·exact ⟨0,0,_,[],rfl,fun w=>top_nil w⟩
end Go.Proofs.YtppefcdkgejfbaaGreatDoor
namespace Go.Proofs.YtppefcdkgejfbaaGreatDoor
open Go.RowKit Go.Lib
set_option linter.unusedSimpArgs false
set_option linter.unusedVariables false
attribute [local go_sem ↓] Go.wp_at_zero Go.wp_at_succ
attribute [local go_sem] as_lit_lit as_ref_lit as_ref_ref as_not_lit as_not_ref as_not_not as_neg_lit as_neg_ref as_neg_not as_neg_neg as_bin_lit as_bin_ref as_bin_not as_bin_neg as_bin_bin
def KidsN (lo:Nat) (w:World) (v:Value) (l:List Value):Prop:=Kids w v l/\∀ g,v.ownBlock=some g->lo<=g
theorem kidsN0 (lo:Nat) (w:World):KidsN lo w (.slice none 0 0) []:=⟨kids0 w,fun g hg=>by cases hg⟩
theorem kidsN1 {lo:Nat}{w:World}{g:Nat}{x:Value}(hl:lo<=g) (h:w.cell? ⟨g,0,none⟩=some x):KidsN lo w (.slice (some ⟨g,0,none⟩) 1 1) [x]:=⟨kids1 h,fun g' hg=>by simp [Value.ownBlock] at hg;omega⟩
theorem kidsN2 {lo:Nat}{w:World}{g:Nat}{x y:Value}(hl:lo<=g) (h:w.cell? ⟨g,0,none⟩=some x) (h':w.cell? ⟨g,1,none⟩=some y):KidsN lo w (.slice (some ⟨g,0,none⟩) 2 2) [x,y]:=⟨kids2 h h',fun g' hg=>by simp [Value.ownBlock] at hg;omega⟩
theorem topN_nil (w:World):Calls Tryz.prog 62 #[.nilIface] w fun e w'=>∃ sl,e=.returned (topV 0 0 ⟨#[]⟩ sl)/\KidsN w.heap.size w' sl []/\Below w.heap.size w w':=by
 go_enter Tryz.func62,Tryz.ntmps62
 go_wp2
 refine bodyPost_ret (v:=topV 0 0 ⟨#[]⟩ (.slice none 0 0)) (by simp [results,Tryz.results62,go_sem]) rfl ⟨_,rfl,kidsN0 _ _,?_⟩
 ·(repeat (refine Below.alloc ?_ (by simp<;>omega) _));exact Below.refl _ _
theorem topN_lit (n:Int) (w:World):Calls Tryz.prog 62 #[.iface 67 (.agg #[.int .i64 n])] w fun e w'=>∃ sl,e=.returned (topV 1 n ⟨#[]⟩ sl)/\KidsN w.heap.size w' sl []/\Below w.heap.size w w':=by
 go_enter Tryz.func62,Tryz.ntmps62
 go_wp2
 refine bodyPost_ret (v:=topV 1 n ⟨#[]⟩ (.slice none 0 0)) (by simp [results,Tryz.results62,go_sem]) rfl ⟨_,rfl,kidsN0 _ _,?_⟩
 ·(repeat (refine Below.alloc ?_ (by simp<;>omega) _));exact Below.refl _ _
theorem topN_ref (s:ByteArray) (w:World):Calls Tryz.prog 62 #[.iface 133 (.agg #[.string s])] w fun e w'=>∃ sl,e=.returned (topV 2 0 s sl)/\KidsN w.heap.size w' sl []/\Below w.heap.size w w':=by
 go_enter Tryz.func62,Tryz.ntmps62
 go_wp2
 refine bodyPost_ret (v:=topV 2 0 s (.slice none 0 0)) (by simp [results,Tryz.results62,go_sem]) rfl ⟨_,rfl,kidsN0 _ _,?_⟩
 ·(repeat (refine Below.alloc ?_ (by simp<;>omega) _));exact Below.refl _ _
theorem topN_not (x:Value) (hx:Ifc x) (w:World):Calls Tryz.prog 62 #[.iface 135 (.agg #[x])] w fun e w'=>∃ sl,e=.returned (topV 3 0 ⟨#[]⟩ sl)/\KidsN w.heap.size w' sl [x]/\Below w.heap.size w w':=by
 rcases hx with rfl|⟨u,y,rfl⟩
 ·go_enter Tryz.func62,Tryz.ntmps62
  go_wp2
  refine bodyPost_ret (v:=topV 3 0 ⟨#[]⟩ (.slice (some ⟨w.heap.size+4,0,none⟩) 1 1)) (by simp [results,Tryz.results62,go_sem]) rfl ⟨_,rfl,kidsN1 ?_ ?_,?_⟩
  ·simp
  ·exact cell1_new _ _ _ _ (by simp)
  ·(repeat (refine Below.alloc ?_ (by simp<;>omega) _));exact Below.refl _ _
 ·go_enter Tryz.func62,Tryz.ntmps62
  go_wp2
  refine bodyPost_ret (v:=topV 3 0 ⟨#[]⟩ (.slice (some ⟨w.heap.size+4,0,none⟩) 1 1)) (by simp [results,Tryz.results62,go_sem]) rfl ⟨_,rfl,kidsN1 ?_ ?_,?_⟩
  ·simp
  ·exact cell1_new _ _ _ _ (by simp)
  ·(repeat (refine Below.alloc ?_ (by simp<;>omega) _));exact Below.refl _ _
theorem topN_neg (x:Value) (hx:Ifc x) (w:World):Calls Tryz.prog 62 #[.iface 136 (.agg #[x])] w fun e w'=>∃ sl,e=.returned (topV 4 0 ⟨#[]⟩ sl)/\KidsN w.heap.size w' sl [x]/\Below w.heap.size w w':=by
 rcases hx with rfl|⟨u,y,rfl⟩
 ·go_enter Tryz.func62,Tryz.ntmps62
  go_wp2
  refine bodyPost_ret (v:=topV 4 0 ⟨#[]⟩ (.slice (some ⟨w.heap.size+5,0,none⟩) 1 1)) (by simp [results,Tryz.results62,go_sem]) rfl ⟨_,rfl,kidsN1 ?_ ?_,?_⟩
  ·simp
  ·exact cell1_new _ _ _ _ (by simp)
  ·(repeat (refine Below.alloc ?_ (by simp<;>omega) _));exact Below.refl _ _
 ·go_enter Tryz.func62,Tryz.ntmps62
  go_wp2
  refine bodyPost_ret (v:=topV 4 0 ⟨#[]⟩ (.slice (some ⟨w.heap.size+5,0,none⟩) 1 1)) (by simp [results,Tryz.results62,go_sem]) rfl ⟨_,rfl,kidsN1 ?_ ?_,?_⟩
  ·simp
  ·exact cell1_new _ _ _ _ (by simp)
  ·(repeat (refine Below.alloc ?_ (by simp<;>omega) _));exact Below.refl _ _
theorem topN_bin (s:ByteArray) (x x':Value) (hx:Ifc x) (hx':Ifc x') (w:World):Calls Tryz.prog 62 #[.iface 138 (.agg #[.string s,x,x'])] w fun e w'=>∃ sl,e=.returned (topV 5 0 s sl)/\KidsN w.heap.size w' sl [x,x']/\Below w.heap.size w w':=by
 rcases hx with rfl|⟨u,y,rfl⟩<;>rcases hx' with rfl|⟨u',y',rfl⟩
 ·go_enter Tryz.func62,Tryz.ntmps62
  go_wp2
  refine bodyPost_ret (v:=topV 5 0 s (.slice (some ⟨w.heap.size+6,0,none⟩) 2 2)) (by simp [results,Tryz.results62,go_sem]) rfl ⟨_,rfl,kidsN2 ?_ ?_ ?_,?_⟩
  ·simp
  ·exact (cell2_new _ _ _ _ _ (by simp)).1
  ·exact (cell2_new _ _ _ _ _ (by simp)).2
  ·(repeat (refine Below.alloc ?_ (by simp<;>omega) _));exact Below.refl _ _
 ·go_enter Tryz.func62,Tryz.ntmps62
  go_wp2
  refine bodyPost_ret (v:=topV 5 0 s (.slice (some ⟨w.heap.size+6,0,none⟩) 2 2)) (by simp [results,Tryz.results62,go_sem]) rfl ⟨_,rfl,kidsN2 ?_ ?_ ?_,?_⟩
  ·simp
  ·exact (cell2_new _ _ _ _ _ (by simp)).1
  ·exact (cell2_new _ _ _ _ _ (by simp)).2
  ·(repeat (refine Below.alloc ?_ (by simp<;>omega) _));exact Below.refl _ _
 ·go_enter Tryz.func62,Tryz.ntmps62
  go_wp2
  refine bodyPost_ret (v:=topV 5 0 s (.slice (some ⟨w.heap.size+6,0,none⟩) 2 2)) (by simp [results,Tryz.results62,go_sem]) rfl ⟨_,rfl,kidsN2 ?_ ?_ ?_,?_⟩
  ·simp
  ·exact (cell2_new _ _ _ _ _ (by simp)).1
  ·exact (cell2_new _ _ _ _ _ (by simp)).2
  ·(repeat (refine Below.alloc ?_ (by simp<;>omega) _));exact Below.refl _ _
 ·go_enter Tryz.func62,Tryz.ntmps62
  go_wp2
  refine bodyPost_ret (v:=topV 5 0 s (.slice (some ⟨w.heap.size+6,0,none⟩) 2 2)) (by simp [results,Tryz.results62,go_sem]) rfl ⟨_,rfl,kidsN2 ?_ ?_ ?_,?_⟩
  ·simp
  ·exact (cell2_new _ _ _ _ _ (by simp)).1
  ·exact (cell2_new _ _ _ _ _ (by simp)).2
  ·(repeat (refine Below.alloc ?_ (by simp<;>omega) _));exact Below.refl _ _
theorem topN_any {d:Nat}{t:T (d+1)}(hc:Cl (d+1) t):∃ k n s ps,t=mkT k n s ps/\∀ w,Calls Tryz.prog 62 #[exV (d+1) t] w fun e w'=>∃ sl,e=.returned (.agg #[.int .i64 k,.int .i64 n,.string s,sl])/\KidsN w.heap.size w' sl (ps.map (exV d))/\Below w.heap.size w w':=by
 rcases hc.cases with ⟨n,rfl⟩|⟨s,rfl⟩|⟨k,p,hk,rfl,hp⟩|⟨s,p,q,rfl,hp,hq⟩|rfl
 ·exact ⟨1,n,_,[],rfl,fun w=>topN_lit n w⟩
 ·exact ⟨2,0,s,[],rfl,fun w=>topN_ref s w⟩
 ·rcases hk with rfl|rfl
  ·exact ⟨3,0,_,[p],rfl,fun w=>topN_not (exV d p) (ifc_ex p) w⟩
  ·exact ⟨4,0,_,[p],rfl,fun w=>topN_neg (exV d p) (ifc_ex p) w⟩
 ·exact ⟨5,0,s,[p,q],rfl,fun w=>topN_bin s (exV d p) (exV d q) (ifc_ex p) (ifc_ex q) w⟩
 ·exact ⟨0,0,_,[],rfl,fun w=>topN_nil w⟩
end Go.Proofs.YtppefcdkgejfbaaGreatDoor
namespace Go.Proofs.YtppefcdkgejfbaaGreatDoor
open Go.RowKit Go.Lib
set_option linter.unusedSimpArgs false
set_option linter.unusedVariables false
attribute [local go_sem ↓] Go.wp_at_zero Go.wp_at_succ
theorem fld_i (a b c e:Value) (w:World):(Instr.field 158 (.agg #[a,b,c,e]) 3).run Tryz.prog w=.ok e w:=by kernel_rfl
abbrev Sg:=(d:Nat) × T d
def exS (x:Sg):Value:=exV x.1 x.2
def cntS (x:Sg):Nat:=cnt x.1 x.2
def ClS (x:Sg):Prop:=Cl x.1 x.2
def Stk (w:World) (base:Nat) (v:Value) (st:List Sg):Prop:=w.ownsRow base 85 1 v st.length (st.map exS)
theorem own_on {w w':World}{base e size:Nat}{v:Value}{n:Nat}{xs:List Value}{B:Nat}(h:w.ownsRow base e size v n xs) (hb:Below B w w') (hB:w.heap.size<=B):w'.ownsRow base e size v n xs:=by
 refine ⟨h.1,?_⟩
 rcases h.2 with hn|⟨g,cap,cur,rfl,hbg,hg,rest⟩
 ·exact .inl hn
 ·exact .inr ⟨g,cap,cur,rfl,hbg,by rw [hb.block g (by have:=(Array.getElem?_eq_some_iff.1 hg).1;omega)];exact hg,rest⟩
theorem Stk.on {w w':World}{base:Nat}{v:Value}{st:List Sg}{B:Nat}(h:Stk w base v st) (hb:Below B w w') (hB:w.heap.size<=B):Stk w' base v st:=own_on h hb hB
theorem exS_form (x:Sg):exS x=.nilIface∨∃ u y,exS x=.iface u y:=exV_form x.1 x.2
theorem Stk.pop {w:World}{base:Nat}{v:Value}{st:List Sg}{x:Sg}(h:Stk w base v (st++[x])):∃ g cap,v=.slice (some ⟨g,0,none⟩) (st.length+1) cap/\st.length+1<=cap/\cap<=maxLen/\base<=g/\g < w.heap.size/\
  w.cell? ⟨g,st.length,none⟩=some (exS x)/\Stk w base (.slice (some ⟨g,0,none⟩) st.length cap) st:=by
 unfold Stk at h
 rw [List.length_append,List.length_singleton,List.map_append,List.map_singleton] at h
 have hc:=fun g=>World.ownsRow.cells h (g:=g)
 rcases h.2 with ⟨_,h2⟩|⟨g,cap,cur,rfl,hb,hg,hnc,hcm,hcs,htake⟩
 ·omega
 ·have h1:=hc g rfl st.length (exS x) (by simp)
  rw [show (⟨g,0,none⟩:Addr).add st.length=⟨g,st.length,none⟩ by unfold Addr.add;split<;>simp_all] at h1
  refine ⟨g,cap,rfl,hnc,hcm,hb,(Array.getElem?_eq_some_iff.1 hg).1,h1,by simp,.inr ⟨g,cap,cur,rfl,hb,hg,by omega,hcm,hcs,?_⟩⟩
  have h3:=congrArg (List.take st.length) htake
  rw [List.take_take] at h3
  simp only [Nat.mul_one] at h3 ⊢
  rw [Nat.min_eq_left (by omega),List.take_left' (by simp)] at h3
  exact h3
theorem Stk.nil {w:World}{base:Nat}{v:Value}(h:Stk w base v []):∃ a cap,v=.slice a 0 cap:=by
 rcases h.2 with ⟨h1,_⟩|⟨g,cap,cur,rfl,_⟩
 ·exact ⟨_,_,h1⟩
 ·exact ⟨_,_,rfl⟩
theorem Tryz.infoE:(Tryz.prog.info? 85).map (fun i=>(i.zero,i.size,i.bytes))=some (some .nilIface,1,16):=by kernel_rfl
theorem Kids.form {w:World}{sl:Value}{l:List Value}(h:Kids w sl l):∃ a,sl=.slice a l.length l.length:=by
 rcases h with ⟨rfl,rfl⟩|⟨g,rfl,_⟩
 ·exact ⟨_,rfl⟩
 ·exact ⟨_,rfl⟩
theorem Kids.at {w:World}{a:Option Addr}{m c j:Nat}{l:List Value}(h:Kids w (.slice a m c) l) (hj:j < l.length):∃ g,a=some ⟨g,0,none⟩/\w.cell? ⟨g,j,none⟩=some l[j]:=by
 rcases h with ⟨h1,rfl⟩|⟨g,h1,hc⟩
 ·simp at hj
 ·simp only [Value.slice.injEq] at h1
  exact ⟨g,h1.1,hc j hj⟩
theorem Kids.src {w:World}{sl:Value}{l:List Value}(h:Kids w sl l) (hf:∀ v∈l,Ifc v):Src Tryz.prog 1 156 sl l.length l w:=by
 rcases h with ⟨rfl,rfl⟩|⟨g,rfl,hc⟩
 ·exact Src.ofNil w Tryz.underlying156 0
 ·refine Src.ofSlice w Tryz.underlying156 _ _ _ l (by simp) (fun j u hu=>?_) (fun u hu=>?_)
  ·have hj:j < l.length:=(List.getElem?_eq_some_iff.1 hu).1
   rw [List.getElem?_eq_getElem hj] at hu
   rw [show (⟨g,0,none⟩:Addr).add j=⟨g,j,none⟩ by unfold Addr.add;split<;>simp_all,hc j hj,hu]
  ·rcases hf u hu with rfl|⟨t,y,rfl⟩<;>rfl
def kidS {d:Nat}(ps:List (T d)):List Sg:=ps.map (fun p=>⟨d,p⟩)
theorem kidS_ex {d:Nat}(ps:List (T d)):(kidS ps).map exS=ps.map (exV d):=by unfold kidS;rw [List.map_map];rfl
theorem kidS_cnt {d:Nat}(ps:List (T d)):((kidS ps).map cntS).sum=(ps.map (cnt d)).sum:=by unfold kidS;rw [List.map_map];rfl
theorem kidS_len {d:Nat}(ps:List (T d)):(kidS ps).length=ps.length:=by simp [kidS]
theorem Stk.push {w:World}{base:Nat}{v:Value}{st:List Sg}{d:Nat}{ps:List (T d)}{n:Nat}(hn:n=st.length+ps.length) (h:w.ownsRow base 85 1 v n (st.map exS++ps.map (exV d))):Stk w base v (st++kidS ps):=by
 unfold Stk
 rw [List.length_append,List.map_append,kidS_ex,kidS_len,<- hn]
 exact h
theorem ifc_map {d:Nat}(ps:List (T d)):∀ v∈ps.map (exV d),Ifc v:=fun v hv=>by
 obtain ⟨p,_,rfl⟩:=List.mem_map.1 hv
 exact ifc_ex p
theorem Cl.parts {d:Nat}{k n:Int}{s:ByteArray}{ps:List (T d)}(h:Cl (d+1) (mkT k n s ps)):ps.length<=2/\∀ p∈ps,Cl d p:=by
 rcases h with ⟨_,_,h3⟩|⟨_,_,h3⟩|⟨_,_,_,p,h4,h5⟩|⟨_,_,p,q,h3,h4,h5⟩|⟨_,_,_,h4⟩
 ·simp only at h3;subst h3;simp
 ·simp only at h3;subst h3;simp
 ·simp only at h4;subst h4;simpa using h5
 ·simp only at h3;subst h3;simp [h4,h5]
 ·simp only at h4;subst h4;simp
theorem last_of {α:Type}{l:List α}(h:l≠[]):∃ a x,l=a++[x]:=⟨l.dropLast,l.getLast h,(List.dropLast_concat_getLast h).symm⟩
