import Derived.Test.YtlgnahpfggagoaaGreatDoorWzc05
import Derived.Test.YtlgnahpfggagoaaGreatDoorWzc06
import Derived.Test.YtlgnahpfggagoaaGreatDoorWzc04
import Derived.Test.YtlgnahpfggagoaaGreatDoorWzc01
import Derived.Sort.OwnSorted
import Derived.Lib.OwnBridge
import Derived.RangeFuncNested
/- What the program's addNames and Refs do. -/
namespace Go.Proofs.YtlgnahpfggagoaaGreatDoor
open Go.RowKit Go.Lib
set_option linter.unusedSimpArgs false
set_option linter.unusedVariables false
attribute [local go_sem ↓] Go.wp_at_zero Go.wp_at_succ
theorem cell_al2 {w:World}{p:Addr}{v:Value}{O:Obj}(h:w.cell? p=some v):(w.alloc O).cell? p=some v:=(((Below.refl w.heap.size w).alloc (Nat.le_refl _) O).cell (World.block_lt_of_cell? w _ h)).trans h
theorem cS_enc (ls:List ByteArray):(ls.map bl).map encStr=cS ls:=map_encStr ls
/-- Nothing has turned but the row of v, and new blocks; the row is where it was, or new. -/
structure Fr (w w':World) (v u:Value):Prop where
 grown:w.grownBy w' v.ownBlock
 lies:∀ g,u.ownBlock=some g→v.ownBlock=some g∨w.heap.size≤g
theorem Fr.of {w w':World}{B:Nat}(h:Below B w w') (hB:w.heap.size≤B) (v:Value):Fr w w' v v:=⟨⟨h.os,h.tape,h.output,h.size,fun k hk _=>h.block k (by omega)⟩,fun g hg=>.inl hg⟩
theorem Fr.trans {w w1 w2:World}{v u t:Value}(h:Fr w w1 v u) (k:Fr w1 w2 u t):Fr w w2 v t:=by
 refine ⟨⟨k.grown.os.trans h.grown.os,k.grown.tape.trans h.grown.tape,k.grown.output.trans h.grown.output,Nat.le_trans h.grown.size k.grown.size,fun j hj hne=>?_⟩,fun g hg=>?_⟩
 ·rw [k.grown.block j (Nat.lt_of_lt_of_le hj h.grown.size) (fun e=>?_),h.grown.block j hj hne]
  rcases h.lies j e.symm with q | q
  ·exact hne q.symm
  ·omega
 ·rcases k.lies g hg with q | q
  ·exact h.lies g q
  ·exact .inr (Nat.le_trans h.grown.size q)
theorem Fr.below {w w':World}{v u:Value}{B:Nat}(h:Fr w w' v u) (hB:B≤w.heap.size) (hv:∀ g,v.ownBlock=some g→B≤g):Below B w w':=(Below.refl B w).grown h.grown hB (fun k hk=>hv k hk)
theorem Kids.fr {w w':World}{v u sl:Value}{l:List Value}(h:Kids w sl l) (f:Fr w w' v u) (ho:∀ g,v.ownBlock=some g→sl.ownBlock=some g→False):Kids w' sl l:=by
 rcases h with h | ⟨g,hv,hc⟩
 ·exact .inl h
 ·refine .inr ⟨g,hv,fun i hi=>?_⟩
  refine f.grown.cell (hc i hi) (fun e=>?_)
  subst hv
  exact ho g e.symm rfl
/-- Apart still, behind the row's growth. -/
theorem apart_fr {w w':World}{v u sl:Value}{l:List Value}(h:Kids w sl l) (hl:l≠[]) (f:Fr w w' v u) (ho:∀ g,v.ownBlock=some g→sl.ownBlock=some g→False):∀ g,u.ownBlock=some g→sl.ownBlock=some g→False:=by
 intro g h1 h2
 rcases f.lies g h1 with q | q
 ·exact ho g q h2
 ·rcases h with ⟨_,e⟩ | ⟨g',rfl,hc⟩
  ·exact hl e
  ·have e1:g'=g:=by simpa [Value.ownBlock] using h2
   subst e1
   cases l with
   | nil=>exact hl rfl
   | cons x r=>
    have:=World.block_lt_of_cell? w _ (hc 0 (by simp))
    simp only at this
    omega
theorem pSort_any {base:Nat}(ls:List ByteArray) (v:Value) (w:World) (h:w.ownsRow base 9 1 v ls.length (cS ls)) (hl:ls.length≤1000) :
  Calls Tryz.prog 112 #[v] w fun e w'=>e=.returned (.tuple #[])∧w'.ownsRow base 9 1 v ((ls.map bl).mergeSort lrB).length (((ls.map bl).mergeSort lrB).map encStr)∧Fr w w' v v:=by
 have hlen:((ls.map bl).mergeSort lrB).length=ls.length:=by simp
 rcases h.2 with ⟨rfl,h2⟩ | ⟨g,cap,cur,rfl,hbase,hb,h1,h2,h3,h4⟩
 ·have hx:ls=[]:=List.eq_nil_of_length_eq_zero h2
  subst hx
  refine (Any.slices_Sort_string_none laysS none 0 w).mono ?_
  rintro e w' ⟨rfl,rfl⟩
  exact ⟨rfl,by simpa using World.ownsRow_nil w' base 9 1,Fr.of (Below.refl _ _) (Nat.le_refl _) _⟩
 ·have hh:Sort.Holds encStr w g 0 (ls.map bl).toArray:=holds_of_block hb (by rw [cS_enc,List.length_map];simpa using h4)
  have hc:=Any.slices_Sort_string laysS g 0 cap (ls.map bl) w hh (Array.getElem?_eq_some_iff.1 hb).1 (by simp;omega)
  rw [List.length_map] at hc
  refine Calls.mono hc ?_
  rintro e w' ⟨rfl,n,os,rfl⟩
  refine ⟨rfl,?_,grownBy_sorted _,fun g hg=>.inl hg⟩
  have:=ownsRow_sorted (n:=n) (os:=os) (ss:=ls.map bl) (ts:=(ls.map bl).mergeSort lrB) (by simp) hbase hb (by simpa using h1) h2 h3
  rw [List.length_map,← hlen] at this
  rw [hlen]
  rw [hlen] at this
  exact this
theorem comp_len (zs:List Bs):(compact zs).length≤zs.length:=by
 unfold compact compactUpTo
 rw [List.length_map]
 have:=List.length_filter_le (keeps zs.toArray) (List.range zs.length)
 simpa using this
theorem pCompact_any {base:Nat}(zs:List Bs) (v:Value) (w:World) (h:w.ownsRow base 9 1 v zs.length (zs.map encStr)) (hl:zs.length≤1000) :
  Calls Tryz.prog 113 #[v] w fun e w'=>∃ u,e=.returned u∧w'.ownsRow base 9 1 u (compact zs).length ((compact zs).map encStr)∧Fr w w' v u:=by
 by_cases hv:v=.slice none 0 0
 ·subst hv
  have hz:zs=[]:=by
   rcases h.2 with ⟨_,h2⟩ | ⟨g,cap,cur,h0,_⟩
   ·exact List.eq_nil_of_length_eq_zero h2
   ·cases h0
  subst hz
  refine (Any.slices_Compact_string_empty laysK none 0 w).mono ?_
  rintro e w' ⟨rfl,rfl⟩
  exact ⟨_,rfl,by simpa [compact,compactUpTo] using World.ownsRow_nil w' base 9 1,Fr.of (Below.refl _ _) (Nat.le_refl _) _⟩
 ·obtain ⟨g,cap,rfl,hbase,hg,h1,h2,h3,hH⟩:=holds_of_ownsRow h hv
  refine (Any.slices_Compact_string laysK g 0 cap zs w hH (by omega) h1).mono ?_
  rintro e w' ⟨rfl,q,rfl⟩
  have hcl:=comp_len zs
  have:=ownsRow_putRow (q:=q) (k:=(compact zs).length) (ys:=compact zs++List.replicate (zs.length - (compact zs).length) []) h (by simp;omega) hcl
  rw [List.take_left] at this
  refine ⟨_,rfl,this,⟨rfl,rfl,rfl,by simp [Sort.putRow,Sort.mapBlock,Sort.ahead],fun k hk hne=>?_⟩,fun g hg=>.inl hg⟩
  have:g≠k:=fun e=>hne (by rw [e];rfl)
  simp [Sort.putRow,Sort.mapBlock,Sort.ahead,Array.getElem?_modify,this]
def AddC (d:Nat):Prop:=∀ (base:Nat) (t:T d) (ls:List ByteArray) (v:Value) (w:World),Cl d t→shrt 1000 d t=true→w.ownsRow base 9 1 v ls.length (cS ls)→base≤w.heap.size→ls.length+cnt d t≤1000→
 Calls Tryz.prog 111 #[v,exV d t] w fun e w'=>∃ u,e=.returned u∧w'.ownsRow base 9 1 u (ls++nmC d t).length (cS (ls++nmC d t))∧Fr w w' v u
set_option maxRecDepth 100000 in
set_option maxHeartbeats 4000000 in
theorem add_step (d:Nat) (IH:AddC d):AddC (d+1):=by
 intro base t ls v w hc hs hown hbase hlen
 obtain ⟨i0,hi,hz0,hz1,hz2⟩:=info_parts Tryz.infoStr
 obtain ⟨k,n,s,ps,rfl,htop⟩:=topN_any hc
 rw [shrt_mk] at hs
 simp only [Bool.and_eq_true,decide_eq_true_eq,List.all_eq_true] at hs
 obtain ⟨hs1,hs2⟩:=hs
 rw [cnt_mk] at hlen
 obtain ⟨x,hx⟩:∃ x,exV (d+1) (mkT k n s ps)=x:=⟨_,rfl⟩
 obtain ⟨L,hL⟩:∃ L,ps.map (exV d)=L:=⟨_,rfl⟩
 rw [hx,hL] at htop
 rw [hx,nmC_mk]
 have hCl:=fun w1=>pClone_any s w1 (by omega)
 have hLl:Hid (L.length=ps.length):=by rw [← hL];show _=_;simp
 by_cases k2:k=2
 ·subst k2
  rw [if_pos rfl]
  have hps:ps=[]:=by
   rcases hc with ⟨h1,_,_⟩ | ⟨_,_,h3⟩ | ⟨h1,_,_,_⟩ | ⟨h1,_⟩ | ⟨h1,_⟩
   ·simp at h1
   ·exact h3
   ·simp at h1
   ·simp at h1
   ·simp at h1
  subst hps
  simp only [List.map_nil] at hL
  subst hL
  simp only [List.map_nil,List.flatten_nil,List.append_nil,List.sum_nil] at hlen ⊢
  have hbg:∀ g,v.ownBlock=some g→g < w.heap.size:=fun g hg=>(World.ownsRow.lt hown g hg).2
  clear hc hs2 IH hLl
  go_enter Tryz.func111,Tryz.ntmps111
  go_wp2_with (first
   | (go_at_call 123;refine (htop _).mono ?_;rintro e w1 ⟨sl,rfl,hk1,b1⟩;obtain ⟨a1,rfl⟩:=hk1.1.form;have b2:=b1.alloc b1.size (.cells #[.int .i64 2,.int .i64 n,.string s,.slice a1 0 0] 172);have hA:=At4.new w1 (.int .i64 2) (.int .i64 n) (.string s) (.slice a1 0 0) 172)
   | (go_at_call 69;refine (hCl _).mono ?_;rintro e w2 ⟨rfl,b3⟩;have b4:=b2.trans (b3.mono b2.size);have hA2:=hA.keepB b3 (by simp);have ho2:=own_on hown b4 (Nat.le_refl _))
   | (at_builtin;refine wpList_append_at _ rfl (.tmp 13) (.tmp 17) 143 143 rfl base 9 i0 (.string ⟨#[]⟩) 1 16 Tryz.underlying143 hi hz0 hz1 hz2 rfl v ls.length _ rfl (World.ownsRow.alloc ho2 _) _ 1 (cS [s]) rfl (src_texts Tryz.underlying143 rfl (fun i hi=>by match i,hi with | 0,_=>simp [Addr.add])) 1 (.inr (by omega)) (Nat.le_refl _) (by unfold maxLen;omega) (by have:=b4.size;simp;omega) ?_;intro v5 w5 ho5 hg5 hl5;have x3:=hg5.cell (cell_al2 hA2.2.2.2) (by intro e;have:=hbg _ e.symm;have:=b1.size;simp only at *;omega)))
  have hF:Fr w w5 v v5:=(Fr.of (b4.alloc b4.size (.cells #[.string s] 9)) (Nat.le_refl _) v).trans ⟨hg5,fun g hg=>by
   rcases hl5 with q | q
   ·exact .inl (by rw [← q];exact hg)
   ·rw [q] at hg;exact .inr (by simp at hg;simp;omega)⟩
  rw [← cS_append] at ho5
  clear hg5 hl5 ho2 hA2 hA b1 b2 b3 b4 hk1 htop hCl
  refine wp_loop_rounds 1 ?_
  rw [rounds_succ]
  go_wp2
  go_ret
  refine ⟨_,rfl,?_,hF⟩
  rw [List.length_append]
  exact ho5
 ·rw [if_neg k2,List.nil_append]
  have e2:(k == 2)=false:=beq_eq_false_iff_ne.2 k2
  have hkid:Hid (∀ (j:Nat) (h:j < L.length) (h':j < ps.length) (cur:List ByteArray) (p:Value) (w1:World),w1.ownsRow base 9 1 p cur.length (cS cur)→base≤w1.heap.size→cur.length+cnt d ps[j]≤1000→
    Calls Tryz.prog 111 #[p,L[j]] w1 fun e w'=>∃ u,e=.returned u∧w'.ownsRow base 9 1 u (cur++nmC d ps[j]).length (cS (cur++nmC d ps[j]))∧Fr w1 w' p u):=
   fun j h h' cur p w1 q1 q2 q3=>by
    have:=IH base ps[j] cur p w1 ((Cl.parts hc).2 _ (List.getElem_mem h')) (hs2 _ (List.getElem_mem h')) q1 q2 q3
    subst hL
    simpa using this
  have hL2:L.length≤2:=by rw [← hL];simpa using (Cl.parts hc).1
  have HLE:Hid (ls.length+((ps.drop 0).map (cnt d)).sum≤1000):=by rw [List.drop_zero];show _≤_;omega
  have hbg:∀ g,v.ownBlock=some g→g < w.heap.size:=fun g hg=>(World.ownsRow.lt hown g hg).2
  obtain ⟨R,hR⟩:∃ R,ls++(ps.map (nmC d)).flatten=R:=⟨_,rfl⟩
  rw [hR]
  have HR:Hid (ls++(ps.map (nmC d)).flatten=R):=hR
  clear hc hs2 IH hL hx hR hCl hlen
  go_enter Tryz.func111,Tryz.ntmps111
  go_wp2_with (first
   | (go_at_call 123;refine (htop _).mono ?_;rintro e w1 ⟨sl,rfl,hk1,b1⟩;obtain ⟨a1,rfl⟩:=hk1.1.form))
  have b2:=b1.alloc b1.size (.cells #[.int .i64 k,.int .i64 n,.string s,.slice a1 L.length L.length] 172)
  have hK0:=hk1.1.below ((Below.refl _ w1).alloc (Nat.le_refl _) (.cells #[.int .i64 k,.int .i64 n,.string s,.slice a1 L.length L.length] 172)) (Nat.le_refl _)
  go_loopw [0,22] (fun p i wr=>∃ (j:Nat) (cur:List ByteArray),j≤L.length∧i=.int .i64 (j:Int)∧wr.ownsRow base 9 1 p cur.length (cS cur)∧Hid (cur=ls++((ps.take j).map (nmC d)).flatten)∧Hid (cur.length+((ps.drop j).map (cnt d)).sum≤1000)∧Hid (Kids wr (.slice a1 L.length L.length) L)∧Hid (∀ g,p.ownBlock=some g→(Value.slice a1 L.length L.length).ownBlock=some g→False)∧Hid (Fr w wr v p)) (fun _ i _=>L.length - (RowKit.intOf i).toNat)
  case atStart=>
   refine ⟨0,ls,Nat.zero_le _,rfl,own_on hown b2 (Nat.le_refl _),by show _=_;simp,HLE,hK0,fun g h1 h2=>?_,Fr.of b2 (Nat.le_refl _) v⟩
   have q1:=hbg g h1
   have q2:=hk1.2 g h2
   omega
  case round=>
   obtain ⟨j,cur,hj,rfl,ho,hcur,hln,hK,hA,hF⟩:=hrel
   have i2:(0:Int)≤(j:Int):=by omega
   by_cases hlt:j < L.length
   ·have i3:(j:Int) < (L.length:Int):=by omega
    have hll:=hLl.out
    have hjp:j < ps.length:=by omega
    obtain ⟨gg,hgg,hcell⟩:=hK.out.at hlt
    have hl2:=hln.out
    rw [List.drop_eq_getElem_cons hjp,List.map_cons,List.sum_cons] at hl2
    have hc2:=hkid.out j hlt hjp cur u0 wr ho (Nat.le_trans hbase hF.out.grown.size) (by omega)
    have hnl:=nm_len d ps[j]
    have hnx:Hid (cur++nmC d ps[j]=ls++((ps.take (j+1)).map (nmC d)).flatten):=by
     show _=_
     rw [hcur.out,List.take_succ_eq_append_getElem hjp,List.map_append,List.flatten_append,List.map_singleton,List.flatten_singleton,List.append_assoc]
    have hln2:Hid ((cur++nmC d ps[j]).length+((ps.drop (j+1)).map (cnt d)).sum≤1000):=by
     show _≤_;rw [List.length_append];omega
    have hLne:Hid (L≠[]):=fun e=>by rw [e] at hlt;simp at hlt
    obtain ⟨z,hz⟩:∃ z,L[j]=z:=⟨_,rfl⟩
    obtain ⟨N,hN⟩:∃ N,cur++nmC d ps[j]=N:=⟨_,rfl⟩
    rw [hz] at hcell hc2
    simp only [hN] at hc2 hnx hln2
    subst hgg
    clear hz hN hll hl2 hnl
    go_wp2_with (first
     | (go_at_call 111;refine hc2.mono ?_;rintro e w3 ⟨u,rfl,ho3,hf3⟩))
    have hK3:Hid _:=hK.out.fr hf3 hA.out
    have hA3:Hid _:=apart_fr hK.out hLne.out hf3 hA.out
    have hF3:Hid (Fr w w3 v u):=hF.out.trans hf3
    go_roundw
    case rel=>exact ⟨j+1,N,hlt,by go_num,ho3,hnx,hln2,hK3,hA3,hF3⟩
    case measure=>simp [RowKit.intOf];omega
   ·have i3:¬ (j:Int) < (L.length:Int):=by omega
    have hE:cur=R:=by
     have hll:=hLl.out
     rw [hcur.out,← HR.out,List.take_of_length_le (by omega)]
    subst hE
    go_wp2
    go_ret
    exact ⟨_,rfl,ho,hF.out⟩
theorem add_any2:∀ (d:Nat),AddC d
 | 0=>fun _ t=>Empty.elim t
 | d+1=>add_step d (add_any2 d)
set_option maxHeartbeats 2000000 in
theorem refs_anyP {d:Nat}{t:T d}(w:World) (hc:Cl d t) (hn:cnt d t≤1000) (hs:shrt 1000 d t=true) :
  Calls Tryz.prog 93 #[exV d t] w fun e w'=>∃ u,e=.returned u∧RdS w' u (rfT d t)∧Below w.heap.size w w':=by
 have h1:=formedP d t w hc (by omega) hs
 have h2:=fun w1 (b:w.heap.size≤w1.heap.size)=>add_any2 d w.heap.size t [] (.slice none 0 0) w1 hc hs (World.ownsRow_nil w1 _ 9 1) b (by simpa using hn)
 have hnl:=nm_len d t
 have hnm:=rf_nm d t []
 unfold rfT
 obtain ⟨x,hx⟩:∃ x,exV d t=x:=⟨_,rfl⟩
 rw [hx] at h1 ⊢
 simp only [hx,List.nil_append] at h2
 cases hf:fmC d t with
 | false=>
  rw [hf] at h1
  rw [if_neg (by decide)]
  clear h2 hc hn hs hf hx
  go_enter Tryz.func93,Tryz.ntmps93
  go_wp2_with (first
   | (go_at_call 110;refine h1.mono ?_;rintro e w1 ⟨rfl,b1⟩))
  go_ret
  exact ⟨_,rfl,rdS_nil _,b1⟩
 | true=>
  rw [hf] at h1
  rw [if_pos rfl,hnm]
  obtain ⟨N,hN⟩:∃ N,nmC d t=N:=⟨_,rfl⟩
  rw [hN] at hnl ⊢
  simp only [hN] at h2
  have hsn:=sort_names N
  have h3:=fun v w1 q=>pSort_any (base:=w.heap.size) N v w1 q (by omega)
  obtain ⟨Z,hZ⟩:∃ Z,(N.map bl).mergeSort lrB=Z:=⟨_,rfl⟩
  have hZl:Z.length≤1000:=by rw [← hZ];simp;omega
  rw [hZ] at hsn
  simp only [hZ] at h3
  have h4:=fun v w1 q=>pCompact_any (base:=w.heap.size) Z v w1 q hZl
  clear hc hn hs hf hx hnm hN hZ hnl
  go_enter Tryz.func93,Tryz.ntmps93
  go_wp2_with (first
   | (go_at_call 110;refine h1.mono ?_;rintro e w1 ⟨rfl,b1⟩;have h2':=h2 w1 b1.size)
   | (go_at_call 111;refine h2'.mono ?_;rintro e w2 ⟨u2,rfl,ho2,hf2⟩;have h3':=h3 u2 w2 ho2)
   | (go_at_call 112;refine h3'.mono ?_;rintro e w3 ⟨rfl,ho3,hf3⟩;have h4':=h4 u2 w3 ho3)
   | (go_at_call 113;refine h4'.mono ?_;rintro e w4 ⟨u4,rfl,ho4,hf4⟩))
  go_ret
  have hF:=(hf2.trans hf3).trans hf4
  refine ⟨_,rfl,?_,b1.trans ((hF.below (B:=w.heap.size) b1.size (fun g hg=>by cases hg)))⟩
  rw [hsn,cS_enc,List.length_map] at ho4
  exact ownsRow_zero ho4
def rTx (ok:Nat→Prop) (w:World) (x:ByteArray) (cs:List Value):Prop:=cs=[.string x]
set_option maxRecDepth 100000 in
set_option maxHeartbeats 8000000 in
theorem ixV_any {ok:Nat→Prop}{w:World}{l:List (List UInt8 × Int × Pl)}{v:Value}(h:RdK ok w 4 (rVar ok w) l v) (hl:l.length≤1000000) (n1:Nat) (ba lb:Array Value) (p:Nat→Bool) (eg:∀ args W,(callFunc n1 args).run Tryz.prog W=.ok (.enter n1 args) W)
  (hcl:∀ (i:Nat) (hi:i < l.length) (cs:List Value) (W:World),rVar ok w l[i] cs→Below w.heap.size w W→Calls Tryz.prog n1 (ba++#[.agg cs.toArray]++lb) W fun e w'=>e=.returned (.bool (p i))∧Below W.heap.size W w') :
  Calls Tryz.prog 84 #[v,.func (.func n1) ba lb] w fun e w'=>e=.returned (.int .i64 (ixF p l.length 0))∧Below w.heap.size w w':=by
 obtain ⟨a,cap,rfl,hlc,hcm⟩:=h.form
 unfold maxLen at hcm
 have HR:=mkHid h
 obtain ⟨n,hn⟩:∃ n,l.length=n:=⟨_,rfl⟩
 have HC:=mkHid hcl
 rw [hn] at hlc hl HR ⊢
 have HN:Hid (l.length=n):=hn
 clear h hn hcl
 go_enter Tryz.func84,Tryz.ntmps84
 go_wp2
 go_loopw [8] (fun ix wr=>∃ (i:Nat),i≤n∧ix=.int .i64 (i:Int)∧Hid (ixF p n 0=ixF p (n - i) i)∧Below w.heap.size w wr) (fun ix _=>n - (RowKit.intOf ix).toNat)
 case atStart=>exact ⟨0,Nat.zero_le _,rfl,rfl,Below.refl _ _⟩
 case round=>
  obtain ⟨i,hi,rfl,HX,hb⟩:=hrel
  by_cases hlt:i < n
  ·have hil:i < l.length:=by rw [HN.out];exact hlt
   obtain ⟨b,off,cs,rfl,_,hbl,_,hr,hc⟩:=rdK_at HR.out i hil
   have hcall:=HC.out i hil cs
   obtain ⟨x0,x1,x2,x3,hxv⟩:∃ x0 x1 x2 x3,varV l[i]=[.string x0,.int .i64 x1,.int .i64 x2,.int .i64 x3]:=⟨_,_,_,_,rfl⟩
   have hr':cs=[.string x0,.int .i64 x1,.int .i64 x2,.int .i64 x3]:=Eq.trans hr hxv
   have hcall2:=fun W hW=>hcall W hr hW
   subst hr'
   clear hcall hr hxv
   have i1:(i:Int) < (n:Int):=by omega
   have i2:(0:Int)≤(i:Int):=by omega
   have hfu:n - i=(n - (i+1))+1:=by omega
   have C0:=(hb.cell (p:=⟨b,off+i*4+0,none⟩) hbl).trans (hc 0 _ rfl)
   have C1:=(hb.cell (p:=⟨b,off+i*4+1,none⟩) hbl).trans (hc 1 _ rfl)
   have C2:=(hb.cell (p:=⟨b,off+i*4+2,none⟩) hbl).trans (hc 2 _ rfl)
   have C3:=(hb.cell (p:=⟨b,off+i*4+3,none⟩) hbl).trans (hc 3 _ rfl)
   rw [Nat.add_zero] at C0
   clear hc
   cases hp:p i with
   | true=>
    have HE:Hid (ixF p n 0=(i:Int)):=by
     show _=_
     rw [HX.out,hfu]
     unfold ixF
     rw [if_pos hp]
    rw [hp] at hcall2
    clear hfu
    go_wp2_with (first | (refine (hcall2 _ hb).mono ?_;rintro e w1 ⟨rfl,b1⟩) | fail)
    go_ret
    exact ⟨by rw [HE.out];rfl,hb.trans (b1.mono hb.size)⟩
   | false=>
    have HE:Hid (ixF p n 0=ixF p (n - (i+1)) (i+1)):=by
     show _=_
     rw [HX.out,hfu]
     conv=>lhs;unfold ixF
     rw [if_neg (by rw [hp];simp)]
    rw [hp] at hcall2
    clear hfu
    go_wp2_with (first | (refine (hcall2 _ hb).mono ?_;rintro e w1 ⟨rfl,b1⟩) | fail)
    go_roundw
    case rel=>exact ⟨i+1,hlt,by go_num,HE,hb.trans (b1.mono hb.size)⟩
    case measure=>simp [RowKit.intOf];omega
  ·have i1:¬ (i:Int) < (n:Int):=by omega
   have HE:Hid (ixF p n 0 = -1):=by
    show _=_
    rw [HX.out,show n - i=0 by omega]
    rfl
   go_wp2
   go_ret
   exact ⟨by rw [HE.out];rfl,hb⟩
set_option maxRecDepth 100000 in
set_option maxHeartbeats 8000000 in
theorem ixE_any {ok:Nat→Prop}{w:World}{l:List (List UInt8 × Sx)}{v:Value}(h:RdK ok w 2 (rSet ok w) l v) (hl:l.length≤1000000) (n1:Nat) (ba lb:Array Value) (p:Nat→Bool) (eg:∀ args W,(callFunc n1 args).run Tryz.prog W=.ok (.enter n1 args) W)
  (hcl:∀ (i:Nat) (hi:i < l.length) (cs:List Value) (W:World),rSet ok w l[i] cs→Below w.heap.size w W→Calls Tryz.prog n1 (ba++#[.agg cs.toArray]++lb) W fun e w'=>e=.returned (.bool (p i))∧Below W.heap.size W w') :
  Calls Tryz.prog 95 #[v,.func (.func n1) ba lb] w fun e w'=>e=.returned (.int .i64 (ixF p l.length 0))∧Below w.heap.size w w':=by
 obtain ⟨a,cap,rfl,hlc,hcm⟩:=h.form
 unfold maxLen at hcm
 have HR:=mkHid h
 obtain ⟨n,hn⟩:∃ n,l.length=n:=⟨_,rfl⟩
 have HC:=mkHid hcl
 rw [hn] at hlc hl HR ⊢
 have HN:Hid (l.length=n):=hn
 clear h hn hcl
 go_enter Tryz.func95,Tryz.ntmps95
 go_wp2
 go_loopw [8] (fun ix wr=>∃ (i:Nat),i≤n∧ix=.int .i64 (i:Int)∧Hid (ixF p n 0=ixF p (n - i) i)∧Below w.heap.size w wr) (fun ix _=>n - (RowKit.intOf ix).toNat)
 case atStart=>exact ⟨0,Nat.zero_le _,rfl,rfl,Below.refl _ _⟩
 case round=>
  obtain ⟨i,hi,rfl,HX,hb⟩:=hrel
  by_cases hlt:i < n
  ·have hil:i < l.length:=by rw [HN.out];exact hlt
   obtain ⟨b,off,cs,rfl,_,hbl,_,hr,hc⟩:=rdK_at HR.out i hil
   have hcall:=HC.out i hil cs
   obtain ⟨s0,hs0⟩:∃ s0,sV l[i].1=.string s0:=⟨_,rfl⟩
   have hform:=exX_form l[i].2
   obtain ⟨tv,htv⟩:∃ tv,exX l[i].2=tv:=⟨_,rfl⟩
   have hr':cs=[.string s0,tv]:=by rw [← hs0,← htv];exact hr
   have hcall2:=fun W hW=>hcall W hr hW
   subst hr'
   rw [htv] at hform
   clear hcall hr hs0 htv
   have i1:(i:Int) < (n:Int):=by omega
   have i2:(0:Int)≤(i:Int):=by omega
   have hfu:n - i=(n - (i+1))+1:=by omega
   rcases hform with rfl | ⟨tu,ty,rfl⟩
   all_goals (
    have C0:=(hb.cell (p:=⟨b,off+i*2+0,none⟩) hbl).trans (hc 0 _ rfl)
    have C1:=(hb.cell (p:=⟨b,off+i*2+1,none⟩) hbl).trans (hc 1 _ rfl)
    rw [Nat.add_zero] at C0
    clear hc
    cases hp:p i with
    | true=>
     have HE:Hid (ixF p n 0=(i:Int)):=by
      show _=_
      rw [HX.out,hfu]
      unfold ixF
      rw [if_pos hp]
     rw [hp] at hcall2
     clear hfu
     go_wp2_with (first | (refine (hcall2 _ hb).mono ?_;rintro e w1 ⟨rfl,b1⟩) | fail)
     go_ret
     exact ⟨by rw [HE.out];rfl,hb.trans (b1.mono hb.size)⟩
    | false=>
     have HE:Hid (ixF p n 0=ixF p (n - (i+1)) (i+1)):=by
      show _=_
      rw [HX.out,hfu]
      conv=>lhs;unfold ixF
      rw [if_neg (by rw [hp];simp)]
     rw [hp] at hcall2
     clear hfu
     go_wp2_with (first | (refine (hcall2 _ hb).mono ?_;rintro e w1 ⟨rfl,b1⟩) | fail)
     go_roundw
     case rel=>exact ⟨i+1,hlt,by go_num,HE,hb.trans (b1.mono hb.size)⟩
     case measure=>simp [RowKit.intOf];omega)
  ·have i1:¬ (i:Int) < (n:Int):=by omega
   have HE:Hid (ixF p n 0 = -1):=by
    show _=_
    rw [HX.out,show n - i=0 by omega]
    rfl
   go_wp2
   go_ret
   exact ⟨by rw [HE.out];rfl,hb⟩
theorem cfE_any {ok:Nat→Prop}{w:World}{l:List (List UInt8 × Sx)}{v:Value}(h:RdK ok w 2 (rSet ok w) l v) (hl:l.length≤1000000) (n1:Nat) (ba lb:Array Value) (p:Nat→Bool) (eg:∀ args W,(callFunc n1 args).run Tryz.prog W=.ok (.enter n1 args) W)
  (hcl:∀ (i:Nat) (hi:i < l.length) (cs:List Value) (W:World),rSet ok w l[i] cs→Below w.heap.size w W→Calls Tryz.prog n1 (ba++#[.agg cs.toArray]++lb) W fun e w'=>e=.returned (.bool (p i))∧Below W.heap.size W w') :
  Calls Tryz.prog 58 #[v,.func (.func n1) ba lb] w fun e w'=>e=.returned (.bool (decide (0≤ixF p l.length 0)))∧Below w.heap.size w w':=by
 have hc:=ixE_any h hl n1 ba lb p eg hcl
 obtain ⟨a,cap,rfl,_⟩:=h.form
 obtain ⟨n,hn⟩:∃ n,l.length=n:=⟨_,rfl⟩
 rw [hn] at hc ⊢
 obtain ⟨x,hx⟩:∃ x,ixF p n 0=x:=⟨_,rfl⟩
 rw [hx] at hc ⊢
 clear hn hx h hcl
 go_enter Tryz.func58,Tryz.ntmps58
 by_cases h0:0≤x
 ·go_wp2_with (first | (go_at_call 95;refine hc.mono ?_;rintro e w1 ⟨rfl,b1⟩) | fail)
  go_ret
  exact ⟨by simp [h0],b1⟩
 ·go_wp2_with (first | (go_at_call 95;refine hc.mono ?_;rintro e w1 ⟨rfl,b1⟩) | fail)
  go_ret
  exact ⟨by simp [h0],b1⟩
set_option maxRecDepth 100000 in
set_option maxHeartbeats 8000000 in
theorem ixT_any {ok:Nat→Prop}{w:World}{l:List (ByteArray)}{v:Value}(h:RdK ok w 1 (rTx ok w) l v) (hl:l.length≤1000000) (n1:Nat) (ba lb:Array Value) (p:Nat→Bool) (eg:∀ args W,(callFunc n1 args).run Tryz.prog W=.ok (.enter n1 args) W)
  (hcl:∀ (i:Nat) (hi:i < l.length) (cs:List Value) (W:World),rTx ok w l[i] cs→Below w.heap.size w W→Calls Tryz.prog n1 (ba++#[cs.getD 0 .nilIface]++lb) W fun e w'=>e=.returned (.bool (p i))∧Below W.heap.size W w') :
  Calls Tryz.prog 109 #[v,.func (.func n1) ba lb] w fun e w'=>e=.returned (.int .i64 (ixF p l.length 0))∧Below w.heap.size w w':=by
 obtain ⟨a,cap,rfl,hlc,hcm⟩:=h.form
 unfold maxLen at hcm
 have HR:=mkHid h
 obtain ⟨n,hn⟩:∃ n,l.length=n:=⟨_,rfl⟩
 have HC:=mkHid hcl
 rw [hn] at hlc hl HR ⊢
 have HN:Hid (l.length=n):=hn
 clear h hn hcl
 go_enter Tryz.func109,Tryz.ntmps109
 go_wp2
 go_loopw [8] (fun ix wr=>∃ (i:Nat),i≤n∧ix=.int .i64 (i:Int)∧Hid (ixF p n 0=ixF p (n - i) i)∧Below w.heap.size w wr) (fun ix _=>n - (RowKit.intOf ix).toNat)
 case atStart=>exact ⟨0,Nat.zero_le _,rfl,rfl,Below.refl _ _⟩
 case round=>
  obtain ⟨i,hi,rfl,HX,hb⟩:=hrel
  by_cases hlt:i < n
  ·have hil:i < l.length:=by rw [HN.out];exact hlt
   obtain ⟨b,off,cs,rfl,_,hbl,_,hr,hc⟩:=rdK_at HR.out i hil
   have hcall:=HC.out i hil cs
   have hr':cs=[.string l[i]]:=hr
   have hcall2:=fun W hW=>hcall W hr hW
   subst hr'
   obtain ⟨s0,hs0⟩:∃ s0,l[i]=s0:=⟨_,rfl⟩
   rw [hs0] at hc hcall2
   simp only [List.getD_cons_zero] at hcall2
   clear hcall hr hs0
   have i1:(i:Int) < (n:Int):=by omega
   have i2:(0:Int)≤(i:Int):=by omega
   have hfu:n - i=(n - (i+1))+1:=by omega
   have C0:=(hb.cell (p:=⟨b,off+i*1+0,none⟩) hbl).trans (hc 0 _ rfl)
   rw [Nat.add_zero] at C0
   rw [Nat.mul_one] at C0
   clear hc
   cases hp:p i with
   | true=>
    have HE:Hid (ixF p n 0=(i:Int)):=by
     show _=_
     rw [HX.out,hfu]
     unfold ixF
     rw [if_pos hp]
    rw [hp] at hcall2
    clear hfu
    go_wp2_with (first | (refine (hcall2 _ hb).mono ?_;rintro e w1 ⟨rfl,b1⟩) | fail)
    go_ret
    exact ⟨by rw [HE.out];rfl,hb.trans (b1.mono hb.size)⟩
   | false=>
    have HE:Hid (ixF p n 0=ixF p (n - (i+1)) (i+1)):=by
     show _=_
     rw [HX.out,hfu]
     conv=>lhs;unfold ixF
     rw [if_neg (by rw [hp];simp)]
    rw [hp] at hcall2
    clear hfu
    go_wp2_with (first | (refine (hcall2 _ hb).mono ?_;rintro e w1 ⟨rfl,b1⟩) | fail)
    go_roundw
    case rel=>exact ⟨i+1,hlt,by go_num,HE,hb.trans (b1.mono hb.size)⟩
    case measure=>simp [RowKit.intOf];omega
  ·have i1:¬ (i:Int) < (n:Int):=by omega
   have HE:Hid (ixF p n 0 = -1):=by
    show _=_
    rw [HX.out,show n - i=0 by omega]
    rfl
   go_wp2
   go_ret
   exact ⟨by rw [HE.out];rfl,hb⟩
theorem cfT_any {ok:Nat→Prop}{w:World}{l:List (ByteArray)}{v:Value}(h:RdK ok w 1 (rTx ok w) l v) (hl:l.length≤1000000) (n1:Nat) (ba lb:Array Value) (p:Nat→Bool) (eg:∀ args W,(callFunc n1 args).run Tryz.prog W=.ok (.enter n1 args) W)
  (hcl:∀ (i:Nat) (hi:i < l.length) (cs:List Value) (W:World),rTx ok w l[i] cs→Below w.heap.size w W→Calls Tryz.prog n1 (ba++#[cs.getD 0 .nilIface]++lb) W fun e w'=>e=.returned (.bool (p i))∧Below W.heap.size W w') :
  Calls Tryz.prog 92 #[v,.func (.func n1) ba lb] w fun e w'=>e=.returned (.bool (decide (0≤ixF p l.length 0)))∧Below w.heap.size w w':=by
 have hc:=ixT_any h hl n1 ba lb p eg hcl
 obtain ⟨a,cap,rfl,_⟩:=h.form
 obtain ⟨n,hn⟩:∃ n,l.length=n:=⟨_,rfl⟩
 rw [hn] at hc ⊢
 obtain ⟨x,hx⟩:∃ x,ixF p n 0=x:=⟨_,rfl⟩
 rw [hx] at hc ⊢
 clear hn hx h hcl
 go_enter Tryz.func92,Tryz.ntmps92
 by_cases h0:0≤x
 ·go_wp2_with (first | (go_at_call 109;refine hc.mono ?_;rintro e w1 ⟨rfl,b1⟩) | fail)
  go_ret
  exact ⟨by simp [h0],b1⟩
 ·go_wp2_with (first | (go_at_call 109;refine hc.mono ?_;rintro e w1 ⟨rfl,b1⟩) | fail)
  go_ret
  exact ⟨by simp [h0],b1⟩
def rIn (ok:Nat→Prop) (w:World) (x:Int × SgS) (cs:List Value):Prop:=cs=[.int .i64 x.1]
theorem kp_in:Kp rIn:=fun _ _ _ _ _ _ h _=>h
/-- The layout of the chart c, its states fs, at Lb. -/
def Ly (ok:Nat→Prop) (w:World) (Lb:Nat) {d:Nat}(c:ChG d) (fs:List (Int × SgS)):Prop:=
 ∃ (g0:ByteArray) (g1 g2 g3:Int) (g4:Option Addr) (g6:Nat) (g7:Option Addr) (g8 g9:Nat) (sa:Option Addr) (sc:Nat) (oa:Option Addr) (oc:Nat),Bn w Lb [.string g0,.int .i64 g1,.int .i64 g2,.int .i64 g3,.slice g4 c.2.2.1.length g6,.slice g7 g8 g9,.slice sa fs.length sc,.slice oa fs.length oc]∧
  RdK ok w 4 (rVar ok w) c.2.2.1 (.slice g4 c.2.2.1.length g6)∧RdK ok w 11 (rSg ok w) fs (.slice sa fs.length sc)∧RdK ok w 1 (rIn ok w) fs (.slice oa fs.length oc)∧(g2,g3)=c.1.2
theorem Ly.on {ok:Nat→Prop}{w w':World}{Lb d:Nat}{c:ChG d}{fs:List (Int × SgS)}(h:Ly ok w Lb c fs) (hb:Below w.heap.size w w'):Ly ok w' Lb c fs:=by
 obtain ⟨g0,g1,g2,g3,g4,g6,g7,g8,g9,sa,sc,oa,oc,h1,h2,h3,h4,h5⟩:=h
 exact ⟨g0,g1,g2,g3,g4,g6,g7,g8,g9,sa,sc,oa,oc,h1.on hb,h2.stay kp_var (fun b hb' hl=>⟨hb',hb.block b hl⟩),h3.stay kp_sg (fun b hb' hl=>⟨hb',hb.block b hl⟩),h4.stay kp_in (fun b hb' hl=>⟨hb',hb.block b hl⟩),h5⟩
def atB {α:Type}(l:List α) (p:α→Bool) (i:Nat):Bool:=match l[i]? with
 | some x=>p x
 | none=>false
theorem atB_of {α:Type}{l:List α}{p:α→Bool}{i:Nat}(h:i < l.length):atB l p i=p l[i]:=by
 unfold atB
 rw [List.getElem?_eq_getElem h]
/-- The number of the first state of a name. -/
def fdS (fs:List (Int × SgS)) (nm:ByteArray):Int:=ixF (atB fs (fun x=>(sgN x.2).toList == nm.toList)) fs.length 0
def fdV (vs:List (List UInt8 × Int × Pl)) (nm:ByteArray):Int:=ixF (atB vs (fun x=>(⟨x.1.toArray⟩:ByteArray).toList == nm.toList)) vs.length 0
theorem stN_any {ok:Nat→Prop}{w W:World}{x:Int × SgS}{cs:List Value}(hr:rSg ok w x cs) (X:Nat) (nm:ByteArray) (hX:Bn W X [.string nm]) :
  Calls Tryz.prog 89 #[.agg cs.toArray,.pointer (some ⟨X,0,none⟩)] W fun e w'=>e=.returned (.bool ((sgN x.2).toList == nm.toList))∧Below W.heap.size W w':=by
 obtain ⟨sn,sl,sc,sb,se,sd,su,sw,sr,p1,p3,p4,p6,rfl,HS,_⟩:=sg_let hr
 rw [← HS.out.1]
 obtain ⟨no,hno⟩:∃ no,(sgO x.2).length=no:=⟨_,rfl⟩
 obtain ⟨ni,hni⟩:∃ no,sgI x.2=no:=⟨_,rfl⟩
 rw [hno,hni]
 clear hr hno hni HS
 have hal:Below W.heap.size W (W.alloc (.cells #[.string sn,.int .i64 sl,.int .i64 sc,.bool sb,.bool se,.string sd,.string su,.int .i64 sw,.int .i64 sr,.slice p1 no p3,.slice p4 ni p6] 57)):=(Below.refl _ _).alloc (Nat.le_refl _) _
 have hX2:=hX.on hal
 obtain ⟨x0,_⟩:=hX2 0 _ rfl
 go_enter Tryz.func89,Tryz.ntmps89
 go_wp2
 go_ret
 exact ⟨rfl,hal⟩
theorem vaN_any {ok:Nat→Prop}{w W:World}{x:List UInt8 × Int × Pl}{cs:List Value}(hr:rVar ok w x cs) (X:Nat) (nm:ByteArray) (hX:Bn W X [.string nm]) :
  Calls Tryz.prog 85 #[.agg cs.toArray,.pointer (some ⟨X,0,none⟩)] W fun e w'=>e=.returned (.bool ((⟨x.1.toArray⟩:ByteArray).toList == nm.toList))∧Below W.heap.size W w':=by
 obtain ⟨x0,x1,x2,x3,hxv,HS⟩:∃ x0 x1 x2 x3,varV x=[.string x0,.int .i64 x1,.int .i64 x2,.int .i64 x3]∧Hid ((⟨x.1.toArray⟩:ByteArray)=x0):=⟨_,_,_,_,rfl,rfl⟩
 have hr':cs=[.string x0,.int .i64 x1,.int .i64 x2,.int .i64 x3]:=Eq.trans hr hxv
 subst hr'
 rw [HS.out]
 clear hr hxv HS
 have hal:Below W.heap.size W (W.alloc (.cells #[.string x0,.int .i64 x1,.int .i64 x2,.int .i64 x3] 61)):=(Below.refl _ _).alloc (Nat.le_refl _) _
 have hX2:=hX.on hal
 obtain ⟨y0,_⟩:=hX2 0 _ rfl
 go_enter Tryz.func85,Tryz.ntmps85
 go_wp2
 go_ret
 exact ⟨rfl,hal⟩
set_option maxRecDepth 100000 in
set_option maxHeartbeats 4000000 in
theorem stateL_any {ok:Nat→Prop}{w:World}{Lb d:Nat}{c:ChG d}{fs:List (Int × SgS)}(h:Ly ok w Lb c fs) (hl:fs.length≤1000000) (nm:ByteArray) :
  Calls Tryz.prog 53 #[.pointer (some ⟨Lb,0,none⟩),.string nm] w fun e w'=>e=.returned (.int .i64 (fdS fs nm))∧Below w.heap.size w w':=by
 have hal:Below w.heap.size w (w.alloc (.cells #[.string nm] 9)):=(Below.refl _ _).alloc (Nat.le_refl _) _
 have hX:Bn (w.alloc (.cells #[.string nm] 9)) w.heap.size [.string nm]:=Bn.new w [.string nm] 9 _ rfl
 obtain ⟨g0,g1,g2,g3,g4,g6,g7,g8,g9,sa,sc,oa,oc,h1,h2,h3,h4,h5⟩:=h.on hal
 have hc:Calls Tryz.prog 88 #[.slice sa fs.length sc,.func (.func 89) #[] #[.pointer (some ⟨w.heap.size,0,none⟩)]] (w.alloc (.cells #[.string nm] 9)) fun e w'=>e=.returned (.int .i64 (fdS fs nm))∧Below (w.alloc (.cells #[.string nm] 9)).heap.size (w.alloc (.cells #[.string nm] 9)) w':=
  ixS_any h3 hl 89 #[] #[.pointer (some ⟨w.heap.size,0,none⟩)] _ (enters_of Tryz.func89 (by kernel_rfl) rfl) (fun i hi cs W hr hb=>by
   have:=stN_any hr w.heap.size nm (hX.on hb)
   rw [← atB_of (p:=fun x:Int × SgS=>(sgN x.2).toList == nm.toList) hi] at this
   exact this)
 obtain ⟨n,hn⟩:∃ n,fs.length=n:=⟨_,rfl⟩
 rw [hn] at h1 hc
 obtain ⟨F,hF⟩:∃ F,fdS fs nm=F:=⟨_,rfl⟩
 rw [hF] at hc ⊢
 obtain ⟨c6,_⟩:=h1 6 _ rfl
 clear h2 h3 h4 h5 hn hF h1 hX h
 go_enter Tryz.func53,Tryz.ntmps53
 go_wp2_with (first | (go_at_call 88;refine hc.mono ?_;rintro e w1 ⟨rfl,b1⟩) | fail)
 go_ret
 exact ⟨rfl,hal.trans (b1.mono hal.size)⟩
set_option maxRecDepth 100000 in
set_option maxHeartbeats 4000000 in
theorem varL_any {ok:Nat→Prop}{w:World}{Lb d:Nat}{c:ChG d}{fs:List (Int × SgS)}(h:Ly ok w Lb c fs) (hl:c.2.2.1.length≤1000000) (nm:ByteArray) :
  Calls Tryz.prog 50 #[.pointer (some ⟨Lb,0,none⟩),.string nm] w fun e w'=>e=.returned (.int .i64 (fdV c.2.2.1 nm))∧Below w.heap.size w w':=by
 have hal:Below w.heap.size w (w.alloc (.cells #[.string nm] 9)):=(Below.refl _ _).alloc (Nat.le_refl _) _
 have hX:Bn (w.alloc (.cells #[.string nm] 9)) w.heap.size [.string nm]:=Bn.new w [.string nm] 9 _ rfl
 obtain ⟨g0,g1,g2,g3,g4,g6,g7,g8,g9,sa,sc,oa,oc,h1,h2,h3,h4,h5⟩:=h.on hal
 have hc:Calls Tryz.prog 84 #[.slice g4 c.2.2.1.length g6,.func (.func 85) #[] #[.pointer (some ⟨w.heap.size,0,none⟩)]] (w.alloc (.cells #[.string nm] 9)) fun e w'=>e=.returned (.int .i64 (fdV c.2.2.1 nm))∧Below (w.alloc (.cells #[.string nm] 9)).heap.size (w.alloc (.cells #[.string nm] 9)) w':=
  ixV_any h2 hl 85 #[] #[.pointer (some ⟨w.heap.size,0,none⟩)] _ (enters_of Tryz.func85 (by kernel_rfl) rfl) (fun i hi cs W hr hb=>by
   have:=vaN_any hr w.heap.size nm (hX.on hb)
   rw [← atB_of (p:=fun x:List UInt8 × Int × Pl=>(⟨x.1.toArray⟩:ByteArray).toList == nm.toList) hi] at this
   exact this)
 obtain ⟨n,hn⟩:∃ n,fs.length=n:=⟨_,rfl⟩
 obtain ⟨nv,hnv⟩:∃ n,c.2.2.1.length=n:=⟨_,rfl⟩
 rw [hn,hnv] at h1
 rw [hnv] at hc
 obtain ⟨F,hF⟩:∃ F,fdV c.2.2.1 nm=F:=⟨_,rfl⟩
 rw [hF] at hc ⊢
 obtain ⟨c6,_⟩:=h1 4 _ rfl
 clear h2 h3 h4 h5 hn hF h1 hX h hnv
 go_enter Tryz.func50,Tryz.ntmps50
 go_wp2_with (first | (go_at_call 84;refine hc.mono ?_;rintro e w1 ⟨rfl,b1⟩) | fail)
 go_ret
 exact ⟨rfl,hal.trans (b1.mono hal.size)⟩
theorem fst_res {w:World}{R:Nat}{a b:Int}{q:Bool}{tmps:Array Value}(hR:Bn w R [.int .i64 a,.int .i64 b]) (ht:tmps.getD 6 undef=.pointer (some ⟨R,0,none⟩)) (ht2:tmps.getD 7 undef=.bool q):(results Tryz.f47 tmps).run Tryz.prog w=.ok (.tuple #[.agg #[.int .i64 a,.int .i64 b],.bool q]) w:=by
 have ht':tmps[6]?.getD undef=.pointer (some ⟨R,0,none⟩):=by simpa using ht
 have ht2':tmps[7]?.getD undef=.bool q:=by simpa using ht2
 have c0:=(hR 0 _ rfl).1
 have c1:=(hR 1 _ rfl).1
 simp [results,Tryz.results47,go_sem,ht',ht2',c0,c1]
/-- What is answered of a place, or none. -/
def anP (o:Option Pl):Value:=.tuple #[.agg #[.int .i64 (o.getD (0,0)).1,.int .i64 (o.getD (0,0)).2],.bool o.isSome]
theorem onE_at {ok:Nat→Prop}{w:World}{l:List OnC}{a:Option Addr}{n cap:Nat}(h:RdK ok w 6 (rOn ok w) l (.slice a n cap)) (j:Nat) (hj:j < l.length):∃ (b off:Nat) (ev:ByteArray) (g:Value) (tg:ByteArray) (s1:Option Addr) (ns s3:Nat) (ol oc:Int),a=some ⟨b,off,none⟩∧ok b∧b < w.heap.size∧(g=.nilIface∨∃ u y,g=.iface u y)∧Hid (rOn ok w l[j] [.string ev,g,.string tg,.slice s1 ns s3,.int .i64 ol,.int .i64 oc])∧Hid (l[j].2.2.2.2=(ol,oc))∧∀ i u,[.string ev,g,.string tg,.slice s1 ns s3,.int .i64 ol,.int .i64 oc][i]?=some u→w.cell? ⟨b,off+j*6+i,none⟩=some u:=by
 obtain ⟨b,off,cs,ha,hok,hb,hl,hr,hc⟩:=rdK_at h j hj
 have hr0:=hr
 obtain ⟨sl,rfl,hs⟩:=hr
 obtain ⟨s1,s3,rfl,_⟩:=hs.form
 exact ⟨b,off,_,_,_,s1,_,s3,_,_,ha,hok,hb,gdV_form l[j].2.1,hr0,rfl,hc⟩
theorem frO_end (q:Nat→Bool):∀ (l:List OnC) (j:Nat),(∀ i,i < l.length→q (j+i)=false)→frO q l j=none
 | [],_,_=>rfl
 | o :: r,j,h=>by
  unfold frO
  rw [if_neg (by have:=h 0 (by simp);simpa using this)]
  exact frO_end q r (j+1) (fun i hi=>by have:=h (i+1) (by simpa using hi);rw [show j+1+i=j+(i+1) by omega];exact this)
theorem frO_drop (q:Nat→Bool):∀ (l:List OnC) (m j:Nat),m≤l.length→(∀ i,i < m→q (j+i)=false)→frO q l j=frO q (l.drop m) (j+m)
 | l,0,j,_,_=>by simp
 | [],m+1,j,h,_=>by simp at h
 | o :: r,m+1,j,h,hq=>by
  rw [show frO q (o :: r) j=if q j=true then some o.2.2.2.2 else frO q r (j+1) from rfl,if_neg (by have:=hq 0 (by omega);simpa using this),frO_drop q r m (j+1) (by simpa using h) (fun i hi=>by have:=hq (i+1) (by omega);rw [show j+1+i=j+(i+1) by omega];exact this),List.drop_succ_cons,show j+(m+1)=j+1+m by omega]
set_option maxRecDepth 100000 in
set_option maxHeartbeats 16000000 in
theorem first_any {ok:Nat→Prop}{w:World}{Lb d:Nat}{c:ChG d}{fs:List (Int × SgS)}(h:Ly ok w Lb c fs) (hl:fs.length≤1000000) (hol:∀ x∈fs,(sgO x.2).length≤1000000) (n1:Nat) (b1 l1:Array Value) (n2:Nat) (b2 l2:Array Value) (p:Nat→Bool) (q:Nat→Nat→Bool)
  (eg1:∀ args W,(callFunc n1 args).run Tryz.prog W=.ok (.enter n1 args) W) (eg2:∀ args W,(callFunc n2 args).run Tryz.prog W=.ok (.enter n2 args) W)
  (hp:∀ (i:Nat) (hi:i < fs.length) (W:World),Below w.heap.size w W→Calls Tryz.prog n1 (b1++#[.int .i64 (i:Int)]++l1) W fun e w'=>e=.returned (.bool (p i))∧Below W.heap.size W w')
  (hq:∀ (i:Nat) (hi:i < fs.length) (j:Nat) (hj:j < (sgO (fs[i]).2).length) (W:World),Below w.heap.size w W→Calls Tryz.prog n2 (b2++#[.int .i64 (i:Int),.int .i64 (j:Int)]++l2) W fun e w'=>e=.returned (.bool (q i j))∧Below W.heap.size W w') :
  Calls Tryz.prog 47 #[.pointer (some ⟨Lb,0,none⟩),.func (.func n1) b1 l1,.func (.func n2) b2 l2] w fun e w'=>e=.returned (anP (frS p q fs 0))∧Below w.heap.size w w':=by
 have hal:Below w.heap.size w (w.alloc (.cells #[.int .i64 0,.int .i64 0] 23)):=(Below.refl _ _).alloc (Nat.le_refl _) _
 have hX:Bn (w.alloc (.cells #[.int .i64 0,.int .i64 0] 23)) w.heap.size [.int .i64 0,.int .i64 0]:=Bn.new w [.int .i64 0,.int .i64 0] 23 _ rfl
 obtain ⟨g0,g1,g2,g3,g4,g6,g7,g8,g9,sa,sc,oa,oc,h1,h2,h3,h4,h5⟩:=h.on hal
 obtain ⟨hsc,hscm⟩:fs.length≤sc∧sc≤maxLen:=by
  obtain ⟨_,_,he,k1,k2⟩:=h3.form
  simp only [Value.slice.injEq] at he
  omega
 unfold maxLen at hscm
 obtain ⟨n,hn⟩:∃ n,fs.length=n:=⟨_,rfl⟩
 rw [hn] at h1 hsc hl
 obtain ⟨c6,_⟩:=h1 6 _ rfl
 have HR:=mkHid h3
 rw [hn] at HR
 have HN:=mkHid hn
 have HOL:=mkHid hol
 have HP:=mkHid hp
 have HQ:=mkHid hq
 clear h2 h3 h4 h5 hn h1 h hol hp hq
 go_enter Tryz.func47,Tryz.ntmps47
 go_upto_region 1 with fail
 have hs0:w.heap.size < (w.alloc (.cells #[.int .i64 0,.int .i64 0] 23)).heap.size:=by simp
 generalize (w.alloc (.cells #[.int .i64 0,.int .i64 0] 23))=wx at *
 go_wp2
 go_loopw [17] (fun ix wr=>∃ (i:Nat),i≤n∧ix=.int .i64 (i:Int)∧Hid (frS p q fs 0=frS p q (fs.drop i) i)∧Below wx.heap.size wx wr) (fun ix _=>n - (RowKit.intOf ix).toNat)
 case atStart=>exact ⟨0,Nat.zero_le _,rfl,by show _=_;rw [List.drop_zero],Below.refl _ _⟩
 case round=>
  obtain ⟨wo,hwo⟩:∃ x,x=wr:=⟨_,rfl⟩
  obtain ⟨i,hi,rfl,HX,hb⟩:=hrel
  have hXr:=hX.on hb
  have hbw:Below w.heap.size w wr:=hal.trans (hb.mono (Nat.le_of_lt hs0))
  by_cases hlt:i < n
  ·have hil:i < fs.length:=by rw [HN.out];exact hlt
   obtain ⟨b,off,cs,rfl,_,hbl,_,hr,hc⟩:=rdK_at HR.out i hil
   have hcp:=HP.out i hil
   have hcq:=HQ.out i hil
   obtain ⟨sn,sl,sc',sb,se,sd,su,sw,sr,p1,p3,p4,p6,rfl,HSG,hon⟩:=sg_let hr
   clear hr
   have hno1:(sgO fs[i].2).length≤1000000:=HOL.out _ (List.getElem_mem hil)
   obtain ⟨no,hno⟩:∃ no,(sgO fs[i].2).length=no:=⟨_,rfl⟩
   obtain ⟨ni,hni⟩:∃ no,sgI fs[i].2=no:=⟨_,rfl⟩
   have hon':=hon.stay kp_on (ok':=ok) (w':=wr) (fun b hb' hl=>⟨hb',hb.block b hl⟩)
   rw [hno,hni] at hc
   rw [hno] at hno1 hon'
   have hdr:fs.drop i=fs[i] :: fs.drop (i+1):=List.drop_eq_getElem_cons hil
   have C0:=(hb.cell (p:=⟨b,off+i*11+0,none⟩) hbl).trans (hc 0 _ rfl)
   have C1:=(hb.cell (p:=⟨b,off+i*11+1,none⟩) hbl).trans (hc 1 _ rfl)
   have C2:=(hb.cell (p:=⟨b,off+i*11+2,none⟩) hbl).trans (hc 2 _ rfl)
   have C3:=(hb.cell (p:=⟨b,off+i*11+3,none⟩) hbl).trans (hc 3 _ rfl)
   have C4:=(hb.cell (p:=⟨b,off+i*11+4,none⟩) hbl).trans (hc 4 _ rfl)
   have C5:=(hb.cell (p:=⟨b,off+i*11+5,none⟩) hbl).trans (hc 5 _ rfl)
   have C6:=(hb.cell (p:=⟨b,off+i*11+6,none⟩) hbl).trans (hc 6 _ rfl)
   have C7:=(hb.cell (p:=⟨b,off+i*11+7,none⟩) hbl).trans (hc 7 _ rfl)
   have C8:=(hb.cell (p:=⟨b,off+i*11+8,none⟩) hbl).trans (hc 8 _ rfl)
   have C9:=(hb.cell (p:=⟨b,off+i*11+9,none⟩) hbl).trans (hc 9 _ rfl)
   have C10:=(hb.cell (p:=⟨b,off+i*11+10,none⟩) hbl).trans (hc 10 _ rfl)
   rw [Nat.add_zero] at C0
   clear hc hni hon
   have i1:(i:Int) < (n:Int):=by omega
   have i2:(0:Int)≤(i:Int):=by omega
   have hY:Bn (wr.alloc (.cells #[.string sn,.int .i64 sl,.int .i64 sc',.bool sb,.bool se,.string sd,.string su,.int .i64 sw,.int .i64 sr,.slice p1 no p3,.slice p4 ni p6] 57)) wr.heap.size [.string sn,.int .i64 sl,.int .i64 sc',.bool sb,.bool se,.string sd,.string su,.int .i64 sw,.int .i64 sr,.slice p1 no p3,.slice p4 ni p6]:=Bn.new wr [.string sn,.int .i64 sl,.int .i64 sc',.bool sb,.bool se,.string sd,.string su,.int .i64 sw,.int .i64 sr,.slice p1 no p3,.slice p4 ni p6] 57 _ rfl
   have hb2:Below wr.heap.size wr (wr.alloc (.cells #[.string sn,.int .i64 sl,.int .i64 sc',.bool sb,.bool se,.string sd,.string su,.int .i64 sw,.int .i64 sr,.slice p1 no p3,.slice p4 ni p6] 57)):=(Below.refl _ _).alloc (Nat.le_refl _) _
   have HDR:=mkHid hdr
   have HNO:=mkHid hno
   clear hdr hno
   go_upto_region 4 with fail
   generalize (wr.alloc (.cells #[.string sn,.int .i64 sl,.int .i64 sc',.bool sb,.bool se,.string sd,.string su,.int .i64 sw,.int .i64 sr,.slice p1 no p3,.slice p4 ni p6] 57))=wy at *
   clear C0 C1 C2 C3 C4 C5 C6 C7 C8 C9 C10
   obtain ⟨Y,hYY⟩:∃ Y,wr.heap.size=Y:=⟨_,rfl⟩
   have hb2y:=hb2
   rw [hYY] at hY ⊢
   have hXy:=hXr.on hb2
   have hbwy:Below w.heap.size w wy:=hbw.trans (hb2.mono hbw.size)
   have hby:Below wx.heap.size wx wy:=hb.trans (hb2.mono hb.size)
   have hcp2:=hcp wy hbwy
   have hony:=hon'.stay kp_on (ok':=ok) (w':=wy) (fun b hb' hl=>⟨hb',hb2.block b hl⟩)
   have HSL:Hid ((sl,sc')=sgP fs[i].2):=HSG.out.2.1
   clear hcp HSG hon' hb2 hb2y hYY hXr hbw
   cases hpi:p i with
   | true=>
    rw [hpi] at hcp2
    have HE:Hid (frS p q fs 0=some (sl,sc')):=by
     show _=_
     rw [HX.out,HDR.out]
     unfold frS
     rw [if_pos hpi,HSL.out]
    go_upto_region 5 with (first | (refine hcp2.mono ?_;rintro e w1 ⟨rfl,b1'⟩) | fail)
    have hY1:=hY.on b1'
    have hX1:=hXy.on b1'
    obtain ⟨y1,_⟩:=hY1 1 _ rfl
    obtain ⟨y2,_⟩:=hY1 2 _ rfl
    obtain ⟨x0,f0⟩:=hX1 0 _ rfl
    obtain ⟨x1,f1⟩:=hX1 1 _ rfl
    have hXz:=(hX1.set (i:=0) (by simp) (.int .i64 sl)).set (i:=1) (by simp) (.int .i64 sc')
    have hbz:=putL_below [.int .i64 sl,.int .i64 sc'] w1 w.heap.size 0 (hbwy.trans (b1'.mono hbwy.size)) (Nat.le_refl _)
    go_wp2
    exact bodyPost_ret (fst_res hXz rfl rfl) rfl ⟨by rw [HE.out];rfl,hbz⟩
   | false=>
    rw [hpi] at hcp2
    have HE:Hid (frS p q fs 0=match frO (q i) (sgO fs[i].2) 0 with
      | some a=>some a
      | none=>frS p q (fs.drop (i+1)) (i+1)):=by
     show _=_
     rw [HX.out,HDR.out]
     conv=>lhs;unfold frS
     rw [if_neg (by rw [hpi];simp)]
     rfl
    go_upto_region 6 with (first | (refine hcp2.mono ?_;rintro e w1 ⟨rfl,b1'⟩) | fail)
    have hY1:=hY.on b1'
    have hX1:=hXy.on b1'
    have hbw1:Below w.heap.size w w1:=hbwy.trans (b1'.mono hbwy.size)
    have hbx1:Below wx.heap.size wx w1:=hby.trans (b1'.mono hby.size)
    have HON:=mkHid (hony.stay kp_on (ok':=ok) (w':=w1) (fun b hb' hl=>⟨hb',b1'.block b hl⟩))
    obtain ⟨hp3,hp3m⟩:no≤p3∧p3≤maxLen:=by
     obtain ⟨_,_,he,k1,k2⟩:=hony.form
     simp only [Value.slice.injEq] at he
     rw [HNO.out] at k1
     omega
    unfold maxLen at hp3m
    obtain ⟨y9,_⟩:=hY1 9 _ rfl
    clear hony hcp2 b1' hXy hbwy hby hY HX
    go_wp2
    go_loopw [30] (fun ix wq=>∃ (j:Nat),j≤no∧ix=.int .i64 (j:Int)∧Hid (∀ k,k < j→q i k=false)∧Below w1.heap.size w1 wq) (fun ix _=>no - (RowKit.intOf ix).toNat)
    case atStart=>exact ⟨0,Nat.zero_le _,rfl,fun k hk=>by omega,Below.refl _ _⟩
    case round=>
     clear hwo
     obtain ⟨j,hj,rfl,HJ,hbj⟩:=hrel
     have hXj:=hX1.on hbj
     have hbwj:Below w.heap.size w wr:=hbw1.trans (hbj.mono hbw1.size)
     by_cases hlj:j < no
     ·have hjl:j < (sgO fs[i].2).length:=by rw [HNO.out];exact hlj
      obtain ⟨ob,ooff,ev,gv,tg,s1,ns,s3,ol,oc',rfl,_,hobl,hgv,_,HPL,hoc⟩:=onE_at HON.out j hjl
      have hcq2:=fun W hW=>hcq j hjl W hW
      have j1:(j:Int) < (no:Int):=by omega
      have j2:(0:Int)≤(j:Int):=by omega
      have hdo:frO (q i) (sgO fs[i].2) 0=frO (q i) ((sgO fs[i].2).drop j) j:=by
       have:=frO_drop (q i) (sgO fs[i].2) j 0 (by omega) (fun k hk=>by rw [Nat.zero_add];exact HJ.out k hk)
       rw [Nat.zero_add] at this
       exact this
      have hdo2:(sgO fs[i].2).drop j=(sgO fs[i].2)[j] :: (sgO fs[i].2).drop (j+1):=List.drop_eq_getElem_cons hjl
      have HDO:=mkHid (hdo.trans (congrArg (fun z=>frO (q i) z j) hdo2))
      clear hdo hdo2
      rcases hgv with rfl | ⟨gu,gy,rfl⟩
      ·have hZ:Bn (wr.alloc (.cells #[.string ev,.nilIface,.string tg,.slice s1 ns s3,.int .i64 ol,.int .i64 oc'] 79)) wr.heap.size [.string ev,.nilIface,.string tg,.slice s1 ns s3,.int .i64 ol,.int .i64 oc']:=Bn.new wr [.string ev,.nilIface,.string tg,.slice s1 ns s3,.int .i64 ol,.int .i64 oc'] 79 _ rfl
       have hal3:Below wr.heap.size wr (wr.alloc (.cells #[.string ev,.nilIface,.string tg,.slice s1 ns s3,.int .i64 ol,.int .i64 oc'] 79)):=(Below.refl _ _).alloc (Nat.le_refl _) _
       have D0:=(hbj.cell (p:=⟨ob,ooff+j*6+0,none⟩) hobl).trans (hoc 0 _ rfl)
       have D1:=(hbj.cell (p:=⟨ob,ooff+j*6+1,none⟩) hobl).trans (hoc 1 _ rfl)
       have D2:=(hbj.cell (p:=⟨ob,ooff+j*6+2,none⟩) hobl).trans (hoc 2 _ rfl)
       have D3:=(hbj.cell (p:=⟨ob,ooff+j*6+3,none⟩) hobl).trans (hoc 3 _ rfl)
       have D4:=(hbj.cell (p:=⟨ob,ooff+j*6+4,none⟩) hobl).trans (hoc 4 _ rfl)
       have D5:=(hbj.cell (p:=⟨ob,ooff+j*6+5,none⟩) hobl).trans (hoc 5 _ rfl)
       rw [Nat.add_zero] at D0
       clear hoc
       go_upto_region 9 with fail
       generalize (wr.alloc (.cells #[.string ev,.nilIface,.string tg,.slice s1 ns s3,.int .i64 ol,.int .i64 oc'] 79))=wz at *
       clear D0 D1 D2 D3 D4 D5
       have hXz:=hXj.on hal3
       have hbwz:Below w.heap.size w wz:=hbwj.trans (hal3.mono hbwj.size)
       have hcq3:=hcq2 wz hbwz
       rw [Array.append_assoc] at hcq3
       cases hqj:q i j with
       | true=>
        rw [hqj] at hcq3
        have HF:Hid (frS p q fs 0=some (ol,oc')):=by
         show _=_
         rw [HE.out,HDO.out]
         unfold frO
         rw [if_pos hqj,HPL.out]
        go_upto_region 10 with (first | (refine hcq3.mono ?_;rintro e w2 ⟨rfl,b2'⟩) | fail)
        have hZ2:=hZ.on b2'
        have hX2:=hXz.on b2'
        obtain ⟨y4,_⟩:=hZ2 4 _ rfl
        obtain ⟨y5,_⟩:=hZ2 5 _ rfl
        obtain ⟨x0,f0⟩:=hX2 0 _ rfl
        obtain ⟨x1,f1⟩:=hX2 1 _ rfl
        have hXf:=(hX2.set (i:=0) (by simp) (.int .i64 ol)).set (i:=1) (by simp) (.int .i64 oc')
        have hbz:=putL_below [.int .i64 ol,.int .i64 oc'] w2 w.heap.size 0 (hbwz.trans (b2'.mono hbwz.size)) (Nat.le_refl _)
        go_wp2
        exact bodyPost_ret (fst_res hXf rfl rfl) rfl ⟨by rw [HF.out];rfl,hbz⟩
       | false=>
        rw [hqj] at hcq3
        have HJ2:Hid (∀ k,k < j+1→q i k=false):=fun k hk=>by
         by_cases e:k=j
         ·rw [e];exact hqj
         ·exact HJ.out k (by omega)
        go_upto_region 11 with (first | (refine hcq3.mono ?_;rintro e w2 ⟨rfl,b2'⟩) | fail)
        have hbj2:Below w1.heap.size w1 w2:=(hbj.trans (hal3.mono hbj.size)).trans (b2'.mono (Nat.le_trans hbj.size hal3.size))
        go_wp2
        go_roundw
        case rel=>exact ⟨j+1,hlj,by go_num,HJ2,hbj2⟩
        case measure=>simp [RowKit.intOf];omega
      ·have hZ:Bn (wr.alloc (.cells #[.string ev,.iface gu gy,.string tg,.slice s1 ns s3,.int .i64 ol,.int .i64 oc'] 79)) wr.heap.size [.string ev,.iface gu gy,.string tg,.slice s1 ns s3,.int .i64 ol,.int .i64 oc']:=Bn.new wr [.string ev,.iface gu gy,.string tg,.slice s1 ns s3,.int .i64 ol,.int .i64 oc'] 79 _ rfl
       have hal3:Below wr.heap.size wr (wr.alloc (.cells #[.string ev,.iface gu gy,.string tg,.slice s1 ns s3,.int .i64 ol,.int .i64 oc'] 79)):=(Below.refl _ _).alloc (Nat.le_refl _) _
       have D0:=(hbj.cell (p:=⟨ob,ooff+j*6+0,none⟩) hobl).trans (hoc 0 _ rfl)
       have D1:=(hbj.cell (p:=⟨ob,ooff+j*6+1,none⟩) hobl).trans (hoc 1 _ rfl)
       have D2:=(hbj.cell (p:=⟨ob,ooff+j*6+2,none⟩) hobl).trans (hoc 2 _ rfl)
       have D3:=(hbj.cell (p:=⟨ob,ooff+j*6+3,none⟩) hobl).trans (hoc 3 _ rfl)
       have D4:=(hbj.cell (p:=⟨ob,ooff+j*6+4,none⟩) hobl).trans (hoc 4 _ rfl)
       have D5:=(hbj.cell (p:=⟨ob,ooff+j*6+5,none⟩) hobl).trans (hoc 5 _ rfl)
       rw [Nat.add_zero] at D0
       clear hoc
       go_upto_region 9 with fail
       generalize (wr.alloc (.cells #[.string ev,.iface gu gy,.string tg,.slice s1 ns s3,.int .i64 ol,.int .i64 oc'] 79))=wz at *
       clear D0 D1 D2 D3 D4 D5
       have hXz:=hXj.on hal3
       have hbwz:Below w.heap.size w wz:=hbwj.trans (hal3.mono hbwj.size)
       have hcq3:=hcq2 wz hbwz
       rw [Array.append_assoc] at hcq3
       cases hqj:q i j with
       | true=>
        rw [hqj] at hcq3
        have HF:Hid (frS p q fs 0=some (ol,oc')):=by
         show _=_
         rw [HE.out,HDO.out]
         unfold frO
         rw [if_pos hqj,HPL.out]
        go_upto_region 10 with (first | (refine hcq3.mono ?_;rintro e w2 ⟨rfl,b2'⟩) | fail)
        have hZ2:=hZ.on b2'
        have hX2:=hXz.on b2'
        obtain ⟨y4,_⟩:=hZ2 4 _ rfl
        obtain ⟨y5,_⟩:=hZ2 5 _ rfl
        obtain ⟨x0,f0⟩:=hX2 0 _ rfl
        obtain ⟨x1,f1⟩:=hX2 1 _ rfl
        have hXf:=(hX2.set (i:=0) (by simp) (.int .i64 ol)).set (i:=1) (by simp) (.int .i64 oc')
        have hbz:=putL_below [.int .i64 ol,.int .i64 oc'] w2 w.heap.size 0 (hbwz.trans (b2'.mono hbwz.size)) (Nat.le_refl _)
        go_wp2
        exact bodyPost_ret (fst_res hXf rfl rfl) rfl ⟨by rw [HF.out];rfl,hbz⟩
       | false=>
        rw [hqj] at hcq3
        have HJ2:Hid (∀ k,k < j+1→q i k=false):=fun k hk=>by
         by_cases e:k=j
         ·rw [e];exact hqj
         ·exact HJ.out k (by omega)
        go_upto_region 11 with (first | (refine hcq3.mono ?_;rintro e w2 ⟨rfl,b2'⟩) | fail)
        have hbj2:Below w1.heap.size w1 w2:=(hbj.trans (hal3.mono hbj.size)).trans (b2'.mono (Nat.le_trans hbj.size hal3.size))
        go_wp2
        go_roundw
        case rel=>exact ⟨j+1,hlj,by go_num,HJ2,hbj2⟩
        case measure=>simp [RowKit.intOf];omega
     ·have j1:¬ (j:Int) < (no:Int):=by omega
      have HF:Hid (frS p q fs 0=frS p q (fs.drop (i+1)) (i+1)):=by
       show _=_
       rw [HE.out,frO_end (q i) (sgO fs[i].2) 0 (fun k hk=>by rw [Nat.zero_add];exact HJ.out k (by rw [HNO.out] at hk;omega))]
      have hbi:Below wx.heap.size wx wr:=hbx1.trans (hbj.mono hbx1.size)
      go_wp2
      go_roundw
      case rel=>exact ⟨i+1,hlt,by go_num,HF,hbi⟩
      case measure=>simp [RowKit.intOf];omega
  ·have i1:¬ (i:Int) < (n:Int):=by omega
   have HE:Hid (frS p q fs 0=none):=by
    show _=_
    rw [HX.out,List.drop_of_length_le (by rw [HN.out];omega)]
    rfl
   obtain ⟨x0,f0⟩:=hXr 0 _ rfl
   obtain ⟨x1,f1⟩:=hXr 1 _ rfl
   have hXz:=(hXr.set (i:=0) (by simp) (.int .i64 0)).set (i:=1) (by simp) (.int .i64 0)
   have hbz:=putL_below [.int .i64 0,.int .i64 0] wr w.heap.size 0 hbw (Nat.le_refl _)
   go_wp2
   exact bodyPost_ret (fst_res hXz rfl rfl) rfl ⟨by rw [HE.out];rfl,hbz⟩
end Go.Proofs.YtlgnahpfggagoaaGreatDoor
