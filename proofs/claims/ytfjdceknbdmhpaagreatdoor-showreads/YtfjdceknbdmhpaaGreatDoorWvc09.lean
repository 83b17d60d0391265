import Derived.Test.YtfjdceknbdmhpaaGreatDoorWvc07
import Derived.Test.YtfjdceknbdmhpaaGreatDoorWvc08
import Derived.Test.YtfjdceknbdmhpaaGreatDoorWvc05
import Derived.Sort.OwnSorted
import Derived.Lib.OwnBridge
import Derived.Test.YtfjdceknbdmhpaaGreatDoorWvc04
import Derived.Deep.RegionHeldLaw
import Derived.Deep.DeepCutAuto
import Derived.Test.YtfjdceknbdmhpaaGreatDoorWvc02
import Derived.BigQuiet
import Derived.Deep.QuietTactic
import Derived.BigRegion
/- What the program's addNames and Refs do. -/
namespace Go.Proofs.YtfjdceknbdmhpaaGreatDoor
open Go.RowKit Go.Lib
set_option linter.unusedSimpArgs false
set_option linter.unusedVariables false
attribute [local go_sem ↓] Go.wp_at_zero Go.wp_at_succ
theorem cell_al2 {w:World} {p:Addr} {v:Value} {O:Obj} (h:w.cell? p=some v):(w.alloc O).cell? p=some v:=(((Below.refl w.heap.size w).alloc (Nat.le_refl _) O).cell (World.block_lt_of_cell? w _ h)).trans h
theorem cS_enc (ls:List ByteArray):(ls.map bl).map encStr=cS ls:=map_encStr ls
/-- Nothing has turned but the row of v, and new blocks; the row is where it was, or new. -/
structure Fr (w w':World) (v u:Value):Prop where
 grown:w.grownBy w' v.ownBlock
 lies:∀ g,u.ownBlock=some g→v.ownBlock=some g∨w.heap.size≤g
theorem Fr.of {w w':World} {B:Nat} (h:Below B w w') (hB:w.heap.size≤B) (v:Value):Fr w w' v v:=⟨⟨h.os,h.tape,h.output,h.size,fun k hk _=>h.block k (by omega)⟩,fun g hg=>.inl hg⟩
theorem Fr.trans {w w1 w2:World} {v u t:Value} (h:Fr w w1 v u) (k:Fr w1 w2 u t):Fr w w2 v t:=by
 refine ⟨⟨k.grown.os.trans h.grown.os,k.grown.tape.trans h.grown.tape,k.grown.output.trans h.grown.output,Nat.le_trans h.grown.size k.grown.size,fun j hj hne=>?_⟩,fun g hg=>?_⟩
 ·rw [k.grown.block j (Nat.lt_of_lt_of_le hj h.grown.size) (fun e=>?_),h.grown.block j hj hne]
  rcases h.lies j e.symm with q | q
  ·exact hne q.symm
  ·omega
 ·rcases k.lies g hg with q | q
  ·exact h.lies g q
  ·exact .inr (Nat.le_trans h.grown.size q)
theorem Fr.below {w w':World} {v u:Value} {B:Nat} (h:Fr w w' v u) (hB:B≤w.heap.size) (hv:∀ g,v.ownBlock=some g→B≤g):Below B w w':=(Below.refl B w).grown h.grown hB (fun k hk=>hv k hk)
theorem Kids.fr {w w':World} {v u sl:Value} {l:List Value} (h:Kids w sl l) (f:Fr w w' v u) (ho:∀ g,v.ownBlock=some g→sl.ownBlock=some g→False):Kids w' sl l:=by
 rcases h with h | ⟨g,hv,hc⟩
 ·exact .inl h
 ·refine .inr ⟨g,hv,fun i hi=>?_⟩
  refine f.grown.cell (hc i hi) (fun e=>?_)
  subst hv
  exact ho g e.symm rfl
/-- Apart still, behind the row's growth. -/
theorem apart_fr {w w':World} {v u sl:Value} {l:List Value} (h:Kids w sl l) (hl:l≠[]) (f:Fr w w' v u) (ho:∀ g,v.ownBlock=some g→sl.ownBlock=some g→False):∀ g,u.ownBlock=some g→sl.ownBlock=some g→False:=by
 intro g h1 h2
 rcases f.lies g h1 with q | q
 ·exact ho g q h2
 ·rcases h with ⟨_,e⟩ | ⟨g',rfl,hc⟩
  ·exact hl e
  ·have e1:g'=g:=by simpa [Value.ownBlock] using h2
   subst e1
   cases l with
   | nil=>exact hl rfl
   | cons x r=>
    have:=World.block_lt_of_cell? w _ (hc 0 (by simp))
    simp only at this
    omega
theorem pSort_any {base:Nat} (ls:List ByteArray) (v:Value) (w:World) (h:w.ownsRow base 9 1 v ls.length (cS ls)) (hl:ls.length≤1000) :
  Calls Tryz.prog 251 #[v] w fun e w'=>e=.returned (.tuple #[])∧w'.ownsRow base 9 1 v ((ls.map bl).mergeSort lrB).length (((ls.map bl).mergeSort lrB).map encStr)∧Fr w w' v v:=by
 have hlen:((ls.map bl).mergeSort lrB).length=ls.length:=by simp
 rcases h.2 with ⟨rfl,h2⟩ | ⟨g,cap,cur,rfl,hbase,hb,h1,h2,h3,h4⟩
 ·have hx:ls=[]:=List.eq_nil_of_length_eq_zero h2
  subst hx
  refine (Any.slices_Sort_string_none laysS none 0 w).mono ?_
  rintro e w' ⟨rfl,rfl⟩
  exact ⟨rfl,by simpa using World.ownsRow_nil w' base 9 1,Fr.of (Below.refl _ _) (Nat.le_refl _) _⟩
 ·have hh:Sort.Holds encStr w g 0 (ls.map bl).toArray:=holds_of_block hb (by rw [cS_enc,List.length_map];simpa using h4)
  have hc:=Any.slices_Sort_string laysS g 0 cap (ls.map bl) w hh (Array.getElem?_eq_some_iff.1 hb).1 (by simp;omega)
  rw [List.length_map] at hc
  refine Calls.mono hc ?_
  rintro e w' ⟨rfl,n,os,rfl⟩
  refine ⟨rfl,?_,grownBy_sorted _,fun g hg=>.inl hg⟩
  have:=ownsRow_sorted (n:=n) (os:=os) (ss:=ls.map bl) (ts:=(ls.map bl).mergeSort lrB) (by simp) hbase hb (by simpa using h1) h2 h3
  rw [List.length_map,← hlen] at this
  rw [hlen]
  rw [hlen] at this
  exact this
theorem comp_len (zs:List Bs):(compact zs).length≤zs.length:=by
 unfold compact compactUpTo
 rw [List.length_map]
 have:=List.length_filter_le (keeps zs.toArray) (List.range zs.length)
 simpa using this
theorem pCompact_any {base:Nat} (zs:List Bs) (v:Value) (w:World) (h:w.ownsRow base 9 1 v zs.length (zs.map encStr)) (hl:zs.length≤1000) :
  Calls Tryz.prog 252 #[v] w fun e w'=>∃ u,e=.returned u∧w'.ownsRow base 9 1 u (compact zs).length ((compact zs).map encStr)∧Fr w w' v u:=by
 by_cases hv:v=.slice none 0 0
 ·subst hv
  have hz:zs=[]:=by
   rcases h.2 with ⟨_,h2⟩ | ⟨g,cap,cur,h0,_⟩
   ·exact List.eq_nil_of_length_eq_zero h2
   ·cases h0
  subst hz
  refine (Any.slices_Compact_string_empty laysK none 0 w).mono ?_
  rintro e w' ⟨rfl,rfl⟩
  exact ⟨_,rfl,by simpa [compact,compactUpTo] using World.ownsRow_nil w' base 9 1,Fr.of (Below.refl _ _) (Nat.le_refl _) _⟩
 ·obtain ⟨g,cap,rfl,hbase,hg,h1,h2,h3,hH⟩:=holds_of_ownsRow h hv
  refine (Any.slices_Compact_string laysK g 0 cap zs w hH (by omega) h1).mono ?_
  rintro e w' ⟨rfl,q,rfl⟩
  have hcl:=comp_len zs
  have:=ownsRow_putRow (q:=q) (k:=(compact zs).length) (ys:=compact zs++List.replicate (zs.length - (compact zs).length) []) h (by simp;omega) hcl
  rw [List.take_left] at this
  refine ⟨_,rfl,this,⟨rfl,rfl,rfl,by simp [Sort.putRow,Sort.mapBlock,Sort.ahead],fun k hk hne=>?_⟩,fun g hg=>.inl hg⟩
  have:g≠k:=fun e=>hne (by rw [e];rfl)
  simp [Sort.putRow,Sort.mapBlock,Sort.ahead,Array.getElem?_modify,this]
def AddC (d:Nat):Prop:=∀ (base:Nat) (t:T d) (ls:List ByteArray) (v:Value) (w:World),Cl d t→shrt 1000 d t=true→w.ownsRow base 9 1 v ls.length (cS ls)→base≤w.heap.size→ls.length+cnt d t≤1000→
 Calls Tryz.prog 250 #[v,exV d t] w fun e w'=>∃ u,e=.returned u∧w'.ownsRow base 9 1 u (ls++nmC d t).length (cS (ls++nmC d t))∧Fr w w' v u
set_option maxRecDepth 100000 in
set_option maxHeartbeats 4000000 in
theorem add_step (d:Nat) (IH:AddC d):AddC (d+1):=by
 intro base t ls v w hc hs hown hbase hlen
 obtain ⟨i0,hi,hz0,hz1,hz2⟩:=info_parts Tryz.infoStr
 obtain ⟨k,n,s,ps,rfl,htop⟩:=topN_any hc
 rw [shrt_mk] at hs
 simp only [Bool.and_eq_true,decide_eq_true_eq,List.all_eq_true] at hs
 obtain ⟨hs1,hs2⟩:=hs
 rw [cnt_mk] at hlen
 obtain ⟨x,hx⟩:∃ x,exV (d+1) (mkT k n s ps)=x:=⟨_,rfl⟩
 obtain ⟨L,hL⟩:∃ L,ps.map (exV d)=L:=⟨_,rfl⟩
 rw [hx,hL] at htop
 rw [hx,nmC_mk]
 have hCl:=fun w1=>pClone_any s w1 (by omega)
 have hLl:Hid (L.length=ps.length):=by rw [← hL];show _=_;simp
 by_cases k2:k=2
 ·subst k2
  rw [if_pos rfl]
  have hps:ps=[]:=by
   rcases hc with ⟨h1,_,_⟩ | ⟨_,_,h3⟩ | ⟨h1,_,_,_⟩ | ⟨h1,_⟩ | ⟨h1,_⟩
   ·simp at h1
   ·exact h3
   ·simp at h1
   ·simp at h1
   ·simp at h1
  subst hps
  simp only [List.map_nil] at hL
  subst hL
  simp only [List.map_nil,List.flatten_nil,List.append_nil,List.sum_nil] at hlen ⊢
  have hbg:∀ g,v.ownBlock=some g→g < w.heap.size:=fun g hg=>(World.ownsRow.lt hown g hg).2
  clear hc hs2 IH hLl
  go_enter Tryz.func250,Tryz.ntmps250
  go_wp2_with (first
   | (go_at_call 192;refine (htop _).mono ?_;rintro e w1 ⟨sl,rfl,hk1,b1⟩;obtain ⟨a1,rfl⟩:=hk1.1.form;have b2:=b1.alloc b1.size (.cells #[.int .i64 2,.int .i64 n,.string s,.slice a1 0 0] 244);have hA:=At4.new w1 (.int .i64 2) (.int .i64 n) (.string s) (.slice a1 0 0) 244)
   | (go_at_call 38;refine (hCl _).mono ?_;rintro e w2 ⟨rfl,b3⟩;have b4:=b2.trans (b3.mono b2.size);have hA2:=hA.keepB b3 (by simp);have ho2:=own_on hown b4 (Nat.le_refl _))
   | (at_builtin;refine wpList_append_at _ rfl (.tmp 13) (.tmp 17) 265 265 rfl base 9 i0 (.string ⟨#[]⟩) 1 16 Tryz.underlying265 hi hz0 hz1 hz2 rfl v ls.length _ rfl (World.ownsRow.alloc ho2 _) _ 1 (cS [s]) rfl (src_texts Tryz.underlying265 rfl (fun i hi=>by match i,hi with | 0,_=>simp [Addr.add])) 1 (.inr (by omega)) (Nat.le_refl _) (by unfold maxLen;omega) (by have:=b4.size;simp;omega) ?_;intro v5 w5 ho5 hg5 hl5;have x3:=hg5.cell (cell_al2 hA2.2.2.2) (by intro e;have:=hbg _ e.symm;have:=b1.size;simp only at *;omega)))
  have hF:Fr w w5 v v5:=(Fr.of (b4.alloc b4.size (.cells #[.string s] 9)) (Nat.le_refl _) v).trans ⟨hg5,fun g hg=>by
   rcases hl5 with q | q
   ·exact .inl (by rw [← q];exact hg)
   ·rw [q] at hg;exact .inr (by simp at hg;simp;omega)⟩
  rw [← cS_append] at ho5
  clear hg5 hl5 ho2 hA2 hA b1 b2 b3 b4 hk1 htop hCl
  refine wp_loop_rounds 1 ?_
  rw [rounds_succ]
  go_wp2
  go_ret
  refine ⟨_,rfl,?_,hF⟩
  rw [List.length_append]
  exact ho5
 ·rw [if_neg k2,List.nil_append]
  have e2:(k == 2)=false:=beq_eq_false_iff_ne.2 k2
  have hkid:Hid (∀ (j:Nat) (h:j < L.length) (h':j < ps.length) (cur:List ByteArray) (p:Value) (w1:World),w1.ownsRow base 9 1 p cur.length (cS cur)→base≤w1.heap.size→cur.length+cnt d ps[j]≤1000→
    Calls Tryz.prog 250 #[p,L[j]] w1 fun e w'=>∃ u,e=.returned u∧w'.ownsRow base 9 1 u (cur++nmC d ps[j]).length (cS (cur++nmC d ps[j]))∧Fr w1 w' p u):=
   fun j h h' cur p w1 q1 q2 q3=>by
    have:=IH base ps[j] cur p w1 ((Cl.parts hc).2 _ (List.getElem_mem h')) (hs2 _ (List.getElem_mem h')) q1 q2 q3
    subst hL
    simpa using this
  have hL2:L.length≤2:=by rw [← hL];simpa using (Cl.parts hc).1
  have HLE:Hid (ls.length+((ps.drop 0).map (cnt d)).sum≤1000):=by rw [List.drop_zero];show _≤_;omega
  have hbg:∀ g,v.ownBlock=some g→g < w.heap.size:=fun g hg=>(World.ownsRow.lt hown g hg).2
  obtain ⟨R,hR⟩:∃ R,ls++(ps.map (nmC d)).flatten=R:=⟨_,rfl⟩
  rw [hR]
  have HR:Hid (ls++(ps.map (nmC d)).flatten=R):=hR
  clear hc hs2 IH hL hx hR hCl hlen
  go_enter Tryz.func250,Tryz.ntmps250
  go_wp2_with (first
   | (go_at_call 192;refine (htop _).mono ?_;rintro e w1 ⟨sl,rfl,hk1,b1⟩;obtain ⟨a1,rfl⟩:=hk1.1.form))
  have b2:=b1.alloc b1.size (.cells #[.int .i64 k,.int .i64 n,.string s,.slice a1 L.length L.length] 244)
  have hK0:=hk1.1.below ((Below.refl _ w1).alloc (Nat.le_refl _) (.cells #[.int .i64 k,.int .i64 n,.string s,.slice a1 L.length L.length] 244)) (Nat.le_refl _)
  go_loopw [0,22] (fun p i wr=>∃ (j:Nat) (cur:List ByteArray),j≤L.length∧i=.int .i64 (j:Int)∧wr.ownsRow base 9 1 p cur.length (cS cur)∧Hid (cur=ls++((ps.take j).map (nmC d)).flatten)∧Hid (cur.length+((ps.drop j).map (cnt d)).sum≤1000)∧Hid (Kids wr (.slice a1 L.length L.length) L)∧Hid (∀ g,p.ownBlock=some g→(Value.slice a1 L.length L.length).ownBlock=some g→False)∧Hid (Fr w wr v p)) (fun _ i _=>L.length - (RowKit.intOf i).toNat)
  case atStart=>
   refine ⟨0,ls,Nat.zero_le _,rfl,own_on hown b2 (Nat.le_refl _),by show _=_;simp,HLE,hK0,fun g h1 h2=>?_,Fr.of b2 (Nat.le_refl _) v⟩
   have q1:=hbg g h1
   have q2:=hk1.2 g h2
   omega
  case round=>
   obtain ⟨j,cur,hj,rfl,ho,hcur,hln,hK,hA,hF⟩:=hrel
   have i2:(0:Int)≤(j:Int):=by omega
   by_cases hlt:j < L.length
   ·have i3:(j:Int) < (L.length:Int):=by omega
    have hll:=hLl.out
    have hjp:j < ps.length:=by omega
    obtain ⟨gg,hgg,hcell⟩:=hK.out.at hlt
    have hl2:=hln.out
    rw [List.drop_eq_getElem_cons hjp,List.map_cons,List.sum_cons] at hl2
    have hc2:=hkid.out j hlt hjp cur u0 wr ho (Nat.le_trans hbase hF.out.grown.size) (by omega)
    have hnl:=nm_len d ps[j]
    have hnx:Hid (cur++nmC d ps[j]=ls++((ps.take (j+1)).map (nmC d)).flatten):=by
     show _=_
     rw [hcur.out,List.take_succ_eq_append_getElem hjp,List.map_append,List.flatten_append,List.map_singleton,List.flatten_singleton,List.append_assoc]
    have hln2:Hid ((cur++nmC d ps[j]).length+((ps.drop (j+1)).map (cnt d)).sum≤1000):=by
     show _≤_;rw [List.length_append];omega
    have hLne:Hid (L≠[]):=fun e=>by rw [e] at hlt;simp at hlt
    obtain ⟨z,hz⟩:∃ z,L[j]=z:=⟨_,rfl⟩
    obtain ⟨N,hN⟩:∃ N,cur++nmC d ps[j]=N:=⟨_,rfl⟩
    rw [hz] at hcell hc2
    simp only [hN] at hc2 hnx hln2
    subst hgg
    clear hz hN hll hl2 hnl
    go_wp2_with (first
     | (go_at_call 250;refine hc2.mono ?_;rintro e w3 ⟨u,rfl,ho3,hf3⟩))
    have hK3:Hid _:=hK.out.fr hf3 hA.out
    have hA3:Hid _:=apart_fr hK.out hLne.out hf3 hA.out
    have hF3:Hid (Fr w w3 v u):=hF.out.trans hf3
    go_roundw
    case rel=>exact ⟨j+1,N,hlt,by go_num,ho3,hnx,hln2,hK3,hA3,hF3⟩
    case measure=>simp [RowKit.intOf];omega
   ·have i3:¬ (j:Int) < (L.length:Int):=by omega
    have hE:cur=R:=by
     have hll:=hLl.out
     rw [hcur.out,← HR.out,List.take_of_length_le (by omega)]
    subst hE
    go_wp2
    go_ret
    exact ⟨_,rfl,ho,hF.out⟩
theorem add_any2:∀ (d:Nat),AddC d
 | 0=>fun _ t=>Empty.elim t
 | d+1=>add_step d (add_any2 d)
set_option maxHeartbeats 2000000 in
theorem refs_anyP {d:Nat} {t:T d} (w:World) (hc:Cl d t) (hn:cnt d t≤1000) (hs:shrt 1000 d t=true) :
  Calls Tryz.prog 225 #[exV d t] w fun e w'=>∃ u,e=.returned u∧RdS w' u (rfT d t)∧Below w.heap.size w w':=by
 have h1:=formedP d t w hc (by omega) hs
 have h2:=fun w1 (b:w.heap.size≤w1.heap.size)=>add_any2 d w.heap.size t [] (.slice none 0 0) w1 hc hs (World.ownsRow_nil w1 _ 9 1) b (by simpa using hn)
 have hnl:=nm_len d t
 have hnm:=rf_nm d t []
 unfold rfT
 obtain ⟨x,hx⟩:∃ x,exV d t=x:=⟨_,rfl⟩
 rw [hx] at h1 ⊢
 simp only [hx,List.nil_append] at h2
 cases hf:fmC d t with
 | false=>
  rw [hf] at h1
  rw [if_neg (by decide)]
  clear h2 hc hn hs hf hx
  go_enter Tryz.func225,Tryz.ntmps225
  go_wp2_with (first
   | (go_at_call 240;refine h1.mono ?_;rintro e w1 ⟨rfl,b1⟩))
  go_ret
  exact ⟨_,rfl,rdS_nil _,b1⟩
 | true=>
  rw [hf] at h1
  rw [if_pos rfl,hnm]
  obtain ⟨N,hN⟩:∃ N,nmC d t=N:=⟨_,rfl⟩
  rw [hN] at hnl ⊢
  simp only [hN] at h2
  have hsn:=sort_names N
  have h3:=fun v w1 q=>pSort_any (base:=w.heap.size) N v w1 q (by omega)
  obtain ⟨Z,hZ⟩:∃ Z,(N.map bl).mergeSort lrB=Z:=⟨_,rfl⟩
  have hZl:Z.length≤1000:=by rw [← hZ];simp;omega
  rw [hZ] at hsn
  simp only [hZ] at h3
  have h4:=fun v w1 q=>pCompact_any (base:=w.heap.size) Z v w1 q hZl
  clear hc hn hs hf hx hnm hN hZ hnl
  go_enter Tryz.func225,Tryz.ntmps225
  go_wp2_with (first
   | (go_at_call 240;refine h1.mono ?_;rintro e w1 ⟨rfl,b1⟩;have h2':=h2 w1 b1.size)
   | (go_at_call 250;refine h2'.mono ?_;rintro e w2 ⟨u2,rfl,ho2,hf2⟩;have h3':=h3 u2 w2 ho2)
   | (go_at_call 251;refine h3'.mono ?_;rintro e w3 ⟨rfl,ho3,hf3⟩;have h4':=h4 u2 w3 ho3)
   | (go_at_call 252;refine h4'.mono ?_;rintro e w4 ⟨u4,rfl,ho4,hf4⟩))
  go_ret
  have hF:=(hf2.trans hf3).trans hf4
  refine ⟨_,rfl,?_,b1.trans ((hF.below (B:=w.heap.size) b1.size (fun g hg=>by cases hg)))⟩
  rw [hsn,cS_enc,List.length_map] at ho4
  exact ownsRow_zero ho4
theorem nm_plain:∀ (d:Nat) (t:T d),(nmC d t).any (fun s=>rsvB (bl s)) = !plC d t
 | 0,t=>Empty.elim t
 | d+1,t=>by
  obtain ⟨k,n,s,ps,rfl⟩:=T.open t
  rw [nmC_mk,plC_mk,List.any_append]
  have h1:∀ l:List (T d),(l.map (nmC d)).flatten.any (fun s=>rsvB (bl s)) = !(l.all (plC d)):=fun l=>by
   induction l with
   | nil=>rfl
   | cons p r ih=>
    have h2:=nm_plain d p
    rw [List.map_cons,List.flatten_cons,List.any_append,ih,h2,List.all_cons]
    cases plC d p <;> rfl
  rw [h1]
  have h3:(if k=2 then [s] else []).any (fun s=>rsvB (bl s))=(decide (k=2) && rsvB s.data.toList):=by
   by_cases hk:k=2
   ·rw [if_pos hk,decide_eq_true hk];simp
   ·rw [if_neg hk,decide_eq_false hk];rfl
  rw [h3]
  cases (decide (k=2) && rsvB s.data.toList) <;> cases ps.all (plC d) <;> rfl
theorem rf_plain (d:Nat) (t:T d):(rfC d t []).any (fun s=>rsvB (bl s)) = !plC d t:=by
 rw [← nm_plain]
 have h:=(fold_up (nmC d t) [] (by simp [Up])).2
 rw [← rf_nm] at h
 have e:∀ l:List ByteArray,l.any (fun s=>rsvB (bl s))=(l.map bl).any rsvB:=fun l=>by rw [List.any_map];rfl
 rw [e,e,Bool.eq_iff_iff,List.any_eq_true,List.any_eq_true]
 constructor
 ·rintro ⟨x,hx,hr⟩;exact ⟨x,by simpa using (h x).1 hx,hr⟩
 ·rintro ⟨x,hx,hr⟩;exact ⟨x,(h x).2 (.inr hx),hr⟩
/-- What is printed, or an error. -/
def prC (d:Nat) (t:T d):List UInt8 × Int:=if fmC d t=true∧plC d t=true then (txtC d t,0) else ([],1)
theorem txt_len {d:Nat} {t:T d} (hc:Cl d t) (hf:fmC d t=true) (hp:plC d t=true):(txtC d t).length≤4000:=by
 obtain ⟨h40,hs⟩:=fm_parts hf
 obtain ⟨ho,hr⟩:=ok_sound d t hc hs hp
 have hb:=pcs_len d t hc hr
 show (txP (pcs dcN d t).2).length≤4000
 omega
set_option maxRecDepth 100000 in
set_option maxHeartbeats 4000000 in
theorem printP {d:Nat} {t:T d} (w:World) (hc:Cl d t) (hn:cnt d t≤1000) (hs:shrt 1000 d t=true) (hw:Pow w) :
  Calls Tryz.prog 208 #[exV d t] w fun e w'=>e=.returned (.tuple #[.string ⟨(prC d t).1.toArray⟩,.int .i64 (prC d t).2])∧Below w.heap.size w w':=by
 have h1:=formedP d t w hc (by omega) hs
 have h2:=fun w1=>refs_anyP w1 hc hn hs
 have h3:=fun (hf:fmC d t=true) (hp:plC d t=true) w1 hw1=>text_any d t w1 hc (fm_parts hf).2 (by have:=txt_len hc hf hp;omega) hw1
 have h4:=fun (v:Value) (w1:World) (h:RdS w1 v (rfT d t))=>contains_any h
 have hpl:=rf_plain d t
 unfold prC
 obtain ⟨ev,hev⟩:∃ ev,exV d t=ev:=⟨_,rfl⟩
 have hfm:ev=.nilIface∨∃ u y,ev=.iface u y:=by rw [← hev];exact exV_form d t
 rw [hev] at h1 ⊢
 simp only [hev] at h2 h3
 clear hev
 by_cases hf:fmC d t=true
 case neg=>
  rw [if_neg (fun h=>hf h.1)]
  have hf':fmC d t=false:=by simpa using hf
  rw [hf'] at h1
  clear h2 h3 h4 hpl hf hf'
  rcases hfm with rfl | ⟨u,y,rfl⟩
  all_goals
   go_enter Tryz.func208,Tryz.ntmps208
   go_wp2_with (first | (go_at_call 240;refine h1.mono ?_;rintro e w2 ⟨rfl,b2⟩))
   go_ret2
   exact ⟨rfl,b2⟩
 rw [hf] at h1
 unfold rfT at h2 h4
 simp only [if_pos hf,hpl] at h2 h4
 by_cases hp:plC d t=true
 ·rw [if_pos ⟨hf,hp⟩]
  rw [hp] at h4
  replace h3:=h3 hf hp
  generalize txtC d t=X at *
  rcases hfm with rfl | ⟨u,y,rfl⟩
  all_goals
   go_enter Tryz.func208,Tryz.ntmps208
   go_wp2_with (first
    | (go_at_call 240;refine h1.mono ?_;rintro e w2 ⟨rfl,b2⟩)
    | (go_at_call 225;refine (h2 _).mono ?_;rintro e w3 ⟨v,rfl,hv,b3⟩;have b3':=bthen b2 b3;obtain ⟨a,cap,rfl,_,_⟩:=hv.at')
    | (go_at_call 224;refine (h4 _ _ hv).mono ?_;rintro e w4 ⟨rfl,rfl⟩)
    | (go_at_call 241;refine (h3 _ (hw.below b3')).mono ?_;rintro e w5 ⟨rfl,b5⟩;have b5':=bthen b3' b5))
   go_ret2
   exact ⟨rfl,b5'⟩
 ·rw [if_neg (fun h=>hp h.2)]
  have hp':plC d t=false:=by simpa using hp
  rw [hp'] at h4
  clear h3
  rcases hfm with rfl | ⟨u,y,rfl⟩
  all_goals
   go_enter Tryz.func208,Tryz.ntmps208
   go_wp2_with (first
    | (go_at_call 240;refine h1.mono ?_;rintro e w2 ⟨rfl,b2⟩)
    | (go_at_call 225;refine (h2 _).mono ?_;rintro e w3 ⟨v,rfl,hv,b3⟩;have b3':=bthen b2 b3;obtain ⟨a,cap,rfl,_,_⟩:=hv.at')
    | (go_at_call 224;refine (h4 _ _ hv).mono ?_;rintro e w4 ⟨rfl,rfl⟩))
   go_ret2
   exact ⟨rfl,b3'⟩
theorem al_ref (v:Value) (w:World):(Instr.typeAssert (.iface 191 v) 130 193 true).run Tryz.prog w=.ok (.tuple #[.agg #[.string ⟨#[]⟩],.bool false]) w:=by kernel_rfl
theorem al_not (v:Value) (w:World):(Instr.typeAssert (.iface 191 v) 130 195 true).run Tryz.prog w=.ok (.tuple #[.agg #[.nilIface],.bool false]) w:=by kernel_rfl
theorem al_neg (v:Value) (w:World):(Instr.typeAssert (.iface 191 v) 130 196 true).run Tryz.prog w=.ok (.tuple #[.agg #[.nilIface],.bool false]) w:=by kernel_rfl
theorem al_bin (v:Value) (w:World):(Instr.typeAssert (.iface 191 v) 130 198 true).run Tryz.prog w=.ok (.tuple #[.agg #[.string ⟨#[]⟩,.nilIface,.nilIface],.bool false]) w:=by kernel_rfl
theorem an_ref (w:World):(Instr.typeAssert .nilIface 130 193 true).run Tryz.prog w=.ok (.tuple #[.agg #[.string ⟨#[]⟩],.bool false]) w:=by kernel_rfl
theorem an_not (w:World):(Instr.typeAssert .nilIface 130 195 true).run Tryz.prog w=.ok (.tuple #[.agg #[.nilIface],.bool false]) w:=by kernel_rfl
theorem an_neg (w:World):(Instr.typeAssert .nilIface 130 196 true).run Tryz.prog w=.ok (.tuple #[.agg #[.nilIface],.bool false]) w:=by kernel_rfl
theorem an_bin (w:World):(Instr.typeAssert .nilIface 130 198 true).run Tryz.prog w=.ok (.tuple #[.agg #[.string ⟨#[]⟩,.nilIface,.nilIface],.bool false]) w:=by kernel_rfl
attribute [local go_sem] as_ref_ref as_not_ref as_not_not as_neg_ref as_neg_not as_neg_neg as_bin_ref as_bin_not as_bin_neg as_bin_bin al_ref al_not al_neg al_bin an_ref an_not an_neg an_bin
def CwC (v:Value):Prop:=∀ w,Calls Tryz.prog 195 #[v] w fun e w'=>e=.returned v∧Below w.heap.size w w'
set_option maxRecDepth 100000 in
set_option maxHeartbeats 4000000 in
theorem cw_lit (n:Int):CwC (.iface 191 (.agg #[.int .i64 n])):=by
 intro w
 go_enter Tryz.func195,Tryz.ntmps195
 go_wp2
 go_ret
 exact ⟨rfl,Below.refl _ _⟩
set_option maxRecDepth 100000 in
set_option maxHeartbeats 4000000 in
theorem cw_nil:CwC .nilIface:=by
 intro w
 go_enter Tryz.func195,Tryz.ntmps195
 go_wp2
 go_ret
 exact ⟨rfl,Below.refl _ _⟩
set_option maxRecDepth 100000 in
set_option maxHeartbeats 4000000 in
theorem cw_ref (s:ByteArray) (hs:s.size≤140737488351232):CwC (.iface 193 (.agg #[.string s])):=by
 intro w
 have h1:=fun w1=>pClone_any s w1 hs
 go_enter Tryz.func195,Tryz.ntmps195
 go_wp2_with (first
  | (go_at_call 38;refine (h1 _).mono ?_;rintro e w1 ⟨rfl,b1⟩))
 go_ret
 exact ⟨rfl,((Below.refl w.heap.size w).alloc (Nat.le_refl _) _).trans (b1.mono (by simp))⟩
set_option maxRecDepth 100000 in
set_option maxHeartbeats 4000000 in
theorem cw_not (v:Value) (hv:Ifc v) (h:CwC v):CwC (.iface 195 (.agg #[v])):=by
 intro w
 rcases hv with rfl | ⟨u,y,rfl⟩
 ·go_enter Tryz.func195,Tryz.ntmps195
  go_wp2_with (first
   | (go_at_call 195;refine (h _).mono ?_;rintro e w1 ⟨rfl,b1⟩))
  go_ret
  exact ⟨rfl,((Below.refl w.heap.size w).alloc (Nat.le_refl _) _).trans (b1.mono (by simp))⟩
 ·go_enter Tryz.func195,Tryz.ntmps195
  go_wp2_with (first
   | (go_at_call 195;refine (h _).mono ?_;rintro e w1 ⟨rfl,b1⟩))
  go_ret
  exact ⟨rfl,((Below.refl w.heap.size w).alloc (Nat.le_refl _) _).trans (b1.mono (by simp))⟩
set_option maxRecDepth 100000 in
set_option maxHeartbeats 4000000 in
theorem cw_neg (v:Value) (hv:Ifc v) (h:CwC v):CwC (.iface 196 (.agg #[v])):=by
 intro w
 rcases hv with rfl | ⟨u,y,rfl⟩
 ·go_enter Tryz.func195,Tryz.ntmps195
  go_wp2_with (first
   | (go_at_call 195;refine (h _).mono ?_;rintro e w1 ⟨rfl,b1⟩))
  go_ret
  exact ⟨rfl,((Below.refl w.heap.size w).alloc (Nat.le_refl _) _).trans (b1.mono (by simp))⟩
 ·go_enter Tryz.func195,Tryz.ntmps195
  go_wp2_with (first
   | (go_at_call 195;refine (h _).mono ?_;rintro e w1 ⟨rfl,b1⟩))
  go_ret
  exact ⟨rfl,((Below.refl w.heap.size w).alloc (Nat.le_refl _) _).trans (b1.mono (by simp))⟩
theorem Below.nx {w wc w1:World} (h:Below w.heap.size w wc) (b:Below wc.heap.size wc w1):Below w.heap.size w w1:=h.trans (b.mono h.size)
theorem Below.nxd {w wc w1:World} (h:Below w.heap.size w wc) (b:Below wc.drew.heap.size wc.drew w1):Below w.heap.size w w1:=(h.drew).trans (b.mono h.size)
set_option maxRecDepth 100000 in
set_option maxHeartbeats 8000000 in
theorem cw_bin (s:ByteArray) (hs:s.size≤140737488351232) (u v:Value) (hu:Ifc u) (hv:Ifc v) (h:CwC u) (h':CwC v):CwC (.iface 198 (.agg #[.string s,u,v])):=by
 intro w
 have h1:=fun w1=>pClone_any s w1 hs
 have hal:=(Below.refl w.heap.size w).alloc (Nat.le_refl _) (.cells #[.string s,u,v] 198)
 have c0:(w.alloc (.cells #[.string s,u,v] 198)).cell? ⟨w.heap.size,0,none⟩=some (.string s):=by simp
 have c1:(w.alloc (.cells #[.string s,u,v] 198)).cell? ⟨w.heap.size,1,none⟩=some u:=by simp
 have c2:(w.alloc (.cells #[.string s,u,v] 198)).cell? ⟨w.heap.size,2,none⟩=some v:=by simp
 have hlt:w.heap.size < (w.alloc (.cells #[.string s,u,v] 198)).heap.size:=by simp
 rcases hu with rfl | ⟨u1,y1,rfl⟩ <;> rcases hv with rfl | ⟨u2,y2,rfl⟩
 ·have g1:∀ w1,Calls Tryz.prog 195 #[.nilIface] w1 fun e w'=>e=.returned (.nilIface)∧Below w1.heap.size w1 w':=h
  have g2:∀ w1,Calls Tryz.prog 195 #[.nilIface] w1 fun e w'=>e=.returned (.nilIface)∧Below w1.heap.size w1 w':=h'
  clear h h'
  go_enter Tryz.func195,Tryz.ntmps195
  go_upto_region 13 with fail
  generalize w.alloc (.cells #[.string s,.nilIface,.nilIface] 198)=wx at *
  have hB:Below wx.heap.size wx wx:=Below.refl _ _
  obtain ⟨S,hS⟩:∃ S,w.heap.size=S:=⟨_,rfl⟩
  rw [hS] at c0 c1 c2 hlt ⊢
  go_region_held_law (fun w'=>w'.cell? ⟨S,0,none⟩=some (.string s)∧w'.cell? ⟨S,1,none⟩=some (.nilIface)∧w'.cell? ⟨S,2,none⟩=some (.nilIface))
   (exact ⟨(hB.cell (p:=⟨S,0,none⟩) hlt).trans c0,(hB.cell (p:=⟨S,1,none⟩) hlt).trans c1,(hB.cell (p:=⟨S,2,none⟩) hlt).trans c2⟩)
   (first
    | (go_at_call 38;(with_reducible refine (h1 _).mono ?_);rintro e w1 ⟨rfl,b1⟩;first | have hB:=Below.nxd hB b1 | have hB:=Below.nx hB b1)
    | (go_at_call 195;(with_reducible refine (g1 _).mono ?_);rintro e w1 ⟨rfl,b1⟩;first | have hB:=Below.nxd hB b1 | have hB:=Below.nx hB b1)
    | (go_at_call 195;(with_reducible refine (g2 _).mono ?_);rintro e w1 ⟨rfl,b1⟩;first | have hB:=Below.nxd hB b1 | have hB:=Below.nx hB b1)
    | fail)
  all_goals (
   go_wp2
   go_ret
   exact ⟨rfl,hal.trans (hB.mono (by rw [hS];omega))⟩)
 ·have g1:∀ w1,Calls Tryz.prog 195 #[.nilIface] w1 fun e w'=>e=.returned (.nilIface)∧Below w1.heap.size w1 w':=h
  have g2:∀ w1,Calls Tryz.prog 195 #[.iface u2 y2] w1 fun e w'=>e=.returned (.iface u2 y2)∧Below w1.heap.size w1 w':=h'
  clear h h'
  go_enter Tryz.func195,Tryz.ntmps195
  go_upto_region 13 with fail
  generalize w.alloc (.cells #[.string s,.nilIface,.iface u2 y2] 198)=wx at *
  have hB:Below wx.heap.size wx wx:=Below.refl _ _
  obtain ⟨S,hS⟩:∃ S,w.heap.size=S:=⟨_,rfl⟩
  rw [hS] at c0 c1 c2 hlt ⊢
  go_region_held_law (fun w'=>w'.cell? ⟨S,0,none⟩=some (.string s)∧w'.cell? ⟨S,1,none⟩=some (.nilIface)∧w'.cell? ⟨S,2,none⟩=some (.iface u2 y2))
   (exact ⟨(hB.cell (p:=⟨S,0,none⟩) hlt).trans c0,(hB.cell (p:=⟨S,1,none⟩) hlt).trans c1,(hB.cell (p:=⟨S,2,none⟩) hlt).trans c2⟩)
   (first
    | (go_at_call 38;(with_reducible refine (h1 _).mono ?_);rintro e w1 ⟨rfl,b1⟩;first | have hB:=Below.nxd hB b1 | have hB:=Below.nx hB b1)
    | (go_at_call 195;(with_reducible refine (g1 _).mono ?_);rintro e w1 ⟨rfl,b1⟩;first | have hB:=Below.nxd hB b1 | have hB:=Below.nx hB b1)
    | (go_at_call 195;(with_reducible refine (g2 _).mono ?_);rintro e w1 ⟨rfl,b1⟩;first | have hB:=Below.nxd hB b1 | have hB:=Below.nx hB b1)
    | fail)
  all_goals (
   go_wp2
   go_ret
   exact ⟨rfl,hal.trans (hB.mono (by rw [hS];omega))⟩)
 ·have g1:∀ w1,Calls Tryz.prog 195 #[.iface u1 y1] w1 fun e w'=>e=.returned (.iface u1 y1)∧Below w1.heap.size w1 w':=h
  have g2:∀ w1,Calls Tryz.prog 195 #[.nilIface] w1 fun e w'=>e=.returned (.nilIface)∧Below w1.heap.size w1 w':=h'
  clear h h'
  go_enter Tryz.func195,Tryz.ntmps195
  go_upto_region 13 with fail
  generalize w.alloc (.cells #[.string s,.iface u1 y1,.nilIface] 198)=wx at *
  have hB:Below wx.heap.size wx wx:=Below.refl _ _
  obtain ⟨S,hS⟩:∃ S,w.heap.size=S:=⟨_,rfl⟩
  rw [hS] at c0 c1 c2 hlt ⊢
  go_region_held_law (fun w'=>w'.cell? ⟨S,0,none⟩=some (.string s)∧w'.cell? ⟨S,1,none⟩=some (.iface u1 y1)∧w'.cell? ⟨S,2,none⟩=some (.nilIface))
   (exact ⟨(hB.cell (p:=⟨S,0,none⟩) hlt).trans c0,(hB.cell (p:=⟨S,1,none⟩) hlt).trans c1,(hB.cell (p:=⟨S,2,none⟩) hlt).trans c2⟩)
   (first
    | (go_at_call 38;(with_reducible refine (h1 _).mono ?_);rintro e w1 ⟨rfl,b1⟩;first | have hB:=Below.nxd hB b1 | have hB:=Below.nx hB b1)
    | (go_at_call 195;(with_reducible refine (g1 _).mono ?_);rintro e w1 ⟨rfl,b1⟩;first | have hB:=Below.nxd hB b1 | have hB:=Below.nx hB b1)
    | (go_at_call 195;(with_reducible refine (g2 _).mono ?_);rintro e w1 ⟨rfl,b1⟩;first | have hB:=Below.nxd hB b1 | have hB:=Below.nx hB b1)
    | fail)
  all_goals (
   go_wp2
   go_ret
   exact ⟨rfl,hal.trans (hB.mono (by rw [hS];omega))⟩)
 ·have g1:∀ w1,Calls Tryz.prog 195 #[.iface u1 y1] w1 fun e w'=>e=.returned (.iface u1 y1)∧Below w1.heap.size w1 w':=h
  have g2:∀ w1,Calls Tryz.prog 195 #[.iface u2 y2] w1 fun e w'=>e=.returned (.iface u2 y2)∧Below w1.heap.size w1 w':=h'
  clear h h'
  go_enter Tryz.func195,Tryz.ntmps195
  go_upto_region 13 with fail
  generalize w.alloc (.cells #[.string s,.iface u1 y1,.iface u2 y2] 198)=wx at *
  have hB:Below wx.heap.size wx wx:=Below.refl _ _
  obtain ⟨S,hS⟩:∃ S,w.heap.size=S:=⟨_,rfl⟩
  rw [hS] at c0 c1 c2 hlt ⊢
  go_region_held_law (fun w'=>w'.cell? ⟨S,0,none⟩=some (.string s)∧w'.cell? ⟨S,1,none⟩=some (.iface u1 y1)∧w'.cell? ⟨S,2,none⟩=some (.iface u2 y2))
   (exact ⟨(hB.cell (p:=⟨S,0,none⟩) hlt).trans c0,(hB.cell (p:=⟨S,1,none⟩) hlt).trans c1,(hB.cell (p:=⟨S,2,none⟩) hlt).trans c2⟩)
   (first
    | (go_at_call 38;(with_reducible refine (h1 _).mono ?_);rintro e w1 ⟨rfl,b1⟩;first | have hB:=Below.nxd hB b1 | have hB:=Below.nx hB b1)
    | (go_at_call 195;(with_reducible refine (g1 _).mono ?_);rintro e w1 ⟨rfl,b1⟩;first | have hB:=Below.nxd hB b1 | have hB:=Below.nx hB b1)
    | (go_at_call 195;(with_reducible refine (g2 _).mono ?_);rintro e w1 ⟨rfl,b1⟩;first | have hB:=Below.nxd hB b1 | have hB:=Below.nx hB b1)
    | fail)
  all_goals (
   go_wp2
   go_ret
   exact ⟨rfl,hal.trans (hB.mono (by rw [hS];omega))⟩)
theorem ifc_of (d:Nat) (t:T d):Ifc (exV d t):=exV_form d t
theorem copiedW:∀ (d:Nat) (t:T d),Cl d t→shrt 1000 d t=true→CwC (exV d t)
 | 0,t,_,_=>Empty.elim t
 | d+1,t,hc,hs=>by
  rcases hc.cases with ⟨n,rfl⟩ | ⟨s,rfl⟩ | ⟨k,p,hk,rfl,hp⟩ | ⟨s,p,q,rfl,hp,hq⟩ | rfl
  ·exact cw_lit n
  ·rw [shrt_mk,Bool.and_eq_true,decide_eq_true_eq] at hs
   exact cw_ref s (by omega)
  ·rw [shrt_mk,Bool.and_eq_true,List.all_cons,Bool.and_eq_true] at hs
   have h:=copiedW d p hp hs.2.1
   rcases hk with rfl | rfl
   ·exact cw_not _ (ifc_of d p) h
   ·exact cw_neg _ (ifc_of d p) h
  ·rw [shrt_mk,Bool.and_eq_true,decide_eq_true_eq,List.all_cons,Bool.and_eq_true,List.all_cons,Bool.and_eq_true] at hs
   exact cw_bin s (by omega) _ _ (ifc_of d p) (ifc_of d q) (copiedW d p hp hs.2.1) (copiedW d q hq hs.2.2.1)
  ·exact cw_nil
theorem copied_any {d:Nat} {t:T d} (hc:Cl d t) (hn:cnt d t≤100000) (hs:shrt 1000 d t=true) (w:World):Calls Tryz.prog 134 #[exV d t] w fun e w'=>e=.returned (exV d t)∧Below w.heap.size w w':=by
 have h1:=fun w1=>pNodes_cnt d t w1 hc hn
 have h2:∀ w1,Calls Tryz.prog 195 #[exV d t] w1 fun e w'=>e=.returned (exV d t)∧Below w1.heap.size w1 w':=copiedW d t hc hs
 generalize exV d t=v at *
 obtain ⟨n,hn⟩:∃ n,min (cnt d t) 41=n:=⟨_,rfl⟩
 rw [hn] at h1
 clear hn
 by_cases hq:40 < n
 ·have i1:(40:Int) < (n:Int):=by omega
  go_enter Tryz.func134,Tryz.ntmps134
  go_wp2_with (first
   | (go_at_call 194;refine (h1 _).mono ?_;rintro e w1 ⟨rfl,b1⟩))
  go_ret
  exact ⟨rfl,b1⟩
 ·have i1:¬ (40:Int) < (n:Int):=by omega
  go_enter Tryz.func134,Tryz.ntmps134
  go_wp2_with (first
   | (go_at_call 194;refine (h1 _).mono ?_;rintro e w1 ⟨rfl,b1⟩)
   | (go_at_call 195;refine (h2 _).mono ?_;rintro e w2 ⟨rfl,b2⟩))
  go_ret
  exact ⟨rfl,Below.nx b1 b2⟩
end Go.Proofs.YtfjdceknbdmhpaaGreatDoor
/- A reader of words in memory. -/
namespace Go.Proofs.YtfjdceknbdmhpaaGreatDoor
open Go.RowKit Go.Lib
set_option linter.unusedSimpArgs false
set_option linter.unusedVariables false
/-- Nothing but block X has turned, and new blocks. -/
abbrev Fx (X:Nat) (w w':World):Prop:=w.grownBy w' (some X)
theorem Fx.refl (X:Nat) (w:World):Fx X w w:=⟨rfl,rfl,rfl,Nat.le_refl _,fun _ _ _=>rfl⟩
theorem Fx.trans {X:Nat} {a b c:World} (h:Fx X a b) (k:Fx X b c):Fx X a c:=
 ⟨k.os.trans h.os,k.tape.trans h.tape,k.output.trans h.output,Nat.le_trans h.size k.size,fun j hj hne=>(k.block j (Nat.lt_of_lt_of_le hj h.size) hne).trans (h.block j hj hne)⟩
theorem Fx.of {X B:Nat} {a b:World} (h:Below B a b) (hB:a.heap.size≤B):Fx X a b:=⟨h.os,h.tape,h.output,h.size,fun k hk _=>h.block k (by omega)⟩
theorem Fx.setX {X i:Nat} {a b:World} (h:Fx X a b) (u:Value):Fx X a (b.setCell ⟨X,i,none⟩ u):=
 ⟨h.os,h.tape,h.output,by simpa using h.size,fun k hk hne=>(Below.heap_setCell _ _ _ _ (fun e=>hne (congrArg some e))).trans (h.block k hk hne)⟩
theorem Fx.drewN {X:Nat} {a b:World} (h:Fx X a b) (m:Nat):Fx X a (b.drewN m):=⟨h.os,h.tape,h.output,h.size,h.block⟩
theorem Fx.drew {X:Nat} {a b:World} (h:Fx X a b):Fx X a b.drew:=⟨h.os,h.tape,h.output,h.size,h.block⟩
theorem Fx.alloc {X:Nat} {a b:World} (h:Fx X a b) (o:Obj):Fx X a (b.alloc o):=h.trans (Fx.of ((Below.refl b.heap.size b).alloc (Nat.le_refl _) o) (Nat.le_refl _))
theorem Fx.below {X:Nat} {a b:World} (h:Fx X a b) {B:Nat} (hB:B≤X) (hs:B≤a.heap.size):Below B a b:=⟨h.os,h.tape,h.output,h.size,fun k hk=>h.block k (by omega) (fun e=>by have:k=X:=Option.some.inj e;omega)⟩
/-- A new block's cells, written. -/
theorem Fx.setN {X N i:Nat} {a b:World} (h:Fx X a b) (hN:a.heap.size≤N) (u:Value):Fx X a (b.setCell ⟨N,i,none⟩ u):=
 ⟨h.os,h.tape,h.output,by simpa using h.size,fun k hk hne=>(Below.heap_setCell _ _ _ _ (fun e=>by have:k=N:=e;omega)).trans (h.block k hk hne)⟩
/-- The words, in memory apart from X. -/
def RdL (w:World) (X:Nat) (a:Option Addr) (ws:List Wd):Prop:=∀ (i:Nat) (hi:i < ws.length),∃ g off,a=some ⟨g,off,none⟩∧g < X∧w.cell? ⟨g,off+i*4,none⟩=some (.int .i64 ((ws[i]).1:Int))∧w.cell? ⟨g,off+i*4+1,none⟩=some (.string (txt (ws[i]).2.1))∧w.cell? ⟨g,off+i*4+2,none⟩=some (.int .i64 (ws[i]).2.2.1)∧w.cell? ⟨g,off+i*4+3,none⟩=some (.int .i64 (ws[i]).2.2.2)
theorem RdL.fx {w w':World} {X:Nat} {a:Option Addr} {ws:List Wd} (h:RdL w X a ws) (hX:X < w.heap.size) (hf:Fx X w w'):RdL w' X a ws:=fun i hi=>by
 obtain ⟨g,off,h1,h3,c0,c1,c2,c3⟩:=h i hi
 have hb:w'.heap[g]?=w.heap[g]?:=hf.block g (by omega) (fun e=>by have:g=X:=Option.some.inj e;omega)
 have hc:∀ j,w'.cell? ⟨g,j,none⟩=w.cell? ⟨g,j,none⟩:=fun j=>World.cell?_of_block (w:=w) (a:=⟨g,j,none⟩) hb
 exact ⟨g,off,h1,h3,(hc _).trans c0,(hc _).trans c1,(hc _).trans c2,(hc _).trans c3⟩
/-- The reader in block X. -/
structure Rr (w:World) (X:Nat) (a:Option Addr) (cap:Nat) (ws:List Wd) (n:Nat) (b:Int):Prop where
 c0:w.cell? ⟨X,0,none⟩=some (.slice a ws.length cap)
 c1:w.cell? ⟨X,1,none⟩=some (.int .i64 (n:Int))
 c2:w.cell? ⟨X,2,none⟩=some (.int .i64 b)
 f1:w.frozen? ⟨X,1,none⟩=false
 f2:w.frozen? ⟨X,2,none⟩=false
 l:RdL w X a ws
theorem Rr.lt {w:World} {X:Nat} {a:Option Addr} {cap:Nat} {ws:List Wd} {n:Nat} {b:Int} (h:Rr w X a cap ws n b):X < w.heap.size:=World.block_lt_of_cell? w _ h.c0
theorem Rr.on {w w':World} {X:Nat} {a:Option Addr} {cap:Nat} {ws:List Wd} {n:Nat} {b:Int} (h:Rr w X a cap ws n b) (hb:Below w.heap.size w w'):Rr w' X a cap ws n b:=by
 have hX:=h.lt
 have hc:∀ i,w'.cell? ⟨X,i,none⟩=w.cell? ⟨X,i,none⟩:=fun i=>hb.cell (p:=⟨X,i,none⟩) hX
 have hf:∀ i,w'.frozen? ⟨X,i,none⟩=w.frozen? ⟨X,i,none⟩:=fun i=>hb.frozen (p:=⟨X,i,none⟩) hX
 exact ⟨(hc 0).trans h.c0,(hc 1).trans h.c1,(hc 2).trans h.c2,(hf 1).trans h.f1,(hf 2).trans h.f2,h.l.fx hX (Fx.of hb (Nat.le_refl _))⟩
theorem Rr.set1 {w:World} {X:Nat} {a:Option Addr} {cap:Nat} {ws:List Wd} {n:Nat} {b:Int} (h:Rr w X a cap ws n b) (n':Nat):Rr (w.setCell ⟨X,1,none⟩ (.int .i64 (n':Int))) X a cap ws n' b:=
 ⟨cell_far4 (by omega) h.c0,cell_same4 h.c1,cell_far4 (by omega) h.c2,(World.frozen?_setCell _ _ _ _).trans h.f1,(World.frozen?_setCell _ _ _ _).trans h.f2,h.l.fx h.lt ((Fx.refl X w).setX _)⟩
theorem Rr.set2 {w:World} {X:Nat} {a:Option Addr} {cap:Nat} {ws:List Wd} {n:Nat} {b:Int} (h:Rr w X a cap ws n b) (b':Int):Rr (w.setCell ⟨X,2,none⟩ (.int .i64 b')) X a cap ws n b':=
 ⟨cell_far4 (by omega) h.c0,cell_far4 (by omega) h.c1,cell_same4 h.c2,(World.frozen?_setCell _ _ _ _).trans h.f1,(World.frozen?_setCell _ _ _ _).trans h.f2,h.l.fx h.lt ((Fx.refl X w).setX _)⟩
theorem draws (w:World) (m:Nat):Below w.heap.size w (w.drewN m):=⟨rfl,rfl,rfl,Nat.le_refl _,fun _ _=>rfl⟩
structure Wk (ws:List Wd) (cap:Nat):Prop where
 l:ws.length≤3000
 c:ws.length≤cap
 m:cap≤maxLen
 o:∀ x∈ws,OneW x.1 x.2.1
theorem Rr.far {w:World} {X N i:Nat} {a:Option Addr} {cap:Nat} {ws:List Wd} {n:Nat} {b:Int} (h:Rr w X a cap ws n b) (hN:X < N) (u:Value):Rr (w.setCell ⟨N,i,none⟩ u) X a cap ws n b:=by
 refine ⟨cell_far4 (by omega) h.c0,cell_far4 (by omega) h.c1,cell_far4 (by omega) h.c2,(World.frozen?_setCell _ _ _ _).trans h.f1,(World.frozen?_setCell _ _ _ _).trans h.f2,fun j hj=>?_⟩
 obtain ⟨g,off,h1,h3,d0,d1,d2,d3⟩:=h.l j hj
 exact ⟨g,off,h1,h3,cell_far4 (by omega) d0,cell_far4 (by omega) d1,cell_far4 (by omega) d2,cell_far4 (by omega) d3⟩
/-- A block of cells that may be written. -/
def Bn (w:World) (Y:Nat) (cs:List Value):Prop:=∀ j u,cs[j]?=some u→w.cell? ⟨Y,j,none⟩=some u∧w.frozen? ⟨Y,j,none⟩=false
theorem Bn.lt {w:World} {Y:Nat} {c:Value} {cs:List Value} (h:Bn w Y (c :: cs)):Y < w.heap.size:=World.block_lt_of_cell? w _ (h 0 c rfl).1
theorem frozen_of_block {w w':World} {Y j:Nat} (h:w'.heap[Y]?=w.heap[Y]?):w'.frozen? ⟨Y,j,none⟩=w.frozen? ⟨Y,j,none⟩:=by
 unfold World.frozen?
 rw [h]
theorem Bn.blk {w w':World} {Y:Nat} {cs:List Value} (h:Bn w Y cs) (hb:w'.heap[Y]?=w.heap[Y]?):Bn w' Y cs:=fun j u hu=>
 ⟨keep_cell (p:=⟨Y,j,none⟩) hb (h j u hu).1,(frozen_of_block hb).trans (h j u hu).2⟩
theorem Bn.on {w w':World} {Y:Nat} {c:Value} {cs:List Value} (h:Bn w Y (c :: cs)) (hb:Below w.heap.size w w'):Bn w' Y (c :: cs):=h.blk (hb.block Y h.lt)
theorem Bn.fx {w w':World} {X Y:Nat} {c:Value} {cs:List Value} (h:Bn w Y (c :: cs)) (hf:Fx X w w') (hne:Y≠X):Bn w' Y (c :: cs):=h.blk (hf.block Y h.lt (fun e=>hne (Option.some.inj e)))
theorem Bn.far {w:World} {Y X i:Nat} {cs:List Value} (h:Bn w Y cs) (hne:X≠Y) (v:Value):Bn (w.setCell ⟨X,i,none⟩ v) Y cs:=h.blk (Below.heap_setCell _ _ _ _ (fun e=>hne e.symm))
theorem Bn.set {w:World} {Y i:Nat} {cs:List Value} (h:Bn w Y cs) (hi:i < cs.length) (v:Value):Bn (w.setCell ⟨Y,i,none⟩ v) Y (cs.set i v):=fun j u hu=>by
 refine ⟨?_,(World.frozen?_setCell _ _ _ _).trans ?_⟩
 ·by_cases hj:i=j
  ·subst hj
   rw [List.getElem?_set_self hi] at hu
   obtain rfl:=Option.some.inj hu
   exact cell_same4 (h i _ (List.getElem?_eq_getElem hi)).1
  ·rw [List.getElem?_set_ne hj] at hu
   exact cell_far4 (by omega) (h j u hu).1
 ·have hl:j < cs.length:=by
   have:=(List.getElem?_eq_some_iff.1 hu).1
   rwa [List.length_set] at this
  exact (h j _ (List.getElem?_eq_getElem hl)).2
theorem Bn.drew {w:World} {Y:Nat} {cs:List Value} (h:Bn w Y cs):Bn w.drew Y cs:=h
theorem Bn.new (w:World) (cs:List Value) (t:TypeId) (n:Nat) (hn:n=w.heap.size):Bn (w.alloc (.cells cs.toArray t)) n cs:=by
 subst hn
 intro j u hu
 refine ⟨?_,by simp⟩
 rw [World.cell?_alloc_new]
 simpa using hu
/-- The slice v reads as the list l, k cells an element. -/
def RdK {α:Type} (ok:Nat→Prop) (w:World) (k:Nat) (R:α→List Value→Prop) (l:List α) (v:Value):Prop:=
 ∃ a cap,v=.slice a l.length cap∧l.length≤cap∧cap≤maxLen∧
  ∀ (i:Nat) (hi:i < l.length),∃ b off cs,a=some ⟨b,off,none⟩∧ok b∧b < w.heap.size∧cs.length=k∧R l[i] cs∧∀ j u,cs[j]?=some u→w.cell? ⟨b,off+i*k+j,none⟩=some u
theorem rdK_none {α:Type} (ok:Nat→Prop) (w:World) (k:Nat) (R:α→List Value→Prop):RdK ok w k R [] (.slice none 0 0):=⟨none,0,rfl,by simp,by simp [maxLen],fun i hi=>absurd hi (by simp)⟩
theorem RdK.keep {α:Type} {ok ok':Nat→Prop} {w w':World} {k:Nat} {R R':α→List Value→Prop} {l:List α} {v:Value} (h:RdK ok w k R l v) (hR:∀ x∈l,∀ u,R x u→R' x u) (hk:∀ b,ok b→b < w.heap.size→ok' b∧w'.heap[b]?=w.heap[b]?):RdK ok' w' k R' l v:=by
 obtain ⟨a,cap,rfl,hc,hm,hcell⟩:=h
 refine ⟨a,cap,rfl,hc,hm,fun i hi=>?_⟩
 obtain ⟨b,off,cs,ha,ho,hb,hl,hr,hcs⟩:=hcell i hi
 obtain ⟨ho',hs⟩:=hk _ ho hb
 refine ⟨b,off,cs,ha,ho',?_,hl,hR _ (List.getElem_mem hi) _ hr,fun j u hu=>keep_cell (p:=⟨b,off+i*k+j,none⟩) hs (hcs j u hu)⟩
 rcases Nat.lt_or_ge b w'.heap.size with h | h
 ·exact h
 ·rw [Array.getElem?_eq_none h,Array.getElem?_eq_getElem hb] at hs
  cases hs
theorem RdK.form {α:Type} {ok:Nat→Prop} {w:World} {k:Nat} {R:α→List Value→Prop} {l:List α} {v:Value} (h:RdK ok w k R l v):∃ a cap,v=.slice a l.length cap∧l.length≤cap∧cap≤maxLen:=by
 obtain ⟨a,cap,h1,h2,h3,_⟩:=h
 exact ⟨a,cap,h1,h2,h3⟩
/-- A reading that stays where its blocks stay. -/
def Kp {α:Type} (R:(Nat→Prop)→World→α→List Value→Prop):Prop:=∀ ⦃ok ok':Nat→Prop⦄ ⦃w w':World⦄ ⦃x:α⦄ ⦃cs:List Value⦄,R ok w x cs→(∀ b,ok b→b < w.heap.size→ok' b∧w'.heap[b]?=w.heap[b]?)→R ok' w' x cs
/-- The slice v is the call's own, from block base on, of k cells an element, and holds l; what lies behind its cells lies apart. -/
def OwnK {α:Type} (w:World) (base e k:Nat) (R:(Nat→Prop)→World→α→List Value→Prop) (v:Value) (l:List α):Prop:=
 ∃ qs:List (List Value),w.ownsRow base e k v l.length qs.flatten∧qs.length=l.length∧∀ (i:Nat) (h:i < l.length) (h':i < qs.length),(qs[i]).length=k∧R (fun b=>base≤b∧v.ownBlock≠some b) w l[i] qs[i]
theorem ownK_nil {α:Type} (w:World) (base e k:Nat) (R:(Nat→Prop)→World→α→List Value→Prop):OwnK w base e k R (.slice none 0 0) []:=⟨[],World.ownsRow_nil w base e k,rfl,fun i h=>absurd h (by simp)⟩
theorem OwnK.keep {α:Type} {w w':World} {base e k:Nat} {R:(Nat→Prop)→World→α→List Value→Prop} {v:Value} {l:List α} (hR:Kp R) (h:OwnK w base e k R v l) (hk:∀ b,base≤b→b < w.heap.size→w'.heap[b]?=w.heap[b]?):OwnK w' base e k R v l:=by
 obtain ⟨qs,ho,hl,hr⟩:=h
 refine ⟨qs,ownsRow_keep ho (fun g hg=>?_),hl,fun i h h'=>⟨(hr i h h').1,hR (hr i h h').2 (fun b hb hlt=>⟨hb,hk b hb.1 hlt⟩)⟩⟩
 obtain ⟨a,b⟩:=ownsRow_lt ho g hg
 exact hk g a b
theorem OwnK.on {α:Type} {w w':World} {base e k:Nat} {R:(Nat→Prop)→World→α→List Value→Prop} {v:Value} {l:List α} (hR:Kp R) (h:OwnK w base e k R v l) (hb:Below w.heap.size w w'):OwnK w' base e k R v l:=h.keep hR (fun b _ hlt=>hb.block b hlt)
theorem OwnK.fx {α:Type} {w w':World} {base e k X:Nat} {R:(Nat→Prop)→World→α→List Value→Prop} {v:Value} {l:List α} (hR:Kp R) (h:OwnK w base e k R v l) (hf:Fx X w w') (hX:X < base):OwnK w' base e k R v l:=
 h.keep hR (fun b hb hlt=>hf.block b hlt (fun e=>by have:b=X:=Option.some.inj e;omega))
theorem OwnK.set {α:Type} {w:World} {base e k:Nat} {R:(Nat→Prop)→World→α→List Value→Prop} {v:Value} {l:List α} (hR:Kp R) (h:OwnK w base e k R v l) {X i:Nat} (hX:X < base) (u:Value):OwnK (w.setCell ⟨X,i,none⟩ u) base e k R v l:=
 h.keep hR (fun b hb _=>Below.heap_setCell _ _ _ _ (fun e=>by have:b=X:=e;omega))
theorem OwnK.form {α:Type} {w:World} {base e k:Nat} {R:(Nat→Prop)→World→α→List Value→Prop} {v:Value} {l:List α} (h:OwnK w base e k R v l):∃ a cap,v=.slice a l.length cap∧l.length≤cap∧cap≤maxLen:=by
 obtain ⟨qs,ho,_⟩:=h
 rcases ho.2 with ⟨h1,h2⟩ | ⟨g,cap,cur,h1,_,_,h3,h4,_⟩
 ·exact ⟨none,0,by rw [h1,h2],by omega,by simp [maxLen]⟩
 ·exact ⟨_,_,h1,h3,h4⟩
/-- One more. The new one's memory lies from lo on, and the old row's block below. -/
theorem OwnK.snoc {α:Type} {w w':World} {base e k lo n:Nat} {R:(Nat→Prop)→World→α→List Value→Prop} {v v':Value} {l:List α} {p:α} {cs:List Value} {qs:List (List Value)} (hR:Kp R) (hk:cs.length=k)
  (hn:l.length=n) (ho:w.ownsRow base e k v n qs.flatten) (hl:qs.length=l.length) (hr:∀ (i:Nat) (h:i < l.length) (h':i < qs.length),(qs[i]).length=k∧R (fun b=>base≤b∧v.ownBlock≠some b) w l[i] qs[i])
  (ho':w'.ownsRow base e k v' (n+1) (qs.flatten++cs)) (hg:w.grownBy w' v.ownBlock) (hat:v'.ownBlock=v.ownBlock∨v'.ownBlock=some w.heap.size)
  (hp:R (fun b=>lo≤b) w p cs) (hlo:base≤lo) (hv:∀ x,v.ownBlock=some x→x < lo):OwnK w' base e k R v' (l++[p]):=by
 subst hn
 have key:∀ b,base≤b∧v.ownBlock≠some b→b < w.heap.size→(base≤b∧v'.ownBlock≠some b)∧w'.heap[b]?=w.heap[b]?:=fun b hb hlt=>by
  refine ⟨⟨hb.1,fun e=>?_⟩,hg.block b hlt (fun e=>hb.2 e.symm)⟩
  rcases hat with h | h
  ·exact hb.2 (h ▸ e)
  ·rw [h] at e;have:w.heap.size=b:=Option.some.inj e;omega
 refine ⟨qs++[cs],?_,by simp [hl],fun i h h'=>?_⟩
 ·rw [List.flatten_append,List.length_append]
  simpa using ho'
 ·rcases Nat.lt_or_ge i l.length with hi | hi
  ·rw [List.getElem_append_left hi,List.getElem_append_left (by omega)]
   exact ⟨(hr i hi (by omega)).1,hR (hr i hi (by omega)).2 key⟩
  ·have:i=l.length:=by simp at h;omega
   subst this
   have e1:(l++[p])[l.length]=p:=by simp
   have e2:(qs++[cs])[l.length]'h'=cs:=by simp [← hl]
   rw [e1,e2]
   exact ⟨hk,hR hp (fun b hb hlt=>key b ⟨by omega,fun e=>by have:=hv b e;omega⟩ hlt)⟩
theorem flat_at {k:Nat}:∀ (qs:List (List Value)) (i j:Nat) (h:i < qs.length) (u:Value),(∀ (i:Nat) (h:i < qs.length),(qs[i]).length=k)→(qs[i])[j]?=some u→qs.flatten[i*k+j]?=some u
 | [],i,j,h,u,_,_=>by simp at h
 | x :: t,0,j,h,u,hk,hu=>by
  have hu':x[j]?=some u:=hu
  have hj:=(List.getElem?_eq_some_iff.1 hu').1
  rw [List.flatten_cons,Nat.zero_mul,Nat.zero_add,List.getElem?_append_left hj]
  exact hu'
 | x :: t,i+1,j,h,u,hk,hu=>by
  have hx:x.length=k:=hk 0 (by simp)
  have e:(i+1)*k+j=x.length+(i*k+j):=by rw [hx,Nat.succ_mul];omega
  rw [List.flatten_cons,e,List.getElem?_append_right (by omega),Nat.add_sub_cancel_left]
  exact flat_at t i j (by simpa using h) u (fun i h=>hk (i+1) (by simpa using h)) hu
/-- It reads as the list. -/
theorem OwnK.rd {α:Type} {w:World} {base e k:Nat} {R:(Nat→Prop)→World→α→List Value→Prop} {v:Value} {l:List α} (hR:Kp R) (h:OwnK w base e k R v l):RdK (fun b=>base≤b) w k (R (fun b=>base≤b) w) l v:=by
 obtain ⟨qs,ho,hl,hr⟩:=h
 have hc:=fun g=>World.ownsRow.cells ho (g:=g)
 rcases ho.2 with ⟨rfl,hn⟩ | ⟨g,cap,cur,rfl,hb,hg,hnc,hcm,hcs,htake⟩
 ·have hx:l=[]:=List.eq_nil_of_length_eq_zero hn
  subst hx
  exact rdK_none _ w k _
 ·refine ⟨some ⟨g,0,none⟩,cap,rfl,hnc,hcm,fun i hi=>⟨g,0,qs[i],rfl,hb,(Array.getElem?_eq_some_iff.1 hg).1,(hr i hi (by omega)).1,hR (hr i hi (by omega)).2 (fun b hb _=>⟨hb.1,rfl⟩),fun j u hu=>?_⟩⟩
  have:=hc g rfl (i*k+j) u (flat_at qs i j (by omega) u (fun i h=>(hr i (by omega) h).1) hu)
  rw [add_plain] at this
  rw [Nat.zero_add]
  rwa [Nat.zero_add] at this
/-- Read from a lower block on. -/
theorem RdK.low {α:Type} {w:World} {base lo k:Nat} {R:(Nat→Prop)→World→α→List Value→Prop} {v:Value} {l:List α} (hR:Kp R) (h:RdK (fun b=>base≤b) w k (R (fun b=>base≤b) w) l v) (hlo:lo≤base):RdK (fun b=>lo≤b) w k (R (fun b=>lo≤b) w) l v:=
 h.keep (fun x _ u hu=>hR hu (fun b hb _=>⟨by omega,rfl⟩)) (fun b hb _=>⟨by omega,rfl⟩)
theorem RdK.stay {α:Type} {ok ok':Nat→Prop} {w w':World} {k:Nat} {R:(Nat→Prop)→World→α→List Value→Prop} {v:Value} {l:List α} (hR:Kp R) (h:RdK ok w k (R ok w) l v) (hk:∀ b,ok b→b < w.heap.size→ok' b∧w'.heap[b]?=w.heap[b]?):RdK ok' w' k (R ok' w') l v:=
 h.keep (fun x _ u hu=>hR hu hk) hk
end Go.Proofs.YtfjdceknbdmhpaaGreatDoor
