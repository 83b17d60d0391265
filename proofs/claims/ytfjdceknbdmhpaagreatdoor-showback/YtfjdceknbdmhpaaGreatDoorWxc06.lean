import Derived.Test.YtfjdceknbdmhpaaGreatDoorWxc05
import Derived.Test.YtfjdceknbdmhpaaGreatDoorWxc03
import Derived.Test.YtfjdceknbdmhpaaGreatDoorWxc04
import Derived.Sort.OwnSorted
import Derived.Lib.OwnBridge
import Derived.Deep.RegionHeldLaw
import Derived.Deep.DeepCutAuto
import Derived.Test.YtfjdceknbdmhpaaGreatDoorWxc01
import Derived.BigQuiet
import Derived.Deep.QuietTactic
import Derived.BigRegion
set_option maxRecDepth 100000
set_option maxHeartbeats 32000000
namespace Go.Proofs.YtfjdceknbdmhpaaGreatDoor
open Go.RowKit Go.Lib
set_option linter.unusedSimpArgs false
set_option linter.unusedVariables false
attribute [local go_sem ↓] Go.wp_at_zero Go.wp_at_succ
theorem cell_al2 {w:World}{p:Addr}{v:Value}{O:Obj}(h:w.cell? p=some v):(w.alloc O).cell? p=some v:=(((Below.refl w.heap.size w).alloc Nat.le.refl O).cell (World.block_lt_of_cell? w _ h)).trans h
theorem cS_enc (ls:List ByteArray):(ls.map bl).map encStr=cS ls:=map_encStr ls
structure Fr (w w':World) (v u:Value):Prop where
 grown:w.grownBy w' v.ownBlock
 lies:∀ g,u.ownBlock=some g->v.ownBlock=some g∨w.heap.size<=g
theorem Fr.of {w w':World}{B:Nat}(h:Below B w w') (hB:w.heap.size<=B) (v:Value):Fr w w' v v:=⟨⟨h.os,h.tape,h.output,h.size,fun k hk _=>h.block k (by omega)⟩,fun g hg=>.inl hg⟩
theorem Fr.trans {w w1 w2:World}{v u t:Value}(h:Fr w w1 v u) (k:Fr w1 w2 u t):Fr w w2 v t:=by
 refine ⟨⟨k.grown.os.trans h.grown.os,k.grown.tape.trans h.grown.tape,k.grown.output.trans h.grown.output,Nat.le_trans h.grown.size k.grown.size,fun j hj hne=>?_⟩,fun g hg=>?_⟩
 ·rw [k.grown.block j (Nat.lt_of_lt_of_le hj h.grown.size) (fun e=>?_),h.grown.block j hj hne]
  rcases h.lies j e.symm with q|q
  ·exact hne q.symm
  ·omega
 ·rcases k.lies g hg with q|q
  ·exact h.lies g q
  ·exact .inr (Nat.le_trans h.grown.size q)
theorem Fr.below {w w':World}{v u:Value}{B:Nat}(h:Fr w w' v u) (hB:B<=w.heap.size) (hv:∀ g,v.ownBlock=some g->B<=g):Below B w w':=(Below.refl B w).grown h.grown hB (fun k hk=>hv k hk)
theorem Kids.fr {w w':World}{v u sl:Value}{l:List Value}(h:Kids w sl l) (f:Fr w w' v u) (ho:∀ g,v.ownBlock=some g->sl.ownBlock=some g->False):Kids w' sl l:=by
 rcases h with h|⟨g,hv,hc⟩
 ·exact .inl h
 ·refine .inr ⟨g,hv,fun i hi=>?_⟩
  refine f.grown.cell (hc i hi) (fun e=>?_)
  subst hv
  exact ho g e.symm rfl
theorem apart_fr {w w':World}{v u sl:Value}{l:List Value}(h:Kids w sl l) (hl:l≠[]) (f:Fr w w' v u) (ho:∀ g,v.ownBlock=some g->sl.ownBlock=some g->False):∀ g,u.ownBlock=some g->sl.ownBlock=some g->False:=by
 intro g h1 h2
 rcases f.lies g h1 with q|q
 ·exact ho g q h2
 ·rcases h with ⟨_,e⟩|⟨g',rfl,hc⟩
  ·exact hl e
  ·have e1:g'=g:=by simpa [Value.ownBlock] using h2
   subst e1
   cases l with
   | nil=>exact hl rfl
   | cons x r=>
    have:=World.block_lt_of_cell? w _ (hc 0 (by simp))
    simp only at this
    omega
theorem pSort_any {base:Nat}(ls:List ByteArray) (v:Value) (w:World) (h:w.ownsRow base 9 1 v ls.length (cS ls)) (hl:ls.length<=1000) :
  Calls Tryz.prog 251 #[v] w fun e w'=>e=.returned (.tuple #[])/\w'.ownsRow base 9 1 v ((ls.map bl).mergeSort lrB).length (((ls.map bl).mergeSort lrB).map encStr)/\Fr w w' v v:=by
 have hlen:((ls.map bl).mergeSort lrB).length=ls.length:=by simp
 rcases h.2 with ⟨rfl,h2⟩|⟨g,cap,cur,rfl,hbase,hb,h1,h2,h3,h4⟩
 ·have hx:ls=[]:=List.eq_nil_of_length_eq_zero h2
  subst hx
  refine (Any.slices_Sort_string_none laysS none 0 w).mono ?_
  rintro e w' ⟨rfl,rfl⟩
  exact ⟨rfl,by simpa using World.ownsRow_nil w' base 9 1,Fr.of (Below.refl _ _) Nat.le.refl _⟩
 ·have hh:Sort.Holds encStr w g 0 (ls.map bl).toArray:=holds_of_block hb (by rw [cS_enc,List.length_map];simpa using h4)
  have hc:=Any.slices_Sort_string laysS g 0 cap (ls.map bl) w hh (Array.getElem?_eq_some_iff.1 hb).1 (by simp;omega)
  rw [List.length_map] at hc
  refine Calls.mono hc ?_
  rintro e w' ⟨rfl,n,os,rfl⟩
  refine ⟨rfl,?_,grownBy_sorted _,fun g hg=>.inl hg⟩
  have:=ownsRow_sorted (n:=n) (os:=os) (ss:=ls.map bl) (ts:=(ls.map bl).mergeSort lrB) (by simp) hbase hb (by simpa using h1) h2 h3
  rw [List.length_map,<- hlen] at this
  rw [hlen]
  rw [hlen] at this
  exact this
theorem comp_len (zs:List Bs):(compact zs).length<=zs.length:=by
 unfold compact compactUpTo
 rw [List.length_map]
 have:=List.length_filter_le (keeps zs.toArray) (List.range zs.length)
 simpa using this
theorem pCompact_any {base:Nat}(zs:List Bs) (v:Value) (w:World) (h:w.ownsRow base 9 1 v zs.length (zs.map encStr)) (hl:zs.length<=1000) :
  Calls Tryz.prog 252 #[v] w fun e w'=>∃ u,e=.returned u/\w'.ownsRow base 9 1 u (compact zs).length ((compact zs).map encStr)/\Fr w w' v u:=by
 by_cases hv:v=.slice none 0 0
 ·subst hv
  have hz:zs=[]:=by
   rcases h.2 with ⟨_,h2⟩|⟨g,cap,cur,h0,_⟩
   ·exact List.eq_nil_of_length_eq_zero h2
   ·cases h0
  subst hz
  refine (Any.slices_Compact_string_empty laysK none 0 w).mono ?_
  rintro e w' ⟨rfl,rfl⟩
  exact ⟨_,rfl,by simpa [compact,compactUpTo] using World.ownsRow_nil w' base 9 1,Fr.of (Below.refl _ _) Nat.le.refl _⟩
 ·obtain ⟨g,cap,rfl,hbase,hg,h1,h2,h3,hH⟩:=holds_of_ownsRow h hv
  refine (Any.slices_Compact_string laysK g 0 cap zs w hH (by omega) h1).mono ?_
  rintro e w' ⟨rfl,q,rfl⟩
  have hcl:=comp_len zs
  have:=ownsRow_putRow (q:=q) (k:=(compact zs).length) (ys:=compact zs++List.replicate (zs.length - (compact zs).length) []) h (by simp;omega) hcl
  rw [List.take_left] at this
  refine ⟨_,rfl,this,⟨rfl,rfl,rfl,by simp [Sort.putRow,Sort.mapBlock,Sort.ahead],fun k hk hne=>?_⟩,fun g hg=>.inl hg⟩
  have:g≠k:=fun e=>hne (by rw [e];rfl)
  simp [Sort.putRow,Sort.mapBlock,Sort.ahead,Array.getElem?_modify,this]
def AddC (d:Nat):Prop:=∀ (base:Nat) (t:T d) (ls:List ByteArray) (v:Value) (w:World),Cl d t->shrt 1000 d t=true->w.ownsRow base 9 1 v ls.length (cS ls)->base<=w.heap.size->ls.length+cnt d t<=1000->
 Calls Tryz.prog 250 #[v,exV d t] w fun e w'=>∃ u,e=.returned u/\w'.ownsRow base 9 1 u (ls++nmC d t).length (cS (ls++nmC d t))/\Fr w w' v u
theorem add_step (d:Nat) (IH:AddC d):AddC (d+1):=by
 intro base t ls v w hc hs hown hbase hlen
 obtain ⟨i0,hi,hz0,hz1,hz2⟩:=info_parts Tryz.infoStr
 obtain ⟨k,n,s,ps,rfl,htop⟩:=topN_any hc
 rw [shrt_mk] at hs
 simp only [Bool.and_eq_true,decide_eq_true_eq,List.all_eq_true] at hs
 obtain ⟨hs1,hs2⟩:=hs
 rw [cnt_mk] at hlen
 obtain ⟨x,hx⟩:∃ x,exV (d+1) (mkT k n s ps)=x:=⟨_,rfl⟩
 obtain ⟨L,hL⟩:∃ L,ps.map (exV d)=L:=⟨_,rfl⟩
 rw [hx,hL] at htop
 rw [hx,nmC_mk]
 have hCl:=fun w1=>pClone_any s w1 (by omega)
 have hLl:Hid (L.length=ps.length):=by rw [<- hL];show _=_;simp
 by_cases k2:k=2
 ·subst k2
  rw [if_pos rfl]
  have hps:ps=[]:=by
   rcases hc with ⟨h1,_,_⟩|⟨_,_,h3⟩|⟨h1,_,_,_⟩|⟨h1,_⟩|⟨h1,_⟩
   ·simp at h1
   ·exact h3
   ·simp at h1
   ·simp at h1
   ·simp at h1
  subst hps
  simp only [List.map_nil] at hL
  subst hL
  simp only [List.map_nil,List.flatten_nil,List.append_nil,List.sum_nil] at hlen ⊢
  have hbg:∀ g,v.ownBlock=some g->g < w.heap.size:=fun g hg=>(World.ownsRow.lt hown g hg).2
  clear hc hs2 IH hLl
  go_enter Tryz.func250,Tryz.ntmps250
  go_wp2_with (first
   | (go_at_call 192;refine (htop _).mono ?_;rintro e w1 ⟨sl,rfl,hk1,b1⟩;obtain ⟨a1,rfl⟩:=hk1.1.form;have b2:=b1.alloc b1.size (.cells #[.int .i64 2,.int .i64 n,.string s,.slice a1 0 0] 244);have hA:=At4.new w1 (.int .i64 2) (.int .i64 n) (.string s) (.slice a1 0 0) 244)
   | (go_at_call 38;refine (hCl _).mono ?_;rintro e w2 ⟨rfl,b3⟩;have b4:=b2.trans (b3.mono b2.size);have hA2:=hA.keepB b3 (by simp);have ho2:=own_on hown b4 Nat.le.refl)
   | (at_builtin;refine wpList_append_at _ rfl (.tmp 13) (.tmp 17) 265 265 rfl base 9 i0 (.string ⟨#[]⟩) 1 16 Tryz.underlying265 hi hz0 hz1 hz2 rfl v ls.length _ rfl (World.ownsRow.alloc ho2 _) _ 1 (cS [s]) rfl (src_texts Tryz.underlying265 rfl (fun i hi=>by match i,hi with|0,_=>simp [Addr.add])) 1 (.inr (by omega)) Nat.le.refl (by unfold maxLen;omega) (by have:=b4.size;simp;omega) ?_;intro v5 w5 ho5 hg5 hl5;have x3:=hg5.cell (cell_al2 hA2.2.2.2) (by intro e;have:=hbg _ e.symm;have:=b1.size;simp only at *;omega)))
  have hF:Fr w w5 v v5:=(Fr.of (b4.alloc b4.size (.cells #[.string s] 9)) Nat.le.refl v).trans ⟨hg5,fun g hg=>by
   rcases hl5 with q|q
   ·exact .inl (by rw [<- q];exact hg)
   ·rw [q] at hg;exact .inr (by simp at hg;simp;omega)⟩
  rw [<- cS_append] at ho5
  clear hg5 hl5 ho2 hA2 hA b1 b2 b3 b4 hk1 htop hCl
  refine wp_loop_rounds 1 ?_
  rw [rounds_succ]
  go_wp2
  go_ret
  refine ⟨_,rfl,?_,hF⟩
  rw [List.length_append]
  exact ho5
 ·rw [if_neg k2,List.nil_append]
  have e2:(k == 2)=false:=beq_eq_false_iff_ne.2 k2
  have hkid:Hid (∀ (j:Nat) (h:j < L.length) (h':j < ps.length) (cur:List ByteArray) (p:Value) (w1:World),w1.ownsRow base 9 1 p cur.length (cS cur)->base<=w1.heap.size->cur.length+cnt d ps[j]<=1000->
    Calls Tryz.prog 250 #[p,L[j]] w1 fun e w'=>∃ u,e=.returned u/\w'.ownsRow base 9 1 u (cur++nmC d ps[j]).length (cS (cur++nmC d ps[j]))/\Fr w1 w' p u):=
   fun j h h' cur p w1 q1 q2 q3=>by
    have:=IH base ps[j] cur p w1 ((Cl.parts hc).2 _ (List.getElem_mem h')) (hs2 _ (List.getElem_mem h')) q1 q2 q3
    subst hL
    simpa using this
  have hL2:L.length<=2:=by rw [<- hL];simpa using (Cl.parts hc).1
  have HLE:Hid (ls.length+((ps.drop 0).map (cnt d)).sum<=1000):=by rw [List.drop_zero];show _<=_;omega
  have hbg:∀ g,v.ownBlock=some g->g < w.heap.size:=fun g hg=>(World.ownsRow.lt hown g hg).2
  obtain ⟨R,hR⟩:∃ R,ls++(ps.map (nmC d)).flatten=R:=⟨_,rfl⟩
  rw [hR]
  have HR:Hid (ls++(ps.map (nmC d)).flatten=R):=hR
  clear hc hs2 IH hL hx hR hCl hlen
  go_enter Tryz.func250,Tryz.ntmps250
  go_wp2_with (first
   | (go_at_call 192;refine (htop _).mono ?_;rintro e w1 ⟨sl,rfl,hk1,b1⟩;obtain ⟨a1,rfl⟩:=hk1.1.form))
  have b2:=b1.alloc b1.size (.cells #[.int .i64 k,.int .i64 n,.string s,.slice a1 L.length L.length] 244)
  have hK0:=hk1.1.below ((Below.refl _ w1).alloc Nat.le.refl (.cells #[.int .i64 k,.int .i64 n,.string s,.slice a1 L.length L.length] 244)) Nat.le.refl
  go_loopw [0,22] (fun p i wr=>∃ (j:Nat) (cur:List ByteArray),j<=L.length/\i=.int .i64 (j:Int)/\wr.ownsRow base 9 1 p cur.length (cS cur)/\Hid (cur=ls++((ps.take j).map (nmC d)).flatten)/\Hid (cur.length+((ps.drop j).map (cnt d)).sum<=1000)/\Hid (Kids wr (.slice a1 L.length L.length) L)/\Hid (∀ g,p.ownBlock=some g->(Value.slice a1 L.length L.length).ownBlock=some g->False)/\Hid (Fr w wr v p)) (fun _ i _=>L.length - (RowKit.intOf i).toNat)
  case atStart=>
   refine ⟨0,ls,Nat.zero_le _,rfl,own_on hown b2 Nat.le.refl,by show _=_;simp,HLE,hK0,fun g h1 h2=>?_,Fr.of b2 Nat.le.refl v⟩
   have q1:=hbg g h1
   have q2:=hk1.2 g h2
   omega
  case round=>
   obtain ⟨j,cur,hj,rfl,ho,hcur,hln,hK,hA,hF⟩:=hrel
   have i2:(0:Int)<=(j:Int):=by omega
   by_cases hlt:j < L.length
   ·have i3:(j:Int) < (L.length:Int):=by omega
    have hll:=hLl.out
    have hjp:j < ps.length:=by omega
    obtain ⟨gg,hgg,hcell⟩:=hK.out.at hlt
    have hl2:=hln.out
    rw [List.drop_eq_getElem_cons hjp,List.map_cons,List.sum_cons] at hl2
    have hc2:=hkid.out j hlt hjp cur u0 wr ho (Nat.le_trans hbase hF.out.grown.size) (by omega)
    have hnl:=nm_len d ps[j]
    have hnx:Hid (cur++nmC d ps[j]=ls++((ps.take (j+1)).map (nmC d)).flatten):=by
     show _=_
     rw [hcur.out,List.take_succ_eq_append_getElem hjp,List.map_append,List.flatten_append,List.map_singleton,List.flatten_singleton,List.append_assoc]
    have hln2:Hid ((cur++nmC d ps[j]).length+((ps.drop (j+1)).map (cnt d)).sum<=1000):=by
     show _<=_;rw [List.length_append];omega
    have hLne:Hid (L≠[]):=fun e=>by rw [e] at hlt;simp at hlt
    obtain ⟨z,hz⟩:∃ z,L[j]=z:=⟨_,rfl⟩
    obtain ⟨N,hN⟩:∃ N,cur++nmC d ps[j]=N:=⟨_,rfl⟩
    rw [hz] at hcell hc2
    simp only [hN] at hc2 hnx hln2
    subst hgg
    clear hz hN hll hl2 hnl
    go_wp2_with (first
     | (go_at_call 250;refine hc2.mono ?_;rintro e w3 ⟨u,rfl,ho3,hf3⟩))
    have hK3:Hid _:=hK.out.fr hf3 hA.out
    have hA3:Hid _:=apart_fr hK.out hLne.out hf3 hA.out
    have hF3:Hid (Fr w w3 v u):=hF.out.trans hf3
    go_roundw
    case rel=>exact ⟨j+1,N,hlt,by go_num,ho3,hnx,hln2,hK3,hA3,hF3⟩
    case measure=>simp [RowKit.intOf];omega
   ·have i3:¬ (j:Int) < (L.length:Int):=by omega
    have hE:cur=R:=by
     have hll:=hLl.out
     rw [hcur.out,<- HR.out,List.take_of_length_le (by omega)]
    subst hE
    go_wp2
    go_ret
    exact ⟨_,rfl,ho,hF.out⟩
theorem add_any2:∀ (d:Nat),AddC d
 | 0=>fun _ t=>Empty.elim t
 | d+1=>add_step d (add_any2 d)
theorem refs_anyP {d:Nat}{t:T d}(w:World) (hc:Cl d t) (hn:cnt d t<=1000) (hs:shrt 1000 d t=true) :
  Calls Tryz.prog 225 #[exV d t] w fun e w'=>∃ u,e=.returned u/\RdS w' u (rfT d t)/\Below w.heap.size w w':=by
 have h1:=formedP d t w hc (by omega) hs
 have h2:=fun w1 (b:w.heap.size<=w1.heap.size)=>add_any2 d w.heap.size t [] (.slice none 0 0) w1 hc hs (World.ownsRow_nil w1 _ 9 1) b (by simpa using hn)
 have hnl:=nm_len d t
 have hnm:=rf_nm d t []
 unfold rfT
 obtain ⟨x,hx⟩:∃ x,exV d t=x:=⟨_,rfl⟩
 rw [hx] at h1 ⊢
 simp only [hx,List.nil_append] at h2
 cases hf:fmC d t with
 | false=>
  rw [hf] at h1
  rw [if_neg (by decide)]
  clear h2 hc hn hs hf hx
  go_enter Tryz.func225,Tryz.ntmps225
  go_wp2_with (first
   | (go_at_call 240;refine h1.mono ?_;rintro e w1 ⟨rfl,b1⟩))
  go_ret
  exact ⟨_,rfl,rdS_nil _,b1⟩
 | true=>
  rw [hf] at h1
  rw [if_pos rfl,hnm]
  obtain ⟨N,hN⟩:∃ N,nmC d t=N:=⟨_,rfl⟩
  rw [hN] at hnl ⊢
  simp only [hN] at h2
  have hsn:=sort_names N
  have h3:=fun v w1 q=>pSort_any (base:=w.heap.size) N v w1 q (by omega)
  obtain ⟨Z,hZ⟩:∃ Z,(N.map bl).mergeSort lrB=Z:=⟨_,rfl⟩
  have hZl:Z.length<=1000:=by rw [<- hZ];simp;omega
  rw [hZ] at hsn
  simp only [hZ] at h3
  have h4:=fun v w1 q=>pCompact_any (base:=w.heap.size) Z v w1 q hZl
  clear hc hn hs hf hx hnm hN hZ hnl
  go_enter Tryz.func225,Tryz.ntmps225
  go_wp2_with (first
   | (go_at_call 240;refine h1.mono ?_;rintro e w1 ⟨rfl,b1⟩;have h2':=h2 w1 b1.size)
   | (go_at_call 250;refine h2'.mono ?_;rintro e w2 ⟨u2,rfl,ho2,hf2⟩;have h3':=h3 u2 w2 ho2)
   | (go_at_call 251;refine h3'.mono ?_;rintro e w3 ⟨rfl,ho3,hf3⟩;have h4':=h4 u2 w3 ho3)
   | (go_at_call 252;refine h4'.mono ?_;rintro e w4 ⟨u4,rfl,ho4,hf4⟩))
  go_ret
  have hF:=(hf2.trans hf3).trans hf4
  refine ⟨_,rfl,?_,b1.trans ((hF.below (B:=w.heap.size) b1.size (fun g hg=>by cases hg)))⟩
  rw [hsn,cS_enc,List.length_map] at ho4
  exact ownsRow_zero ho4
theorem nm_plain:∀ (d:Nat) (t:T d),(nmC d t).any (fun s=>rsvB (bl s)) = !plC d t
 | 0,t=>Empty.elim t
 | d+1,t=>by
  obtain ⟨k,n,s,ps,rfl⟩:=T.open t
  rw [nmC_mk,plC_mk,List.any_append]
  have h1:∀ l:List (T d),(l.map (nmC d)).flatten.any (fun s=>rsvB (bl s)) = !(l.all (plC d)):=fun l=>by
   induction l with
   | nil=>rfl
   | cons p r ih=>
    have h2:=nm_plain d p
    rw [List.map_cons,List.flatten_cons,List.any_append,ih,h2,List.all_cons]
    cases plC d p<;>rfl
  rw [h1]
  have h3:(if k=2 then [s] else []).any (fun s=>rsvB (bl s))=(decide (k=2) && rsvB s.data.toList):=by
   by_cases hk:k=2
   ·rw [if_pos hk,decide_eq_true hk];simp
   ·rw [if_neg hk,decide_eq_false hk];rfl
  rw [h3]
  cases (decide (k=2) && rsvB s.data.toList)<;>cases ps.all (plC d)<;>rfl
theorem rf_plain (d:Nat) (t:T d):(rfC d t []).any (fun s=>rsvB (bl s)) = !plC d t:=by
 rw [<- nm_plain]
 have h:=(fold_up (nmC d t) [] (by simp [Up])).2
 rw [<- rf_nm] at h
 have e:∀ l:List ByteArray,l.any (fun s=>rsvB (bl s))=(l.map bl).any rsvB:=fun l=>by rw [List.any_map];rfl
 rw [e,e,Bool.eq_iff_iff,List.any_eq_true,List.any_eq_true]
 constructor
 ·rintro ⟨x,hx,hr⟩;exact ⟨x,by simpa using (h x).1 hx,hr⟩
 ·rintro ⟨x,hx,hr⟩;exact ⟨x,(h x).2 (.inr hx),hr⟩
def prC (d:Nat) (t:T d):List UInt8 × Int:=if fmC d t=true/\plC d t=true then (txtC d t,0) else ([],1)
theorem txt_len {d:Nat}{t:T d}(hc:Cl d t) (hf:fmC d t=true) (hp:plC d t=true):(txtC d t).length<=4000:=by
 obtain ⟨h40,hs⟩:=fm_parts hf
 obtain ⟨ho,hr⟩:=ok_sound d t hc hs hp
 have hb:=pcs_len d t hc hr
 show (txP (pcs dcN d t).2).length<=4000
 omega
theorem printP {d:Nat}{t:T d}(w:World) (hc:Cl d t) (hn:cnt d t<=1000) (hs:shrt 1000 d t=true) (hw:Pow w) :
  Calls Tryz.prog 208 #[exV d t] w fun e w'=>e=.returned (.tuple #[.string ⟨(prC d t).1.toArray⟩,.int .i64 (prC d t).2])/\Below w.heap.size w w':=by
 have h1:=formedP d t w hc (by omega) hs
 have h2:=fun w1=>refs_anyP w1 hc hn hs
 have h3:=fun (hf:fmC d t=true) (hp:plC d t=true) w1 hw1=>text_any d t w1 hc (fm_parts hf).2 (by have:=txt_len hc hf hp;omega) hw1
 have h4:=fun (v:Value) (w1:World) (h:RdS w1 v (rfT d t))=>contains_any h
 have hpl:=rf_plain d t
 unfold prC
 obtain ⟨ev,hev⟩:∃ ev,exV d t=ev:=⟨_,rfl⟩
 have hfm:ev=.nilIface∨∃ u y,ev=.iface u y:=by rw [<- hev];exact exV_form d t
 rw [hev] at h1 ⊢
 simp only [hev] at h2 h3
 clear hev
 by_cases hf:fmC d t=true
 case neg=>
  rw [if_neg (fun h=>hf h.1)]
  have hf':fmC d t=false:=by simpa using hf
  rw [hf'] at h1
  clear h2 h3 h4 hpl hf hf'
  rcases hfm with rfl|⟨u,y,rfl⟩
  all_goals
   go_enter Tryz.func208,Tryz.ntmps208
   go_wp2_with (first|(go_at_call 240;refine h1.mono ?_;rintro e w2 ⟨rfl,b2⟩))
   go_ret2
   exact ⟨rfl,b2⟩
 rw [hf] at h1
 unfold rfT at h2 h4
 simp only [if_pos hf,hpl] at h2 h4
 by_cases hp:plC d t=true
 ·rw [if_pos ⟨hf,hp⟩]
  rw [hp] at h4
  replace h3:=h3 hf hp
  generalize txtC d t=X at *
  rcases hfm with rfl|⟨u,y,rfl⟩
  all_goals
   go_enter Tryz.func208,Tryz.ntmps208
   go_wp2_with (first
    | (go_at_call 240;refine h1.mono ?_;rintro e w2 ⟨rfl,b2⟩)
    | (go_at_call 225;refine (h2 _).mono ?_;rintro e w3 ⟨v,rfl,hv,b3⟩;have b3':=bthen b2 b3;obtain ⟨a,cap,rfl,_,_⟩:=hv.at')
    | (go_at_call 224;refine (h4 _ _ hv).mono ?_;rintro e w4 ⟨rfl,rfl⟩)
    | (go_at_call 241;refine (h3 _ (hw.below b3')).mono ?_;rintro e w5 ⟨rfl,b5⟩;have b5':=bthen b3' b5))
   go_ret2
   exact ⟨rfl,b5'⟩
 ·rw [if_neg (fun h=>hp h.2)]
  have hp':plC d t=false:=by simpa using hp
  rw [hp'] at h4
  clear h3
  rcases hfm with rfl|⟨u,y,rfl⟩
  all_goals
   go_enter Tryz.func208,Tryz.ntmps208
   go_wp2_with (first
    | (go_at_call 240;refine h1.mono ?_;rintro e w2 ⟨rfl,b2⟩)
    | (go_at_call 225;refine (h2 _).mono ?_;rintro e w3 ⟨v,rfl,hv,b3⟩;have b3':=bthen b2 b3;obtain ⟨a,cap,rfl,_,_⟩:=hv.at')
    | (go_at_call 224;refine (h4 _ _ hv).mono ?_;rintro e w4 ⟨rfl,rfl⟩))
   go_ret2
   exact ⟨rfl,b3'⟩
theorem al_ref (v:Value) (w:World):(Instr.typeAssert (.iface 191 v) 130 193 true).run Tryz.prog w=.ok (.tuple #[.agg #[.string ⟨#[]⟩],.bool false]) w:=by kernel_rfl
theorem al_not (v:Value) (w:World):(Instr.typeAssert (.iface 191 v) 130 195 true).run Tryz.prog w=.ok (.tuple #[.agg #[.nilIface],.bool false]) w:=by kernel_rfl
theorem al_neg (v:Value) (w:World):(Instr.typeAssert (.iface 191 v) 130 196 true).run Tryz.prog w=.ok (.tuple #[.agg #[.nilIface],.bool false]) w:=by kernel_rfl
theorem al_bin (v:Value) (w:World):(Instr.typeAssert (.iface 191 v) 130 198 true).run Tryz.prog w=.ok (.tuple #[.agg #[.string ⟨#[]⟩,.nilIface,.nilIface],.bool false]) w:=by kernel_rfl
theorem an_ref (w:World):(Instr.typeAssert .nilIface 130 193 true).run Tryz.prog w=.ok (.tuple #[.agg #[.string ⟨#[]⟩],.bool false]) w:=by kernel_rfl
theorem an_not (w:World):(Instr.typeAssert .nilIface 130 195 true).run Tryz.prog w=.ok (.tuple #[.agg #[.nilIface],.bool false]) w:=by kernel_rfl
theorem an_neg (w:World):(Instr.typeAssert .nilIface 130 196 true).run Tryz.prog w=.ok (.tuple #[.agg #[.nilIface],.bool false]) w:=by kernel_rfl
theorem an_bin (w:World):(Instr.typeAssert .nilIface 130 198 true).run Tryz.prog w=.ok (.tuple #[.agg #[.string ⟨#[]⟩,.nilIface,.nilIface],.bool false]) w:=by kernel_rfl
attribute [local go_sem] as_ref_ref as_not_ref as_not_not as_neg_ref as_neg_not as_neg_neg as_bin_ref as_bin_not as_bin_neg as_bin_bin al_ref al_not al_neg al_bin an_ref an_not an_neg an_bin
def CwC (v:Value):Prop:=∀ w,Calls Tryz.prog 195 #[v] w fun e w'=>e=.returned v/\Below w.heap.size w w'
theorem cw_lit (n:Int):CwC (.iface 191 (.agg #[.int .i64 n])):=by
 intro w
 go_enter Tryz.func195,Tryz.ntmps195
 go_wp2
 go_ret
 exact ⟨rfl,Below.refl _ _⟩
theorem cw_nil:CwC .nilIface:=by
 intro w
 go_enter Tryz.func195,Tryz.ntmps195
 go_wp2
 go_ret
 exact ⟨rfl,Below.refl _ _⟩
theorem cw_ref (s:ByteArray) (hs:s.size<=140737488351232):CwC (.iface 193 (.agg #[.string s])):=by
 intro w
 have h1:=fun w1=>pClone_any s w1 hs
 go_enter Tryz.func195,Tryz.ntmps195
 go_wp2_with (first
  | (go_at_call 38;refine (h1 _).mono ?_;rintro e w1 ⟨rfl,b1⟩))
 go_ret
 exact ⟨rfl,((Below.refl w.heap.size w).alloc Nat.le.refl _).trans (b1.mono (by simp))⟩
theorem cw_not (v:Value) (hv:Ifc v) (h:CwC v):CwC (.iface 195 (.agg #[v])):=by
 intro w
 rcases hv with rfl|⟨u,y,rfl⟩
 ·go_enter Tryz.func195,Tryz.ntmps195
  go_wp2_with (first
   | (go_at_call 195;refine (h _).mono ?_;rintro e w1 ⟨rfl,b1⟩))
  go_ret
  exact ⟨rfl,((Below.refl w.heap.size w).alloc Nat.le.refl _).trans (b1.mono (by simp))⟩
 ·go_enter Tryz.func195,Tryz.ntmps195
  go_wp2_with (first
   | (go_at_call 195;refine (h _).mono ?_;rintro e w1 ⟨rfl,b1⟩))
  go_ret
  exact ⟨rfl,((Below.refl w.heap.size w).alloc Nat.le.refl _).trans (b1.mono (by simp))⟩
theorem cw_neg (v:Value) (hv:Ifc v) (h:CwC v):CwC (.iface 196 (.agg #[v])):=by
 intro w
 rcases hv with rfl|⟨u,y,rfl⟩
 ·go_enter Tryz.func195,Tryz.ntmps195
  go_wp2_with (first
   | (go_at_call 195;refine (h _).mono ?_;rintro e w1 ⟨rfl,b1⟩))
  go_ret
  exact ⟨rfl,((Below.refl w.heap.size w).alloc Nat.le.refl _).trans (b1.mono (by simp))⟩
 ·go_enter Tryz.func195,Tryz.ntmps195
  go_wp2_with (first
   | (go_at_call 195;refine (h _).mono ?_;rintro e w1 ⟨rfl,b1⟩))
  go_ret
  exact ⟨rfl,((Below.refl w.heap.size w).alloc Nat.le.refl _).trans (b1.mono (by simp))⟩
theorem Below.nx {w wc w1:World}(h:Below w.heap.size w wc) (b:Below wc.heap.size wc w1):Below w.heap.size w w1:=h.trans (b.mono h.size)
theorem Below.nxd {w wc w1:World}(h:Below w.heap.size w wc) (b:Below wc.drew.heap.size wc.drew w1):Below w.heap.size w w1:=(h.drew).trans (b.mono h.size)
theorem cw_bin (s:ByteArray) (hs:s.size<=140737488351232) (u v:Value) (hu:Ifc u) (hv:Ifc v) (h:CwC u) (h':CwC v):CwC (.iface 198 (.agg #[.string s,u,v])):=by
 intro w
 have h1:=fun w1=>pClone_any s w1 hs
 have hal:=(Below.refl w.heap.size w).alloc Nat.le.refl (.cells #[.string s,u,v] 198)
 have c0:(w.alloc (.cells #[.string s,u,v] 198)).cell? ⟨w.heap.size,0,none⟩=some (.string s):=by simp
 have c1:(w.alloc (.cells #[.string s,u,v] 198)).cell? ⟨w.heap.size,1,none⟩=some u:=by simp
 have c2:(w.alloc (.cells #[.string s,u,v] 198)).cell? ⟨w.heap.size,2,none⟩=some v:=by simp
 have hlt:w.heap.size < (w.alloc (.cells #[.string s,u,v] 198)).heap.size:=by simp
 rcases hu with rfl|⟨u1,y1,rfl⟩<;>rcases hv with rfl|⟨u2,y2,rfl⟩
 ·have g1:∀ w1,Calls Tryz.prog 195 #[.nilIface] w1 fun e w'=>e=.returned (.nilIface)/\Below w1.heap.size w1 w':=h
  have g2:∀ w1,Calls Tryz.prog 195 #[.nilIface] w1 fun e w'=>e=.returned (.nilIface)/\Below w1.heap.size w1 w':=h'
  clear h h'
  go_enter Tryz.func195,Tryz.ntmps195
  go_upto_region 13 with fail
  generalize w.alloc (.cells #[.string s,.nilIface,.nilIface] 198)=wx at *
  have hB:Below wx.heap.size wx wx:=Below.refl _ _
  obtain ⟨S,hS⟩:∃ S,w.heap.size=S:=⟨_,rfl⟩
  rw [hS] at c0 c1 c2 hlt ⊢
  go_region_held_law (fun w'=>w'.cell? ⟨S,0,none⟩=some (.string s)/\w'.cell? ⟨S,1,none⟩=some (.nilIface)/\w'.cell? ⟨S,2,none⟩=some (.nilIface))
   (exact ⟨(hB.cell (p:=⟨S,0,none⟩) hlt).trans c0,(hB.cell (p:=⟨S,1,none⟩) hlt).trans c1,(hB.cell (p:=⟨S,2,none⟩) hlt).trans c2⟩)
   (first
    | (go_at_call 38;(with_reducible refine (h1 _).mono ?_);rintro e w1 ⟨rfl,b1⟩;first|have hB:=Below.nxd hB b1|have hB:=Below.nx hB b1)
    | (go_at_call 195;(with_reducible refine (g1 _).mono ?_);rintro e w1 ⟨rfl,b1⟩;first|have hB:=Below.nxd hB b1|have hB:=Below.nx hB b1)
    | (go_at_call 195;(with_reducible refine (g2 _).mono ?_);rintro e w1 ⟨rfl,b1⟩;first|have hB:=Below.nxd hB b1|have hB:=Below.nx hB b1)
    | fail)
  all_goals (
   go_wp2
   go_ret
   exact ⟨rfl,hal.trans (hB.mono (by rw [hS];omega))⟩)
 ·have g1:∀ w1,Calls Tryz.prog 195 #[.nilIface] w1 fun e w'=>e=.returned (.nilIface)/\Below w1.heap.size w1 w':=h
  have g2:∀ w1,Calls Tryz.prog 195 #[.iface u2 y2] w1 fun e w'=>e=.returned (.iface u2 y2)/\Below w1.heap.size w1 w':=h'
  clear h h'
  go_enter Tryz.func195,Tryz.ntmps195
  go_upto_region 13 with fail
  generalize w.alloc (.cells #[.string s,.nilIface,.iface u2 y2] 198)=wx at *
  have hB:Below wx.heap.size wx wx:=Below.refl _ _
  obtain ⟨S,hS⟩:∃ S,w.heap.size=S:=⟨_,rfl⟩
  rw [hS] at c0 c1 c2 hlt ⊢
  go_region_held_law (fun w'=>w'.cell? ⟨S,0,none⟩=some (.string s)/\w'.cell? ⟨S,1,none⟩=some (.nilIface)/\w'.cell? ⟨S,2,none⟩=some (.iface u2 y2))
   (exact ⟨(hB.cell (p:=⟨S,0,none⟩) hlt).trans c0,(hB.cell (p:=⟨S,1,none⟩) hlt).trans c1,(hB.cell (p:=⟨S,2,none⟩) hlt).trans c2⟩)
   (first
    | (go_at_call 38;(with_reducible refine (h1 _).mono ?_);rintro e w1 ⟨rfl,b1⟩;first|have hB:=Below.nxd hB b1|have hB:=Below.nx hB b1)
    | (go_at_call 195;(with_reducible refine (g1 _).mono ?_);rintro e w1 ⟨rfl,b1⟩;first|have hB:=Below.nxd hB b1|have hB:=Below.nx hB b1)
    | (go_at_call 195;(with_reducible refine (g2 _).mono ?_);rintro e w1 ⟨rfl,b1⟩;first|have hB:=Below.nxd hB b1|have hB:=Below.nx hB b1)
    | fail)
  all_goals (
   go_wp2
   go_ret
   exact ⟨rfl,hal.trans (hB.mono (by rw [hS];omega))⟩)
 ·have g1:∀ w1,Calls Tryz.prog 195 #[.iface u1 y1] w1 fun e w'=>e=.returned (.iface u1 y1)/\Below w1.heap.size w1 w':=h
  have g2:∀ w1,Calls Tryz.prog 195 #[.nilIface] w1 fun e w'=>e=.returned (.nilIface)/\Below w1.heap.size w1 w':=h'
  clear h h'
  go_enter Tryz.func195,Tryz.ntmps195
  go_upto_region 13 with fail
  generalize w.alloc (.cells #[.string s,.iface u1 y1,.nilIface] 198)=wx at *
  have hB:Below wx.heap.size wx wx:=Below.refl _ _
  obtain ⟨S,hS⟩:∃ S,w.heap.size=S:=⟨_,rfl⟩
  rw [hS] at c0 c1 c2 hlt ⊢
  go_region_held_law (fun w'=>w'.cell? ⟨S,0,none⟩=some (.string s)/\w'.cell? ⟨S,1,none⟩=some (.iface u1 y1)/\w'.cell? ⟨S,2,none⟩=some (.nilIface))
   (exact ⟨(hB.cell (p:=⟨S,0,none⟩) hlt).trans c0,(hB.cell (p:=⟨S,1,none⟩) hlt).trans c1,(hB.cell (p:=⟨S,2,none⟩) hlt).trans c2⟩)
   (first
    | (go_at_call 38;(with_reducible refine (h1 _).mono ?_);rintro e w1 ⟨rfl,b1⟩;first|have hB:=Below.nxd hB b1|have hB:=Below.nx hB b1)
    | (go_at_call 195;(with_reducible refine (g1 _).mono ?_);rintro e w1 ⟨rfl,b1⟩;first|have hB:=Below.nxd hB b1|have hB:=Below.nx hB b1)
    | (go_at_call 195;(with_reducible refine (g2 _).mono ?_);rintro e w1 ⟨rfl,b1⟩;first|have hB:=Below.nxd hB b1|have hB:=Below.nx hB b1)
    | fail)
  all_goals (
   go_wp2
   go_ret
   exact ⟨rfl,hal.trans (hB.mono (by rw [hS];omega))⟩)
 ·have g1:∀ w1,Calls Tryz.prog 195 #[.iface u1 y1] w1 fun e w'=>e=.returned (.iface u1 y1)/\Below w1.heap.size w1 w':=h
  have g2:∀ w1,Calls Tryz.prog 195 #[.iface u2 y2] w1 fun e w'=>e=.returned (.iface u2 y2)/\Below w1.heap.size w1 w':=h'
  clear h h'
  go_enter Tryz.func195,Tryz.ntmps195
  go_upto_region 13 with fail
  generalize w.alloc (.cells #[.string s,.iface u1 y1,.iface u2 y2] 198)=wx at *
  have hB:Below wx.heap.size wx wx:=Below.refl _ _
  obtain ⟨S,hS⟩:∃ S,w.heap.size=S:=⟨_,rfl⟩
  rw [hS] at c0 c1 c2 hlt ⊢
  go_region_held_law (fun w'=>w'.cell? ⟨S,0,none⟩=some (.string s)/\w'.cell? ⟨S,1,none⟩=some (.iface u1 y1)/\w'.cell? ⟨S,2,none⟩=some (.iface u2 y2))
   (exact ⟨(hB.cell (p:=⟨S,0,none⟩) hlt).trans c0,(hB.cell (p:=⟨S,1,none⟩) hlt).trans c1,(hB.cell (p:=⟨S,2,none⟩) hlt).trans c2⟩)
   (first
    | (go_at_call 38;(with_reducible refine (h1 _).mono ?_);rintro e w1 ⟨rfl,b1⟩;first|have hB:=Below.nxd hB b1|have hB:=Below.nx hB b1)
    | (go_at_call 195;(with_reducible refine (g1 _).mono ?_);rintro e w1 ⟨rfl,b1⟩;first|have hB:=Below.nxd hB b1|have hB:=Below.nx hB b1)
    | (go_at_call 195;(with_reducible refine (g2 _).mono ?_);rintro e w1 ⟨rfl,b1⟩;first|have hB:=Below.nxd hB b1|have hB:=Below.nx hB b1)
    | fail)
  all_goals (
   go_wp2
   go_ret
   exact ⟨rfl,hal.trans (hB.mono (by rw [hS];omega))⟩)
theorem ifc_of (d:Nat) (t:T d):Ifc (exV d t):=exV_form d t
theorem copiedW:∀ (d:Nat) (t:T d),Cl d t->shrt 1000 d t=true->CwC (exV d t)
 | 0,t,_,_=>Empty.elim t
 | d+1,t,hc,hs=>by
  rcases hc.cases with ⟨n,rfl⟩|⟨s,rfl⟩|⟨k,p,hk,rfl,hp⟩|⟨s,p,q,rfl,hp,hq⟩|rfl
  ·exact cw_lit n
  ·rw [shrt_mk,Bool.and_eq_true,decide_eq_true_eq] at hs
   exact cw_ref s (by omega)
  ·rw [shrt_mk,Bool.and_eq_true,List.all_cons,Bool.and_eq_true] at hs
   have h:=copiedW d p hp hs.2.1
   rcases hk with rfl|rfl
   ·exact cw_not _ (ifc_of d p) h
   ·exact cw_neg _ (ifc_of d p) h
  ·rw [shrt_mk,Bool.and_eq_true,decide_eq_true_eq,List.all_cons,Bool.and_eq_true,List.all_cons,Bool.and_eq_true] at hs
   exact cw_bin s (by omega) _ _ (ifc_of d p) (ifc_of d q) (copiedW d p hp hs.2.1) (copiedW d q hq hs.2.2.1)
  ·exact cw_nil
theorem copied_any {d:Nat}{t:T d}(hc:Cl d t) (hn:cnt d t<=100000) (hs:shrt 1000 d t=true) (w:World):Calls Tryz.prog 134 #[exV d t] w fun e w'=>e=.returned (exV d t)/\Below w.heap.size w w':=by
 have h1:=fun w1=>pNodes_cnt d t w1 hc hn
 have h2:∀ w1,Calls Tryz.prog 195 #[exV d t] w1 fun e w'=>e=.returned (exV d t)/\Below w1.heap.size w1 w':=copiedW d t hc hs
 generalize exV d t=v at *
 obtain ⟨n,hn⟩:∃ n,min (cnt d t) 41=n:=⟨_,rfl⟩
 rw [hn] at h1
 clear hn
 by_cases hq:40 < n
 ·have i1:(40:Int) < (n:Int):=by omega
  go_enter Tryz.func134,Tryz.ntmps134
  go_wp2_with (first
   | (go_at_call 194;refine (h1 _).mono ?_;rintro e w1 ⟨rfl,b1⟩))
  go_ret
  exact ⟨rfl,b1⟩
 ·have i1:¬ (40:Int) < (n:Int):=by omega
  go_enter Tryz.func134,Tryz.ntmps134
  go_wp2_with (first
   | (go_at_call 194;refine (h1 _).mono ?_;rintro e w1 ⟨rfl,b1⟩)
   | (go_at_call 195;refine (h2 _).mono ?_;rintro e w2 ⟨rfl,b2⟩))
  go_ret
  exact ⟨rfl,Below.nx b1 b2⟩
abbrev Fx (X:Nat) (w w':World):Prop:=w.grownBy w' (some X)
theorem Fx.refl (X:Nat) (w:World):Fx X w w:=⟨rfl,rfl,rfl,Nat.le_refl _,fun _ _ _=>rfl⟩
theorem Fx.trans {X:Nat}{a b c:World}(h:Fx X a b) (k:Fx X b c):Fx X a c:=
 ⟨k.os.trans h.os,k.tape.trans h.tape,k.output.trans h.output,Nat.le_trans h.size k.size,fun j hj hne=>(k.block j (Nat.lt_of_lt_of_le hj h.size) hne).trans (h.block j hj hne)⟩
theorem Fx.of {X B:Nat}{a b:World}(h:Below B a b) (hB:a.heap.size<=B):Fx X a b:=⟨h.os,h.tape,h.output,h.size,fun k hk _=>h.block k (by omega)⟩
theorem Fx.setX {X i:Nat}{a b:World}(h:Fx X a b) (u:Value):Fx X a (b.setCell ⟨X,i,none⟩ u):=
 ⟨h.os,h.tape,h.output,by simpa using h.size,fun k hk hne=>(Below.heap_setCell _ _ _ _ (fun e=>hne (congrArg some e))).trans (h.block k hk hne)⟩
theorem Fx.drewN {X:Nat}{a b:World}(h:Fx X a b) (m:Nat):Fx X a (b.drewN m):=⟨h.os,h.tape,h.output,h.size,h.block⟩
theorem Fx.drew {X:Nat}{a b:World}(h:Fx X a b):Fx X a b.drew:=⟨h.os,h.tape,h.output,h.size,h.block⟩
theorem Fx.alloc {X:Nat}{a b:World}(h:Fx X a b) (o:Obj):Fx X a (b.alloc o):=h.trans (Fx.of ((Below.refl b.heap.size b).alloc Nat.le.refl o) Nat.le.refl)
theorem Fx.below {X:Nat}{a b:World}(h:Fx X a b) {B:Nat}(hB:B<=X) (hs:B<=a.heap.size):Below B a b:=⟨h.os,h.tape,h.output,h.size,fun k hk=>h.block k (by omega) (fun e=>by have:k=X:=Option.some.inj e;omega)⟩
theorem Fx.setN {X N i:Nat}{a b:World}(h:Fx X a b) (hN:a.heap.size<=N) (u:Value):Fx X a (b.setCell ⟨N,i,none⟩ u):=
 ⟨h.os,h.tape,h.output,by simpa using h.size,fun k hk hne=>(Below.heap_setCell _ _ _ _ (fun e=>by have:k=N:=e;omega)).trans (h.block k hk hne)⟩
def RdL (w:World) (X:Nat) (a:Option Addr) (ws:List Wd):Prop:=∀ (i:Nat) (hi:i < ws.length),∃ g off,a=some ⟨g,off,none⟩/\g < X/\w.cell? ⟨g,off+i*4,none⟩=some (.int .i64 ((ws[i]).1:Int))/\w.cell? ⟨g,off+i*4+1,none⟩=some (.string (txt (ws[i]).2.1))/\w.cell? ⟨g,off+i*4+2,none⟩=some (.int .i64 (ws[i]).2.2.1)/\w.cell? ⟨g,off+i*4+3,none⟩=some (.int .i64 (ws[i]).2.2.2)
theorem RdL.fx {w w':World}{X:Nat}{a:Option Addr}{ws:List Wd}(h:RdL w X a ws) (hX:X < w.heap.size) (hf:Fx X w w'):RdL w' X a ws:=fun i hi=>by
 obtain ⟨g,off,h1,h3,c0,c1,c2,c3⟩:=h i hi
 have hb:w'.heap[g]?=w.heap[g]?:=hf.block g (by omega) (fun e=>by have:g=X:=Option.some.inj e;omega)
 have hc:∀ j,w'.cell? ⟨g,j,none⟩=w.cell? ⟨g,j,none⟩:=fun j=>World.cell?_of_block (w:=w) (a:=⟨g,j,none⟩) hb
 exact ⟨g,off,h1,h3,(hc _).trans c0,(hc _).trans c1,(hc _).trans c2,(hc _).trans c3⟩
structure Rr (w:World) (X:Nat) (a:Option Addr) (cap:Nat) (ws:List Wd) (n:Nat) (b:Int):Prop where
 c0:w.cell? ⟨X,0,none⟩=some (.slice a ws.length cap)
 c1:w.cell? ⟨X,1,none⟩=some (.int .i64 (n:Int))
 c2:w.cell? ⟨X,2,none⟩=some (.int .i64 b)
 f1:w.frozen? ⟨X,1,none⟩=false
 f2:w.frozen? ⟨X,2,none⟩=false
 l:RdL w X a ws
theorem Rr.lt {w:World}{X:Nat}{a:Option Addr}{cap:Nat}{ws:List Wd}{n:Nat}{b:Int}(h:Rr w X a cap ws n b):X < w.heap.size:=World.block_lt_of_cell? w _ h.c0
theorem Rr.on {w w':World}{X:Nat}{a:Option Addr}{cap:Nat}{ws:List Wd}{n:Nat}{b:Int}(h:Rr w X a cap ws n b) (hb:Below w.heap.size w w'):Rr w' X a cap ws n b:=by
 have hX:=h.lt
 have hc:∀ i,w'.cell? ⟨X,i,none⟩=w.cell? ⟨X,i,none⟩:=fun i=>hb.cell (p:=⟨X,i,none⟩) hX
 have hf:∀ i,w'.frozen? ⟨X,i,none⟩=w.frozen? ⟨X,i,none⟩:=fun i=>hb.frozen (p:=⟨X,i,none⟩) hX
 exact ⟨(hc 0).trans h.c0,(hc 1).trans h.c1,(hc 2).trans h.c2,(hf 1).trans h.f1,(hf 2).trans h.f2,h.l.fx hX (Fx.of hb Nat.le.refl)⟩
theorem Rr.set1 {w:World}{X:Nat}{a:Option Addr}{cap:Nat}{ws:List Wd}{n:Nat}{b:Int}(h:Rr w X a cap ws n b) (n':Nat):Rr (w.setCell ⟨X,1,none⟩ (.int .i64 (n':Int))) X a cap ws n' b:=
 ⟨cell_far4 (by omega) h.c0,cell_same4 h.c1,cell_far4 (by omega) h.c2,(World.frozen?_setCell _ _ _ _).trans h.f1,(World.frozen?_setCell _ _ _ _).trans h.f2,h.l.fx h.lt ((Fx.refl X w).setX _)⟩
theorem Rr.set2 {w:World}{X:Nat}{a:Option Addr}{cap:Nat}{ws:List Wd}{n:Nat}{b:Int}(h:Rr w X a cap ws n b) (b':Int):Rr (w.setCell ⟨X,2,none⟩ (.int .i64 b')) X a cap ws n b':=
 ⟨cell_far4 (by omega) h.c0,cell_far4 (by omega) h.c1,cell_same4 h.c2,(World.frozen?_setCell _ _ _ _).trans h.f1,(World.frozen?_setCell _ _ _ _).trans h.f2,h.l.fx h.lt ((Fx.refl X w).setX _)⟩
theorem draws (w:World) (m:Nat):Below w.heap.size w (w.drewN m):=⟨rfl,rfl,rfl,Nat.le_refl _,fun _ _=>rfl⟩
structure Wk (ws:List Wd) (cap:Nat):Prop where
 l:ws.length<=3000
 c:ws.length<=cap
 m:cap<=maxLen
 o:∀ x∈ws,OneW x.1 x.2.1
theorem Rr.far {w:World}{X N i:Nat}{a:Option Addr}{cap:Nat}{ws:List Wd}{n:Nat}{b:Int}(h:Rr w X a cap ws n b) (hN:X < N) (u:Value):Rr (w.setCell ⟨N,i,none⟩ u) X a cap ws n b:=by
 refine ⟨cell_far4 (by omega) h.c0,cell_far4 (by omega) h.c1,cell_far4 (by omega) h.c2,(World.frozen?_setCell _ _ _ _).trans h.f1,(World.frozen?_setCell _ _ _ _).trans h.f2,fun j hj=>?_⟩
 obtain ⟨g,off,h1,h3,d0,d1,d2,d3⟩:=h.l j hj
 exact ⟨g,off,h1,h3,cell_far4 (by omega) d0,cell_far4 (by omega) d1,cell_far4 (by omega) d2,cell_far4 (by omega) d3⟩
def Bn (w:World) (Y:Nat) (cs:List Value):Prop:=∀ j u,cs[j]?=some u->w.cell? ⟨Y,j,none⟩=some u/\w.frozen? ⟨Y,j,none⟩=false
theorem Bn.lt {w:World}{Y:Nat}{c:Value}{cs:List Value}(h:Bn w Y (c :: cs)):Y < w.heap.size:=World.block_lt_of_cell? w _ (h 0 c rfl).1
theorem frozen_of_block {w w':World}{Y j:Nat}(h:w'.heap[Y]?=w.heap[Y]?):w'.frozen? ⟨Y,j,none⟩=w.frozen? ⟨Y,j,none⟩:=by
 unfold World.frozen?
 rw [h]
theorem Bn.blk {w w':World}{Y:Nat}{cs:List Value}(h:Bn w Y cs) (hb:w'.heap[Y]?=w.heap[Y]?):Bn w' Y cs:=fun j u hu=>
 ⟨keep_cell (p:=⟨Y,j,none⟩) hb (h j u hu).1,(frozen_of_block hb).trans (h j u hu).2⟩
theorem Bn.on {w w':World}{Y:Nat}{c:Value}{cs:List Value}(h:Bn w Y (c :: cs)) (hb:Below w.heap.size w w'):Bn w' Y (c :: cs):=h.blk (hb.block Y h.lt)
theorem Bn.fx {w w':World}{X Y:Nat}{c:Value}{cs:List Value}(h:Bn w Y (c :: cs)) (hf:Fx X w w') (hne:Y≠X):Bn w' Y (c :: cs):=h.blk (hf.block Y h.lt (fun e=>hne (Option.some.inj e)))
theorem Bn.far {w:World}{Y X i:Nat}{cs:List Value}(h:Bn w Y cs) (hne:X≠Y) (v:Value):Bn (w.setCell ⟨X,i,none⟩ v) Y cs:=h.blk (Below.heap_setCell _ _ _ _ (fun e=>hne e.symm))
theorem Bn.set {w:World}{Y i:Nat}{cs:List Value}(h:Bn w Y cs) (hi:i < cs.length) (v:Value):Bn (w.setCell ⟨Y,i,none⟩ v) Y (cs.set i v):=fun j u hu=>by
 refine ⟨?_,(World.frozen?_setCell _ _ _ _).trans ?_⟩
 ·by_cases hj:i=j
  ·subst hj
   rw [List.getElem?_set_self hi] at hu
   obtain rfl:=Option.some.inj hu
   exact cell_same4 (h i _ (List.getElem?_eq_getElem hi)).1
  ·rw [List.getElem?_set_ne hj] at hu
   exact cell_far4 (by omega) (h j u hu).1
 ·have hl:j < cs.length:=by
   have:=(List.getElem?_eq_some_iff.1 hu).1
   rwa [List.length_set] at this
  exact (h j _ (List.getElem?_eq_getElem hl)).2
theorem Bn.drew {w:World}{Y:Nat}{cs:List Value}(h:Bn w Y cs):Bn w.drew Y cs:=h
theorem Bn.new (w:World) (cs:List Value) (t:TypeId) (n:Nat) (hn:n=w.heap.size):Bn (w.alloc (.cells cs.toArray t)) n cs:=by
 subst hn
 intro j u hu
 refine ⟨?_,by simp⟩
 rw [World.cell?_alloc_new]
 simpa using hu
def RdK {α:Type}(ok:Nat->Prop) (w:World) (k:Nat) (R:α->List Value->Prop) (l:List α) (v:Value):Prop:=
 ∃ a cap,v=.slice a l.length cap/\l.length<=cap/\cap<=maxLen/\
  ∀ (i:Nat) (hi:i < l.length),∃ b off cs,a=some ⟨b,off,none⟩/\ok b/\b < w.heap.size/\cs.length=k/\R l[i] cs/\∀ j u,cs[j]?=some u->w.cell? ⟨b,off+i*k+j,none⟩=some u
theorem rdK_none {α:Type}(ok:Nat->Prop) (w:World) (k:Nat) (R:α->List Value->Prop):RdK ok w k R [] (.slice none 0 0):=⟨none,0,rfl,by simp,by simp [maxLen],fun i hi=>absurd hi (by simp)⟩
theorem RdK.keep {α:Type}{ok ok':Nat->Prop}{w w':World}{k:Nat}{R R':α->List Value->Prop}{l:List α}{v:Value}(h:RdK ok w k R l v) (hR:∀ x∈l,∀ u,R x u->R' x u) (hk:∀ b,ok b->b < w.heap.size->ok' b/\w'.heap[b]?=w.heap[b]?):RdK ok' w' k R' l v:=by
 obtain ⟨a,cap,rfl,hc,hm,hcell⟩:=h
 refine ⟨a,cap,rfl,hc,hm,fun i hi=>?_⟩
 obtain ⟨b,off,cs,ha,ho,hb,hl,hr,hcs⟩:=hcell i hi
 obtain ⟨ho',hs⟩:=hk _ ho hb
 refine ⟨b,off,cs,ha,ho',?_,hl,hR _ (List.getElem_mem hi) _ hr,fun j u hu=>keep_cell (p:=⟨b,off+i*k+j,none⟩) hs (hcs j u hu)⟩
 rcases Nat.lt_or_ge b w'.heap.size with h|h
 ·exact h
 ·rw [Array.getElem?_eq_none h,Array.getElem?_eq_getElem hb] at hs
  cases hs
theorem RdK.form {α:Type}{ok:Nat->Prop}{w:World}{k:Nat}{R:α->List Value->Prop}{l:List α}{v:Value}(h:RdK ok w k R l v):∃ a cap,v=.slice a l.length cap/\l.length<=cap/\cap<=maxLen:=by
 obtain ⟨a,cap,h1,h2,h3,_⟩:=h
 exact ⟨a,cap,h1,h2,h3⟩
def Kp {α:Type}(R:(Nat->Prop)->World->α->List Value->Prop):Prop:=∀ ⦃ok ok':Nat->Prop⦄ ⦃w w':World⦄ ⦃x:α⦄ ⦃cs:List Value⦄,R ok w x cs->(∀ b,ok b->b < w.heap.size->ok' b/\w'.heap[b]?=w.heap[b]?)->R ok' w' x cs
def OwnK {α:Type}(w:World) (base e k:Nat) (R:(Nat->Prop)->World->α->List Value->Prop) (v:Value) (l:List α):Prop:=
 ∃ qs:List (List Value),w.ownsRow base e k v l.length qs.flatten/\qs.length=l.length/\∀ (i:Nat) (h:i < l.length) (h':i < qs.length),(qs[i]).length=k/\R (fun b=>base<=b/\v.ownBlock≠some b) w l[i] qs[i]
theorem ownK_nil {α:Type}(w:World) (base e k:Nat) (R:(Nat->Prop)->World->α->List Value->Prop):OwnK w base e k R (.slice none 0 0) []:=⟨[],World.ownsRow_nil w base e k,rfl,fun i h=>absurd h (by simp)⟩
theorem OwnK.keep {α:Type}{w w':World}{base e k:Nat}{R:(Nat->Prop)->World->α->List Value->Prop}{v:Value}{l:List α}(hR:Kp R) (h:OwnK w base e k R v l) (hk:∀ b,base<=b->b < w.heap.size->w'.heap[b]?=w.heap[b]?):OwnK w' base e k R v l:=by
 obtain ⟨qs,ho,hl,hr⟩:=h
 refine ⟨qs,ownsRow_keep ho (fun g hg=>?_),hl,fun i h h'=>⟨(hr i h h').1,hR (hr i h h').2 (fun b hb hlt=>⟨hb,hk b hb.1 hlt⟩)⟩⟩
 obtain ⟨a,b⟩:=ownsRow_lt ho g hg
 exact hk g a b
theorem OwnK.on {α:Type}{w w':World}{base e k:Nat}{R:(Nat->Prop)->World->α->List Value->Prop}{v:Value}{l:List α}(hR:Kp R) (h:OwnK w base e k R v l) (hb:Below w.heap.size w w'):OwnK w' base e k R v l:=h.keep hR (fun b _ hlt=>hb.block b hlt)
theorem OwnK.fx {α:Type}{w w':World}{base e k X:Nat}{R:(Nat->Prop)->World->α->List Value->Prop}{v:Value}{l:List α}(hR:Kp R) (h:OwnK w base e k R v l) (hf:Fx X w w') (hX:X < base):OwnK w' base e k R v l:=
 h.keep hR (fun b hb hlt=>hf.block b hlt (fun e=>by have:b=X:=Option.some.inj e;omega))
theorem OwnK.set {α:Type}{w:World}{base e k:Nat}{R:(Nat->Prop)->World->α->List Value->Prop}{v:Value}{l:List α}(hR:Kp R) (h:OwnK w base e k R v l) {X i:Nat}(hX:X < base) (u:Value):OwnK (w.setCell ⟨X,i,none⟩ u) base e k R v l:=
 h.keep hR (fun b hb _=>Below.heap_setCell _ _ _ _ (fun e=>by have:b=X:=e;omega))
theorem OwnK.form {α:Type}{w:World}{base e k:Nat}{R:(Nat->Prop)->World->α->List Value->Prop}{v:Value}{l:List α}(h:OwnK w base e k R v l):∃ a cap,v=.slice a l.length cap/\l.length<=cap/\cap<=maxLen:=by
 obtain ⟨qs,ho,_⟩:=h
 rcases ho.2 with ⟨h1,h2⟩|⟨g,cap,cur,h1,_,_,h3,h4,_⟩
 ·exact ⟨none,0,by rw [h1,h2],by omega,by simp [maxLen]⟩
 ·exact ⟨_,_,h1,h3,h4⟩
theorem OwnK.snoc {α:Type}{w w':World}{base e k lo n:Nat}{R:(Nat->Prop)->World->α->List Value->Prop}{v v':Value}{l:List α}{p:α}{cs:List Value}{qs:List (List Value)}(hR:Kp R) (hk:cs.length=k)
  (hn:l.length=n) (ho:w.ownsRow base e k v n qs.flatten) (hl:qs.length=l.length) (hr:∀ (i:Nat) (h:i < l.length) (h':i < qs.length),(qs[i]).length=k/\R (fun b=>base<=b/\v.ownBlock≠some b) w l[i] qs[i])
  (ho':w'.ownsRow base e k v' (n+1) (qs.flatten++cs)) (hg:w.grownBy w' v.ownBlock) (hat:v'.ownBlock=v.ownBlock∨v'.ownBlock=some w.heap.size)
  (hp:R (fun b=>lo<=b) w p cs) (hlo:base<=lo) (hv:∀ x,v.ownBlock=some x->x < lo):OwnK w' base e k R v' (l++[p]):=by
 subst hn
 have key:∀ b,base<=b/\v.ownBlock≠some b->b < w.heap.size->(base<=b/\v'.ownBlock≠some b)/\w'.heap[b]?=w.heap[b]?:=fun b hb hlt=>by
  refine ⟨⟨hb.1,fun e=>?_⟩,hg.block b hlt (fun e=>hb.2 e.symm)⟩
  rcases hat with h|h
  ·exact hb.2 (h ▸ e)
  ·rw [h] at e;have:w.heap.size=b:=Option.some.inj e;omega
 refine ⟨qs++[cs],?_,by simp [hl],fun i h h'=>?_⟩
 ·rw [List.flatten_append,List.length_append]
  simpa using ho'
 ·rcases Nat.lt_or_ge i l.length with hi|hi
  ·rw [List.getElem_append_left hi,List.getElem_append_left (by omega)]
   exact ⟨(hr i hi (by omega)).1,hR (hr i hi (by omega)).2 key⟩
  ·have:i=l.length:=by simp at h;omega
   subst this
   have e1:(l++[p])[l.length]=p:=by simp
   have e2:(qs++[cs])[l.length]'h'=cs:=by simp [<- hl]
   rw [e1,e2]
   exact ⟨hk,hR hp (fun b hb hlt=>key b ⟨by omega,fun e=>by have:=hv b e;omega⟩ hlt)⟩
theorem flat_at {k:Nat}:∀ (qs:List (List Value)) (i j:Nat) (h:i < qs.length) (u:Value),(∀ (i:Nat) (h:i < qs.length),(qs[i]).length=k)->(qs[i])[j]?=some u->qs.flatten[i*k+j]?=some u
 | [],i,j,h,u,_,_=>by simp at h
 | x :: t,0,j,h,u,hk,hu=>by
  have hu':x[j]?=some u:=hu
  have hj:=(List.getElem?_eq_some_iff.1 hu').1
  rw [List.flatten_cons,Nat.zero_mul,Nat.zero_add,List.getElem?_append_left hj]
  exact hu'
 | x :: t,i+1,j,h,u,hk,hu=>by
  have hx:x.length=k:=hk 0 (by simp)
  have e:(i+1)*k+j=x.length+(i*k+j):=by rw [hx,Nat.succ_mul];omega
  rw [List.flatten_cons,e,List.getElem?_append_right (by omega),Nat.add_sub_cancel_left]
  exact flat_at t i j (by simpa using h) u (fun i h=>hk (i+1) (by simpa using h)) hu
theorem OwnK.rd {α:Type}{w:World}{base e k:Nat}{R:(Nat->Prop)->World->α->List Value->Prop}{v:Value}{l:List α}(hR:Kp R) (h:OwnK w base e k R v l):RdK (fun b=>base<=b) w k (R (fun b=>base<=b) w) l v:=by
 obtain ⟨qs,ho,hl,hr⟩:=h
 have hc:=fun g=>World.ownsRow.cells ho (g:=g)
 rcases ho.2 with ⟨rfl,hn⟩|⟨g,cap,cur,rfl,hb,hg,hnc,hcm,hcs,htake⟩
 ·have hx:l=[]:=List.eq_nil_of_length_eq_zero hn
  subst hx
  exact rdK_none _ w k _
 ·refine ⟨some ⟨g,0,none⟩,cap,rfl,hnc,hcm,fun i hi=>⟨g,0,qs[i],rfl,hb,(Array.getElem?_eq_some_iff.1 hg).1,(hr i hi (by omega)).1,hR (hr i hi (by omega)).2 (fun b hb _=>⟨hb.1,rfl⟩),fun j u hu=>?_⟩⟩
  have:=hc g rfl (i*k+j) u (flat_at qs i j (by omega) u (fun i h=>(hr i (by omega) h).1) hu)
  rw [add_plain] at this
  rw [Nat.zero_add]
  rwa [Nat.zero_add] at this
theorem RdK.low {α:Type}{w:World}{base lo k:Nat}{R:(Nat->Prop)->World->α->List Value->Prop}{v:Value}{l:List α}(hR:Kp R) (h:RdK (fun b=>base<=b) w k (R (fun b=>base<=b) w) l v) (hlo:lo<=base):RdK (fun b=>lo<=b) w k (R (fun b=>lo<=b) w) l v:=
 h.keep (fun x _ u hu=>hR hu (fun b hb _=>⟨by omega,rfl⟩)) (fun b hb _=>⟨by omega,rfl⟩)
theorem RdK.stay {α:Type}{ok ok':Nat->Prop}{w w':World}{k:Nat}{R:(Nat->Prop)->World->α->List Value->Prop}{v:Value}{l:List α}(hR:Kp R) (h:RdK ok w k (R ok w) l v) (hk:∀ b,ok b->b < w.heap.size->ok' b/\w'.heap[b]?=w.heap[b]?):RdK ok' w' k (R ok' w') l v:=
 h.keep (fun x _ u hu=>hR hu hk) hk
abbrev Pl:=Int × Int
abbrev OnC:=List UInt8 × (Bool × Sx) × List UInt8 × List (List UInt8 × Sx) × Pl
abbrev HdC:=(List UInt8 × Pl) × (Bool × Bool) × (List UInt8 × List UInt8) × (Int × Int) × List OnC
def St:Nat->Type
 | 0=>Empty
 | d+1=>HdC × List (St d)
abbrev RsC:=List Wd × Pl × Int
def wPl (w:Wd):Pl:=(w.2.2.1,w.2.2.2)
section
variable (fin:Pl)
def hereR (r:RsC):Pl:=match r.1 with | []=>fin|w :: _=>wPl w
def failC (e:Int) (p:Pl) (r:RsC):RsC:=if r.2.2=0 then (r.1,p,e) else r
def isC (s:List UInt8) (r:RsC):Bool:=decide (r.2.2=0) && (match r.1 with | []=>false|w :: _=>decide ((tkW w).2=s))
def takeR (s:List UInt8) (r:RsC):RsC:=if isC s r=true then (r.1.tail,r.2) else failC 12 (hereR fin r) r
def plainB (s:List UInt8):Bool:=nameS s && !rsvB s
def nameR (r:RsC):(List UInt8 × Pl) × RsC:=match r.2.2=0,r.1 with
 | _,[]=>(([],(0,0)),failC 12 (hereR fin r) r)
 | _,w :: l=>if r.2.2=0/\plainB (tkW w).2=true then (((tkW w).2,wPl w),(l,r.2)) else (([],(0,0)),failC 12 (hereR fin r) r)
def numR (r:RsC):Int × RsC:=match r.1 with
 | []=>(0,failC 12 (hereR fin r) r)
 | w :: l=>if r.2.2=0/\w.1=2 then (valB 0 (tkW w).2,(l,r.2)) else (0,failC 12 (hereR fin r) r)
def exprR (r:RsC):Sx × RsC:=if r.2.2≠0 then (noX,r) else
 if (takeC (r.1.map tkW)).2.2=0 then ((takeC (r.1.map tkW)).1,(r.1.drop (takeC (r.1.map tkW)).2.1,r.2)) else
 if (takeC (r.1.map tkW)).2.2=13 then ((takeC (r.1.map tkW)).1,failC 13 (hereR fin r) r) else
 ((takeC (r.1.map tkW)).1,failC (takeC (r.1.map tkW)).2.2 (hereR fin (r.1.drop (takeC (r.1.map tkW)).2.1,r.2)) (r.1.drop (takeC (r.1.map tkW)).2.1,r.2))
def wOn:List UInt8:=[111,110]
def wIf:List UInt8:=[105,102]
def wGo:List UInt8:=[103,111]
def wSet:List UInt8:=[115,101,116]
def wAll:List UInt8:=[97,108,108]
def wEnd:List UInt8:=[101,110,100]
def wDo:List UInt8:=[100,111]
def wUndo:List UInt8:=[117,110,100,111]
def wAt:List UInt8:=[97,116]
def wRetries:List UInt8:=[114,101,116,114,105,101,115]
def wState:List UInt8:=[115,116,97,116,101]
def wChart:List UInt8:=[99,104,97,114,116]
def wVar:List UInt8:=[118,97,114]
def setsR:Nat->List (List UInt8 × Sx)->RsC->List (List UInt8 × Sx) × RsC
 | 0,acc,r=>(acc,r)
 | g+1,acc,r=>if isC wSet r=true then
   let a:=nameR fin (takeR fin wSet r)
   let b:=exprR fin (takeR fin [61] a.2)
   setsR g (acc++[(a.1.1,b.1)]) b.2
  else (acc,r)
def onR (r:RsC):OnC × RsC:=
 let a:=nameR fin (takeR fin wOn r)
 let g:(Bool × Sx) × RsC:=if isC wIf a.2=true then ((fun x=>((true,x.1),x.2)) (exprR fin (takeR fin wIf a.2))) else ((false,noX),a.2)
 let t:=nameR fin (takeR fin wGo g.2)
 let s:=setsR fin (t.2.1.length+1) [] t.2
 ((a.1.1,g.1,t.1.1,s.1,a.1.2),s.2)
def kindR (r:RsC):((Bool × Bool) × (List UInt8 × List UInt8) × (Int × Int)) × RsC:=
 if isC wAll r=true then (((true,false),([],[]),(0,0)),takeR fin wAll r) else
 if isC wEnd r=true then (((false,true),([],[]),(0,0)),takeR fin wEnd r) else
 if isC wDo r=true then
  let a:=nameR fin (takeR fin wDo r)
  let b:=nameR fin (takeR fin wUndo a.2)
  let c:=numR fin (takeR fin wAt b.2)
  let e:=numR fin (takeR fin wRetries c.2)
  (((false,false),(a.1.1,b.1.1),(c.1,e.1)),e.2)
 else (((false,false),([],[]),(0,0)),r)
def inR {α:Type}(inner:RsC->α × RsC):Nat->List OnC->List α->RsC->(List OnC × List α) × RsC
 | 0,os,ss,r=>((os,ss),r)
 | g+1,os,ss,r=>if r.2.2=0/\isC [125] r=false then
   if isC wOn r=true then inR inner g (os++[(onR fin r).1]) ss (onR fin r).2
   else inR inner g os (ss++[(inner r).1]) (inner r).2
  else ((os,ss),r)
def stR:(k:Nat)->RsC->St (k+1) × RsC
 | 0,r=>(((([],(0,0)),(false,false),([],[]),(0,0),[]),[]),failC (if isC wState r=true then 13 else 12) (hereR fin r) r)
 | k+1,r=>
  let a:=nameR fin (takeR fin wState r)
  let b:=kindR fin (takeR fin [123] a.2)
  let c:=inR fin (stR k) (b.2.1.length+1) [] [] b.2
  (((a.1,b.1.1,b.1.2.1,b.1.2.2,c.1.1),c.1.2),takeR fin [125] c.2)
def varsR:Nat->List (List UInt8 × Int × Pl)->RsC->List (List UInt8 × Int × Pl) × RsC
 | 0,acc,r=>(acc,r)
 | g+1,acc,r=>if isC wVar r=true then
   let a:=nameR fin (takeR fin wVar r)
   let b:=takeR fin [61] a.2
   let n:=if isC [45] b=true then (fun x=>(-x.1,x.2)) (numR fin (takeR fin [45] b)) else numR fin b
   varsR g (acc++[(a.1.1,n.1,a.1.2)]) n.2
  else (acc,r)
def stsR:Nat->List (St 7)->RsC->List (St 7) × RsC
 | 0,acc,r=>(acc,r)
 | g+1,acc,r=>if r.2.2=0/\isC [125] r=false then stsR g (acc++[(stR fin 6 r).1]) (stR fin 6 r).2 else (acc,r)
end
abbrev ChC:=(List UInt8 × Pl) × Int × List (List UInt8 × Int × Pl) × List (St 7)
def noC:ChC:=(([],(0,0)),0,[],[])
def chR (fin:Pl) (ws:List Wd):ChC × Pl × Int:=
 let a:=nameR fin (takeR fin wChart (ws,(0,0),0))
 let n:=numR fin a.2
 let b:=takeR fin [123] n.2
 let v:=varsR fin (b.1.length+1) [] b
 let s:=stsR fin (v.2.1.length+1) [] v.2
 let e:=takeR fin [125] s.2
 let z:=if e.2.2=0/\e.1≠[] then failC 12 (hereR fin e) e else e
 if z.2.2=0 then ((a.1,n.1,v.1,s.1),(0,0),0) else (noC,z.2.1,z.2.2)
def endP:List Ru->Int->Int->Pl
 | [],ln,co=>(ln,co)
 | u :: r,ln,co=>if u.1=10 then endP r (ln+1) 1 else endP r ln (co+1)
def readC (s:List UInt8):ChC × Pl × Int:=
 if (wordsS s).2.2≠0 then (noC,(wordsS s).2.1,(wordsS s).2.2) else chR (endP (runes s) 1 1) (wordsS s).1
theorem failC_len (e:Int) (p:Pl) (r:RsC):(failC e p r).1=r.1:=by unfold failC;split<;>rfl
theorem failC_bad {e:Int}(he:e≠0) (p:Pl) (r:RsC):(failC e p r).2.2≠0:=by
 unfold failC
 split
 ·exact he
 ·rename_i h;exact h
theorem takeR_len (fin:Pl) (s:List UInt8) (r:RsC):(takeR fin s r).1.length<=r.1.length:=by
 unfold takeR
 split
 ·rw [List.length_tail];omega
 ·rw [failC_len];exact Nat.le_refl _
theorem takeR_less (fin:Pl) {s:List UInt8}{r:RsC}(h:isC s r=true):(takeR fin s r).1.length < r.1.length:=by
 unfold takeR
 rw [if_pos h]
 unfold isC at h
 cases hr:r.1 with
 | nil=>rw [hr] at h;simp at h
 | cons w l=>simp
theorem nameR_len (fin:Pl) (r:RsC):(nameR fin r).2.1.length<=r.1.length:=by
 unfold nameR
 cases hr:r.1 with
 | nil=>simp only [failC_len,hr];exact Nat.le_refl _
 | cons w l=>
  simp only
  split
  ·simp
  ·simp only [failC_len,hr];exact Nat.le_refl _
theorem numR_len (fin:Pl) (r:RsC):(numR fin r).2.1.length<=r.1.length:=by
 unfold numR
 cases hr:r.1 with
 | nil=>simp only [failC_len,hr];exact Nat.le_refl _
 | cons w l=>
  simp only
  split
  ·simp
  ·simp only [failC_len,hr];exact Nat.le_refl _
theorem exprR_len (fin:Pl) (r:RsC):(exprR fin r).2.1.length<=r.1.length:=by
 unfold exprR
 split
 ·exact Nat.le_refl _
 ·split
  ·simp
  ·split
   ·simp only [failC_len];exact Nat.le_refl _
   ·simp only [failC_len,List.length_drop];omega
def Goes (r r':RsC):Prop:=r'.1.length<=r.1.length/\(r'.2.2=0->r.2.2=0)
theorem Goes.refl (r:RsC):Goes r r:=⟨Nat.le_refl _,id⟩
theorem Goes.trans {a b c:RsC}(h:Goes a b) (k:Goes b c):Goes a c:=⟨Nat.le_trans k.1 h.1,fun e=>h.2 (k.2 e)⟩
theorem goes_fail (e:Int) (p:Pl) (r:RsC):Goes r (failC e p r):=by
 refine ⟨by rw [failC_len];exact Nat.le_refl _,fun h=>?_⟩
 unfold failC at h
 split at h
 ·assumption
 ·exact h
theorem isC_ok {s:List UInt8}{r:RsC}(h:isC s r=true):r.2.2=0:=by
 unfold isC at h
 simp only [Bool.and_eq_true,decide_eq_true_eq] at h
 exact h.1
theorem goes_take (fin:Pl) (s:List UInt8) (r:RsC):Goes r (takeR fin s r):=by
 by_cases h:isC s r=true
 ·exact ⟨takeR_len fin s r,fun _=>isC_ok h⟩
 ·unfold takeR;rw [if_neg h];exact goes_fail _ _ _
theorem take_ok {fin:Pl}{s:List UInt8}{r:RsC}(h:(takeR fin s r).2.2=0):isC s r=true:=by
 by_cases hi:isC s r=true
 ·exact hi
 ·unfold takeR at h
  rw [if_neg hi] at h
  exact absurd h (failC_bad (by decide) _ _)
theorem goes_name (fin:Pl) (r:RsC):Goes r (nameR fin r).2:=by
 refine ⟨nameR_len fin r,?_⟩
 unfold nameR
 cases hr:r.1 with
 | nil=>exact (goes_fail _ _ _).2
 | cons w l=>
  simp only
  split
  ·rename_i h;exact fun _=>h.1
  ·exact (goes_fail _ _ _).2
theorem goes_num (fin:Pl) (r:RsC):Goes r (numR fin r).2:=by
 refine ⟨numR_len fin r,?_⟩
 unfold numR
 cases hr:r.1 with
 | nil=>exact (goes_fail _ _ _).2
 | cons w l=>
  simp only
  split
  ·rename_i h;exact fun _=>h.1
  ·exact (goes_fail _ _ _).2
theorem goes_expr (fin:Pl) (r:RsC):Goes r (exprR fin r).2:=by
 refine ⟨exprR_len fin r,?_⟩
 unfold exprR
 split
 ·exact id
 ·rename_i h
  exact fun _=>by simpa using h
theorem goes_sets (fin:Pl):∀ (g:Nat) (acc:List (List UInt8 × Sx)) (r:RsC),Goes r (setsR fin g acc r).2
 | 0,acc,r=>Goes.refl r
 | g+1,acc,r=>by
  unfold setsR
  split
  ·exact ((goes_take fin wSet r).trans ((goes_name fin _).trans ((goes_take fin [61] _).trans (goes_expr fin _)))).trans (goes_sets fin g _ _)
  ·exact Goes.refl r
theorem goes_on1 (fin:Pl) (r:RsC):Goes (takeR fin wOn r) (onR fin r).2:=by
 have h1:Goes (takeR fin wOn r) (nameR fin (takeR fin wOn r)).2:=goes_name fin _
 have h2:Goes (nameR fin (takeR fin wOn r)).2 (if isC wIf (nameR fin (takeR fin wOn r)).2=true then ((fun x=>((true,x.1),x.2)) (exprR fin (takeR fin wIf (nameR fin (takeR fin wOn r)).2)):(Bool × Sx) × RsC) else ((false,noX),(nameR fin (takeR fin wOn r)).2)).2:=by
  split
  ·exact (goes_take fin wIf _).trans (goes_expr fin _)
  ·exact Goes.refl _
 exact h1.trans (h2.trans ((goes_take fin wGo _).trans ((goes_name fin _).trans (goes_sets fin _ _ _))))
theorem goes_on (fin:Pl) (r:RsC):Goes r (onR fin r).2:=(goes_take fin wOn r).trans (goes_on1 fin r)
theorem on_less {fin:Pl}{r:RsC}(h:isC wOn r=true):(onR fin r).2.1.length < r.1.length:=Nat.lt_of_le_of_lt (goes_on1 fin r).1 (takeR_less fin h)
theorem goes_kind (fin:Pl) (r:RsC):Goes r (kindR fin r).2:=by
 unfold kindR
 split
 ·exact goes_take fin _ r
 ·split
  ·exact goes_take fin _ r
  ·split
   ·exact (goes_take fin wDo r).trans ((goes_name fin _).trans ((goes_take fin wUndo _).trans ((goes_name fin _).trans ((goes_take fin wAt _).trans ((goes_num fin _).trans ((goes_take fin wRetries _).trans (goes_num fin _)))))))
   ·exact Goes.refl r
theorem goes_in {α:Type}(fin:Pl) (inner:RsC->α × RsC) (hi:∀ r,Goes r (inner r).2):∀ (g:Nat) (os:List OnC) (ss:List α) (r:RsC),Goes r (inR fin inner g os ss r).2
 | 0,os,ss,r=>Goes.refl r
 | g+1,os,ss,r=>by
  unfold inR
  split
  ·split
   ·exact (goes_on fin r).trans (goes_in fin inner hi g _ _ _)
   ·exact (hi r).trans (goes_in fin inner hi g _ _ _)
  ·exact Goes.refl r
theorem goes_st:∀ (fin:Pl) (k:Nat) (r:RsC),Goes r (stR fin k r).2/\((stR fin k r).2.2.2=0->(stR fin k r).2.1.length < r.1.length)
 | fin,0,r=>by
  refine ⟨goes_fail _ _ r,fun h=>?_⟩
  refine absurd h (failC_bad ?_ _ r)
  split<;>decide
 | fin,k+1,r=>by
  have h1:Goes (takeR fin wState r) (stR fin (k+1) r).2:=
   (goes_name fin _).trans ((goes_take fin [123] _).trans ((goes_kind fin _).trans ((goes_in fin (stR fin k) (fun r=>(goes_st fin k r).1) _ _ _ _).trans (goes_take fin [125] _))))
  exact ⟨(goes_take fin wState r).trans h1,fun h=>Nat.lt_of_le_of_lt h1.1 (takeR_less fin (take_ok (h1.2 h)))⟩
theorem goes_vars (fin:Pl):∀ (g:Nat) (acc:List (List UInt8 × Int × Pl)) (r:RsC),Goes r (varsR fin g acc r).2
 | 0,acc,r=>Goes.refl r
 | g+1,acc,r=>by
  unfold varsR
  split
  ·refine Goes.trans ((goes_take fin wVar r).trans ((goes_name fin _).trans (goes_take fin [61] _))) (Goes.trans ?_ (goes_vars fin g _ _))
   split
   ·exact (goes_take fin [45] _).trans (goes_num fin _)
   ·exact goes_num fin _
  ·exact Goes.refl r
section
variable (fin:Pl)
def inP {α:Type}(inner:RsC->α × RsC):Nat->List OnC->List α->RsC->(List OnC × List α) × RsC
 | 0,os,ss,r=>((os,ss),r)
 | g+1,os,ss,r=>if isC wOn r=true then inP inner g (os++[(onR fin r).1]) ss (onR fin r).2
  else if isC wState r=true then inP inner g os (ss++[(inner r).1]) (inner r).2
  else ((os,ss),r)
def zHd:HdC:=(([],(0,0)),(false,false),([],[]),(0,0),[])
def stP:(k:Nat)->RsC->St (k+1) × RsC
 | 0,r=>((zHd,[]),failC 13 (hereR fin r) r)
 | k+1,r=>
  let a:=nameR fin (takeR fin wState r)
  let b:=kindR fin (takeR fin [123] a.2)
  let c:=inP fin (stP k) (b.2.1.length+1) [] [] b.2
  (((a.1,b.1.1,b.1.2.1,b.1.2.2,c.1.1),c.1.2),takeR fin [125] c.2)
def stsP:Nat->List (St 7)->RsC->List (St 7) × RsC
 | 0,acc,r=>(acc,r)
 | g+1,acc,r=>if isC wState r=true then stsP g (acc++[(stP fin 6 r).1]) (stP fin 6 r).2 else (acc,r)
end
theorem is_err {r:RsC}(h:r.2.2≠0) (s:List UInt8):isC s r=false:=by unfold isC;rw [decide_eq_false h];rfl
theorem fail_err {r:RsC}(h:r.2.2≠0) (e:Int) (p:Pl):failC e p r=r:=by unfold failC;rw [if_neg h]
theorem take_err {r:RsC}(h:r.2.2≠0) (fin:Pl) (s:List UInt8):takeR fin s r=r:=by
 unfold takeR
 rw [is_err h,if_neg (by decide),fail_err h]
theorem name_err {r:RsC}(h:r.2.2≠0) (fin:Pl):nameR fin r=(([],(0,0)),r):=by
 unfold nameR
 cases hr:r.1 with
 | nil=>simp only;rw [fail_err h]
 | cons w l=>simp only;rw [if_neg (fun e=>h e.1),fail_err h]
theorem kind_err {r:RsC}(h:r.2.2≠0) (fin:Pl):kindR fin r=(((false,false),([],[]),(0,0)),r):=by
 unfold kindR
 rw [is_err h,is_err h,is_err h,if_neg (by decide),if_neg (by decide),if_neg (by decide)]
theorem in_err {α:Type}{r:RsC}(h:r.2.2≠0) (fin:Pl) (inner:RsC->α × RsC):∀ (g:Nat) (os:List OnC) (ss:List α),inR fin inner g os ss r=((os,ss),r)
 | 0,os,ss=>rfl
 | g+1,os,ss=>by unfold inR;rw [if_neg (fun e=>h e.1)]
theorem inP_err {α:Type}{r:RsC}(h:r.2.2≠0) (fin:Pl) (inner:RsC->α × RsC):∀ (g:Nat) (os:List OnC) (ss:List α),inP fin inner g os ss r=((os,ss),r)
 | 0,os,ss=>rfl
 | g+1,os,ss=>by unfold inP;rw [is_err h,is_err h,if_neg (by decide),if_neg (by decide)]
theorem sts_err {r:RsC}(h:r.2.2≠0) (fin:Pl):∀ (g:Nat) (acc:List (St 7)),stsR fin g acc r=(acc,r)
 | 0,acc=>rfl
 | g+1,acc=>by unfold stsR;rw [if_neg (fun e=>h e.1)]
theorem stsP_err {r:RsC}(h:r.2.2≠0) (fin:Pl):∀ (g:Nat) (acc:List (St 7)),stsP fin g acc r=(acc,r)
 | 0,acc=>rfl
 | g+1,acc=>by unfold stsP;rw [is_err h,if_neg (by decide)]
theorem take_not {r:RsC}{fin:Pl}{s:List UInt8}(h:isC s r=false):takeR fin s r=failC 12 (hereR fin r) r:=by
 unfold takeR;rw [h,if_neg (by decide)]
theorem st_not {r:RsC}(fin:Pl) (h0:r.2.2=0) (h:isC wState r=false):∀ k,(stR fin k r).2=failC 12 (hereR fin r) r
 | 0=>by unfold stR;rw [h,if_neg (by decide)]
 | k+1=>by
  have e:(failC 12 (hereR fin r) r).2.2≠0:=failC_bad (by decide) _ _
  unfold stR
  simp only [take_not h]
  rw [name_err e]
  simp only
  rw [take_err e,kind_err e]
  simp only
  rw [in_err e,take_err e]
theorem is_one {r:RsC}{s t:List UInt8}(h:isC s r=true) (hne:s≠t):isC t r=false:=by
 unfold isC at h ⊢
 cases hr:r.1 with
 | nil=>rw [hr] at h;simp at h
 | cons w l=>
  rw [hr] at h
  simp only [Bool.and_eq_true,decide_eq_true_eq] at h
  simp only [h.2,decide_eq_false hne,Bool.and_false]
theorem in_eq {α:Type}(fin:Pl) (i1 i2:RsC->α × RsC) (hi:∀ r,isC wState r=true->(i2 r).2=(i1 r).2/\((i1 r).2.2.2=0->(i2 r).1=(i1 r).1)) (hn:∀ r:RsC,r.2.2=0->isC wState r=false->(i1 r).2=failC 12 (hereR fin r) r) :
  ∀ (g:Nat) (os:List OnC) (ss:List α) (r:RsC),takeR fin [125] (inP fin i2 g os ss r).2=takeR fin [125] (inR fin i1 g os ss r).2/\((takeR fin [125] (inR fin i1 g os ss r).2).2.2=0->(inP fin i2 g os ss r).1=(inR fin i1 g os ss r).1)
 | 0,os,ss,r=>⟨rfl,fun _=>rfl⟩
 | g+1,os,ss,r=>by
  by_cases hz:r.2.2≠0
  ·have h0:=hz
   rw [in_err h0,inP_err h0];exact ⟨rfl,fun _=>rfl⟩
  have h0:r.2.2=0:=Decidable.not_not.1 hz
  unfold inP inR
  by_cases h1:isC [125] r=true
  ·rw [is_one h1 (t:=wOn) (by decide),is_one h1 (t:=wState) (by decide),if_neg (by decide),if_neg (by decide),if_neg (by rw [h1];simp)]
   exact ⟨rfl,fun _=>rfl⟩
  have h1':isC [125] r=false:=by simpa using h1
  rw [if_pos (⟨h0,h1'⟩:r.2.2=0/\isC [125] r=false)]
  by_cases h2:isC wOn r=true
  ·rw [if_pos h2,if_pos h2]
   exact in_eq fin i1 i2 hi hn g _ _ _
  rw [if_neg h2,if_neg h2]
  by_cases h3:isC wState r=true
  ·rw [if_pos h3]
   obtain ⟨e1,e2⟩:=hi r h3
   rw [e1]
   by_cases h4:(i1 r).2.2.2=0
   ·rw [e2 h4]
    exact in_eq fin i1 i2 hi hn g _ _ _
   ·rw [in_err h4,inP_err h4]
    refine ⟨rfl,fun h=>?_⟩
    rw [take_err h4] at h
    exact absurd h h4
  ·rw [if_neg h3]
   have h3':isC wState r=false:=by simpa using h3
   have e:=hn r h0 h3'
   have eb:(failC 12 (hereR fin r) r).2.2≠0:=failC_bad (by decide) _ _
   rw [e,in_err eb,take_err eb]
   refine ⟨by rw [take_not h1'],fun h=>absurd h eb⟩
theorem st_eq (fin:Pl):∀ (k:Nat) (r:RsC),isC wState r=true->(stP fin k r).2=(stR fin k r).2/\((stR fin k r).2.2.2=0->(stP fin k r).1=(stR fin k r).1)
 | 0,r,h=>by
  unfold stP stR
  rw [h,if_pos rfl]
  exact ⟨rfl,fun _=>rfl⟩
 | k+1,r,h=>by
  have hin:=in_eq fin (stR fin k) (stP fin k) (fun r h=>st_eq fin k r h) (fun r h0 h=>st_not fin h0 h k) ((kindR fin (takeR fin [123] (nameR fin (takeR fin wState r)).2)).2.1.length+1) [] [] (kindR fin (takeR fin [123] (nameR fin (takeR fin wState r)).2)).2
  unfold stP stR
  simp only
  refine ⟨hin.1,fun h0=>?_⟩
  have e:=hin.2 h0
  rw [e]
theorem sts_eq (fin:Pl):∀ (g:Nat) (acc:List (St 7)) (r:RsC),takeR fin [125] (stsP fin g acc r).2=takeR fin [125] (stsR fin g acc r).2/\((takeR fin [125] (stsR fin g acc r).2).2.2=0->(stsP fin g acc r).1=(stsR fin g acc r).1)
 | 0,acc,r=>⟨rfl,fun _=>rfl⟩
 | g+1,acc,r=>by
  by_cases hz:r.2.2≠0
  ·have h0:=hz
   rw [sts_err h0,stsP_err h0];exact ⟨rfl,fun _=>rfl⟩
  have h0:r.2.2=0:=Decidable.not_not.1 hz
  unfold stsP stsR
  by_cases h1:isC [125] r=true
  ·rw [is_one h1 (t:=wState) (by decide),if_neg (by decide),if_neg (by rw [h1];simp)]
   exact ⟨rfl,fun _=>rfl⟩
  have h1':isC [125] r=false:=by simpa using h1
  rw [if_pos (⟨h0,h1'⟩:r.2.2=0/\isC [125] r=false)]
  by_cases h3:isC wState r=true
  ·rw [if_pos h3]
   obtain ⟨e1,e2⟩:=st_eq fin 6 r h3
   rw [e1]
   by_cases h4:(stR fin 6 r).2.2.2=0
   ·rw [e2 h4]
    exact sts_eq fin g _ _
   ·rw [sts_err h4,stsP_err h4]
    refine ⟨rfl,fun h=>?_⟩
    rw [take_err h4] at h
    exact absurd h h4
  ·rw [if_neg h3]
   have h3':isC wState r=false:=by simpa using h3
   have e:=st_not fin h0 h3' 6
   have eb:(failC 12 (hereR fin r) r).2.2≠0:=failC_bad (by decide) _ _
   rw [e,sts_err eb,take_err eb]
   refine ⟨by rw [take_not h1'],fun h=>absurd h eb⟩
def lastR (fin:Pl) (e:RsC):RsC:=if e.2.2=0/\e.1≠[] then failC 12 (hereR fin e) e else e
theorem last_ok {fin:Pl}{e:RsC}(h:(lastR fin e).2.2=0):e.2.2=0:=by
 unfold lastR at h
 by_cases hc:e.2.2=0/\e.1≠[]
 ·exact hc.1
 ·rw [if_neg hc] at h;exact h
def chP (fin:Pl) (ws:List Wd):ChC × RsC:=
 let a:=nameR fin (takeR fin wChart (ws,(0,0),0))
 let n:=numR fin a.2
 let b:=takeR fin [123] n.2
 let v:=varsR fin (b.1.length+1) [] b
 let s:=stsP fin (v.2.1.length+1) [] v.2
 ((a.1,n.1,v.1,s.1),takeR fin [125] s.2)
def chZ (fin:Pl) (x:ChC × RsC):ChC × Pl × Int:=if (lastR fin x.2).2.2=0 then (x.1,(0,0),0) else (noC,(lastR fin x.2).2.1,(lastR fin x.2).2.2)
theorem ch_eq (fin:Pl) (ws:List Wd):chR fin ws=chZ fin (chP fin ws):=by
 unfold chR chZ chP
 simp only
 generalize nameR fin (takeR fin wChart (ws,(0,0),0))=A
 generalize numR fin A.2=N
 generalize varsR fin ((takeR fin [123] N.2).1.length+1) [] (takeR fin [123] N.2)=V
 obtain ⟨e1,e2⟩:=sts_eq fin (V.2.1.length+1) [] V.2
 rw [e1]
 show (if (lastR fin (takeR fin [125] (stsR fin (V.2.1.length+1) [] V.2).2)).2.2=0 then _ else (noC,(lastR fin (takeR fin [125] (stsR fin (V.2.1.length+1) [] V.2).2)).2.1,(lastR fin (takeR fin [125] (stsR fin (V.2.1.length+1) [] V.2).2)).2.2))=_
 by_cases h:(lastR fin (takeR fin [125] (stsR fin (V.2.1.length+1) [] V.2).2)).2.2=0
 ·rw [if_pos h,if_pos h,e2 (last_ok h)]
 ·rw [if_neg h,if_neg h]
theorem goesP_st (fin:Pl) (k:Nat) {r:RsC}(h:isC wState r=true):Goes r (stP fin k r).2/\((stP fin k r).2.2.2=0->(stP fin k r).2.1.length < r.1.length):=by
 rw [(st_eq fin k r h).1]
 exact goes_st fin k r
def sV (l:List UInt8):Value:=.string ⟨l.toArray⟩
def rSet (ok:Nat->Prop) (w:World) (x:List UInt8 × Sx) (cs:List Value):Prop:=cs=[sV x.1,exX x.2]
theorem kp_set:Kp rSet:=fun _ _ _ _ _ _ h _=>h
def gdV (g:Bool × Sx):Value:=if g.1=true then exX g.2 else .nilIface
theorem gdV_form (g:Bool × Sx):gdV g=.nilIface∨∃ u y,gdV g=.iface u y:=by
 unfold gdV
 split
 ·exact exX_form _
 ·exact .inl rfl
def onV (o:OnC) (sl:Value):List Value:=[sV o.1,gdV o.2.1,sV o.2.2.1,sl,.int .i64 o.2.2.2.2.1,.int .i64 o.2.2.2.2.2]
def rOn (ok:Nat->Prop) (w:World) (o:OnC) (cs:List Value):Prop:=∃ sl,cs=onV o sl/\RdK ok w 2 (rSet ok w) o.2.2.2.1 sl
theorem kp_on:Kp rOn:=fun _ _ _ _ _ _ ⟨sl,h,hr⟩ hk=>⟨sl,h,hr.stay kp_set hk⟩
def hdV (h:HdC) (so si:Value):List Value:=[sV h.1.1,.int .i64 h.1.2.1,.int .i64 h.1.2.2,.bool h.2.1.1,.bool h.2.1.2,sV h.2.2.1.1,sV h.2.2.1.2,.int .i64 h.2.2.2.1.1,.int .i64 h.2.2.2.1.2,so,si]
def rSt:(d:Nat)->(Nat->Prop)->World->St d->List Value->Prop
 | 0,_,_,t,_=>Empty.elim t
 | d+1,ok,w,t,cs=>∃ so si,cs=hdV t.1 so si/\RdK ok w 6 (rOn ok w) t.1.2.2.2.2 so/\RdK ok w 11 (rSt d ok w) t.2 si
theorem kp_st:∀ d,Kp (rSt d)
 | 0=>fun _ _ _ _ x _ _ _=>Empty.elim x
 | d+1=>fun _ _ _ _ _ _ ⟨so,si,h,h1,h2⟩ hk=>⟨so,si,h,h1.stay kp_on hk,h2.stay (kp_st d) hk⟩
def varV (x:List UInt8 × Int × Pl):List Value:=[sV x.1,.int .i64 x.2.1,.int .i64 x.2.2.1,.int .i64 x.2.2.2]
def rVar (ok:Nat->Prop) (w:World) (x:List UInt8 × Int × Pl) (cs:List Value):Prop:=cs=varV x
theorem kp_var:Kp rVar:=fun _ _ _ _ _ _ h _=>h
abbrev ChG (d:Nat):=(List UInt8 × Pl) × Int × List (List UInt8 × Int × Pl) × List (St d)
def RdC (ok:Nat->Prop) (w:World) (d:Nat) (c:ChG d) (v:Value):Prop:=
 ∃ sv ss,v=.agg #[sV c.1.1,.int .i64 c.2.1,.int .i64 c.1.2.1,.int .i64 c.1.2.2,sv,ss]/\RdK ok w 4 (rVar ok w) c.2.2.1 sv/\RdK ok w 11 (rSt d ok w) c.2.2.2 ss
theorem RdC.keep {ok ok':Nat->Prop}{w w':World}{d:Nat}{c:ChG d}{v:Value}(h:RdC ok w d c v) (hk:∀ b,ok b->b < w.heap.size->ok' b/\w'.heap[b]?=w.heap[b]?):RdC ok' w' d c v:=by
 obtain ⟨sv,ss,h1,h2,h3⟩:=h
 exact ⟨sv,ss,h1,h2.stay kp_var hk,h3.stay (kp_st d) hk⟩
theorem rdC_no (ok:Nat->Prop) (w:World):RdC ok w 7 noC (.agg #[.string ⟨#[]⟩,.int .i64 0,.int .i64 0,.int .i64 0,.slice none 0 0,.slice none 0 0]):=⟨_,_,rfl,rdK_none _ _ _ _,rdK_none _ _ _ _⟩
theorem cells_new {w:World}{cs:List Value}{e:TypeId}:∀ j u,cs[j]?=some u->(w.alloc (.cells cs.toArray e)).cell? ((⟨w.heap.size,0,none⟩:Addr).add j)=some u:=fun j u hu=>by
 rw [add_plain,Nat.zero_add]
 exact (Bn.new w cs e _ rfl j u hu).1
theorem src_row {P:Program}{t e:TypeId}(ht:P.underlying t=some (.slice e)) (w:World) {k:Nat}(cs:List Value) (hk:cs.length=k) (h1:∀ u∈cs,u.oneCell'=true):Src P k t (.slice (some ⟨w.heap.size,0,none⟩) 1 1) 1 cs (w.alloc (.cells cs.toArray e)):=
 Src.ofSlice _ ht _ 1 1 _ (by rw [Nat.one_mul];exact hk) cells_new h1
theorem step_push {α:Type}{P:Program}(w:World) {ops:Array Oper}{o:Oper}{a:Act}{K:Act->World->Prop}{Q:Exit->Act->World->Prop}{E:Prop}(hgd:o.guard=none) (s x:Operand) (t:TypeId)
  (ho:o.op=.call { callee:=.builtin .append,args:=#[s,x],argTypes:=#[t,t] })
  (base:Nat) (e:TypeId) (i:TypeInfo) (z:Value) (k bytes:Nat) (ht:P.underlying t=some (.slice e)) (hi:P.info? e=some i) (hz:i.zero=some z)
  (hsize:i.size=k) (hby:i.bytes=bytes) (hzs:z.cells.size=k) {R:(Nat->Prop)->World->α->List Value->Prop}(hR:Kp R)
  (v:Value) (l:List α) (p:α) (cs:List Value) (lo:Nat) (hs:a.eval s=v) (hx:a.eval x=.slice (some ⟨w.heap.size,0,none⟩) 1 1) (hk:cs.length=k) (h1:∀ u∈cs,u.oneCell'=true)
  (hown:OwnK w base e k R v l) (hp:R (fun b=>lo<=b) w p cs) (hlo:base<=lo) (hv:∀ x,v.ownBlock=some x->x < lo) (hroom:(l.length+1+(l.length+1) / 4+192)*bytes<=281474976710656)
  (h63:l.length+1<=maxLen) (hbase:base<=w.heap.size)
  (h:∀ v' w',OwnK w' base e k R v' (l++[p])->(w.alloc (.cells cs.toArray e)).grownBy w' v.ownBlock->Below base w w'->K (a.put o.dst v') w') :
  if Region.wanted o (yielded ops a.tmps)=true then Oper.wp P o a (w.alloc (.cells cs.toArray e)) K Q else E:=by
 have hal:Below w.heap.size w (w.alloc (.cells cs.toArray e)):=(Below.refl _ _).alloc Nat.le.refl _
 obtain ⟨qs,ho1,hl1,hr1⟩:=hown.on hR hal
 refine step_append_at _ hgd s x t t ho base e i z k bytes ht hi hz hsize hby hzs v l.length qs.flatten hs ho1 _ 1 cs hx (src_row ht w cs hk h1) 1 (.inr hroom) Nat.le.refl h63 (Nat.le_trans hbase hal.size) ?_
 intro v' w' hown' hg hat
 refine h v' w' (OwnK.snoc hR hk rfl ho1 hl1 hr1 hown' hg hat (hR hp (fun b hb hlt=>⟨hb,hal.block b hlt⟩)) hlo hv) hg ?_
 exact ((Below.refl base w).alloc hbase _).grown hg (Nat.le_trans hbase hal.size) (fun k hk=>(World.ownsRow.lt ho1 k hk).1)
structure Fy (X Y:Nat) (w w':World):Prop where
 os:w'.os=w.os
 tape:w'.tape=w.tape
 output:w'.output=w.output
 size:w.heap.size<=w'.heap.size
 block:∀ k,k < w.heap.size->k≠X->k≠Y->w'.heap[k]?=w.heap[k]?
theorem Fy.of {X Y:Nat}{a b:World}(h:Fx X a b):Fy X Y a b:=⟨h.os,h.tape,h.output,h.size,fun k hk h1 _=>h.block k hk (fun e=>h1 (Option.some.inj e))⟩
theorem Fy.trans {X Y:Nat}{a b c:World}(h:Fy X Y a b) (k:Fy X Y b c):Fy X Y a c:=
 ⟨k.os.trans h.os,k.tape.trans h.tape,k.output.trans h.output,Nat.le_trans h.size k.size,fun j hj h1 h2=>(k.block j (Nat.lt_of_lt_of_le hj h.size) h1 h2).trans (h.block j hj h1 h2)⟩
theorem Fy.setY {X Y i:Nat}{a b:World}(h:Fy X Y a b) (u:Value):Fy X Y a (b.setCell ⟨Y,i,none⟩ u):=
 ⟨h.os,h.tape,h.output,by simpa using h.size,fun k hk h1 h2=>(Below.heap_setCell _ _ _ _ (fun e=>h2 e)).trans (h.block k hk h1 h2)⟩
theorem Fx.andY {X Y:Nat}{a b c:World}(h:Fx X a b) (k:Fy X Y b c) (hY:a.heap.size<=Y):Fx X a c:=
 ⟨k.os.trans h.os,k.tape.trans h.tape,k.output.trans h.output,Nat.le_trans h.size k.size,fun j hj h1=>(k.block j (Nat.lt_of_lt_of_le hj h.size) (fun e=>h1 (congrArg some e)) (by omega)).trans (h.block j hj h1)⟩
theorem Bn.fy {w w':World}{X Y N:Nat}{c:Value}{cs:List Value}(h:Bn w N (c :: cs)) (hf:Fy X Y w w') (h1:N≠X) (h2:N≠Y):Bn w' N (c :: cs):=h.blk (hf.block N h.lt h1 h2)
