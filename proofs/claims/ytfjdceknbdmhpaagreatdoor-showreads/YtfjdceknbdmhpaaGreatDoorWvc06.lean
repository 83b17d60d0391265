import Derived.Test.YtfjdceknbdmhpaaGreatDoorWvc05
import Derived.WalkSmall
import Derived.BigQuiet
import Derived.Deep.QuietTactic
import Derived.Shelf.LaysM
import Derived.Shelf.Strconv.Itoa4
import Derived.Test.YtfjdceknbdmhpaaGreatDoorRows
import Derived.Test.YtfjdceknbdmhpaaGreatDoorWvc02
/- The program's reader in memory: its operands, and the signs that wait; what is small. -/
namespace Go.Proofs.YtfjdceknbdmhpaaGreatDoor
open Go.RowKit Go.Lib
set_option linter.unusedSimpArgs false
set_option linter.unusedVariables false
attribute [local go_sem ↓] Go.wp_at_zero Go.wp_at_succ
def exX (x:Sx):Value:=exV x.1 x.2
theorem exX_form (x:Sx):exX x=.nilIface∨∃ u y,exX x=.iface u y:=exV_form x.1 x.2
theorem exX_mk2 (s:ByteArray) (x y:Sx):exX (mk2 s x y)=.iface 198 (.agg #[.string s,exX x,exX y]):=foldS_mk2 _ s x y
theorem exX_not (x:Sx):exX (mk1 3 x)=.iface 195 (.agg #[exX x]):=rfl
theorem exX_neg (x:Sx):exX (mk1 4 x)=.iface 196 (.agg #[exX x]):=rfl
theorem exX_lit (n:Int):exX (mk0 1 n ⟨#[]⟩)=.iface 191 (.agg #[.int .i64 n]):=rfl
theorem exX_ref (s:ByteArray):exX (mk0 2 0 s)=.iface 193 (.agg #[.string s]):=rfl
/-- A sign's cells. -/
def cel2 (s:Sg2):List Value:=[.string ⟨s.1.toArray⟩,.int .i64 (s.2:Int)]
def cels2 (l:List Sg2):List Value:=l.flatMap cel2
theorem cels2_app (a b:List Sg2):cels2 (a++b)=cels2 a++cels2 b:=by simp [cels2]
theorem cels2_len (l:List Sg2):(cels2 l).length=l.length*2:=by
 induction l with
 | nil=>rfl
 | cons a r ih=>simp [cels2,cel2] at ih ⊢;omega
/-- The reader in block X: its two rows lie behind it, apart. -/
structure Rdr (w:World) (X:Nat) (y:Yd) (vv ww:Value):Prop where
 b:B4 w X vv ww (.int .i64 (y.o:Int)) (.bool y.b)
 v:w.ownsRow (X+1) 130 1 vv y.V.length (y.V.reverse.map exX)
 w:w.ownsRow (X+1) 347 2 ww y.W.length (cels2 y.W.reverse)
 a:∀ g,vv.ownBlock=some g→ww.ownBlock≠some g
theorem own_keep {w w':World} {base e size n:Nat} {v:Value} {xs:List Value} (h:w.ownsRow base e size v n xs) (hk:∀ g,v.ownBlock=some g→w'.heap[g]?=w.heap[g]?):w'.ownsRow base e size v n xs:=ownsRow_keep h hk
theorem Rdr.on {w w':World} {X:Nat} {y:Yd} {vv ww:Value} (h:Rdr w X y vv ww) (hb:Below w.heap.size w w'):Rdr w' X y vv ww:=
 ⟨h.b.keep hb,own_on h.v hb (Nat.le_refl _),own_on h.w hb (Nat.le_refl _),h.a⟩
theorem Rdr.drew {w:World} {X:Nat} {y:Yd} {vv ww:Value} (h:Rdr w X y vv ww):Rdr w.drew X y vv ww:=⟨⟨h.b.c0,h.b.c1,h.b.c2,h.b.c3,h.b.f0,h.b.f1,h.b.f2,h.b.f3⟩,h.v,h.w,h.a⟩
theorem Rdr.drewN {w:World} {X:Nat} {y:Yd} {vv ww:Value} (h:Rdr w X y vv ww) (m:Nat):Rdr (w.drewN m) X y vv ww:=h.on ⟨rfl,rfl,rfl,Nat.le_refl _,fun _ _=>rfl⟩
theorem Rdr.lt {w:World} {X:Nat} {y:Yd} {vv ww:Value} (h:Rdr w X y vv ww):X < w.heap.size:=h.b.lt
/-- Nothing has turned but the reader, its two rows, and new blocks; the rows are where they were, or new. -/
structure Fr2 (X:Nat) (vv ww:Value) (w w':World) (vv' ww':Value):Prop where
 size:w.heap.size≤w'.heap.size
 block:∀ k,k < w.heap.size→k≠X→vv.ownBlock≠some k→ww.ownBlock≠some k→w'.heap[k]?=w.heap[k]?
 lv:∀ g,vv'.ownBlock=some g→vv.ownBlock=some g∨w.heap.size≤g
 lw:∀ g,ww'.ownBlock=some g→ww.ownBlock=some g∨w.heap.size≤g
theorem Fr2.refl (X:Nat) (vv ww:Value) (w:World):Fr2 X vv ww w w vv ww:=⟨Nat.le_refl _,fun _ _ _ _ _=>rfl,fun _ h=>.inl h,fun _ h=>.inl h⟩
theorem Fr2.on {X:Nat} {vv ww vv' ww':Value} {w w1 w2:World} (h:Fr2 X vv ww w w1 vv' ww') (hb:Below w1.heap.size w1 w2):Fr2 X vv ww w w2 vv' ww':=
 ⟨Nat.le_trans h.size hb.size,fun k hk a b c=>(hb.block k (Nat.lt_of_lt_of_le hk h.size)).trans (h.block k hk a b c),h.lv,h.lw⟩
theorem Fr2.setX {X:Nat} {vv ww vv' ww':Value} {w w1:World} (h:Fr2 X vv ww w w1 vv' ww') (i:Nat) (u:Value):Fr2 X vv ww w (w1.setCell ⟨X,i,none⟩ u) vv' ww':=
 ⟨by simpa using h.size,fun k hk a b c=>(Below.heap_setCell _ _ _ _ (fun e=>a e)).trans (h.block k hk a b c),h.lv,h.lw⟩
theorem Fr2.setV {X g:Nat} {vv ww vv' ww':Value} {w w1:World} (h:Fr2 X vv ww w w1 vv' ww') (hg:vv'.ownBlock=some g) (i:Nat) (u:Value):Fr2 X vv ww w (w1.setCell ⟨g,i,none⟩ u) vv' ww':=
 ⟨by simpa using h.size,fun k hk a b c=>(Below.heap_setCell _ _ _ _ (fun e=>by
  rcases h.lv g hg with q | q
  ·exact b (by rw [q];exact congrArg some e.symm)
  ·have:k=g:=e
   omega)).trans (h.block k hk a b c),h.lv,h.lw⟩
theorem Fr2.rows {X:Nat} {vv ww vv' ww' vv2 ww2:Value} {w w1:World} (h:Fr2 X vv ww w w1 vv' ww') (hv:vv2.ownBlock=vv'.ownBlock) (hw:ww2.ownBlock=ww'.ownBlock):Fr2 X vv ww w w1 vv2 ww2:=
 ⟨h.size,h.block,fun g hg=>h.lv g (hv ▸ hg),fun g hg=>h.lw g (hw ▸ hg)⟩
theorem Fr2.trans {X:Nat} {vv ww v1 u1 v2 u2:Value} {w w1 w2:World} (h:Fr2 X vv ww w w1 v1 u1) (k:Fr2 X v1 u1 w1 w2 v2 u2):Fr2 X vv ww w w2 v2 u2:=by
 refine ⟨Nat.le_trans h.size k.size,fun j hj a b c=>?_,fun g hg=>?_,fun g hg=>?_⟩
 ·rw [k.block j (Nat.lt_of_lt_of_le hj h.size) a (fun e=>?_) (fun e=>?_),h.block j hj a b c]
  ·rcases h.lv j e with q | q
   ·exact b q
   ·omega
  ·rcases h.lw j e with q | q
   ·exact c q
   ·omega
 ·rcases k.lv g hg with q | q
  ·exact h.lv g q
  ·exact .inr (Nat.le_trans h.size q)
 ·rcases k.lw g hg with q | q
  ·exact h.lw g q
  ·exact .inr (Nat.le_trans h.size q)
theorem own_form {w:World} {base e size n:Nat} {v:Value} {xs:List Value} (h:w.ownsRow base e size v n xs):∃ a cap,v=.slice a n cap∧n≤cap:=by
 rcases h.2 with ⟨h1,h2⟩ | ⟨g,cap,cur,h1,_,_,h3,_⟩
 ·exact ⟨none,0,by rw [h1,h2],by omega⟩
 ·exact ⟨_,_,h1,h3⟩
/-- The last sign that waits, in memory. -/
theorem own_last2 {w:World} {base e:Nat} {v:Value} {s:Sg2} {W:List Sg2} (h:w.ownsRow base e 2 v (s :: W).length (cels2 (s :: W).reverse)):∃ g cap,v=.slice (some ⟨g,0,none⟩) (W.length+1) cap∧W.length+1≤cap∧cap≤maxLen∧base≤g∧g < w.heap.size∧
  w.cell? ⟨g,W.length*2,none⟩=some (.string ⟨s.1.toArray⟩)∧w.cell? ⟨g,W.length*2+1,none⟩=some (.int .i64 (s.2:Int))∧w.ownsRow base e 2 (.slice (some ⟨g,0,none⟩) W.length cap) W.length (cels2 W.reverse):=by
 rw [List.length_cons,List.reverse_cons,cels2_app] at h
 have hl:(cels2 W.reverse).length=W.length*2:=by rw [cels2_len,List.length_reverse]
 have hc:=fun g=>World.ownsRow.cells h (g:=g)
 have h':=h
 rcases h.2 with ⟨_,h2⟩ | ⟨g,cap,cur,rfl,hb,hg,hnc,hcm,hcs,htake⟩
 ·omega
 ·have c0:=hc g rfl (W.length*2) (.string ⟨s.1.toArray⟩) (by rw [List.getElem?_append_right (by omega),hl,Nat.sub_self];rfl)
  have c1:=hc g rfl (W.length*2+1) (.int .i64 (s.2:Int)) (by rw [List.getElem?_append_right (by omega),hl,Nat.add_sub_cancel_left];rfl)
  have hp:∀ i,(⟨g,0,none⟩:Addr).add i=⟨g,i,none⟩:=fun i=>by unfold Addr.add;split <;> simp_all
  rw [hp] at c0 c1
  exact ⟨g,cap,rfl,hnc,hcm,hb,(Array.getElem?_eq_some_iff.1 hg).1,c0,c1,ownsRow_pop hl h'⟩
theorem own_nil {w:World} {base e size:Nat} {v:Value} {xs:List Value} (h:w.ownsRow base e size v 0 xs):∃ a cap,v=.slice a 0 cap:=by
 obtain ⟨a,cap,rfl,_⟩:=own_form h
 exact ⟨a,cap,rfl⟩
set_option maxHeartbeats 1000000 in
theorem last_any {w:World} {X:Nat} {y:Yd} {vv ww:Value} (h:Rdr w X y vv ww) (hl:y.W.length≤4000):Calls Tryz.prog 296 #[.pointer (some ⟨X,0,none⟩)] w fun e w'=>e=.returned (.int .i64 (topL y.W:Int))∧∃ m,w'=w.drewN m:=by
 have hc:=h.b.c1
 have hw:=h.w
 clear h
 obtain ⟨V,W,o,b⟩:=y
 simp only at hc hw hl ⊢
 cases W with
 | nil=>
  obtain ⟨a,cap,rfl⟩:=own_nil hw
  clear hw
  go_enter Tryz.func296,Tryz.ntmps296
  go_wp2
  go_ret
  exact ⟨rfl,0,rfl⟩
 | cons s W=>
  obtain ⟨g,cap,rfl,h1,h2,h3,h4,c0,c1,_⟩:=own_last2 hw
  rw [List.length_cons] at hl
  have i1:((W.length:Int)+1 == 0)=false:=beq_eq_false_iff_ne.2 (by omega)
  have i2:IntKind.i64.wrap ((W.length:Int)+1 - 1)=(W.length:Int):=by rw [IntKind.wrap_i64];omega
  have i3:(W.length:Int) < (W.length:Int)+1:=by omega
  have i4:(0:Int)≤(W.length:Int):=by omega
  clear hw
  go_enter Tryz.func296,Tryz.ntmps296
  go_wp2
  go_quiet (fail)
  go_wp2
  go_ret
  exact ⟨rfl,_,rfl⟩
end Go.Proofs.YtfjdceknbdmhpaaGreatDoor
/- Contracts of the library at this program. -/
namespace Go.Proofs.YtfjdceknbdmhpaaGreatDoor
open Go.Shelf
set_option linter.unusedVariables false
def renF:Ren:={ f:=fun x=>match x with | 173=>48 | 246=>85 | 283=>147 | 284=>148 | 285=>149 | 286=>150 | 129=>201 | 317=>200 | 318=>202 | 319=>203 | 320=>204 | 337=>236 | 338=>237 | n=>n,t:=fun x=>match x with | 2=>2 | 3=>3 | 9=>9 | 4=>4 | 171=>211 | 0=>0 | 53=>212 | 37=>76 | 5=>5 | 173=>215 | 212=>252 | 51=>253 | 20=>20 | 213=>254 | 46=>255 | 232=>307 | 233=>308 | n=>n,g:=fun x=>match x with | 17=>0 | 18=>3 | 19=>4 | n=>n }
theorem laysF:LaysM.n173 Tryz.prog renF:=
 {mixed:=by kernel_rfl,f129:=Tryz.func201.trans (congrArg some (by kernel_rfl)),f173:=Tryz.func48.trans (congrArg some (by kernel_rfl)),f246:=Tryz.func85.trans (congrArg some (by kernel_rfl)),f283:=Tryz.func147.trans (congrArg some (by kernel_rfl)),f284:=Tryz.func148.trans (congrArg some (by kernel_rfl)),f285:=Tryz.func149.trans (congrArg some (by kernel_rfl)),f286:=Tryz.func150.trans (congrArg some (by kernel_rfl)),f317:=Tryz.func200.trans (congrArg some (by kernel_rfl)),f318:=Tryz.func202.trans (congrArg some (by kernel_rfl)),f319:=Tryz.func203.trans (congrArg some (by kernel_rfl)),f320:=Tryz.func204.trans (congrArg some (by kernel_rfl)),f337:=Tryz.func236.trans (congrArg some (by kernel_rfl)),f338:=Tryz.func237.trans (congrArg some (by kernel_rfl)),t0:=Tryz.underlying0,a0:=Tryz.isAgg0,z0:=Tryz.sizeOf0,v0:=Tryz.zeroValue0,t2:=Tryz.underlying2,a2:=Tryz.isAgg2,z2:=Tryz.sizeOf2,v2:=Tryz.zeroValue2,t3:=Tryz.underlying3,a3:=Tryz.isAgg3,z3:=Tryz.sizeOf3,v3:=Tryz.zeroValue3,t4:=Tryz.underlying4,a4:=Tryz.isAgg4,z4:=Tryz.sizeOf4,v4:=Tryz.zeroValue4,t5:=Tryz.underlying5,a5:=Tryz.isAgg5,z5:=Tryz.sizeOf5,v5:=Tryz.zeroValue5,t9:=Tryz.underlying9,a9:=Tryz.isAgg9,z9:=Tryz.sizeOf9,v9:=Tryz.zeroValue9,t20:=Tryz.underlying20,a20:=Tryz.isAgg20,z20:=Tryz.sizeOf20,v20:=Tryz.zeroValue20,t37:=Tryz.underlying76,a37:=Tryz.isAgg76,z37:=Tryz.sizeOf76,v37:=Tryz.zeroValue76,t46:=Tryz.underlying255,a46:=Tryz.isAgg255,z46:=Tryz.sizeOf255,v46:=Tryz.zeroValue255,t51:=Tryz.underlying253,a51:=Tryz.isAgg253,z51:=Tryz.sizeOf253,v51:=Tryz.zeroValue253,t53:=Tryz.underlying212,a53:=Tryz.isAgg212,z53:=Tryz.sizeOf212,v53:=Tryz.zeroValue212,t171:=Tryz.underlying211,a171:=Tryz.isAgg211,z171:=Tryz.sizeOf211,v171:=Tryz.zeroValue211,t173:=Tryz.underlying215,a173:=Tryz.isAgg215,z173:=Tryz.sizeOf215,v173:=Tryz.zeroValue215,t212:=Tryz.underlying252,a212:=Tryz.isAgg252,z212:=Tryz.sizeOf252,v212:=Tryz.zeroValue252,t213:=Tryz.underlying254,a213:=Tryz.isAgg254,z213:=Tryz.sizeOf254,t232:=Tryz.underlying307,a232:=Tryz.isAgg307,z232:=Tryz.sizeOf307,v232:=Tryz.zeroValue307,t233:=Tryz.underlying308,a233:=Tryz.isAgg308,z233:=Tryz.sizeOf308,v233:=Tryz.zeroValue308,g17:=by kernel_rfl,g18:=by kernel_rfl,g19:=by kernel_rfl,i0:=by kernel_rfl,i2:=by kernel_rfl,i3:=by kernel_rfl,i4:=by kernel_rfl,i5:=by kernel_rfl,i9:=by kernel_rfl,i20:=by kernel_rfl,i37:=by kernel_rfl,i46:=by kernel_rfl,i51:=by kernel_rfl,i53:=by kernel_rfl,i171:=by kernel_rfl,i173:=by kernel_rfl,i212:=by kernel_rfl,i232:=by kernel_rfl,i233:=by kernel_rfl,m17:=by kernel_rfl,m18:=by kernel_rfl,m19:=by kernel_rfl }
end Go.Proofs.YtfjdceknbdmhpaaGreatDoor
/- What the program's Letter, digit, inWord, runSize, remarkSize, Name do. -/
namespace Go.Proofs.YtfjdceknbdmhpaaGreatDoor
open Go.RowKit Go.Lib
set_option linter.unusedSimpArgs false
set_option linter.unusedVariables false
/-- What a range tells of a rune. -/
def rn (r:Int):Int:=if r = -1 then 65533 else r
theorem rn_small {r k:Int} (hk:0≤k∧k < 128):rn r=k↔r=k:=by unfold rn;split <;> omega
theorem letter_rn (r:Int):letter (rn r)=letter r:=by
 unfold rn
 split
 ·rename_i h;subst h;decide
 ·rfl
theorem dgt_rn (r:Int):dgt (rn r)=dgt r:=by
 unfold rn
 split
 ·rename_i h;subst h;decide
 ·rfl
theorem insd_rn (r:Int):insd (rn r)=insd r:=by
 unfold rn
 split
 ·rename_i h;subst h;decide
 ·rfl
theorem dec_nx {s:ByteArray} {pos:Nat} (h:pos < s.size):((Utf8.decode s pos).1:Int)=rn (nx ((bl s).drop pos)).1∧(Utf8.decode s pos).2=(nx ((bl s).drop pos)).2:=by
 have hne:=drop_ne (l:=bl s) (k:=pos) (by rw [bl_length];exact h)
 have hd:decodeL ((bl s).drop pos)=Utf8.decode s pos:=decodeL_drop s pos
 refine ⟨?_,by rw [nx_size hne,hd]⟩
 unfold nx rn
 rw [if_neg hne,hd]
 by_cases hc:(Utf8.decode s pos).1=65533∧(Utf8.decode s pos).2≤1
 ·rw [if_pos hc,if_pos rfl,hc.1];rfl
 ·rw [if_neg hc,if_neg (by simp only;omega)]
/-- m runes, of k bytes, lie behind us. -/
structure Gone (l:List UInt8) (m k:Nat):Prop where
 le:k≤l.length
 left:runes (l.drop k)=(runes l).drop m
 size:(byt ((runes l).take m)).length=k
 few:m≤k
theorem Gone.zero (l:List UInt8):Gone l 0 0:=⟨by omega,rfl,rfl,by omega⟩
theorem Gone.step {l:List UInt8} {m k:Nat} (h:Gone l m k) (hk:k < l.length):Gone l (m+1) (k+(nx (l.drop k)).2):=by
 have hne:=drop_ne hk
 have hc:=runes_cons hne
 have hle:=nx_le hne
 have hps:=nx_pos hne
 rw [List.length_drop] at hle
 have hd:(runes l).drop m=((nx (l.drop k)).1,(l.drop k).take (nx (l.drop k)).2) :: runes ((l.drop k).drop (nx (l.drop k)).2):=by rw [← h.left,hc]
 have hd1:(runes l).drop (m+1)=runes (l.drop (k+(nx (l.drop k)).2)):=by
  have:=congrArg List.tail hd
  rw [List.tail_drop,List.tail_cons,List.drop_drop] at this
  exact this
 refine ⟨by omega,hd1.symm,?_,by have:=h.few;omega⟩
 have e1:=byt_split (runes l) (m+1)
 rw [hd1,byt_runes _ _ (Nat.le_refl _),byt_runes _ _ (Nat.le_refl _),List.length_drop] at e1
 omega
theorem Gone.take {l:List UInt8} {m k:Nat} (h:Gone l m k) (hk:k < l.length):(runes l).take (m+1)=(runes l).take m++[((nx (l.drop k)).1,(l.drop k).take (nx (l.drop k)).2)]:=by
 have hc:=runes_cons (drop_ne hk)
 rw [h.left] at hc
 have hlt:m < (runes l).length:=by
  rcases Nat.lt_or_ge m (runes l).length with h1 | h1
  ·exact h1
  ·rw [List.drop_eq_nil_of_le h1] at hc;cases hc
 rw [List.take_succ_eq_append_getElem hlt]
 rw [List.drop_eq_getElem_cons hlt] at hc
 rw [(List.cons.inj hc).1]
theorem rest_of:∀ (m:Nat) (R:List Ru),m≤R.length→(∀ v∈R.take m,v.1≠10)→(R.drop m=[]∨∃ v t,R.drop m=v :: t∧v.1=10)→rest R=m
 | 0,R,_,_,h=>by
  rcases h with h | ⟨v,t,h,h10⟩
  ·rw [List.drop_zero] at h;rw [h];rfl
  ·rw [List.drop_zero] at h;rw [h];unfold rest;rw [if_pos h10]
 | m+1,[],hm,_,_=>by simp at hm
 | m+1,v :: t,hm,h1,h2=>by
  unfold rest
  rw [if_neg (h1 v (by simp)),rest_of m t (by simpa using hm) (fun x hx=>h1 x (by simp [hx])) (by simpa using h2)]
/-- How many bytes a remark has, ahead. -/
def rsb (l:List UInt8):Nat:=(byt ((runes l).take (rest (runes l)))).length
theorem Gone.rest_end {l:List UInt8} {m k:Nat} (h:Gone l m k) (hn:∀ v∈(runes l).take m,v.1≠10) (hs:l.length≤k∨(nx (l.drop k)).1=10) (hm:m≤(runes l).length):rest (runes l)=m∧rsb l=k:=by
 have e:rest (runes l)=m:=by
  refine rest_of m _ hm hn ?_
  rw [← h.left]
  by_cases hk:l.length≤k
  ·left;rw [List.drop_eq_nil_of_le hk];rfl
  ·right
   refine ⟨_,_,runes_cons (drop_ne (by omega)),?_⟩
   rcases hs with hs | hs
   ·omega
   ·exact hs
 exact ⟨e,by unfold rsb;rw [e];exact h.size⟩
theorem pLetter_any (r:Int) (w:World):Calls Tryz.prog 142 #[.int .i32 r] w fun e w'=>e=.returned (.bool (letter r))∧w=w':=by
 rw [letter_eq]
 go_enter Tryz.func142,Tryz.ntmps142
 go_wp2
 all_goals go_ret
 all_goals (refine ⟨ret_bool ?_,rfl⟩;first | rfl | (rw [Bool.eq_iff_iff];simp;omega) | (rw [Bool.eq_iff_iff];simp [*];omega))
theorem pDigit_any (r:Int) (w:World):Calls Tryz.prog 144 #[.int .i32 r] w fun e w'=>e=.returned (.bool (dgt r))∧w=w':=by
 rw [dgt_eq]
 go_enter Tryz.func144,Tryz.ntmps144
 go_wp2
 all_goals go_ret
 all_goals (refine ⟨ret_bool ?_,rfl⟩;first | rfl | (rw [Bool.eq_iff_iff];simp;omega) | (rw [Bool.eq_iff_iff];simp [*];omega))
theorem pInside_any (r:Int) (w:World):Calls Tryz.prog 158 #[.int .i32 r] w fun e w'=>e=.returned (.bool (insd r))∧w=w':=by
 have h1:=pLetter_any r w
 have h2:=pDigit_any r w
 have h3:insd r=(letter r || dgt r || r == 95):=rfl
 rw [h3]
 cases ha:letter r <;> rw [ha] at h1
 ·cases hb:dgt r <;> rw [hb] at h2
  ·go_enter Tryz.func158,Tryz.ntmps158
   go_wp2_with (first
    | (go_at_call 142;refine h1.mono ?_;rintro e w' ⟨rfl,rfl⟩)
    | (go_at_call 144;refine h2.mono ?_;rintro e w' ⟨rfl,rfl⟩))
   go_ret
   exact ⟨ret_bool (by simp),rfl⟩
  ·go_enter Tryz.func158,Tryz.ntmps158
   go_wp2_with (first
    | (go_at_call 142;refine h1.mono ?_;rintro e w' ⟨rfl,rfl⟩)
    | (go_at_call 144;refine h2.mono ?_;rintro e w' ⟨rfl,rfl⟩))
   go_ret
   exact ⟨ret_bool (by simp),rfl⟩
 ·go_enter Tryz.func158,Tryz.ntmps158
  go_wp2_with (first
   | (go_at_call 142;refine h1.mono ?_;rintro e w' ⟨rfl,rfl⟩)
   | (go_at_call 144;refine h2.mono ?_;rintro e w' ⟨rfl,rfl⟩))
  go_ret
  exact ⟨ret_bool (by simp),rfl⟩
set_option maxHeartbeats 400000 in
theorem pRun_any (s:ByteArray) (w:World) (hs:s.size≤140737488351232) :
  Calls Tryz.prog 143 #[.string s] w fun e w'=>e=.returned (.int .i64 (spb (bl s):Int))∧Below w.heap.size w w':=by
 go_enter Tryz.func143,Tryz.ntmps143
 go_wp2
 go_loopw [] (fun wr=>∃ (m k:Nat),wr.heap[w.heap.size]?=some (.stringIter s k)∧Hid (Adv (bl s) m k)∧Below w.heap.size w wr) (fun wr=>s.size - wr.iterPos w.heap.size)
 case atStart=>exact ⟨0,0,World.iter_heap w s 0,Adv.zero _,(Below.refl _ w).alloc (Nat.le_refl _) _⟩
 case round=>
  obtain ⟨m,k,hit,ha,hb⟩:=hrel
  have hle:=ha.out.le
  rw [bl_length] at hle
  by_cases hk:k < s.size
  ·have hnx:∀ ty,(Instr.next (.pointer (some ⟨w.heap.size,0,none⟩)) true ty).run Tryz.prog wr=_:=fun ty=>Lib.run_next_any_at wr w.heap.size s k ty hit hk
   obtain ⟨d1,d2⟩:=dec_nx hk
   have hne:=drop_ne (l:=bl s) (by rw [bl_length];exact hk)
   have hps:=nx_pos hne
   have hnl:=nx_le hne
   rw [List.length_drop,bl_length] at hnl
   obtain ⟨r,hr⟩:∃ r,(nx ((bl s).drop k)).1=r:=⟨_,rfl⟩
   obtain ⟨q,hq⟩:∃ q,(nx ((bl s).drop k)).2=q:=⟨_,rfl⟩
   rw [hr] at d1
   rw [hq] at d2 hps hnl
   rw [d1,d2] at hnx
   have hit2:=Lib.iterAt_heap wr w.heap.size s k (k+q) hit
   have hb2:=Lib.below_iterAt hb (k:=w.heap.size) (Nat.le_refl _) s (k+q)
   have h26:=fun w1=>pInside_any (rn r) w1
   rw [insd_rn] at h26
   cases hi:insd r with
   | true=>
    rw [hi] at h26
    have hA:Hid (Adv (bl s) (m+1) (k+q)):=by have:=ha.out.step (by rw [bl_length];exact hk) (by rw [hr];exact hi);rw [hq] at this;exact this
    clear hr hq hne hi d1 d2
    go_wp2_with (first
     | (go_at_call 158;refine (h26 _).mono ?_;rintro e w' ⟨rfl,rfl⟩))
    go_roundw
    case rel=>exact ⟨m+1,k+q,hit2,hA,hb2⟩
    case measure=>rw [iterPos_of hit2,iterPos_of hit];omega
   | false=>
    rw [hi] at h26
    have hE:Hid (spn (runes (bl s))=m):=ha.out.stop (.inr (by rw [hr];exact hi))
    have hZ:Hid (spb (bl s)=k):=by show spb (bl s)=k;unfold spb;rw [hE.out];exact ha.out.size
    clear hr hq hne hi d1 d2
    go_wp2_with (first
     | (go_at_call 158;refine (h26 _).mono ?_;rintro e w' ⟨rfl,rfl⟩))
    go_ret
    rw [hZ.out]
    exact ⟨rfl,hb2⟩
  ·have hnx:∀ ty,(Instr.next (.pointer (some ⟨w.heap.size,0,none⟩)) true ty).run Tryz.prog wr=_:=fun ty=>Lib.run_next_end_at wr w.heap.size s k ty hit hk
   have hE:Hid (spn (runes (bl s))=m):=ha.out.stop (.inl (by rw [bl_length];omega))
   have hZ:Hid (spb (bl s)=k):=by show spb (bl s)=k;unfold spb;rw [hE.out];exact ha.out.size
   have hks:k=s.size:=by omega
   go_wp2
   go_ret
   rw [hZ.out,hks]
   exact ⟨rfl,hb⟩
set_option maxHeartbeats 400000 in
theorem pRemark_any (s:ByteArray) (w:World) (hs:s.size≤140737488351232) :
  Calls Tryz.prog 141 #[.string s] w fun e w'=>e=.returned (.int .i64 (rsb (bl s):Int))∧Below w.heap.size w w':=by
 go_enter Tryz.func141,Tryz.ntmps141
 go_wp2
 go_loopw [] (fun wr=>∃ (m k:Nat),wr.heap[w.heap.size]?=some (.stringIter s k)∧Hid (Gone (bl s) m k)∧Hid (∀ v∈(runes (bl s)).take m,v.1≠10)∧Hid (m≤(runes (bl s)).length)∧Below w.heap.size w wr) (fun wr=>s.size - wr.iterPos w.heap.size)
 case atStart=>exact ⟨0,0,World.iter_heap w s 0,Gone.zero _,fun v hv=>by simp at hv,Nat.zero_le _,(Below.refl _ w).alloc (Nat.le_refl _) _⟩
 case round=>
  obtain ⟨m,k,hit,ha,hno,hmr,hb⟩:=hrel
  have hle:=ha.out.le
  rw [bl_length] at hle
  by_cases hk:k < s.size
  ·have hnx:∀ ty,(Instr.next (.pointer (some ⟨w.heap.size,0,none⟩)) true ty).run Tryz.prog wr=_:=fun ty=>Lib.run_next_any_at wr w.heap.size s k ty hit hk
   obtain ⟨d1,d2⟩:=dec_nx hk
   have hkl:k < (bl s).length:=by rw [bl_length];exact hk
   have hne:=drop_ne hkl
   have hps:=nx_pos hne
   have hnl:=nx_le hne
   rw [List.length_drop,bl_length] at hnl
   have hst:=ha.out.step hkl
   have htk:=ha.out.take hkl
   have hre:=fun h=>ha.out.rest_end hno.out (.inr h) hmr.out
   have hml:m < (runes (bl s)).length:=by
    have:=congrArg List.length htk
    rw [List.length_append,List.length_take,List.length_take] at this
    simp at this
    omega
   obtain ⟨r,hr⟩:∃ r,(nx ((bl s).drop k)).1=r:=⟨_,rfl⟩
   obtain ⟨q,hq⟩:∃ q,(nx ((bl s).drop k)).2=q:=⟨_,rfl⟩
   rw [hr] at d1 htk hre
   rw [hq] at d2 hps hnl hst htk
   rw [d1,d2] at hnx
   have hit2:=Lib.iterAt_heap wr w.heap.size s k (k+q) hit
   have hb2:=Lib.below_iterAt hb (k:=w.heap.size) (Nat.le_refl _) s (k+q)
   have h10:=rn_small (r:=r) (k:=10) (by omega)
   by_cases hi:r=10
   ·have e1:(rn r == 10)=true:=by rw [h10.2 hi];rfl
    have hZ:Hid (rsb (bl s)=k):=(hre hi).2
    clear hr hq hne hi d1 d2 htk hre hst h10
    go_wp2
    go_ret
    rw [hZ.out]
    exact ⟨rfl,hb2⟩
   ·have e1:(rn r == 10)=false:=beq_eq_false_iff_ne.2 (fun e=>hi (h10.1 e))
    have hN:Hid (∀ v∈(runes (bl s)).take (m+1),v.1≠10):=fun v hv=>by
     rw [htk] at hv
     rcases List.mem_append.1 hv with hv | hv
     ·exact hno.out v hv
     ·simp only [List.mem_singleton] at hv;rw [hv];exact hi
    have hA:Hid (Gone (bl s) (m+1) (k+q)):=hst
    have hM:Hid (m+1≤(runes (bl s)).length):=hml
    clear hr hq hne hi d1 d2 htk hre hst h10 hml
    go_wp2
    go_roundw
    case rel=>exact ⟨m+1,k+q,hit2,hA,hN,hM,hb2⟩
    case measure=>rw [iterPos_of hit2,iterPos_of hit];omega
  ·have hnx:∀ ty,(Instr.next (.pointer (some ⟨w.heap.size,0,none⟩)) true ty).run Tryz.prog wr=_:=fun ty=>Lib.run_next_end_at wr w.heap.size s k ty hit hk
   have hZ:Hid (rsb (bl s)=k):=(ha.out.rest_end hno.out (.inl (by rw [bl_length];omega)) hmr.out).2
   have hks:k=s.size:=by omega
   go_wp2
   go_ret
   rw [hZ.out,hks]
   exact ⟨rfl,hb⟩
theorem nameS_short {l:List UInt8} (h:spb l≠l.length):nameS l=false:=by
 unfold nameS
 have:((spb l:Int) == (l.length:Int))=false:=beq_eq_false_iff_ne.2 (by omega)
 rw [this];simp
theorem nameS_head {l:List UInt8} (h:letter (nx l).1=false):nameS l=false:=by
 unfold nameS
 rw [h];simp
theorem nameS_all {l:List UInt8} {m:Nat} (h1:letter (nx l).1=true) (h2:spb l=l.length) (h3:spn (runes l)=m):nameS l=decide ((m:Int)≤24):=by
 unfold nameS
 rw [h1,h2,h3]
 rw [Bool.eq_iff_iff]
 simp
 omega
set_option maxHeartbeats 1000000 in
theorem pName_any (s:ByteArray) (w:World) (hs:s.size≤140737488351232) :
  Calls Tryz.prog 89 #[.string s] w fun e w'=>e=.returned (.bool (nameS (bl s)))∧Below w.heap.size w w':=by
 go_enter Tryz.func89,Tryz.ntmps89
 go_wp2
 go_loopw [3] (fun c wr=>∃ (m k:Nat),c=.int .i64 (m:Int)∧wr.heap[w.heap.size]?=some (.stringIter s k)∧Hid (Adv (bl s) m k)∧(m=0→k=0)∧Hid (0 < m→letter (nx (bl s)).1=true)∧Below w.heap.size w wr) (fun _ wr=>s.size - wr.iterPos w.heap.size)
 case atStart=>exact ⟨0,0,rfl,World.iter_heap w s 0,Adv.zero _,fun _=>rfl,fun h=>by omega,(Below.refl _ w).alloc (Nat.le_refl _) _⟩
 case round=>
  obtain ⟨m,k,rfl,hit,ha,hm0,hlt,hb⟩:=hrel
  have hle:=ha.out.le
  have hfw:=ha.out.few
  rw [bl_length] at hle
  by_cases hk:k < s.size
  ·have hnx:∀ ty,(Instr.next (.pointer (some ⟨w.heap.size,0,none⟩)) true ty).run Tryz.prog wr=_:=fun ty=>Lib.run_next_any_at wr w.heap.size s k ty hit hk
   obtain ⟨d1,d2⟩:=dec_nx hk
   have hne:=drop_ne (l:=bl s) (by rw [bl_length];exact hk)
   have hps:=nx_pos hne
   have hnl:=nx_le hne
   rw [List.length_drop,bl_length] at hnl
   obtain ⟨r,hr⟩:∃ r,(nx ((bl s).drop k)).1=r:=⟨_,rfl⟩
   obtain ⟨q,hq⟩:∃ q,(nx ((bl s).drop k)).2=q:=⟨_,rfl⟩
   rw [hr] at d1
   rw [hq] at d2 hps hnl
   rw [d1,d2] at hnx
   have hit2:=Lib.iterAt_heap wr w.heap.size s k (k+q) hit
   have hb2:=Lib.below_iterAt hb (k:=w.heap.size) (Nat.le_refl _) s (k+q)
   have h26:=fun w1=>pInside_any (rn r) w1
   have h27:=fun w1=>pLetter_any (rn r) w1
   rw [insd_rn] at h26
   rw [letter_rn] at h27
   cases hi:insd r with
   | true=>
    rw [hi] at h26
    have hA:Hid (Adv (bl s) (m+1) (k+q)):=by have:=ha.out.step (by rw [bl_length];exact hk) (by rw [hr];exact hi);rw [hq] at this;exact this
    by_cases hmz:m=0
    ·have e0:((m:Int) == 0)=true:=by simp;omega
     have hk0:=hm0 hmz
     have hrr:(nx (bl s)).1=r:=by rw [← hr,hk0];rfl
     cases hl:letter r with
     | true=>
      rw [hl] at h27
      have hL:Hid (0 < m+1→letter (nx (bl s)).1=true):=fun _=>by rw [hrr];exact hl
      clear hr hq hne hi d1 d2 hrr hl hm0 hmz hk0
      go_wp2_with (first
       | (go_at_call 158;refine (h26 _).mono ?_;rintro e w' ⟨rfl,rfl⟩)
       | (go_at_call 142;refine (h27 _).mono ?_;rintro e w' ⟨rfl,rfl⟩))
      go_roundw
      case rel=>exact ⟨m+1,k+q,by go_num,hit2,hA,fun h=>by omega,hL,hb2⟩
      case measure=>rw [iterPos_of hit2,iterPos_of hit];omega
     | false=>
      rw [hl] at h27
      have hF:Hid (nameS (bl s)=false):=nameS_head (by rw [hrr];exact hl)
      clear hr hq hne hi d1 d2 hrr hl hm0 hmz hk0
      go_wp2_with (first
       | (go_at_call 158;refine (h26 _).mono ?_;rintro e w' ⟨rfl,rfl⟩)
       | (go_at_call 142;refine (h27 _).mono ?_;rintro e w' ⟨rfl,rfl⟩))
      go_ret
      rw [hF.out]
      exact ⟨rfl,hb2⟩
    ·have e0:((m:Int) == 0)=false:=beq_eq_false_iff_ne.2 (by omega)
     have hL:Hid (0 < m+1→letter (nx (bl s)).1=true):=fun _=>hlt.out (by omega)
     clear hr hq hne hi d1 d2 hm0 hmz
     go_wp2_with (first
      | (go_at_call 158;refine (h26 _).mono ?_;rintro e w' ⟨rfl,rfl⟩))
     go_roundw
     case rel=>exact ⟨m+1,k+q,by go_num,hit2,hA,fun h=>by omega,hL,hb2⟩
     case measure=>rw [iterPos_of hit2,iterPos_of hit];omega
   | false=>
    rw [hi] at h26
    have hE:Hid (spn (runes (bl s))=m):=ha.out.stop (.inr (by rw [hr];exact hi))
    have hZ:Hid (spb (bl s)=k):=by show spb (bl s)=k;unfold spb;rw [hE.out];exact ha.out.size
    have hF:Hid (nameS (bl s)=false):=nameS_short (by rw [hZ.out,bl_length];omega)
    clear hr hq hne hi d1 d2 hm0
    go_wp2_with (first
     | (go_at_call 158;refine (h26 _).mono ?_;rintro e w' ⟨rfl,rfl⟩))
    go_ret
    rw [hF.out]
    exact ⟨rfl,hb2⟩
  ·have hnx:∀ ty,(Instr.next (.pointer (some ⟨w.heap.size,0,none⟩)) true ty).run Tryz.prog wr=_:=fun ty=>Lib.run_next_end_at wr w.heap.size s k ty hit hk
   have hE:Hid (spn (runes (bl s))=m):=ha.out.stop (.inl (by rw [bl_length];omega))
   have hZ:Hid (spb (bl s)=k):=by show spb (bl s)=k;unfold spb;rw [hE.out];exact ha.out.size
   have hks:k=s.size:=by omega
   by_cases hmz:m=0
   ·have hF:Hid (nameS (bl s)=false):=by
     have:bl s=[]:=List.eq_nil_of_length_eq_zero (by rw [bl_length];have:=hm0 hmz;omega)
     show nameS (bl s)=false
     rw [this];rfl
    subst hmz
    clear hm0
    go_wp2
    go_ret
    rw [hF.out]
    exact ⟨rfl,hb⟩
   ·have hF:Hid (nameS (bl s)=decide ((m:Int)≤24)):=nameS_all (hlt.out (by omega)) (by rw [hZ.out,hks];rfl) hE.out
    have e1:(1:Int)≤(m:Int):=by omega
    clear hm0
    go_wp2
    all_goals go_ret
    all_goals rw [hF.out]
    all_goals exact ⟨rfl,hb⟩
theorem nx_dB {l:List UInt8} {k:Nat} {d:UInt8} (h:k < l.length) (hd:l[k]=d):dgt (nx (l.drop k)).1=dB d∧(dB d=true→nx (l.drop k)=((d.toNat:Int),1)):=by
 have e:l.drop k=d :: l.drop (k+1):=by rw [List.drop_eq_getElem_cons h,hd]
 rw [e]
 by_cases hs:d.toNat < 128
 ·rw [nx_ascii hs]
  refine ⟨?_,fun _=>rfl⟩
  unfold dgt dB
  rw [Bool.eq_iff_iff]
  simp
  omega
 ·have hb:=nx_big hs (l.drop (k+1))
  have e1:dB d=false:=dB_no (by omega)
  rw [e1]
  refine ⟨decide_eq_false (by omega),fun h=>by cases h⟩
set_option maxHeartbeats 2000000 in
theorem pNumber_any (s:ByteArray) (w:World) (hs:s.size≤140737488351232) :
  Calls Tryz.prog 146 #[.string s] w fun e w'=>e=.returned (.bool (numB (bl s)))∧Below w.heap.size w w':=by
 have hlen:(bl s).length=s.size:=rfl
 by_cases h1:s.size < 1
 ·rw [numB_len (by omega)]
  have hz:s=⟨#[]⟩:=by
   apply ByteArray.ext
   exact Array.eq_empty_of_size_eq_zero (show s.data.size=0 by show s.size=0;omega)
  subst hz
  go_enter Tryz.func146,Tryz.ntmps146
  go_wp2
  go_ret
  exact ⟨rfl,Below.refl _ _⟩
 have he0:(s.toList == [])=false:=by
  rw [ByteArray.toList_eq,beq_eq_false_iff_ne]
  intro e
  have:=congrArg List.length e
  simp at this
  have h2:s.size=0:=by show s.data.size=0;rw [this];rfl
  omega
 by_cases h2:10 < s.size
 ·rw [numB_len (by omega)]
  have e2:(s.size:Int) > 10:=by omega
  go_enter Tryz.func146,Tryz.ntmps146
  go_wp2
  go_ret
  exact ⟨rfl,Below.refl _ _⟩
 have e2:¬ (s.size:Int) > 10:=by omega
 obtain ⟨c,r,hl⟩:∃ c r,bl s=c :: r:=by
  match hb:bl s with
  | []=>rw [hb] at hlen;simp at hlen;omega
  | c :: r=>exact ⟨c,r,rfl⟩
 have hs0:s[0]=c:=by rw [get_bl];simp [hl]
 have hz:(0:Int) < (s.size:Int):=by omega
 by_cases h3:c.toNat=48∧1 < s.size
 ·rw [hl,numB_nought h3.1 (by rw [← hl,hlen];exact h3.2)]
  have e3:((c.toNat:Int) == 48)=true:=by simp;omega
  have e4:(s.size:Int) > 1:=by omega
  clear h3
  go_enter Tryz.func146,Tryz.ntmps146
  go_wp2
  go_ret
  exact ⟨rfl,Below.refl _ _⟩
 have hL1:1≤(bl s).length∧(bl s).length≤10:=by omega
 have hL2:¬ (((bl s).headD 0).toNat=48∧1 < (bl s).length):=by rw [hlen,hl];exact h3
 have HA:Hid ((bl s).all dB=true→numB (bl s)=decide (valB 0 (bl s)≤1000000000)):=fun h=>numB_all hL1 hL2 h
 have H0:Hid (valB 0 ((bl s).drop 0)=valB 0 (bl s)):=rfl
 clear hL2 hL1 hl
 by_cases h1s:1 < s.size
 ·have e4:(s.size:Int) > 1:=by omega
  have e3:((c.toNat:Int) == 48)=false:=beq_eq_false_iff_ne.2 (by omega)
  clear h3
  go_enter Tryz.func146,Tryz.ntmps146
  go_wp2
  go_loopw [3] (fun a wr=>∃ (n:Int) (k:Nat),a=.int .i64 n∧wr.heap[w.heap.size]?=some (.stringIter s k)∧k≤s.size∧Hid (valB n ((bl s).drop k)=valB 0 (bl s))∧Hid (((bl s).take k).all dB=true)∧0≤n∧Hid (n < 10 ^ k)∧Below w.heap.size w wr) (fun _ wr=>s.size - wr.iterPos w.heap.size)
  case atStart=>exact ⟨0,0,rfl,World.iter_heap w s 0,by omega,H0,rfl,by omega,(show (0:Int) < 10 ^ 0 by decide),(Below.refl _ w).alloc (Nat.le_refl _) _⟩
  case round=>
   obtain ⟨n,k,rfl,hit,hk,hv,ha,hn0,hn1,hb⟩:=hrel
   by_cases hlt:k < s.size
   ·have hnx:∀ ty,(Instr.next (.pointer (some ⟨w.heap.size,0,none⟩)) true ty).run Tryz.prog wr=_:=fun ty=>Lib.run_next_any_at wr w.heap.size s k ty hit hlt
    obtain ⟨d1,d2⟩:=dec_nx hlt
    have hkl:k < (bl s).length:=by rw [hlen];exact hlt
    obtain ⟨d,hdl⟩:∃ d,(bl s)[k]=d:=⟨_,rfl⟩
    obtain ⟨f1,f2⟩:=nx_dB hkl hdl
    have h26:=fun w1=>pDigit_any (rn (nx ((bl s).drop k)).1) w1
    rw [dgt_rn,f1] at h26
    have hp:=pow_le9 (k:=k) (by omega)
    have hnb:n < 1000000000:=by have:=hn1.out;omega
    cases hdg:dB d with
    | true=>
     rw [hdg] at h26
     have hdd:48≤d.toNat∧d.toNat≤57:=of_decide_eq_true hdg
     rw [f2 hdg] at d1 d2 h26
     have hrn:rn ((d.toNat:Int),1).1=(d.toNat:Int):=by unfold rn;rw [if_neg (by simp only;omega)]
     rw [hrn] at d1 h26
     rw [d1,d2] at hnx
     have hit2:=Lib.iterAt_heap wr w.heap.size s k (k+1) hit
     have hb2:=Lib.below_iterAt hb (k:=w.heap.size) (Nat.le_refl _) s (k+1)
     have hA:Hid (((bl s).take (k+1)).all dB=true):=all_step ha.out hkl (by rw [hdl];exact hdg)
     have hV:Hid (valB (10*n+((d.toNat:Int) - 48)) ((bl s).drop (k+1))=valB 0 (bl s)):=by have:=valB_step hv.out hkl;rw [hdl] at this;exact this
     have hN:Hid (10*n+((d.toNat:Int) - 48) < 10 ^ (k+1)):=by show 10*n+((d.toNat:Int) - 48) < 10 ^ (k+1);rw [pow_next];have:=hn1.out;omega
     have w1:IntKind.i32.wrap ((d.toNat:Int) - 48)=(d.toNat:Int) - 48:=by rw [IntKind.wrap_i32];omega
     have hN0:0≤10*n+((d.toNat:Int) - 48):=by omega
     clear hdl hp f1 f2 d1 d2 hdg hrn
     go_wp2_with (first
      | (go_at_call 144;refine (h26 _).mono ?_;rintro e w' ⟨rfl,rfl⟩))
     go_roundw
     case rel=>exact ⟨_,k+1,rfl,hit2,by omega,hV,hA,hN0,hN,hb2⟩
     case measure=>rw [iterPos_of hit2,iterPos_of hit];omega
    | false=>
     rw [hdg] at h26
     have hF:Hid (numB (bl s)=false):=numB_not (all_no (k:=k) hkl (by rw [hdl];exact hdg))
     have hps:=nx_pos (drop_ne hkl)
     obtain ⟨x,hx⟩:∃ x,rn (nx ((bl s).drop k)).1=x:=⟨_,rfl⟩
     obtain ⟨q,hq⟩:∃ q,(nx ((bl s).drop k)).2=q:=⟨_,rfl⟩
     rw [hx] at d1 h26
     rw [hq] at d2
     rw [d1,d2] at hnx
     have hb2:=Lib.below_iterAt hb (k:=w.heap.size) (Nat.le_refl _) s (k+q)
     clear hdl hp f1 f2 d1 d2 hdg hx hq hps
     go_wp2_with (first
      | (go_at_call 144;refine (h26 _).mono ?_;rintro e w' ⟨rfl,rfl⟩))
     go_ret
     rw [hF.out]
     exact ⟨rfl,hb2⟩
   ·have hnx:∀ ty,(Instr.next (.pointer (some ⟨w.heap.size,0,none⟩)) true ty).run Tryz.prog wr=_:=fun ty=>Lib.run_next_end_at wr w.heap.size s k ty hit hlt
    have hall:Hid ((bl s).all dB=true):=by have:=ha.out;rw [List.take_of_length_le (by rw [hlen];omega)] at this;exact this
    have hval:Hid (valB 0 (bl s)=n):=(valB_end hv.out (by rw [hlen];omega)).symm
    have hF:Hid (numB (bl s)=decide (n≤1000000000)):=by show numB (bl s)=_;rw [HA.out hall.out,hval.out]
    clear hn0
    go_wp2
    all_goals go_ret
    all_goals rw [hF.out]
    all_goals exact ⟨rfl,hb⟩
 ·have e4:¬ (s.size:Int) > 1:=by omega
  clear h3
  go_enter Tryz.func146,Tryz.ntmps146
  go_wp2
  go_loopw [3] (fun a wr=>∃ (n:Int) (k:Nat),a=.int .i64 n∧wr.heap[w.heap.size]?=some (.stringIter s k)∧k≤s.size∧Hid (valB n ((bl s).drop k)=valB 0 (bl s))∧Hid (((bl s).take k).all dB=true)∧0≤n∧Hid (n < 10 ^ k)∧Below w.heap.size w wr) (fun _ wr=>s.size - wr.iterPos w.heap.size)
  case atStart=>exact ⟨0,0,rfl,World.iter_heap w s 0,by omega,H0,rfl,by omega,(show (0:Int) < 10 ^ 0 by decide),(Below.refl _ w).alloc (Nat.le_refl _) _⟩
  case round=>
   obtain ⟨n,k,rfl,hit,hk,hv,ha,hn0,hn1,hb⟩:=hrel
   by_cases hlt:k < s.size
   ·have hnx:∀ ty,(Instr.next (.pointer (some ⟨w.heap.size,0,none⟩)) true ty).run Tryz.prog wr=_:=fun ty=>Lib.run_next_any_at wr w.heap.size s k ty hit hlt
    obtain ⟨d1,d2⟩:=dec_nx hlt
    have hkl:k < (bl s).length:=by rw [hlen];exact hlt
    obtain ⟨d,hdl⟩:∃ d,(bl s)[k]=d:=⟨_,rfl⟩
    obtain ⟨f1,f2⟩:=nx_dB hkl hdl
    have h26:=fun w1=>pDigit_any (rn (nx ((bl s).drop k)).1) w1
    rw [dgt_rn,f1] at h26
    have hp:=pow_le9 (k:=k) (by omega)
    have hnb:n < 1000000000:=by have:=hn1.out;omega
    cases hdg:dB d with
    | true=>
     rw [hdg] at h26
     have hdd:48≤d.toNat∧d.toNat≤57:=of_decide_eq_true hdg
     rw [f2 hdg] at d1 d2 h26
     have hrn:rn ((d.toNat:Int),1).1=(d.toNat:Int):=by unfold rn;rw [if_neg (by simp only;omega)]
     rw [hrn] at d1 h26
     rw [d1,d2] at hnx
     have hit2:=Lib.iterAt_heap wr w.heap.size s k (k+1) hit
     have hb2:=Lib.below_iterAt hb (k:=w.heap.size) (Nat.le_refl _) s (k+1)
     have hA:Hid (((bl s).take (k+1)).all dB=true):=all_step ha.out hkl (by rw [hdl];exact hdg)
     have hV:Hid (valB (10*n+((d.toNat:Int) - 48)) ((bl s).drop (k+1))=valB 0 (bl s)):=by have:=valB_step hv.out hkl;rw [hdl] at this;exact this
     have hN:Hid (10*n+((d.toNat:Int) - 48) < 10 ^ (k+1)):=by show 10*n+((d.toNat:Int) - 48) < 10 ^ (k+1);rw [pow_next];have:=hn1.out;omega
     have w1:IntKind.i32.wrap ((d.toNat:Int) - 48)=(d.toNat:Int) - 48:=by rw [IntKind.wrap_i32];omega
     have hN0:0≤10*n+((d.toNat:Int) - 48):=by omega
     clear hdl hp f1 f2 d1 d2 hdg hrn
     go_wp2_with (first
      | (go_at_call 144;refine (h26 _).mono ?_;rintro e w' ⟨rfl,rfl⟩))
     go_roundw
     case rel=>exact ⟨_,k+1,rfl,hit2,by omega,hV,hA,hN0,hN,hb2⟩
     case measure=>rw [iterPos_of hit2,iterPos_of hit];omega
    | false=>
     rw [hdg] at h26
     have hF:Hid (numB (bl s)=false):=numB_not (all_no (k:=k) hkl (by rw [hdl];exact hdg))
     have hps:=nx_pos (drop_ne hkl)
     obtain ⟨x,hx⟩:∃ x,rn (nx ((bl s).drop k)).1=x:=⟨_,rfl⟩
     obtain ⟨q,hq⟩:∃ q,(nx ((bl s).drop k)).2=q:=⟨_,rfl⟩
     rw [hx] at d1 h26
     rw [hq] at d2
     rw [d1,d2] at hnx
     have hb2:=Lib.below_iterAt hb (k:=w.heap.size) (Nat.le_refl _) s (k+q)
     clear hdl hp f1 f2 d1 d2 hdg hx hq hps
     go_wp2_with (first
      | (go_at_call 144;refine (h26 _).mono ?_;rintro e w' ⟨rfl,rfl⟩))
     go_ret
     rw [hF.out]
     exact ⟨rfl,hb2⟩
   ·have hnx:∀ ty,(Instr.next (.pointer (some ⟨w.heap.size,0,none⟩)) true ty).run Tryz.prog wr=_:=fun ty=>Lib.run_next_end_at wr w.heap.size s k ty hit hlt
    have hall:Hid ((bl s).all dB=true):=by have:=ha.out;rw [List.take_of_length_le (by rw [hlen];omega)] at this;exact this
    have hval:Hid (valB 0 (bl s)=n):=(valB_end hv.out (by rw [hlen];omega)).symm
    have hF:Hid (numB (bl s)=decide (n≤1000000000)):=by show numB (bl s)=_;rw [HA.out hall.out,hval.out]
    clear hn0
    go_wp2
    all_goals go_ret
    all_goals rw [hF.out]
    all_goals exact ⟨rfl,hb⟩
set_option maxHeartbeats 2000000 in
theorem pSign_one (s:ByteArray) (w:World) (c:UInt8) (h0:0 < s.size) (h1:¬ 1 < s.size) (hs0:s[0]=c) (G:Nat) (hg:one (c.toNat:Int)=G) :
  Calls Tryz.prog 145 #[.string s] w fun e w'=>e=.returned (.int .i64 (G:Int))∧w=w':=by
 have hz:(0:Int) < (s.size:Int):=by omega
 have hz1:¬ (1:Int) < (s.size:Int):=by omega
 by_cases f0:c.toNat=123
 ·have g0:((c.toNat:Int) == 123)=true:=by simp;omega
  have hG:1=G:=by rw [← hg];exact (one_yes (by omega)).symm
  clear f0 hg
  subst hG
  go_enter Tryz.func145,Tryz.ntmps145
  go_wp2
  go_ret
  exact ⟨rfl,rfl⟩
 have g0:((c.toNat:Int) == 123)=false:=beq_eq_false_iff_ne.2 (by omega)
 by_cases f1:c.toNat=125
 ·have g1:((c.toNat:Int) == 125)=true:=by simp;omega
  have hG:1=G:=by rw [← hg];exact (one_yes (by omega)).symm
  clear f1 hg f0
  subst hG
  go_enter Tryz.func145,Tryz.ntmps145
  go_wp2
  go_ret
  exact ⟨rfl,rfl⟩
 have g1:((c.toNat:Int) == 125)=false:=beq_eq_false_iff_ne.2 (by omega)
 by_cases f2:c.toNat=40
 ·have g2:((c.toNat:Int) == 40)=true:=by simp;omega
  have hG:1=G:=by rw [← hg];exact (one_yes (by omega)).symm
  clear f2 hg f0 f1
  subst hG
  go_enter Tryz.func145,Tryz.ntmps145
  go_wp2
  go_ret
  exact ⟨rfl,rfl⟩
 have g2:((c.toNat:Int) == 40)=false:=beq_eq_false_iff_ne.2 (by omega)
 by_cases f3:c.toNat=41
 ·have g3:((c.toNat:Int) == 41)=true:=by simp;omega
  have hG:1=G:=by rw [← hg];exact (one_yes (by omega)).symm
  clear f3 hg f0 f1 f2
  subst hG
  go_enter Tryz.func145,Tryz.ntmps145
  go_wp2
  go_ret
  exact ⟨rfl,rfl⟩
 have g3:((c.toNat:Int) == 41)=false:=beq_eq_false_iff_ne.2 (by omega)
 by_cases f4:c.toNat=61
 ·have g4:((c.toNat:Int) == 61)=true:=by simp;omega
  have hG:1=G:=by rw [← hg];exact (one_yes (by omega)).symm
  clear f4 hg f0 f1 f2 f3
  subst hG
  go_enter Tryz.func145,Tryz.ntmps145
  go_wp2
  go_ret
  exact ⟨rfl,rfl⟩
 have g4:((c.toNat:Int) == 61)=false:=beq_eq_false_iff_ne.2 (by omega)
 by_cases f5:c.toNat=33
 ·have g5:((c.toNat:Int) == 33)=true:=by simp;omega
  have hG:1=G:=by rw [← hg];exact (one_yes (by omega)).symm
  clear f5 hg f0 f1 f2 f3 f4
  subst hG
  go_enter Tryz.func145,Tryz.ntmps145
  go_wp2
  go_ret
  exact ⟨rfl,rfl⟩
 have g5:((c.toNat:Int) == 33)=false:=beq_eq_false_iff_ne.2 (by omega)
 by_cases f6:c.toNat=60
 ·have g6:((c.toNat:Int) == 60)=true:=by simp;omega
  have hG:1=G:=by rw [← hg];exact (one_yes (by omega)).symm
  clear f6 hg f0 f1 f2 f3 f4 f5
  subst hG
  go_enter Tryz.func145,Tryz.ntmps145
  go_wp2
  go_ret
  exact ⟨rfl,rfl⟩
 have g6:((c.toNat:Int) == 60)=false:=beq_eq_false_iff_ne.2 (by omega)
 by_cases f7:c.toNat=43
 ·have g7:((c.toNat:Int) == 43)=true:=by simp;omega
  have hG:1=G:=by rw [← hg];exact (one_yes (by omega)).symm
  clear f7 hg f0 f1 f2 f3 f4 f5 f6
  subst hG
  go_enter Tryz.func145,Tryz.ntmps145
  go_wp2
  go_ret
  exact ⟨rfl,rfl⟩
 have g7:((c.toNat:Int) == 43)=false:=beq_eq_false_iff_ne.2 (by omega)
 by_cases f8:c.toNat=45
 ·have g8:((c.toNat:Int) == 45)=true:=by simp;omega
  have hG:1=G:=by rw [← hg];exact (one_yes (by omega)).symm
  clear f8 hg f0 f1 f2 f3 f4 f5 f6 f7
  subst hG
  go_enter Tryz.func145,Tryz.ntmps145
  go_wp2
  go_ret
  exact ⟨rfl,rfl⟩
 have g8:((c.toNat:Int) == 45)=false:=beq_eq_false_iff_ne.2 (by omega)
 by_cases f9:c.toNat=42
 ·have g9:((c.toNat:Int) == 42)=true:=by simp;omega
  have hG:1=G:=by rw [← hg];exact (one_yes (by omega)).symm
  clear f9 hg f0 f1 f2 f3 f4 f5 f6 f7 f8
  subst hG
  go_enter Tryz.func145,Tryz.ntmps145
  go_wp2
  go_ret
  exact ⟨rfl,rfl⟩
 have g9:((c.toNat:Int) == 42)=false:=beq_eq_false_iff_ne.2 (by omega)
 have hG:0=G:=by rw [← hg];exact (one_no (by omega)).symm
 clear hg f0 f1 f2 f3 f4 f5 f6 f7 f8 f9
 subst hG
 go_enter Tryz.func145,Tryz.ntmps145
 go_wp2
 go_ret
 exact ⟨rfl,rfl⟩
set_option maxHeartbeats 2000000 in
theorem pSign_two (s:ByteArray) (w:World) (c:UInt8) (h1:1 < s.size) (hs0:s[0]=c) (G:Nat) (hg:one (c.toNat:Int)=G)
  (p0:((s.extract 0 2).toList == [61,61])=false)
  (p1:((s.extract 0 2).toList == [33,61])=false)
  (p2:((s.extract 0 2).toList == [60,61])=false)
  (p3:((s.extract 0 2).toList == [38,38])=false)
  (p4:((s.extract 0 2).toList == [124,124])=false)
  : Calls Tryz.prog 145 #[.string s] w fun e w'=>e=.returned (.int .i64 (G:Int))∧w=w':=by
 have hz:(0:Int) < (s.size:Int):=by omega
 have hz1:(1:Int) < (s.size:Int):=by omega
 have hz2:(2:Int)≤(s.size:Int):=by omega
 by_cases f0:c.toNat=123
 ·have g0:((c.toNat:Int) == 123)=true:=by simp;omega
  have hG:1=G:=by rw [← hg];exact (one_yes (by omega)).symm
  clear f0 hg
  subst hG
  go_enter Tryz.func145,Tryz.ntmps145
  go_wp2
  go_ret
  exact ⟨rfl,rfl⟩
 have g0:((c.toNat:Int) == 123)=false:=beq_eq_false_iff_ne.2 (by omega)
 by_cases f1:c.toNat=125
 ·have g1:((c.toNat:Int) == 125)=true:=by simp;omega
  have hG:1=G:=by rw [← hg];exact (one_yes (by omega)).symm
  clear f1 hg f0
  subst hG
  go_enter Tryz.func145,Tryz.ntmps145
  go_wp2
  go_ret
  exact ⟨rfl,rfl⟩
 have g1:((c.toNat:Int) == 125)=false:=beq_eq_false_iff_ne.2 (by omega)
 by_cases f2:c.toNat=40
 ·have g2:((c.toNat:Int) == 40)=true:=by simp;omega
  have hG:1=G:=by rw [← hg];exact (one_yes (by omega)).symm
  clear f2 hg f0 f1
  subst hG
  go_enter Tryz.func145,Tryz.ntmps145
  go_wp2
  go_ret
  exact ⟨rfl,rfl⟩
 have g2:((c.toNat:Int) == 40)=false:=beq_eq_false_iff_ne.2 (by omega)
 by_cases f3:c.toNat=41
 ·have g3:((c.toNat:Int) == 41)=true:=by simp;omega
  have hG:1=G:=by rw [← hg];exact (one_yes (by omega)).symm
  clear f3 hg f0 f1 f2
  subst hG
  go_enter Tryz.func145,Tryz.ntmps145
  go_wp2
  go_ret
  exact ⟨rfl,rfl⟩
 have g3:((c.toNat:Int) == 41)=false:=beq_eq_false_iff_ne.2 (by omega)
 by_cases f4:c.toNat=61
 ·have g4:((c.toNat:Int) == 61)=true:=by simp;omega
  have hG:1=G:=by rw [← hg];exact (one_yes (by omega)).symm
  clear f4 hg f0 f1 f2 f3
  subst hG
  go_enter Tryz.func145,Tryz.ntmps145
  go_wp2
  go_ret
  exact ⟨rfl,rfl⟩
 have g4:((c.toNat:Int) == 61)=false:=beq_eq_false_iff_ne.2 (by omega)
 by_cases f5:c.toNat=33
 ·have g5:((c.toNat:Int) == 33)=true:=by simp;omega
  have hG:1=G:=by rw [← hg];exact (one_yes (by omega)).symm
  clear f5 hg f0 f1 f2 f3 f4
  subst hG
  go_enter Tryz.func145,Tryz.ntmps145
  go_wp2
  go_ret
  exact ⟨rfl,rfl⟩
 have g5:((c.toNat:Int) == 33)=false:=beq_eq_false_iff_ne.2 (by omega)
 by_cases f6:c.toNat=60
 ·have g6:((c.toNat:Int) == 60)=true:=by simp;omega
  have hG:1=G:=by rw [← hg];exact (one_yes (by omega)).symm
  clear f6 hg f0 f1 f2 f3 f4 f5
  subst hG
  go_enter Tryz.func145,Tryz.ntmps145
  go_wp2
  go_ret
  exact ⟨rfl,rfl⟩
 have g6:((c.toNat:Int) == 60)=false:=beq_eq_false_iff_ne.2 (by omega)
 by_cases f7:c.toNat=43
 ·have g7:((c.toNat:Int) == 43)=true:=by simp;omega
  have hG:1=G:=by rw [← hg];exact (one_yes (by omega)).symm
  clear f7 hg f0 f1 f2 f3 f4 f5 f6
  subst hG
  go_enter Tryz.func145,Tryz.ntmps145
  go_wp2
  go_ret
  exact ⟨rfl,rfl⟩
 have g7:((c.toNat:Int) == 43)=false:=beq_eq_false_iff_ne.2 (by omega)
 by_cases f8:c.toNat=45
 ·have g8:((c.toNat:Int) == 45)=true:=by simp;omega
  have hG:1=G:=by rw [← hg];exact (one_yes (by omega)).symm
  clear f8 hg f0 f1 f2 f3 f4 f5 f6 f7
  subst hG
  go_enter Tryz.func145,Tryz.ntmps145
  go_wp2
  go_ret
  exact ⟨rfl,rfl⟩
 have g8:((c.toNat:Int) == 45)=false:=beq_eq_false_iff_ne.2 (by omega)
 by_cases f9:c.toNat=42
 ·have g9:((c.toNat:Int) == 42)=true:=by simp;omega
  have hG:1=G:=by rw [← hg];exact (one_yes (by omega)).symm
  clear f9 hg f0 f1 f2 f3 f4 f5 f6 f7 f8
  subst hG
  go_enter Tryz.func145,Tryz.ntmps145
  go_wp2
  go_ret
  exact ⟨rfl,rfl⟩
 have g9:((c.toNat:Int) == 42)=false:=beq_eq_false_iff_ne.2 (by omega)
 have hG:0=G:=by rw [← hg];exact (one_no (by omega)).symm
 clear hg f0 f1 f2 f3 f4 f5 f6 f7 f8 f9
 subst hG
 go_enter Tryz.func145,Tryz.ntmps145
 go_wp2
 go_ret
 exact ⟨rfl,rfl⟩
set_option maxHeartbeats 2000000 in
theorem pSign_any (s:ByteArray) (w:World) (h0:0 < s.size) :
  Calls Tryz.prog 145 #[.string s] w fun e w'=>e=.returned (.int .i64 (sgn (runes (bl s)):Int))∧w=w':=by
 have hlen:(bl s).length=s.size:=rfl
 by_cases h1:1 < s.size
 ·obtain ⟨c,d,r,hl⟩:∃ c d r,bl s=c :: d :: r:=by
   match hb:bl s with
   | []=>rw [hb] at hlen;simp at hlen;omega
   | [_]=>rw [hb] at hlen;simp at hlen;omega
   | c :: d :: r=>exact ⟨c,d,r,rfl⟩
  have hs0:s[0]=c:=by
   have:s[0]=(bl s)[0]'(by omega):=rfl
   rw [this];simp [hl]
  have hq:∀ x y:UInt8,((s.extract 0 2).toList == [x,y])=(decide (c=x) && decide (d=y)):=fun x y=>two_beq s c d x y r hl
  rw [hl,sgn_two]
  have hz:(0:Int) < (s.size:Int):=by omega
  have hz1:(1:Int) < (s.size:Int):=by omega
  have hz2:(2:Int)≤(s.size:Int):=by omega
  by_cases a0:c=61∧d=61
  ·have p0:((s.extract 0 2).toList == [61,61])=true:=by rw [hq];simp [a0.1,a0.2]
   have hG:(if pair (c.toNat:Int) (d.toNat:Int)=true then 2 else one (c.toNat:Int))=2:=by rw [a0.1,a0.2];decide
   rw [hG]
   clear hq a0 hG
   go_enter Tryz.func145,Tryz.ntmps145
   go_wp2
   go_ret
   exact ⟨rfl,rfl⟩
  have p0:((s.extract 0 2).toList == [61,61])=false:=by rw [hq];exact and_no a0
  by_cases a1:c=33∧d=61
  ·have p1:((s.extract 0 2).toList == [33,61])=true:=by rw [hq];simp [a1.1,a1.2]
   have hG:(if pair (c.toNat:Int) (d.toNat:Int)=true then 2 else one (c.toNat:Int))=2:=by rw [a1.1,a1.2];decide
   rw [hG]
   clear hq a1 hG a0
   go_enter Tryz.func145,Tryz.ntmps145
   go_wp2
   go_ret
   exact ⟨rfl,rfl⟩
  have p1:((s.extract 0 2).toList == [33,61])=false:=by rw [hq];exact and_no a1
  by_cases a2:c=60∧d=61
  ·have p2:((s.extract 0 2).toList == [60,61])=true:=by rw [hq];simp [a2.1,a2.2]
   have hG:(if pair (c.toNat:Int) (d.toNat:Int)=true then 2 else one (c.toNat:Int))=2:=by rw [a2.1,a2.2];decide
   rw [hG]
   clear hq a2 hG a0 a1
   go_enter Tryz.func145,Tryz.ntmps145
   go_wp2
   go_ret
   exact ⟨rfl,rfl⟩
  have p2:((s.extract 0 2).toList == [60,61])=false:=by rw [hq];exact and_no a2
  by_cases a3:c=38∧d=38
  ·have p3:((s.extract 0 2).toList == [38,38])=true:=by rw [hq];simp [a3.1,a3.2]
   have hG:(if pair (c.toNat:Int) (d.toNat:Int)=true then 2 else one (c.toNat:Int))=2:=by rw [a3.1,a3.2];decide
   rw [hG]
   clear hq a3 hG a0 a1 a2
   go_enter Tryz.func145,Tryz.ntmps145
   go_wp2
   go_ret
   exact ⟨rfl,rfl⟩
  have p3:((s.extract 0 2).toList == [38,38])=false:=by rw [hq];exact and_no a3
  by_cases a4:c=124∧d=124
  ·have p4:((s.extract 0 2).toList == [124,124])=true:=by rw [hq];simp [a4.1,a4.2]
   have hG:(if pair (c.toNat:Int) (d.toNat:Int)=true then 2 else one (c.toNat:Int))=2:=by rw [a4.1,a4.2];decide
   rw [hG]
   clear hq a4 hG a0 a1 a2 a3
   go_enter Tryz.func145,Tryz.ntmps145
   go_wp2
   go_ret
   exact ⟨rfl,rfl⟩
  have p4:((s.extract 0 2).toList == [124,124])=false:=by rw [hq];exact and_no a4
  have hp:pair (c.toNat:Int) (d.toNat:Int)=false:=by
   have hi:∀ (x:UInt8) (k:Nat),(k:Int)=(x.toNat:Int)→x=UInt8.ofNat k:=fun x k h=>by
    have e:k=x.toNat:=by omega
    rw [e];simp
   refine decide_eq_false ?_
   rintro (⟨hb,ha⟩ | ⟨ha,hb⟩ | ⟨ha,hb⟩)
   ·rcases ha with ha | ha | ha
    ·exact a0 ⟨hi c 61 ha.symm,hi d 61 hb.symm⟩
    ·exact a1 ⟨hi c 33 ha.symm,hi d 61 hb.symm⟩
    ·exact a2 ⟨hi c 60 ha.symm,hi d 61 hb.symm⟩
   ·exact a3 ⟨hi c 38 ha.symm,hi d 38 hb.symm⟩
   ·exact a4 ⟨hi c 124 ha.symm,hi d 124 hb.symm⟩
  have hG:(if pair (c.toNat:Int) (d.toNat:Int)=true then 2 else one (c.toNat:Int))=one (c.toNat:Int):=by rw [hp];rfl
  rw [hG]
  exact pSign_two s w c h1 hs0 _ rfl p0 p1 p2 p3 p4
 ·obtain ⟨c,hl⟩:∃ c,bl s=[c]:=by
   match hb:bl s with
   | []=>rw [hb] at hlen;simp at hlen;omega
   | [c]=>exact ⟨c,rfl⟩
   | _ :: _ :: _=>rw [hb] at hlen;simp at hlen;omega
  have hs0:s[0]=c:=by
   have:s[0]=(bl s)[0]'(by omega):=rfl
   rw [this];simp [hl]
  rw [hl,sgn_one]
  exact pSign_one s w c h0 h1 hs0 _ rfl
end Go.Proofs.YtfjdceknbdmhpaaGreatDoor
