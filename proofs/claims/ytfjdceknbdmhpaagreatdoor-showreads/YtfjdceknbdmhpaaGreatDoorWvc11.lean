import Derived.Test.YtfjdceknbdmhpaaGreatDoorWvc10
import Derived.Test.YtfjdceknbdmhpaaGreatDoorWvc09
import Derived.Test.YtfjdceknbdmhpaaGreatDoorWvc06
import Derived.Test.YtfjdceknbdmhpaaGreatDoorWvc05
/- Words that are alike but for their places make charts that are alike but for theirs. Math alone. -/
namespace Go.Proofs.YtfjdceknbdmhpaaGreatDoor
open Go.RowKit Go.Lib
set_option linter.unusedVariables false
/-- Readers that are alike but for places. -/
def Lk (r r':RsC):Prop:=r.1.map tkW=r'.1.map tkW∧r.2.2=r'.2.2
theorem Lk.len {r r':RsC} (h:Lk r r'):r.1.length=r'.1.length:=by
 have:=congrArg List.length h.1
 rwa [List.length_map,List.length_map] at this
theorem Lk.drop {r r':RsC} (h:Lk r r') (n:Nat):Lk (r.1.drop n,r.2) (r'.1.drop n,r'.2):=by
 refine ⟨?_,h.2⟩
 show (r.1.drop n).map tkW=(r'.1.drop n).map tkW
 rw [List.map_drop,List.map_drop,h.1]
theorem Lk.fail {r r':RsC} (h:Lk r r') (e:Int) (p p':Pl):Lk (failC e p r) (failC e p' r'):=by
 unfold failC
 rw [← h.2]
 split
 ·exact ⟨h.1,rfl⟩
 ·exact h
theorem Lk.isq {r r':RsC} (h:Lk r r') (s:List UInt8):isC s r=isC s r':=by
 unfold isC
 rw [h.2]
 have h1:=h.1
 cases hr:r.1 with
 | nil=>
  rw [hr] at h1
  cases hr':r'.1 with
  | nil=>rfl
  | cons w l=>rw [hr'] at h1;simp at h1
 | cons w l=>
  rw [hr] at h1
  cases hr':r'.1 with
  | nil=>rw [hr'] at h1;simp at h1
  | cons w' l'=>
   rw [hr',List.map_cons,List.map_cons] at h1
   injection h1 with h2 h3
   simp only [h2]
theorem Lk.tail {r r':RsC} (h:Lk r r'):Lk (r.1.tail,r.2) (r'.1.tail,r'.2):=by
 have:=h.drop 1
 rwa [List.drop_one,List.drop_one] at this
theorem Lk.take {r r':RsC} (h:Lk r r') (fin fin':Pl) (s:List UInt8):Lk (takeR fin s r) (takeR fin' s r'):=by
 unfold takeR
 rw [← h.isq s]
 split
 ·exact h.tail
 ·exact h.fail _ _ _
theorem Lk.cons {r r':RsC} (h:Lk r r'):(r.1=[]∧r'.1=[])∨∃ w l w' l',r.1=w :: l∧r'.1=w' :: l'∧tkW w=tkW w'∧l.map tkW=l'.map tkW:=by
 have h1:=h.1
 cases hr:r.1 with
 | nil=>
  rw [hr] at h1
  cases hr':r'.1 with
  | nil=>exact .inl ⟨rfl,rfl⟩
  | cons w l=>rw [hr'] at h1;simp at h1
 | cons w l=>
  rw [hr] at h1
  cases hr':r'.1 with
  | nil=>rw [hr'] at h1;simp at h1
  | cons w' l'=>
   rw [hr',List.map_cons,List.map_cons] at h1
   injection h1 with h2 h3
   exact .inr ⟨w,l,w',l',rfl,rfl,h2,h3⟩
theorem Lk.name {r r':RsC} (h:Lk r r') (fin fin':Pl):(nameR fin r).1.1=(nameR fin' r').1.1∧Lk (nameR fin r).2 (nameR fin' r').2:=by
 unfold nameR
 rcases h.cons with ⟨h1,h2⟩ | ⟨w,l,w',l',h1,h2,h3,h4⟩
 ·rw [h1,h2];exact ⟨rfl,h.fail _ _ _⟩
 ·rw [h1,h2]
  simp only
  rw [← h.2,← h3]
  split
  ·exact ⟨rfl,h4,h.2⟩
  ·exact ⟨rfl,h.fail _ _ _⟩
theorem Lk.num {r r':RsC} (h:Lk r r') (fin fin':Pl):(numR fin r).1=(numR fin' r').1∧Lk (numR fin r).2 (numR fin' r').2:=by
 unfold numR
 rcases h.cons with ⟨h1,h2⟩ | ⟨w,l,w',l',h1,h2,h3,h4⟩
 ·rw [h1,h2];exact ⟨rfl,h.fail _ _ _⟩
 ·rw [h1,h2]
  have hk:w.1=w'.1:=congrArg (fun x:Tk=>x.1) h3
  simp only
  rw [← h.2,← h3,← hk]
  split
  ·exact ⟨rfl,h4,h.2⟩
  ·exact ⟨rfl,h.fail _ _ _⟩
theorem Lk.expr {r r':RsC} (h:Lk r r') (fin fin':Pl):(exprR fin r).1=(exprR fin' r').1∧Lk (exprR fin r).2 (exprR fin' r').2:=by
 unfold exprR
 rw [← h.1,← h.2]
 split
 ·exact ⟨rfl,h⟩
 ·split
  ·exact ⟨rfl,h.drop _⟩
  ·split
   ·exact ⟨rfl,h.fail _ _ _⟩
   ·exact ⟨rfl,(h.drop _).fail _ _ _⟩
theorem Lk.sets (fin fin':Pl):∀ (g:Nat) (acc:List (List UInt8 × Sx)) {r r':RsC},Lk r r'→(setsR fin g acc r).1=(setsR fin' g acc r').1∧Lk (setsR fin g acc r).2 (setsR fin' g acc r').2
 | 0,acc,r,r',h=>⟨rfl,h⟩
 | g+1,acc,r,r',h=>by
  unfold setsR
  rw [← h.isq wSet]
  split
  ·obtain ⟨a1,a2⟩:=(h.take fin fin' wSet).name fin fin'
   obtain ⟨b1,b2⟩:=(a2.take fin fin' [61]).expr fin fin'
   simp only
   rw [a1,b1]
   exact Lk.sets fin fin' g _ b2
  ·exact ⟨rfl,h⟩
/-- An on without its place. -/
def stO (o:OnC):OnC:=(o.1,o.2.1,o.2.2.1,o.2.2.2.1,(0,0))
theorem Lk.on {r r':RsC} (h:Lk r r') (fin fin':Pl):stO (onR fin r).1=stO (onR fin' r').1∧Lk (onR fin r).2 (onR fin' r').2:=by
 unfold onR
 obtain ⟨a1,a2⟩:=(h.take fin fin' wOn).name fin fin'
 simp only
 generalize nameR fin (takeR fin wOn r)=A at *
 generalize nameR fin' (takeR fin' wOn r')=A' at *
 have hg:(if isC wIf A.2=true then ((fun x=>((true,x.1),x.2)) (exprR fin (takeR fin wIf A.2)):(Bool × Sx) × RsC) else ((false,noX),A.2)).1=(if isC wIf A'.2=true then ((fun x=>((true,x.1),x.2)) (exprR fin' (takeR fin' wIf A'.2)):(Bool × Sx) × RsC) else ((false,noX),A'.2)).1∧
   Lk (if isC wIf A.2=true then ((fun x=>((true,x.1),x.2)) (exprR fin (takeR fin wIf A.2)):(Bool × Sx) × RsC) else ((false,noX),A.2)).2 (if isC wIf A'.2=true then ((fun x=>((true,x.1),x.2)) (exprR fin' (takeR fin' wIf A'.2)):(Bool × Sx) × RsC) else ((false,noX),A'.2)).2:=by
  rw [← a2.isq wIf]
  split
  ·obtain ⟨e1,e2⟩:=(a2.take fin fin' wIf).expr fin fin'
   exact ⟨congrArg (Prod.mk true) e1,e2⟩
  ·exact ⟨rfl,a2⟩
 generalize (if isC wIf A.2=true then ((fun x=>((true,x.1),x.2)) (exprR fin (takeR fin wIf A.2)):(Bool × Sx) × RsC) else ((false,noX),A.2))=G at *
 generalize (if isC wIf A'.2=true then ((fun x=>((true,x.1),x.2)) (exprR fin' (takeR fin' wIf A'.2)):(Bool × Sx) × RsC) else ((false,noX),A'.2))=G' at *
 obtain ⟨g1,g2⟩:=hg
 obtain ⟨t1,t2⟩:=(g2.take fin fin' wGo).name fin fin'
 generalize nameR fin (takeR fin wGo G.2)=U at *
 generalize nameR fin' (takeR fin' wGo G'.2)=U' at *
 rw [← t2.len]
 obtain ⟨s1,s2⟩:=Lk.sets fin fin' (U.2.1.length+1) [] t2
 refine ⟨?_,s2⟩
 unfold stO
 simp only [a1,g1,t1,s1]
theorem Lk.kind {r r':RsC} (h:Lk r r') (fin fin':Pl):(kindR fin r).1=(kindR fin' r').1∧Lk (kindR fin r).2 (kindR fin' r').2:=by
 unfold kindR
 rw [← h.isq wAll,← h.isq wEnd,← h.isq wDo]
 split
 ·exact ⟨rfl,h.take _ _ _⟩
 ·split
  ·exact ⟨rfl,h.take _ _ _⟩
  ·split
   ·obtain ⟨a1,a2⟩:=(h.take fin fin' wDo).name fin fin'
    obtain ⟨b1,b2⟩:=(a2.take fin fin' wUndo).name fin fin'
    obtain ⟨c1,c2⟩:=(b2.take fin fin' wAt).num fin fin'
    obtain ⟨e1,e2⟩:=(c2.take fin fin' wRetries).num fin fin'
    simp only
    exact ⟨by rw [a1,b1,c1,e1],e2⟩
   ·exact ⟨rfl,h⟩
/-- A state without places. -/
def stS:(d:Nat)→St d→St d
 | 0,t=>Empty.elim t
 | d+1,t=>show HdC × List (St d) from (((t.1.1.1,(0,0)),t.1.2.1,t.1.2.2.1,t.1.2.2.2.1,t.1.2.2.2.2.map stO),t.2.map (stS d))
theorem Lk.inn {α:Type} (f:α→α) (fin fin':Pl) (i1 i2:RsC→α × RsC) (hi:∀ {r r':RsC},Lk r r'→f (i1 r).1=f (i2 r').1∧Lk (i1 r).2 (i2 r').2) :
  ∀ (g:Nat) (os os':List OnC) (ss ss':List α) {r r':RsC},Lk r r'→os.map stO=os'.map stO→ss.map f=ss'.map f→
   (inR fin i1 g os ss r).1.1.map stO=(inR fin' i2 g os' ss' r').1.1.map stO∧(inR fin i1 g os ss r).1.2.map f=(inR fin' i2 g os' ss' r').1.2.map f∧Lk (inR fin i1 g os ss r).2 (inR fin' i2 g os' ss' r').2
 | 0,os,os',ss,ss',r,r',h,ho,hs=>⟨ho,hs,h⟩
 | g+1,os,os',ss,ss',r,r',h,ho,hs=>by
  unfold inR
  rw [← h.2,← h.isq [125],← h.isq wOn]
  split
  ·split
   ·obtain ⟨a1,a2⟩:=h.on fin fin'
    exact Lk.inn f fin fin' i1 i2 hi g _ _ _ _ a2 (by rw [List.map_append,List.map_append,ho,List.map_singleton,List.map_singleton,a1]) hs
   ·obtain ⟨a1,a2⟩:=hi h
    exact Lk.inn f fin fin' i1 i2 hi g _ _ _ _ a2 ho (by rw [List.map_append,List.map_append,hs,List.map_singleton,List.map_singleton,a1])
  ·exact ⟨ho,hs,h⟩
theorem Lk.st (fin fin':Pl):∀ (k:Nat) {r r':RsC},Lk r r'→stS (k+1) (stR fin k r).1=stS (k+1) (stR fin' k r').1∧Lk (stR fin k r).2 (stR fin' k r').2
 | 0,r,r',h=>by
  refine ⟨rfl,?_⟩
  show Lk (failC (if isC wState r=true then 13 else 12) (hereR fin r) r) (failC (if isC wState r'=true then 13 else 12) (hereR fin' r') r')
  rw [← h.isq wState]
  exact h.fail _ _ _
 | k+1,r,r',h=>by
  obtain ⟨a1,a2⟩:=(h.take fin fin' wState).name fin fin'
  obtain ⟨b1,b2⟩:=(a2.take fin fin' [123]).kind fin fin'
  obtain ⟨c1,c2,c3⟩:=Lk.inn (stS (k+1)) fin fin' (stR fin k) (stR fin' k) (fun h=>Lk.st fin fin' k h) ((kindR fin (takeR fin [123] (nameR fin (takeR fin wState r)).2)).2.1.length+1) [] [] [] [] b2 rfl rfl
  refine ⟨?_,?_⟩
  ·show (show HdC × List (St (k+1)) from (((_,(0,0)),_,_,_,List.map stO _),List.map (stS (k+1)) _))=(show HdC × List (St (k+1)) from (((_,(0,0)),_,_,_,List.map stO _),List.map (stS (k+1)) _))
   simp only [stR]
   rw [← b2.len,a1,b1,c1,c2]
  ·simp only [stR]
   rw [← b2.len]
   exact c3.take _ _ _
theorem Lk.vars (fin fin':Pl):∀ (g:Nat) (acc acc':List (List UInt8 × Int × Pl)) {r r':RsC},Lk r r'→acc.map (fun v=>(v.1,v.2.1))=acc'.map (fun v=>(v.1,v.2.1))→
   (varsR fin g acc r).1.map (fun v=>(v.1,v.2.1))=(varsR fin' g acc' r').1.map (fun v=>(v.1,v.2.1))∧Lk (varsR fin g acc r).2 (varsR fin' g acc' r').2
 | 0,acc,acc',r,r',h,ha=>⟨ha,h⟩
 | g+1,acc,acc',r,r',h,ha=>by
  unfold varsR
  rw [← h.isq wVar]
  split
  ·obtain ⟨a1,a2⟩:=(h.take fin fin' wVar).name fin fin'
   have b2:=a2.take fin fin' [61]
   simp only
   rw [← b2.isq [45]]
   split
   ·obtain ⟨n1,n2⟩:=(b2.take fin fin' [45]).num fin fin'
    exact Lk.vars fin fin' g _ _ n2 (by rw [List.map_append,List.map_append,ha];simp only [List.map_cons,List.map_nil,a1,n1])
   ·obtain ⟨n1,n2⟩:=b2.num fin fin'
    exact Lk.vars fin fin' g _ _ n2 (by rw [List.map_append,List.map_append,ha];simp only [List.map_cons,List.map_nil,a1,n1])
  ·exact ⟨ha,h⟩
end Go.Proofs.YtfjdceknbdmhpaaGreatDoor
/- The text of a chart and its words. Math alone. -/
namespace Go.Proofs.YtfjdceknbdmhpaaGreatDoor
open Go.RowKit Go.Lib
set_option linter.unusedSimpArgs false
set_option linter.unusedVariables false
/-- A piece of a text: a word, or a blank. -/
abbrev Pq:=Tk ⊕ UInt8
def pieQ (p:Pq):List UInt8:=match p with | .inl w=>w.2 | .inr c=>[c]
def txQ (ps:List Pq):List UInt8:=(ps.map pieQ).flatten
def tkQ:List Pq→List Tk
 | []=>[]
 | .inl w :: r=>w :: tkQ r
 | .inr _ :: r=>tkQ r
theorem txQ_cons (p:Pq) (r:List Pq):txQ (p :: r)=pieQ p++txQ r:=rfl
theorem txQ_app (a b:List Pq):txQ (a++b)=txQ a++txQ b:=by simp [txQ]
theorem tkQ_app:∀ (a b:List Pq),tkQ (a++b)=tkQ a++tkQ b
 | [],b=>rfl
 | .inl w :: a,b=>congrArg (w :: ·) (tkQ_app a b)
 | .inr c :: a,b=>tkQ_app a b
def blk (c:UInt8):Prop:=c=32∨c=9∨c=10
def FitQ:List Pq→List UInt8→Prop
 | [],_=>True
 | .inr c :: r,post=>blk c∧FitQ r post
 | .inl w :: r,post=>Fits w (txQ r++post)∧FitQ r post
theorem fitQ_app:∀ (a b:List Pq) (post:List UInt8),FitQ a (txQ b++post)→FitQ b post→FitQ (a++b) post
 | [],b,post,_,h=>h
 | .inr c :: a,b,post,h1,h2=>⟨h1.1,fitQ_app a b post h1.2 h2⟩
 | .inl w :: a,b,post,h1,h2=>by
  refine ⟨?_,fitQ_app a b post h1.2 h2⟩
  show Fits w (txQ (a++b)++post)
  rw [txQ_app,List.append_assoc]
  exact h1.1
theorem words_pcQ:∀ (ps:List Pq) (ln co:Int) (n:Nat),FitQ ps []→n≤3000→er (wrds (runes (txQ ps)) ln co n)=if n+(tkQ ps).length≤3000 then ((tkQ ps).map (fun w=>(w.1,runes w.2)),0) else ([],4)
 | [],ln,co,n,_,hn=>by
  have hk:n+(tkQ []).length≤3000:=hn
  rw [if_pos hk];rfl
 | .inr c :: r,ln,co,n,h,hn=>by
  obtain ⟨hc,hr⟩:=h
  have e:tkQ (.inr c :: r)=tkQ r:=rfl
  rw [e,txQ_cons,show pieQ (.inr c)++txQ r=c :: txQ r from rfl]
  rcases hc with rfl | rfl | rfl
  ·rw [runes_ascii (by decide),wrds_cons,if_neg (by decide),if_pos (.inl (by decide))]
   exact words_pcQ r ln (co+1) n hr hn
  ·rw [runes_ascii (by decide),wrds_cons,if_neg (by decide),if_pos (.inr (by decide))]
   exact words_pcQ r ln (co+1) n hr hn
  ·rw [runes_ascii (by decide),wrds_cons,if_pos (by decide)]
   exact words_pcQ r (ln+1) 1 n hr hn
 | .inl w :: r,ln,co,n,h,hn=>by
  obtain ⟨⟨h0,h1,h2,v,t,h3,h4,h5,h6,h7⟩,hr⟩:=h
  rw [List.append_nil] at h1 h2
  have ht:tkQ (.inl w :: r)=w :: tkQ r:=rfl
  rw [ht,List.length_cons,List.map_cons,txQ_cons,show pieQ (.inl w)=w.2 from rfl,h1]
  have e:runes w.2++runes (txQ r)=v :: (t++runes (txQ r)):=by rw [h3];rfl
  rw [e] at h2 ⊢
  rw [wrds_cons,if_neg h4,if_neg (fun q=>q.elim h5 h6),if_neg h7,h2,if_neg h0]
  by_cases hf:n=3000
  ·rw [if_pos hf,if_neg (by omega)];rfl
  ·rw [if_neg hf,← e,List.take_left,List.drop_left,er_pre]
   have ih:=words_pcQ r ln (co+((runes w.2).length:Nat)) (n+1) hr (by omega)
   by_cases hk:n+((tkQ r).length+1)≤3000
   ·rw [if_pos (by omega)] at ih
    have e0:(wrds (runes (txQ r)) ln (co+((runes w.2).length:Nat)) (n+1)).2.2=0:=by
     have:=congrArg Prod.snd ih
     exact this
    rw [if_pos e0,ih,if_pos hk]
   ·rw [if_neg (by omega)] at ih
    have e0:(wrds (runes (txQ r)) ln (co+((runes w.2).length:Nat)) (n+1)).2.2=4:=by
     have:=congrArg Prod.snd ih
     exact this
    rw [if_neg (by rw [e0];decide),ih,if_neg hk]
theorem words_Q {ps:List Pq} (h:FitQ ps []):er (wordsS (txQ ps))=if (txQ ps).length≤12000∧(tkQ ps).length≤3000 then ((tkQ ps).map (fun w=>(w.1,runes w.2)),0) else ([],4):=by
 unfold wordsS
 by_cases hl:12000 < (txQ ps).length
 ·rw [if_pos hl,if_neg (by omega)];rfl
 ·rw [if_neg hl,words_pcQ ps 1 1 0 h (by omega)]
  by_cases hk:(tkQ ps).length≤3000
  ·rw [if_pos (by omega),if_pos ⟨by omega,hk⟩]
  ·rw [if_neg (by omega),if_neg (by omega)]
/-- An expression's pieces. -/
def qE (ps:List Pc):List Pq:=ps.map (fun p=>match p with | some w=>.inl w | none=>.inr 32)
theorem txQ_qE:∀ ps:List Pc,txQ (qE ps)=txP ps
 | []=>rfl
 | some w :: r=>congrArg (w.2++·) (txQ_qE r)
 | none :: r=>congrArg ([32]++·) (txQ_qE r)
theorem tkQ_qE:∀ ps:List Pc,tkQ (qE ps)=tkP ps
 | []=>rfl
 | some w :: r=>congrArg (w :: ·) (tkQ_qE r)
 | none :: r=>tkQ_qE r
theorem fitQ_qE:∀ (ps:List Pc) (post:List UInt8),FitsAll ps post→FitQ (qE ps) post
 | [],_,_=>trivial
 | some w :: r,post,h=>⟨by
   show Fits w (txQ (qE r)++post)
   rw [txQ_qE];exact h.1,fitQ_qE r post h.2⟩
 | none :: r,post,h=>⟨.inl rfl,fitQ_qE r post h⟩
/-- The pieces of a chart. -/
def kwQ (s:List UInt8):Pq:=.inl (1,s)
def sgQ (c:UInt8):Pq:=.inl (3,[c])
def nuQ (n:Int):Pq:=.inl (2,dcN n)
def spQ:Pq:=.inr 32
def nlQ:Pq:=.inr 10
def tbQ (n:Nat):List Pq:=List.replicate n (.inr 9)
def exQ (x:Sx):List Pq:=qE (pcs dcN x.1 x.2).2
def setQ (s:List UInt8 × Sx):List Pq:=[spQ,kwQ wSet,spQ,kwQ s.1,spQ,sgQ 61,spQ]++exQ s.2
def grdQ (g:Bool × Sx):List Pq:=if g.1=true then [spQ,kwQ wIf,spQ]++exQ g.2 else []
def onQ (n:Nat) (o:OnC):List Pq:=tbQ n++([kwQ wOn,spQ,kwQ o.1]++(grdQ o.2.1++([spQ,kwQ wGo,spQ,kwQ o.2.2.1]++((o.2.2.2.1.map setQ).flatten++[nlQ]))))
def kndQ (n:Nat) (h:HdC):List Pq:=
 if h.2.1.1=true then tbQ n++[kwQ wAll,nlQ] else
 if h.2.1.2=true then tbQ n++[kwQ wEnd,nlQ] else
 if h.2.2.1.1≠[] then tbQ n++[kwQ wDo,spQ,kwQ h.2.2.1.1,spQ,kwQ wUndo,spQ,kwQ h.2.2.1.2,spQ,kwQ wAt,spQ,nuQ h.2.2.2.1.1,spQ,kwQ wRetries,spQ,nuQ h.2.2.2.1.2,nlQ] else []
def stQ:(d:Nat)→Nat→St d→List Pq
 | 0,_,t=>Empty.elim t
 | d+1,n,t=>tbQ n++([kwQ wState,spQ,kwQ t.1.1.1,spQ,sgQ 123,nlQ]++(kndQ (n+1) t.1++((t.1.2.2.2.2.map (onQ (n+1))).flatten++((t.2.map (stQ d (n+1))).flatten++(tbQ n++[sgQ 125,nlQ])))))
def nmQ (n:Int):List Pq:=if n < 0 then [sgQ 45,nuQ (-n)] else [nuQ n]
def varQ (v:List UInt8 × Int × Pl):List Pq:=tbQ 1++([kwQ wVar,spQ,kwQ v.1,spQ,sgQ 61,spQ]++(nmQ v.2.1++[nlQ]))
abbrev ChX (d:Nat):=(List UInt8 × Pl) × Int × List (List UInt8 × Int × Pl) × List (St d)
def chQ (d:Nat) (c:ChX d):List Pq:=[kwQ wChart,spQ,kwQ c.1.1,spQ,nuQ c.2.1,spQ,sgQ 123,nlQ]++((c.2.2.1.map varQ).flatten++((c.2.2.2.map (stQ d 1)).flatten++[sgQ 125,nlQ]))
/-- What is formed. -/
def plX (x:Sx):Bool:=plC x.1 x.2
def nbB (n:Int):Bool:=decide (0≤n∧n≤1000000000)
def exF (x:Sx):Bool:=fmX x && plX x
def setF (s:List UInt8 × Sx):Bool:=plainB s.1 && exF s.2
def onF (o:OnC):Bool:=plainB o.1 && ((!o.2.1.1 || exF o.2.1.2) && (plainB o.2.2.1 && o.2.2.2.1.all setF))
def stepB (h:HdC):Bool:=!(decide (h.2.2.1.1=[]) && decide (h.2.2.1.2=[]) && decide (h.2.2.2.1.1=0) && decide (h.2.2.2.1.2=0))
def kndF (h:HdC):Bool:=if stepB h=true then !h.2.1.1 && !h.2.1.2 && plainB h.2.2.1.1 && plainB h.2.2.1.2 && nbB h.2.2.2.1.1 && nbB h.2.2.2.1.2 else !h.2.1.1 || !h.2.1.2
def stF:(d:Nat)→Nat→St d→Bool
 | 0,_,t=>Empty.elim t
 | d+1,n,t=>decide (n≤6) && plainB t.1.1.1 && kndF t.1 && t.1.2.2.2.2.all onF && t.2.all (stF d (n+1))
def varF (v:List UInt8 × Int × Pl):Bool:=plainB v.1 && decide (-1000000000≤v.2.1∧v.2.1≤1000000000)
def chF (d:Nat) (c:ChX d):Bool:=plainB c.1.1 && nbB c.2.1 && c.2.2.1.all varF && c.2.2.2.all (stF d 1)
/-- Its expressions are clean ones. -/
def OnCl (o:OnC):Prop:=(o.2.1.1=true→ClX o.2.1.2)∧∀ s∈o.2.2.2.1,ClX s.2
def StCl:(d:Nat)→St d→Prop
 | 0,t=>Empty.elim t
 | d+1,t=>(∀ o∈t.1.2.2.2.2,OnCl o)∧∀ x∈t.2,StCl d x
/-- They fit. -/
theorem plain_name {s:List UInt8} (h:plainB s=true):nameS s=true:=by
 unfold plainB at h
 exact ((Bool.and_eq_true _ _).mp h).1
theorem fits_brace {c:UInt8} (h:c=123∨c=125) (post:List UInt8):Fits (3,[c]) post:=by
 rcases h with rfl | rfl
 ·exact fits_shape (by decide) (by decide) (by decide) (by decide) (by decide) (fun v r _=>by unfold pair;rw [decide_eq_false_iff_not];simp)
 ·exact fits_shape (by decide) (by decide) (by decide) (by decide) (by decide) (fun v r _=>by unfold pair;rw [decide_eq_false_iff_not];simp)
theorem fits_eq (post:List UInt8):Fits (3,[61]) (32 :: post):=fits_shape (by decide) (by decide) (by decide) (by decide) (by decide) (fun v r hv=>by
 rw [runes_ascii (by decide)] at hv
 injection hv with h1 _
 rw [← h1];decide)
theorem num_dc {n:Int} (h0:0≤n) (h1:n≤1000000000):numB (dcN n)=true:=dd_num (by omega)
theorem fitQ_tb:∀ (n:Nat) (post:List UInt8),FitQ (tbQ n) post
 | 0,_=>trivial
 | n+1,post=>⟨.inr (.inl rfl),fitQ_tb n post⟩
theorem exF_parts {x:Sx} (hc:ClX x) (h:exF x=true):okT (valB 0) rsvB dcN x.1 x.2∧rtT dcN x.1 x.2:=by
 unfold exF at h
 rw [Bool.and_eq_true] at h
 exact ok_sound x.1 x.2 hc (fm_parts h.1).2 h.2
theorem fitQ_ex {x:Sx} (hc:ClX x) (h:exF x=true) {post:List UInt8} (hp:Post post):FitQ (exQ x) post:=
 fitQ_qE _ _ ((fits_tree dcN x.1 x.2 hc (exF_parts hc h).2).1 post hp)
end Go.Proofs.YtfjdceknbdmhpaaGreatDoor
/- Package show's rightName, rightNumber, rightExpression. -/
namespace Go.Proofs.YtfjdceknbdmhpaaGreatDoor
open Go.RowKit Go.Lib
set_option linter.unusedSimpArgs false
set_option linter.unusedVariables false
attribute [local go_sem ↓] Go.wp_at_zero Go.wp_at_succ
theorem rname_any (s:List UInt8) (w:World) (hs:s.length≤140737488351232):Calls Tryz.prog 51 #[sV s] w fun e w'=>e=.returned (.bool (plainB s))∧Below w.heap.size w w':=by
 have hz:(⟨s.toArray⟩:ByteArray).size≤140737488351232:=by show s.toArray.size≤_;simpa using hs
 have h1:=fun w1=>pName_any ⟨s.toArray⟩ w1 hz
 have h2:=fun w1=>pReserved_any ⟨s.toArray⟩ w1
 have e1:bl (⟨s.toArray⟩:ByteArray)=s:=by unfold bl;simp
 rw [e1] at h1 h2
 unfold plainB sV
 generalize (⟨s.toArray⟩:ByteArray)=t at *
 cases h3:nameS s <;> cases h4:rsvB s
 all_goals (
  simp only [h3] at h1
  simp only [h4] at h2
  go_enter Tryz.func51,Tryz.ntmps51
  go_wp2_with (first
   | (go_at_call 89;refine (h1 _).mono ?_;rintro e w1 ⟨rfl,b1⟩)
   | (go_at_call 90;refine (h2 _).mono ?_;rintro e w2 ⟨rfl,hw2⟩;subst hw2)
   | fail)
  go_ret
  exact ⟨rfl,b1⟩)
theorem rnum_any (n:Int) (w:World):Calls Tryz.prog 52 #[.int .i64 n] w fun e w'=>e=.returned (.bool (nbB n))∧Below w.heap.size w w':=by
 unfold nbB
 by_cases h1:0≤n
 ·by_cases h2:n≤1000000000
  ·rw [decide_eq_true ⟨h1,h2⟩]
   go_enter Tryz.func52,Tryz.ntmps52
   go_wp2
   go_ret
   exact ⟨rfl,Below.refl _ _⟩
  ·rw [decide_eq_false (fun q=>h2 q.2)]
   go_enter Tryz.func52,Tryz.ntmps52
   go_wp2
   go_ret
   exact ⟨rfl,Below.refl _ _⟩
 ·rw [decide_eq_false (fun q=>h1 q.1)]
  go_enter Tryz.func52,Tryz.ntmps52
  go_wp2
  go_ret
  exact ⟨rfl,Below.refl _ _⟩
theorem rexp_any {x:Sx} (h:ExOk x) (hn:cntX x≤1000) (w:World) (hw:Pow w):Calls Tryz.prog 159 #[exX x] w fun e w'=>e=.returned (.bool (exF x))∧Below w.heap.size w w':=by
 have h1:=printP w h.1 (by unfold cntX at hn;exact hn) h.2.2 hw
 have h2:Calls Tryz.prog 208 #[exX x] w fun e w'=>e=.returned (.tuple #[.string ⟨(prC x.1 x.2).1.toArray⟩,.int .i64 (if exF x=true then 0 else 1)])∧Below w.heap.size w w':=by
  refine h1.mono ?_
  rintro e w' ⟨he,hb⟩
  refine ⟨?_,hb⟩
  rw [he]
  have:(prC x.1 x.2).2=if exF x=true then 0 else 1:=by
   unfold prC exF fmX plX
   simp only [Bool.and_eq_true]
   split <;> rfl
  rw [this]
 generalize exX x=v at *
 cases h3:exF x
 all_goals (
  simp only [h3] at h2
  go_enter Tryz.func159,Tryz.ntmps159
  go_wp2_with (first
   | (go_at_call 208;refine h2.mono ?_;rintro e w1 ⟨rfl,b1⟩)
   | fail)
  go_ret
  exact ⟨rfl,b1⟩)
theorem Tryz.infoESet:(Tryz.prog.info? 136).map (fun i=>(i.zero,i.size,i.bytes))=some (some (.agg #[.string ⟨#[]⟩,.nilIface]),2,32):=by kernel_rfl
theorem mkHid {p:Prop} (h:p):Hid p:=h
set_option maxRecDepth 100000 in
set_option maxHeartbeats 8000000 in
theorem eachSet_any {ok:Nat→Prop} {w:World} {l:List (List UInt8 × Sx)} {v:Value} (h:RdK ok w 2 (rSet ok w) l v) (hl:l.length≤100000) (hok:∀ s∈l,SetOk s) :
  Calls Tryz.prog 135 #[v,.func (.func 136) #[] #[]] w fun e w'=>∃ u,e=.returned u∧RdK (fun b=>w.heap.size≤b) w' 2 (rSet (fun b=>w.heap.size≤b) w') (l) u∧Below w.heap.size w w':=by
 obtain ⟨ie,hie,hie0,hie1,hie2⟩:=info_parts Tryz.infoESet
 obtain ⟨a,cap,rfl,hlc,hcm⟩:=h.form
 unfold maxLen at hcm
 have HC:=mkHid h
 have HK:=mkHid hok
 obtain ⟨n,hn⟩:∃ n,l.length=n:=⟨_,rfl⟩
 rw [hn] at hlc hl ⊢
 have HN:Hid (l.length=n):=hn
 clear h hok hn
 have hmk:=run_make (P:=Tryz.prog) w 131 136 ie _ Tryz.underlying131 hie hie0 .i64 .i64 (n:Int) (n:Int) (by omega) (by omega) (by rw [hie2];omega) (by omega)
 rw [Int.toNat_natCast,hie1] at hmk
 have hG0:RowG (w.alloc (.cells (madeCells (.agg #[.string ⟨#[]⟩,.nilIface]:Value).cells (n*2)) 136)) w.heap.size 2 n rSet ([]:List (List UInt8 × Sx)):=RowG.made w _ 2 n _ _
 have hb0:Below w.heap.size w (w.alloc (.cells (madeCells (.agg #[.string ⟨#[]⟩,.nilIface]:Value).cells (n*2)) 136)):=(Below.refl _ _).alloc (Nat.le_refl _) _
 have hs0:(w.alloc (.cells (madeCells (.agg #[.string ⟨#[]⟩,.nilIface]:Value).cells (n*2)) 136)).heap.size=w.heap.size+1:=by simp
 generalize w.alloc (.cells (madeCells (.agg #[.string ⟨#[]⟩,.nilIface]:Value).cells (n*2)) 136)=w0 at *
 go_enter Tryz.func135,Tryz.ntmps135
 go_wp2
 go_loopw [13] (fun ix wr=>∃ (i:Nat),i≤n∧ix=.int .i64 (i:Int)∧RowG wr w.heap.size 2 n rSet ((l).take i)∧Below w.heap.size w wr∧w.heap.size < wr.heap.size) (fun ix _=>n - (RowKit.intOf ix).toNat)
 case atStart=>exact ⟨0,Nat.zero_le _,rfl,hG0,hb0,by omega⟩
 case round=>
  obtain ⟨i,hi,rfl,hRow,hb,hGs⟩:=hrel
  clear hG0 hb0 hs0 hmk
  by_cases hlt:i < n
  ·have hil:i < l.length:=by rw [HN.out];exact hlt
   obtain ⟨b,off,rfl,hbl,hc⟩:=setQ_at HC.out i hil
   have hks:=HK.out _ (List.getElem_mem hil)
   have hcall0:=copiedSet_any hks
   obtain ⟨q,hq⟩:∃ q,l[i]=q:=⟨_,rfl⟩
   rw [hq] at hc hcall0
   have HQ:Hid (l[i]=q):=hq
   clear hq hks
   obtain ⟨s0,hs0⟩:∃ s0,sV q.1=.string s0:=⟨_,rfl⟩
   have hform:=exX_form q.2
   obtain ⟨tv,htv⟩:∃ tv,exX q.2=tv:=⟨_,rfl⟩
   rw [hs0,htv] at hc hcall0
   rw [htv] at hform
   have HS:Hid (sV q.1=.string s0):=hs0
   have HTV:Hid (exX q.2=tv):=htv
   clear hs0 htv
   obtain ⟨acc,hac⟩:∃ acc,(l).take i=acc:=⟨_,rfl⟩
   have hla:acc.length=i:=by rw [← hac];simp [HN.out];omega
   rw [hac] at hRow
   have HAC:Hid ((l).take i=acc):=hac
   clear hac
   have i1:(i:Int) < (n:Int):=by omega
   have i2:(0:Int)≤(i:Int):=by omega
   have C0:=(hb.cell (p:=⟨b,off+i*2+0,none⟩) hbl).trans (hc 0 _ rfl)
   have C1:=(hb.cell (p:=⟨b,off+i*2+1,none⟩) hbl).trans (hc 1 _ rfl)
   rw [Nat.add_zero] at C0
   clear hc
   rcases hform with rfl | ⟨tu,ty,rfl⟩
   ·have hal:=(Below.refl wr.heap.size wr).alloc (Nat.le_refl _) (.cells #[.string s0,.nilIface] 136)
    have hX:=Bn.new wr [.string s0,.nilIface] 136 _ rfl
    have hRx:=hRow.on kp_set hGs hal
    have hbx:=hb.trans (hal.mono hb.size)
    have hGx:=Nat.lt_of_lt_of_le hGs hal.size
    have hcall:∀ w1,Below w.heap.size w w1→Calls Tryz.prog 136 #[.agg #[.string s0,.nilIface]] w1 fun e w'=>e=.returned (.agg #[.string s0,.nilIface])∧Below w1.heap.size w1 w':=fun w1 _=>hcall0 w1
    go_upto_region 5 with fail
    clear C0 C1 hal
    generalize wr.alloc (.cells #[.string s0,.nilIface] 136)=wx at *
    obtain ⟨X,hXX⟩:∃ X,wr.heap.size=X:=⟨_,rfl⟩
    rw [hXX] at hX ⊢
    have HXX:Hid (wr.heap.size=X):=hXX
    clear hXX
    obtain ⟨x0,_⟩:=hX 0 _ rfl
    obtain ⟨x1,_⟩:=hX 1 _ rfl
    go_wp2_with (first
     | (go_at_call 136;refine (hcall _ hbx).mono ?_;rintro e w1 ⟨rfl,b1⟩;have hp:rSet (fun b=>w.heap.size < b) w1 q [.string s0,.nilIface]:=(by show _=_;rw [HS.out,HTV.out]);have hR1:=hRx.on kp_set hGx b1;obtain ⟨⟨r0,q0⟩,z0⟩:=hR1.1 (i*2+0) (mul_in hlt (by omega));obtain ⟨⟨r1,q1⟩,z1⟩:=hR1.1 (i*2+1) (mul_in hlt (by omega));rw [Nat.add_zero] at q0 z0)
     | fail)
    have hP:=hR1.put kp_set (x:=q) (cs:=[.string s0,.nilIface]) (by rw [hla];exact hlt) rfl hp
    rw [hla] at hP
    have hb2:=putL_below [.string s0,.nilIface] w1 w.heap.size (i*2) (hbx.trans (b1.mono (Nat.le_of_lt hGx))) (Nat.le_refl _)
    have hs2:w.heap.size < (putL w1 w.heap.size (i*2) [.string s0,.nilIface]).heap.size:=by rw [putL_size];exact Nat.lt_of_lt_of_le hGx b1.size
    have hac2:(l).take (i+1)=acc++[q]:=by
     rw [List.take_succ_eq_append_getElem (by simp [HN.out];omega),HAC.out]
     simp [HQ.out]
    clear x0 r0 q0 z0 x1 r1 q1 z1 hR1 hRx hp
    go_wp2
    go_roundw
    case rel=>exact ⟨i+1,hlt,by go_num,by rw [hac2];exact hP,hb2,hs2⟩
    case measure=>simp [RowKit.intOf];omega
   ·have hal:=(Below.refl wr.heap.size wr).alloc (Nat.le_refl _) (.cells #[.string s0,.iface tu ty] 136)
    have hX:=Bn.new wr [.string s0,.iface tu ty] 136 _ rfl
    have hRx:=hRow.on kp_set hGs hal
    have hbx:=hb.trans (hal.mono hb.size)
    have hGx:=Nat.lt_of_lt_of_le hGs hal.size
    have hcall:∀ w1,Below w.heap.size w w1→Calls Tryz.prog 136 #[.agg #[.string s0,.iface tu ty]] w1 fun e w'=>e=.returned (.agg #[.string s0,.iface tu ty])∧Below w1.heap.size w1 w':=fun w1 _=>hcall0 w1
    go_upto_region 5 with fail
    clear C0 C1 hal
    generalize wr.alloc (.cells #[.string s0,.iface tu ty] 136)=wx at *
    obtain ⟨X,hXX⟩:∃ X,wr.heap.size=X:=⟨_,rfl⟩
    rw [hXX] at hX ⊢
    have HXX:Hid (wr.heap.size=X):=hXX
    clear hXX
    obtain ⟨x0,_⟩:=hX 0 _ rfl
    obtain ⟨x1,_⟩:=hX 1 _ rfl
    go_wp2_with (first
     | (go_at_call 136;refine (hcall _ hbx).mono ?_;rintro e w1 ⟨rfl,b1⟩;have hp:rSet (fun b=>w.heap.size < b) w1 q [.string s0,.iface tu ty]:=(by show _=_;rw [HS.out,HTV.out]);have hR1:=hRx.on kp_set hGx b1;obtain ⟨⟨r0,q0⟩,z0⟩:=hR1.1 (i*2+0) (mul_in hlt (by omega));obtain ⟨⟨r1,q1⟩,z1⟩:=hR1.1 (i*2+1) (mul_in hlt (by omega));rw [Nat.add_zero] at q0 z0)
     | fail)
    have hP:=hR1.put kp_set (x:=q) (cs:=[.string s0,.iface tu ty]) (by rw [hla];exact hlt) rfl hp
    rw [hla] at hP
    have hb2:=putL_below [.string s0,.iface tu ty] w1 w.heap.size (i*2) (hbx.trans (b1.mono (Nat.le_of_lt hGx))) (Nat.le_refl _)
    have hs2:w.heap.size < (putL w1 w.heap.size (i*2) [.string s0,.iface tu ty]).heap.size:=by rw [putL_size];exact Nat.lt_of_lt_of_le hGx b1.size
    have hac2:(l).take (i+1)=acc++[q]:=by
     rw [List.take_succ_eq_append_getElem (by simp [HN.out];omega),HAC.out]
     simp [HQ.out]
    clear x0 r0 q0 z0 x1 r1 q1 z1 hR1 hRx hp
    go_wp2
    go_roundw
    case rel=>exact ⟨i+1,hlt,by go_num,by rw [hac2];exact hP,hb2,hs2⟩
    case measure=>simp [RowKit.intOf];omega
  ·have i1:¬ (i:Int) < (n:Int):=by omega
   have hin:i=n:=by omega
   have hfull:(l).take i=l:=List.take_of_length_le (by simp [HN.out];omega)
   rw [hfull] at hRow
   have hrd:=hRow.rd kp_set hGs (by simp [HN.out]) (by unfold maxLen;omega)
   go_wp2
   go_ret
   exact ⟨_,rfl,hrd,hb⟩
def SetK (s:List UInt8 × Sx):Prop:=SetOk s∧cntX s.2≤1000
set_option maxRecDepth 100000 in
set_option maxHeartbeats 8000000 in
theorem rset_nil (s0:ByteArray) (bn be:Bool) (w:World) (hn:∀ w1,Below w.heap.size w w1→Calls Tryz.prog 51 #[.string s0] w1 fun e w'=>e=.returned (.bool bn)∧Below w1.heap.size w1 w') (he:∀ w1,Below w.heap.size w w1→Calls Tryz.prog 159 #[.nilIface] w1 fun e w'=>e=.returned (.bool be)∧Below w1.heap.size w1 w'):Calls Tryz.prog 161 #[.agg #[.string s0,.nilIface]] w fun e w'=>e=.returned (.bool (bn && be))∧Below w.heap.size w w':=by
 have hal:Below w.heap.size w (w.alloc (.cells #[.string s0,.nilIface] 136)):=(Below.refl w.heap.size w).alloc (Nat.le_refl _) _
 have hX:Bn (w.alloc (.cells #[.string s0,.nilIface] 136)) w.heap.size [.string s0,.nilIface]:=Bn.new w [.string s0,.nilIface] 136 _ rfl
 cases bn <;> cases be
 all_goals (
  go_enter Tryz.func161,Tryz.ntmps161
  go_upto_region 1 with fail
  generalize (w.alloc (.cells #[.string s0,.nilIface] 136))=wx at *
  have hB:Below wx.heap.size wx wx:=Below.refl _ _
  obtain ⟨x0,_⟩:=hX 0 _ rfl
  obtain ⟨x1,_⟩:=hX 1 _ rfl
  go_wp2_with (first
   | (go_at_call 51;refine (hn _ (hal.trans (hB.mono hal.size))).mono ?_;rintro e w1 ⟨rfl,b1⟩;have hB:=Below.nx hB b1;obtain ⟨x1,_⟩:=(hX.on hB) 1 _ rfl)
   | (go_at_call 159;refine (he _ (hal.trans (hB.mono hal.size))).mono ?_;rintro e w1 ⟨rfl,b1⟩;have hB:=Below.nx hB b1;skip)
   | fail)
  go_ret
  exact ⟨rfl,hal.trans (hB.mono hal.size)⟩)
set_option maxRecDepth 100000 in
set_option maxHeartbeats 8000000 in
theorem rset_ifc (s0:ByteArray) (tu:TypeId) (ty:Value) (bn be:Bool) (w:World) (hn:∀ w1,Below w.heap.size w w1→Calls Tryz.prog 51 #[.string s0] w1 fun e w'=>e=.returned (.bool bn)∧Below w1.heap.size w1 w') (he:∀ w1,Below w.heap.size w w1→Calls Tryz.prog 159 #[.iface tu ty] w1 fun e w'=>e=.returned (.bool be)∧Below w1.heap.size w1 w'):Calls Tryz.prog 161 #[.agg #[.string s0,.iface tu ty]] w fun e w'=>e=.returned (.bool (bn && be))∧Below w.heap.size w w':=by
 have hal:Below w.heap.size w (w.alloc (.cells #[.string s0,.iface tu ty] 136)):=(Below.refl w.heap.size w).alloc (Nat.le_refl _) _
 have hX:Bn (w.alloc (.cells #[.string s0,.iface tu ty] 136)) w.heap.size [.string s0,.iface tu ty]:=Bn.new w [.string s0,.iface tu ty] 136 _ rfl
 cases bn <;> cases be
 all_goals (
  go_enter Tryz.func161,Tryz.ntmps161
  go_upto_region 1 with fail
  generalize (w.alloc (.cells #[.string s0,.iface tu ty] 136))=wx at *
  have hB:Below wx.heap.size wx wx:=Below.refl _ _
  obtain ⟨x0,_⟩:=hX 0 _ rfl
  obtain ⟨x1,_⟩:=hX 1 _ rfl
  go_wp2_with (first
   | (go_at_call 51;refine (hn _ (hal.trans (hB.mono hal.size))).mono ?_;rintro e w1 ⟨rfl,b1⟩;have hB:=Below.nx hB b1;obtain ⟨x1,_⟩:=(hX.on hB) 1 _ rfl)
   | (go_at_call 159;refine (he _ (hal.trans (hB.mono hal.size))).mono ?_;rintro e w1 ⟨rfl,b1⟩;have hB:=Below.nx hB b1;skip)
   | fail)
  go_ret
  exact ⟨rfl,hal.trans (hB.mono hal.size)⟩)
set_option maxRecDepth 100000 in
set_option maxHeartbeats 8000000 in
theorem everySet_any  {ok:Nat→Prop} {w:World} {l:List (List UInt8 × Sx)} {v:Value} (h:RdK ok w 2 (rSet ok w) l v) (hok:∀ s∈l,SetK s) (hp:Pow w) :
  Calls Tryz.prog 160 #[v,.func (.func 161) #[] #[]] w fun e w'=>e=.returned (.bool (l.all (setF)))∧Below w.heap.size w w':=by
 obtain ⟨a,cap,rfl,hlc,hcm⟩:=h.form
 unfold maxLen at hcm
 have HC:=mkHid h
 have HK:=mkHid hok
 obtain ⟨n,hn⟩:∃ n,l.length=n:=⟨_,rfl⟩
 rw [hn] at hlc ⊢
 have HN:Hid (l.length=n):=hn
 obtain ⟨f,hf⟩:∃ f:(List UInt8 × Sx)→Bool,(setF)=f:=⟨_,rfl⟩
 rw [hf]
 have HF:=mkHid hf
 obtain ⟨V,HA⟩:∃ V,l.all f=V:=⟨_,rfl⟩
 rw [HA]
 have HAA:=mkHid HA
 clear h hok hn hf HA
 go_enter Tryz.func160,Tryz.ntmps160
 go_wp2
 go_loopw [9] (fun ix wr=>∃ (i:Nat),i≤n∧ix=.int .i64 (i:Int)∧Hid (∀ x∈l.take i,f x=true)∧Below w.heap.size w wr) (fun ix _=>n - (RowKit.intOf ix).toNat)
 case atStart=>exact ⟨0,Nat.zero_le _,rfl,(show Hid _ from fun x hx=>by simp at hx),Below.refl _ _⟩
 case round=>
  obtain ⟨i,hi,rfl,hT,hb⟩:=hrel
  by_cases hlt:i < n
  ·have hil:i < l.length:=by rw [HN.out];exact hlt
   have HA:=HAA.out
   obtain ⟨b,off,rfl,hbl,hc⟩:=setQ_at HC.out i hil
   have hks:=HK.out _ (List.getElem_mem hil)
   obtain ⟨q,hq⟩:∃ q,l[i]=q:=⟨_,rfl⟩
   have HQ:=mkHid hq
   rw [hq] at hc hks
   have hfx:f q=(plainB q.1 && exF q.2):=by rw [← HF.out];rfl
   have hnm:=fun w1=>rname_any q.1 w1 hks.1.1
   have hex:=fun w1 hp=>rexp_any hks.1.2 hks.2 w1 hp
   obtain ⟨s0,hs0⟩:∃ s0,sV q.1=.string s0:=⟨_,rfl⟩
   have hform:=exX_form q.2
   obtain ⟨tv,htv⟩:∃ tv,exX q.2=tv:=⟨_,rfl⟩
   rw [hs0,htv] at hc
   rw [hs0] at hnm
   rw [htv] at hform hex
   clear hs0 htv hq hks
   have i1:(i:Int) < (n:Int):=by omega
   have i2:(0:Int)≤(i:Int):=by omega
   have C0:=(hb.cell (p:=⟨b,off+i*2+0,none⟩) hbl).trans (hc 0 _ rfl)
   have C1:=(hb.cell (p:=⟨b,off+i*2+1,none⟩) hbl).trans (hc 1 _ rfl)
   rw [Nat.add_zero] at C0
   clear hc
   rcases hform with rfl | ⟨tu,ty,rfl⟩
   ·have hal:Below wr.heap.size wr (wr.alloc (.cells #[.string s0,.nilIface] 136)):=(Below.refl _ _).alloc (Nat.le_refl _) _
    have hX:Bn (wr.alloc (.cells #[.string s0,.nilIface] 136)) wr.heap.size [.string s0,.nilIface]:=Bn.new wr [.string s0,.nilIface] 136 _ rfl
    have hbx:=hb.trans (hal.mono hb.size)
    have hcall:∀ w1,Below w.heap.size w w1→Calls Tryz.prog 161 #[.agg #[.string s0,.nilIface]] w1 fun e w'=>e=.returned (.bool (f q))∧Below w1.heap.size w1 w':=fun w1 b1=>by
     rw [hfx]
     exact rset_nil s0 _ _ w1 (fun w2 _=>hnm w2) (fun w2 b2=>hex w2 ((hp.below b1).below b2))
    clear hnm hex hfx
    have hac2:Hid (f q=true→(∀ x∈l.take (i+1),f x=true)):=fun hq=>by
     rw [List.take_succ_eq_append_getElem hil,HQ.out]
     intro x hx
     rcases List.mem_append.1 hx with hx | hx
     ·exact hT.out x hx
     ·rw [List.mem_singleton.1 hx];exact hq
    have hall:Hid (f q=false→l.all f=false):=fun hq=>by
     show l.all f=false
     rw [List.all_eq_false]
     exact ⟨q,by rw [← HQ.out];exact List.getElem_mem hil,by rw [hq];decide⟩
    cases hfq:f q with
    | true=>
     rw [hfq] at hcall
     have hT2:Hid (∀ x∈l.take (i+1),f x=true):=hac2.out hfq
     clear hac2 hall hfq
     go_upto_region 4 with fail
     clear C0 C1
     generalize (wr.alloc (.cells #[.string s0,.nilIface] 136))=wx at *
     obtain ⟨x0,_⟩:=hX 0 _ rfl
     obtain ⟨x1,_⟩:=hX 1 _ rfl
     go_wp2_with (first
      | (go_at_call 161;refine (hcall _ hbx).mono ?_;rintro e w1 ⟨rfl,b1⟩)
      | fail)
     have hb2:=hbx.trans (b1.mono hbx.size)
     go_wp2
     go_roundw
     case rel=>exact ⟨i+1,hlt,by go_num,hT2,hb2⟩
     case measure=>simp [RowKit.intOf];omega
    | false=>
     rw [hfq] at hcall
     have hA:=hall.out hfq
     rw [hA] at HA
     subst HA
     clear hac2 hall hfq hA
     go_upto_region 4 with fail
     clear C0 C1
     generalize (wr.alloc (.cells #[.string s0,.nilIface] 136))=wx at *
     obtain ⟨x0,_⟩:=hX 0 _ rfl
     obtain ⟨x1,_⟩:=hX 1 _ rfl
     go_wp2_with (first
      | (go_at_call 161;refine (hcall _ hbx).mono ?_;rintro e w1 ⟨rfl,b1⟩)
      | fail)
     go_ret
     exact ⟨rfl,hbx.trans (b1.mono hbx.size)⟩
   ·have hal:Below wr.heap.size wr (wr.alloc (.cells #[.string s0,.iface tu ty] 136)):=(Below.refl _ _).alloc (Nat.le_refl _) _
    have hX:Bn (wr.alloc (.cells #[.string s0,.iface tu ty] 136)) wr.heap.size [.string s0,.iface tu ty]:=Bn.new wr [.string s0,.iface tu ty] 136 _ rfl
    have hbx:=hb.trans (hal.mono hb.size)
    have hcall:∀ w1,Below w.heap.size w w1→Calls Tryz.prog 161 #[.agg #[.string s0,.iface tu ty]] w1 fun e w'=>e=.returned (.bool (f q))∧Below w1.heap.size w1 w':=fun w1 b1=>by
     rw [hfx]
     exact rset_ifc s0 tu ty _ _ w1 (fun w2 _=>hnm w2) (fun w2 b2=>hex w2 ((hp.below b1).below b2))
    clear hnm hex hfx
    have hac2:Hid (f q=true→(∀ x∈l.take (i+1),f x=true)):=fun hq=>by
     rw [List.take_succ_eq_append_getElem hil,HQ.out]
     intro x hx
     rcases List.mem_append.1 hx with hx | hx
     ·exact hT.out x hx
     ·rw [List.mem_singleton.1 hx];exact hq
    have hall:Hid (f q=false→l.all f=false):=fun hq=>by
     show l.all f=false
     rw [List.all_eq_false]
     exact ⟨q,by rw [← HQ.out];exact List.getElem_mem hil,by rw [hq];decide⟩
    cases hfq:f q with
    | true=>
     rw [hfq] at hcall
     have hT2:Hid (∀ x∈l.take (i+1),f x=true):=hac2.out hfq
     clear hac2 hall hfq
     go_upto_region 4 with fail
     clear C0 C1
     generalize (wr.alloc (.cells #[.string s0,.iface tu ty] 136))=wx at *
     obtain ⟨x0,_⟩:=hX 0 _ rfl
     obtain ⟨x1,_⟩:=hX 1 _ rfl
     go_wp2_with (first
      | (go_at_call 161;refine (hcall _ hbx).mono ?_;rintro e w1 ⟨rfl,b1⟩)
      | fail)
     have hb2:=hbx.trans (b1.mono hbx.size)
     go_wp2
     go_roundw
     case rel=>exact ⟨i+1,hlt,by go_num,hT2,hb2⟩
     case measure=>simp [RowKit.intOf];omega
    | false=>
     rw [hfq] at hcall
     have hA:=hall.out hfq
     rw [hA] at HA
     subst HA
     clear hac2 hall hfq hA
     go_upto_region 4 with fail
     clear C0 C1
     generalize (wr.alloc (.cells #[.string s0,.iface tu ty] 136))=wx at *
     obtain ⟨x0,_⟩:=hX 0 _ rfl
     obtain ⟨x1,_⟩:=hX 1 _ rfl
     go_wp2_with (first
      | (go_at_call 161;refine (hcall _ hbx).mono ?_;rintro e w1 ⟨rfl,b1⟩)
      | fail)
     go_ret
     exact ⟨rfl,hbx.trans (b1.mono hbx.size)⟩
  ·have i1:¬ (i:Int) < (n:Int):=by omega
   have hV:V=true:=by
    rw [← HAA.out,List.all_eq_true]
    have hf:=hT.out
    rw [List.take_of_length_le (by rw [HN.out];omega)] at hf
    exact hf
   subst hV
   go_wp2
   go_ret
   exact ⟨rfl,hb⟩
end Go.Proofs.YtfjdceknbdmhpaaGreatDoor
