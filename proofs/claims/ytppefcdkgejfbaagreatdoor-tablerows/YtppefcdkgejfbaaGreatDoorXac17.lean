import Derived.Test.YtppefcdkgejfbaaGreatDoorXac16
import Derived.Test.YtppefcdkgejfbaaGreatDoorXac02
import Derived.Test.YtppefcdkgejfbaaGreatDoorXac12
set_option maxRecDepth 100000
set_option maxHeartbeats 32000000
namespace Go.Proofs.YtppefcdkgejfbaaGreatDoor
open Go.RowKit Go.Lib
set_option linter.unusedSimpArgs false
set_option linter.unusedVariables false
attribute [local go_sem ↓] Go.wp_at_zero Go.wp_at_succ
structure FsOk {d:Nat}(c:ChG d) (fs:List (Int × SgS)):Prop where
 l:fs.length<=1000000
 o:∀ x∈fs,(sgO x.2).length<=1000000
 v:c.2.2.1.length<=1000000
 st:∀ x∈fs,StOk x.2.1 x.2.2
 on:∀ x∈fs,∀ o∈sgO x.2,OnQ o
 ah:Ahd fs.length (paF fs)
def qO (fs:List (Int × SgS)) (r:Nat->Nat->SgS->OnC->Bool) (i j:Nat):Bool:=atB fs (fun x=>atB (sgO x.2) (r i j x.2) j) i
theorem qO_of {fs:List (Int × SgS)}{r:Nat->Nat->SgS->OnC->Bool}{i j:Nat}(hi:i < fs.length) (hj:j < (sgO (fs[i]).2).length):qO fs r i j=r i j (fs[i]).2 (sgO (fs[i]).2)[j]:=by
 unfold qO
 rw [atB_of hi,atB_of hj]
def tmR {d:Nat}(c:ChG d) (fs:List (Int × SgS)):Option Pl:=match c.2.2.1[8]? with
 | some x=>some x.2.2
 | none=>if fs.length=0 then some c.1.2 else frS (fun i=>(i:Int) == 40) (qO fs (fun _ j _ o=>decide ((j:Int)=6) || decide (4 < o.2.2.2.1.length))) fs 0
def ntV (vs:List (List UInt8 × Int × Pl)):List (List UInt8 × Int × Pl)->Nat->Option Pl
 | [],_=>none
 | x :: r,k=>if fdV vs ⟨x.1.toArray⟩ < k then some x.2.2 else ntV vs r (k+1)
def ntP (fs:List (Int × SgS)) (i:Nat):Bool:=atB fs (fun x=>decide (fdS fs (sgN x.2) < i)) i
def ntR {d:Nat}(c:ChG d) (fs:List (Int × SgS)):Option Pl:=match ntV c.2.2.1 c.2.2.1 0 with
 | some a=>some a
 | none=>frS (ntP fs) (fun _ _=>false) fs 0
def orP (fs:List (Int × SgS)) (i:Nat):Bool:=atB fs (fun x=>decide (4<=(sgH x.2).2.2.2.1.1) || decide (5 < (sgH x.2).2.2.2.1.2)) i
def orR (fs:List (Int × SgS)):Option Pl:=frS (orP fs) (fun _ _=>false) fs 0
def unR {d:Nat}(c:ChG d) (fs:List (Int × SgS)):Option Pl:=frS (fun _=>false) (qO fs (fun _ _ _ o=>unO c.2.2.1 o)) fs 0
def miR (fs:List (Int × SgS)):Option Pl:=frS (fun i=>atB fs (fun x=>miK x.2) i) (qO fs (fun _ _ x o=>dnB (onEv o) && !stpB (sgD x))) fs 0
def asR (fs:List (Int × SgS)):Option Pl:=frS (fun _=>false) (qO fs (fun i _ _ o=>asB fs i (fdS fs (onTg o)))) fs 0
def bwR (fs:List (Int × SgS)):Option Pl:=frS (fun _=>false) (qO fs (fun i _ _ o=>dnB (onEv o) && decide (fdS fs (onTg o)<=(i:Int)))) fs 0
theorem unR_any_res {w:World}{R:Nat}{a b:Int}{q:Bool}{tmps:Array Value}(hR:Bn w R [.int .i64 a,.int .i64 b]) (ht:tmps.getD 2 undef=.pointer (some ⟨R,0,none⟩)) (ht2:tmps.getD 3 undef=.bool q):(results Tryz.f104 tmps).run Tryz.prog w=.ok (.tuple #[.agg #[.int .i64 a,.int .i64 b],.bool q]) w:=by
 have ht':tmps[2]?.getD undef=.pointer (some ⟨R,0,none⟩):=by simpa using ht
 have ht2':tmps[3]?.getD undef=.bool q:=by simpa using ht2
 have c0:=(hR 0 _ rfl).1
 have c1:=(hR 1 _ rfl).1
 simp [results,Tryz.results104,go_sem,ht',ht2',c0,c1]
theorem unR_any {ok:Nat->Prop}{w:World}{Lb d:Nat}{c:ChG d}{fs:List (Int × SgS)}(h:Ly ok w Lb c fs) (hf:FsOk c fs) :
  Calls Tryz.prog 104 #[.pointer (some ⟨Lb,0,none⟩)] w fun e w'=>e=.returned (anP (unR c fs))/\Below w.heap.size w w':=by
 have hal:Below w.heap.size w ((w.alloc (.cells #[.pointer (some ⟨Lb,0,none⟩)] 162)).alloc (.cells #[.int .i64 0,.int .i64 0] 23)):=((Below.refl _ _).alloc Nat.le.refl _).alloc (by simp) _
 have h0:Bn ((w.alloc (.cells #[.pointer (some ⟨Lb,0,none⟩)] 162)).alloc (.cells #[.int .i64 0,.int .i64 0] 23)) w.heap.size [.pointer (some ⟨Lb,0,none⟩)]:=(Bn.new w [.pointer (some ⟨Lb,0,none⟩)] 162 _ rfl).on ((Below.refl _ _).alloc Nat.le.refl _)
 have h2:Bn ((w.alloc (.cells #[.pointer (some ⟨Lb,0,none⟩)] 162)).alloc (.cells #[.int .i64 0,.int .i64 0] 23)) (w.heap.size+1) [.int .i64 0,.int .i64 0]:=Bn.new _ [.int .i64 0,.int .i64 0] 23 (w.heap.size+1) (by simp)
 have hLy:=h.on hal
 obtain ⟨ra,rb,rq,hA⟩:∃ ra rb rq,anP (unR c fs)=.tuple #[.agg #[.int .i64 ra,.int .i64 rb],.bool rq]:=⟨_,_,_,rfl⟩
 have HAA:=mkHid hA
 rw [hA]
 clear hA
 go_enter Tryz.func104,Tryz.ntmps104
 go_upto_region 1 with fail
 generalize ((w.alloc (.cells #[.pointer (some ⟨Lb,0,none⟩)] 162)).alloc (.cells #[.int .i64 0,.int .i64 0] 23))=wx at *
 have hcall:Calls Tryz.prog 135 #[.pointer (some ⟨Lb,0,none⟩),.func (.func 136) #[] #[.pointer (some ⟨w.heap.size,0,none⟩)]] wx fun e w'=>e=.returned (anP (unR c fs))/\Below wx.heap.size wx w':=firstOn_any hLy hf.l hf.o 136 #[] #[.pointer (some ⟨w.heap.size,0,none⟩)] (enters_of Tryz.func136 (by kernel_rfl) rfl) _ (fun i hi j hj cs W W' hb hr hb'=>by
  rw [qO_of hi hj]
  exact un1_any ((hLy.on hb).on hb') hf.v (hf.on _ (List.getElem_mem hi) _ (List.getElem_mem hj)) hr hb' w.heap.size ((h0.on hb).on hb') i)
 rw [HAA.out] at hcall
 clear h hLy
 have x0:=(h0 0 _ rfl).1
 go_wp2_with (first|(go_at_call 135;refine hcall.mono ?_;rintro e w1 ⟨rfl,b1⟩;have h2':=h2.on b1;obtain ⟨y0,f0⟩:=h2' 0 _ rfl;obtain ⟨y1,f1⟩:=h2' 1 _ rfl)|fail)
 have hz:=(h2'.set (i:=0) (by simp) (.int .i64 ra)).set (i:=1) (by simp) (.int .i64 rb)
 have hbz:=putL_below [.int .i64 ra,.int .i64 rb] w1 (w.heap.size+1) 0 (hal.trans (b1.mono hal.size)) (by omega)
 exact bodyPost_ret (unR_any_res hz rfl rfl) rfl ⟨rfl,hbz⟩
theorem asR_any_res {w:World}{R:Nat}{a b:Int}{q:Bool}{tmps:Array Value}(hR:Bn w R [.int .i64 a,.int .i64 b]) (ht:tmps.getD 2 undef=.pointer (some ⟨R,0,none⟩)) (ht2:tmps.getD 3 undef=.bool q):(results Tryz.f106 tmps).run Tryz.prog w=.ok (.tuple #[.agg #[.int .i64 a,.int .i64 b],.bool q]) w:=by
 have ht':tmps[2]?.getD undef=.pointer (some ⟨R,0,none⟩):=by simpa using ht
 have ht2':tmps[3]?.getD undef=.bool q:=by simpa using ht2
 have c0:=(hR 0 _ rfl).1
 have c1:=(hR 1 _ rfl).1
 simp [results,Tryz.results106,go_sem,ht',ht2',c0,c1]
theorem asR_any {ok:Nat->Prop}{w:World}{Lb d:Nat}{c:ChG d}{fs:List (Int × SgS)}(h:Ly ok w Lb c fs) (hf:FsOk c fs) :
  Calls Tryz.prog 106 #[.pointer (some ⟨Lb,0,none⟩)] w fun e w'=>e=.returned (anP (asR fs))/\Below w.heap.size w w':=by
 have hal:Below w.heap.size w ((w.alloc (.cells #[.pointer (some ⟨Lb,0,none⟩)] 162)).alloc (.cells #[.int .i64 0,.int .i64 0] 23)):=((Below.refl _ _).alloc Nat.le.refl _).alloc (by simp) _
 have h0:Bn ((w.alloc (.cells #[.pointer (some ⟨Lb,0,none⟩)] 162)).alloc (.cells #[.int .i64 0,.int .i64 0] 23)) w.heap.size [.pointer (some ⟨Lb,0,none⟩)]:=(Bn.new w [.pointer (some ⟨Lb,0,none⟩)] 162 _ rfl).on ((Below.refl _ _).alloc Nat.le.refl _)
 have h2:Bn ((w.alloc (.cells #[.pointer (some ⟨Lb,0,none⟩)] 162)).alloc (.cells #[.int .i64 0,.int .i64 0] 23)) (w.heap.size+1) [.int .i64 0,.int .i64 0]:=Bn.new _ [.int .i64 0,.int .i64 0] 23 (w.heap.size+1) (by simp)
 have hLy:=h.on hal
 obtain ⟨ra,rb,rq,hA⟩:∃ ra rb rq,anP (asR fs)=.tuple #[.agg #[.int .i64 ra,.int .i64 rb],.bool rq]:=⟨_,_,_,rfl⟩
 have HAA:=mkHid hA
 rw [hA]
 clear hA
 go_enter Tryz.func106,Tryz.ntmps106
 go_upto_region 1 with fail
 generalize ((w.alloc (.cells #[.pointer (some ⟨Lb,0,none⟩)] 162)).alloc (.cells #[.int .i64 0,.int .i64 0] 23))=wx at *
 have hcall:Calls Tryz.prog 135 #[.pointer (some ⟨Lb,0,none⟩),.func (.func 144) #[] #[.pointer (some ⟨w.heap.size,0,none⟩)]] wx fun e w'=>e=.returned (anP (asR fs))/\Below wx.heap.size wx w':=firstOn_any hLy hf.l hf.o 144 #[] #[.pointer (some ⟨w.heap.size,0,none⟩)] (enters_of Tryz.func144 (by kernel_rfl) rfl) _ (fun i hi j hj cs W W' hb hr hb'=>by
  rw [qO_of hi hj]
  exact as1_any ((hLy.on hb).on hb') hf.ah hf.l hr w.heap.size ((h0.on hb).on hb') i hi)
 rw [HAA.out] at hcall
 clear h hLy
 have x0:=(h0 0 _ rfl).1
 go_wp2_with (first|(go_at_call 135;refine hcall.mono ?_;rintro e w1 ⟨rfl,b1⟩;have h2':=h2.on b1;obtain ⟨y0,f0⟩:=h2' 0 _ rfl;obtain ⟨y1,f1⟩:=h2' 1 _ rfl)|fail)
 have hz:=(h2'.set (i:=0) (by simp) (.int .i64 ra)).set (i:=1) (by simp) (.int .i64 rb)
 have hbz:=putL_below [.int .i64 ra,.int .i64 rb] w1 (w.heap.size+1) 0 (hal.trans (b1.mono hal.size)) (by omega)
 exact bodyPost_ret (asR_any_res hz rfl rfl) rfl ⟨rfl,hbz⟩
theorem bwR_any_res {w:World}{R:Nat}{a b:Int}{q:Bool}{tmps:Array Value}(hR:Bn w R [.int .i64 a,.int .i64 b]) (ht:tmps.getD 2 undef=.pointer (some ⟨R,0,none⟩)) (ht2:tmps.getD 3 undef=.bool q):(results Tryz.f107 tmps).run Tryz.prog w=.ok (.tuple #[.agg #[.int .i64 a,.int .i64 b],.bool q]) w:=by
 have ht':tmps[2]?.getD undef=.pointer (some ⟨R,0,none⟩):=by simpa using ht
 have ht2':tmps[3]?.getD undef=.bool q:=by simpa using ht2
 have c0:=(hR 0 _ rfl).1
 have c1:=(hR 1 _ rfl).1
 simp [results,Tryz.results107,go_sem,ht',ht2',c0,c1]
theorem bwR_any {ok:Nat->Prop}{w:World}{Lb d:Nat}{c:ChG d}{fs:List (Int × SgS)}(h:Ly ok w Lb c fs) (hf:FsOk c fs) :
  Calls Tryz.prog 107 #[.pointer (some ⟨Lb,0,none⟩)] w fun e w'=>e=.returned (anP (bwR fs))/\Below w.heap.size w w':=by
 have hal:Below w.heap.size w ((w.alloc (.cells #[.pointer (some ⟨Lb,0,none⟩)] 162)).alloc (.cells #[.int .i64 0,.int .i64 0] 23)):=((Below.refl _ _).alloc Nat.le.refl _).alloc (by simp) _
 have h0:Bn ((w.alloc (.cells #[.pointer (some ⟨Lb,0,none⟩)] 162)).alloc (.cells #[.int .i64 0,.int .i64 0] 23)) w.heap.size [.pointer (some ⟨Lb,0,none⟩)]:=(Bn.new w [.pointer (some ⟨Lb,0,none⟩)] 162 _ rfl).on ((Below.refl _ _).alloc Nat.le.refl _)
 have h2:Bn ((w.alloc (.cells #[.pointer (some ⟨Lb,0,none⟩)] 162)).alloc (.cells #[.int .i64 0,.int .i64 0] 23)) (w.heap.size+1) [.int .i64 0,.int .i64 0]:=Bn.new _ [.int .i64 0,.int .i64 0] 23 (w.heap.size+1) (by simp)
 have hLy:=h.on hal
 obtain ⟨ra,rb,rq,hA⟩:∃ ra rb rq,anP (bwR fs)=.tuple #[.agg #[.int .i64 ra,.int .i64 rb],.bool rq]:=⟨_,_,_,rfl⟩
 have HAA:=mkHid hA
 rw [hA]
 clear hA
 go_enter Tryz.func107,Tryz.ntmps107
 go_upto_region 1 with fail
 generalize ((w.alloc (.cells #[.pointer (some ⟨Lb,0,none⟩)] 162)).alloc (.cells #[.int .i64 0,.int .i64 0] 23))=wx at *
 have hcall:Calls Tryz.prog 135 #[.pointer (some ⟨Lb,0,none⟩),.func (.func 146) #[] #[.pointer (some ⟨w.heap.size,0,none⟩)]] wx fun e w'=>e=.returned (anP (bwR fs))/\Below wx.heap.size wx w':=firstOn_any hLy hf.l hf.o 146 #[] #[.pointer (some ⟨w.heap.size,0,none⟩)] (enters_of Tryz.func146 (by kernel_rfl) rfl) _ (fun i hi j hj cs W W' hb hr hb'=>by
  rw [qO_of hi hj]
  exact bw1_any ((hLy.on hb).on hb') hf.l hr w.heap.size ((h0.on hb).on hb') i)
 rw [HAA.out] at hcall
 clear h hLy
 have x0:=(h0 0 _ rfl).1
 go_wp2_with (first|(go_at_call 135;refine hcall.mono ?_;rintro e w1 ⟨rfl,b1⟩;have h2':=h2.on b1;obtain ⟨y0,f0⟩:=h2' 0 _ rfl;obtain ⟨y1,f1⟩:=h2' 1 _ rfl)|fail)
 have hz:=(h2'.set (i:=0) (by simp) (.int .i64 ra)).set (i:=1) (by simp) (.int .i64 rb)
 have hbz:=putL_below [.int .i64 ra,.int .i64 rb] w1 (w.heap.size+1) 0 (hal.trans (b1.mono hal.size)) (by omega)
 exact bodyPost_ret (bwR_any_res hz rfl rfl) rfl ⟨rfl,hbz⟩
theorem miR_any_res {w:World}{R:Nat}{a b:Int}{q:Bool}{tmps:Array Value}(hR:Bn w R [.int .i64 a,.int .i64 b]) (ht:tmps.getD 2 undef=.pointer (some ⟨R,0,none⟩)) (ht2:tmps.getD 3 undef=.bool q):(results Tryz.f105 tmps).run Tryz.prog w=.ok (.tuple #[.agg #[.int .i64 a,.int .i64 b],.bool q]) w:=by
 have ht':tmps[2]?.getD undef=.pointer (some ⟨R,0,none⟩):=by simpa using ht
 have ht2':tmps[3]?.getD undef=.bool q:=by simpa using ht2
 have c0:=(hR 0 _ rfl).1
 have c1:=(hR 1 _ rfl).1
 simp [results,Tryz.results105,go_sem,ht',ht2',c0,c1]
theorem miR_any {ok:Nat->Prop}{w:World}{Lb d:Nat}{c:ChG d}{fs:List (Int × SgS)}(h:Ly ok w Lb c fs) (hf:FsOk c fs) :
  Calls Tryz.prog 105 #[.pointer (some ⟨Lb,0,none⟩)] w fun e w'=>e=.returned (anP (miR fs))/\Below w.heap.size w w':=by
 have hal:Below w.heap.size w ((w.alloc (.cells #[.pointer (some ⟨Lb,0,none⟩)] 162)).alloc (.cells #[.int .i64 0,.int .i64 0] 23)):=((Below.refl _ _).alloc Nat.le.refl _).alloc (by simp) _
 have h0:Bn ((w.alloc (.cells #[.pointer (some ⟨Lb,0,none⟩)] 162)).alloc (.cells #[.int .i64 0,.int .i64 0] 23)) w.heap.size [.pointer (some ⟨Lb,0,none⟩)]:=(Bn.new w [.pointer (some ⟨Lb,0,none⟩)] 162 _ rfl).on ((Below.refl _ _).alloc Nat.le.refl _)
 have h2:Bn ((w.alloc (.cells #[.pointer (some ⟨Lb,0,none⟩)] 162)).alloc (.cells #[.int .i64 0,.int .i64 0] 23)) (w.heap.size+1) [.int .i64 0,.int .i64 0]:=Bn.new _ [.int .i64 0,.int .i64 0] 23 (w.heap.size+1) (by simp)
 have hLy:=h.on hal
 obtain ⟨ra,rb,rq,hA⟩:∃ ra rb rq,anP (miR fs)=.tuple #[.agg #[.int .i64 ra,.int .i64 rb],.bool rq]:=⟨_,_,_,rfl⟩
 have HAA:=mkHid hA
 rw [hA]
 clear hA
 go_enter Tryz.func105,Tryz.ntmps105
 go_upto_region 1 with fail
 generalize ((w.alloc (.cells #[.pointer (some ⟨Lb,0,none⟩)] 162)).alloc (.cells #[.int .i64 0,.int .i64 0] 23))=wx at *
 have hcall:Calls Tryz.prog 127 #[.pointer (some ⟨Lb,0,none⟩),.func (.func 140) #[] #[.pointer (some ⟨w.heap.size,0,none⟩)],.func (.func 142) #[] #[.pointer (some ⟨w.heap.size,0,none⟩)]] wx fun e w'=>e=.returned (anP (miR fs))/\Below wx.heap.size wx w':=first_any hLy hf.l hf.o 140 #[] #[.pointer (some ⟨w.heap.size,0,none⟩)] 142 #[] #[.pointer (some ⟨w.heap.size,0,none⟩)] _ _ (enters_of Tryz.func140 (by kernel_rfl) rfl) (enters_of Tryz.func142 (by kernel_rfl) rfl) (fun i hi W hb=>by
  rw [atB_of hi]
  exact mi1_any (hLy.on hb) hf.st w.heap.size (h0.on hb) i hi) (fun i hi j hj W hb=>by
  rw [qO_of hi hj]
  exact mi2_any (hLy.on hb) w.heap.size (h0.on hb) i hi j hj)
 rw [HAA.out] at hcall
 clear h hLy
 have x0:=(h0 0 _ rfl).1
 go_wp2_with (first|(go_at_call 127;refine hcall.mono ?_;rintro e w1 ⟨rfl,b1⟩;have h2':=h2.on b1;obtain ⟨y0,f0⟩:=h2' 0 _ rfl;obtain ⟨y1,f1⟩:=h2' 1 _ rfl)|fail)
 have hz:=(h2'.set (i:=0) (by simp) (.int .i64 ra)).set (i:=1) (by simp) (.int .i64 rb)
 have hbz:=putL_below [.int .i64 ra,.int .i64 rb] w1 (w.heap.size+1) 0 (hal.trans (b1.mono hal.size)) (by omega)
 exact bodyPost_ret (miR_any_res hz rfl rfl) rfl ⟨rfl,hbz⟩
theorem orR_any_res {w:World}{R:Nat}{a b:Int}{q:Bool}{tmps:Array Value}(hR:Bn w R [.int .i64 a,.int .i64 b]) (ht:tmps.getD 2 undef=.pointer (some ⟨R,0,none⟩)) (ht2:tmps.getD 3 undef=.bool q):(results Tryz.f103 tmps).run Tryz.prog w=.ok (.tuple #[.agg #[.int .i64 a,.int .i64 b],.bool q]) w:=by
 have ht':tmps[2]?.getD undef=.pointer (some ⟨R,0,none⟩):=by simpa using ht
 have ht2':tmps[3]?.getD undef=.bool q:=by simpa using ht2
 have c0:=(hR 0 _ rfl).1
 have c1:=(hR 1 _ rfl).1
 simp [results,Tryz.results103,go_sem,ht',ht2',c0,c1]
theorem orR_any {ok:Nat->Prop}{w:World}{Lb d:Nat}{c:ChG d}{fs:List (Int × SgS)}(h:Ly ok w Lb c fs) (hf:FsOk c fs) :
  Calls Tryz.prog 103 #[.pointer (some ⟨Lb,0,none⟩)] w fun e w'=>e=.returned (anP (orR fs))/\Below w.heap.size w w':=by
 have hal:Below w.heap.size w (w.alloc (.cells #[.int .i64 0,.int .i64 0] 23)):=(Below.refl _ _).alloc Nat.le.refl _
 have h2:Bn (w.alloc (.cells #[.int .i64 0,.int .i64 0] 23)) w.heap.size [.int .i64 0,.int .i64 0]:=Bn.new _ [.int .i64 0,.int .i64 0] 23 _ rfl
 have hLy:=h.on hal
 obtain ⟨ra,rb,rq,hA⟩:∃ ra rb rq,anP (orR fs)=.tuple #[.agg #[.int .i64 ra,.int .i64 rb],.bool rq]:=⟨_,_,_,rfl⟩
 have HAA:=mkHid hA
 rw [hA]
 clear hA
 go_enter Tryz.func103,Tryz.ntmps103
 go_upto_region 1 with fail
 generalize (w.alloc (.cells #[.int .i64 0,.int .i64 0] 23))=wx at *
 have hcall:Calls Tryz.prog 131 #[.pointer (some ⟨Lb,0,none⟩),.func (.func 134) #[] #[]] wx fun e w'=>e=.returned (anP (orR fs))/\Below wx.heap.size wx w':=firstState_any hLy hf.l hf.o 134 #[] #[] (enters_of Tryz.func134 (by kernel_rfl) rfl) (orP fs) (fun i hi cs W W' hb hr hb'=>by
  unfold orP
  rw [atB_of hi]
  exact or1_any hr W' i)
 rw [HAA.out] at hcall
 clear h hLy
 go_wp2_with (first|(go_at_call 131;refine hcall.mono ?_;rintro e w1 ⟨rfl,b1⟩;have h2':=h2.on b1;obtain ⟨y0,f0⟩:=h2' 0 _ rfl;obtain ⟨y1,f1⟩:=h2' 1 _ rfl)|fail)
 have hz:=(h2'.set (i:=0) (by simp) (.int .i64 ra)).set (i:=1) (by simp) (.int .i64 rb)
 have hbz:=putL_below [.int .i64 ra,.int .i64 rb] w1 w.heap.size 0 (hal.trans (b1.mono hal.size)) Nat.le.refl
 exact bodyPost_ret (orR_any_res hz rfl rfl) rfl ⟨rfl,hbz⟩
theorem tmR_any_res {w:World}{R:Nat}{a b:Int}{q:Bool}{tmps:Array Value}(hR:Bn w R [.int .i64 a,.int .i64 b]) (ht:tmps.getD 2 undef=.pointer (some ⟨R,0,none⟩)) (ht2:tmps.getD 3 undef=.bool q):(results Tryz.f101 tmps).run Tryz.prog w=.ok (.tuple #[.agg #[.int .i64 a,.int .i64 b],.bool q]) w:=by
 have ht':tmps[2]?.getD undef=.pointer (some ⟨R,0,none⟩):=by simpa using ht
 have ht2':tmps[3]?.getD undef=.bool q:=by simpa using ht2
 have c0:=(hR 0 _ rfl).1
 have c1:=(hR 1 _ rfl).1
 simp [results,Tryz.results101,go_sem,ht',ht2',c0,c1]
theorem varP_at {ok:Nat->Prop}{w:World}{l:List (List UInt8 × Int × Pl)}{a:Option Addr}{n cap:Nat}(h:RdK ok w 4 (rVar ok w) l (.slice a n cap)) (j:Nat) (hj:j < l.length):∃ (b off:Nat) (x0:ByteArray) (x1 x2 x3:Int),a=some ⟨b,off,none⟩/\b < w.heap.size/\Hid (x0=⟨(l[j]).1.toArray⟩/\(l[j]).2.2=(x2,x3))/\∀ i u,[.string x0,.int .i64 x1,.int .i64 x2,.int .i64 x3][i]?=some u->w.cell? ⟨b,off+j*4+i,none⟩=some u:=by
 obtain ⟨b,off,cs,ha,_,hb,_,hr,hc⟩:=rdK_at h j hj
 have hr':cs=varV l[j]:=hr
 subst hr'
 exact ⟨b,off,_,_,_,_,ha,hb,⟨rfl,rfl⟩,hc⟩
theorem tmR_any {ok:Nat->Prop}{w:World}{Lb d:Nat}{c:ChG d}{fs:List (Int × SgS)}(h:Ly ok w Lb c fs) (hf:FsOk c fs) :
  Calls Tryz.prog 101 #[.pointer (some ⟨Lb,0,none⟩)] w fun e w'=>e=.returned (anP (tmR c fs))/\Below w.heap.size w w':=by
 have hal:Below w.heap.size w ((w.alloc (.cells #[.pointer (some ⟨Lb,0,none⟩)] 162)).alloc (.cells #[.int .i64 0,.int .i64 0] 23)):=((Below.refl _ _).alloc Nat.le.refl _).alloc (by simp) _
 have h0:Bn ((w.alloc (.cells #[.pointer (some ⟨Lb,0,none⟩)] 162)).alloc (.cells #[.int .i64 0,.int .i64 0] 23)) w.heap.size [.pointer (some ⟨Lb,0,none⟩)]:=(Bn.new w [.pointer (some ⟨Lb,0,none⟩)] 162 _ rfl).on ((Below.refl _ _).alloc Nat.le.refl _)
 have h2:Bn ((w.alloc (.cells #[.pointer (some ⟨Lb,0,none⟩)] 162)).alloc (.cells #[.int .i64 0,.int .i64 0] 23)) (w.heap.size+1) [.int .i64 0,.int .i64 0]:=Bn.new _ [.int .i64 0,.int .i64 0] 23 (w.heap.size+1) (by simp)
 have hLy:=h.on hal
 go_enter Tryz.func101,Tryz.ntmps101
 go_upto_region 1 with fail
 generalize ((w.alloc (.cells #[.pointer (some ⟨Lb,0,none⟩)] 162)).alloc (.cells #[.int .i64 0,.int .i64 0] 23))=wx at *
 have hcall:Calls Tryz.prog 127 #[.pointer (some ⟨Lb,0,none⟩),.func (.func 128) #[] #[],.func (.func 129) #[] #[.pointer (some ⟨w.heap.size,0,none⟩)]] wx fun e w'=>e=.returned (anP (frS (fun i=>(i:Int) == 40) (qO fs (fun _ j _ o=>decide ((j:Int)=6) || decide (4 < o.2.2.2.1.length))) fs 0))/\Below wx.heap.size wx w':=first_any hLy hf.l hf.o 128 #[] #[] 129 #[] #[.pointer (some ⟨w.heap.size,0,none⟩)] _ _ (enters_of Tryz.func128 (by kernel_rfl) rfl) (enters_of Tryz.func129 (by kernel_rfl) rfl) (fun i hi W hb=>tm1_any W i) (fun i hi j hj W hb=>by
  rw [qO_of hi hj]
  exact tm2_any (hLy.on hb) w.heap.size (h0.on hb) i hi j hj)
 obtain ⟨g0,g1,g2,g3,g4,g6,g7,g8,g9,sa,sc0,oa,oc,k1,k2,k3,k4,k5⟩:=hLy
 have x0:=(h0 0 _ rfl).1
 have c2:=(k1 2 _ rfl).1
 have c3:=(k1 3 _ rfl).1
 have c4:=(k1 4 _ rfl).1
 have c6:=(k1 6 _ rfl).1
 obtain ⟨y0,f0⟩:=h2 0 _ rfl
 obtain ⟨y1,f1⟩:=h2 1 _ rfl
 obtain ⟨nv,hnv⟩:∃ nv,c.2.2.1.length=nv:=⟨_,rfl⟩
 obtain ⟨n,hn⟩:∃ n,fs.length=n:=⟨_,rfl⟩
 rw [hnv] at c4
 rw [hn] at c6
 by_cases hv:8 < nv
 ·have hv8:8 < c.2.2.1.length:=by rw [hnv];exact hv
  obtain ⟨b,off,v0,v1,v2,v3,rfl,_,HV,hc⟩:=varP_at k2 8 hv8
  have HE:Hid (tmR c fs=some (v2,v3)):=by
   show _=_
   unfold tmR
   rw [List.getElem?_eq_getElem hv8]
   exact congrArg some HV.out.2
  have V2:=hc 2 _ rfl
  have V3:=hc 3 _ rfl
  have i1:(nv:Int) > 8:=by omega
  have i2:(8:Int) < (nv:Int):=by omega
  have hz:=(h2.set (i:=0) (by simp) (.int .i64 v2)).set (i:=1) (by simp) (.int .i64 v3)
  have hbz:=putL_below [.int .i64 v2,.int .i64 v3] wx (w.heap.size+1) 0 hal (by omega)
  clear hc hnv hn k1 k2 k3 k4 k5 hcall
  go_wp2
  exact bodyPost_ret (tmR_any_res hz rfl rfl) rfl ⟨by rw [HE.out];rfl,hbz⟩
 ·have i1:¬ (nv:Int) > 8:=by omega
  by_cases hz0:n=0
  ·have HE:Hid (tmR c fs=some (g2,g3)):=by
    show _=_
    unfold tmR
    rw [List.getElem?_eq_none (by omega)]
    simp only []
    rw [if_pos (by omega),k5]
   have i3:(n:Int)=0:=by omega
   have hz:=(h2.set (i:=0) (by simp) (.int .i64 g2)).set (i:=1) (by simp) (.int .i64 g3)
   have hbz:=putL_below [.int .i64 g2,.int .i64 g3] wx (w.heap.size+1) 0 hal (by omega)
   clear hnv k1 k2 k3 k4 k5 hcall hv
   subst hz0
   clear hn i3
   go_wp2
   exact bodyPost_ret (tmR_any_res hz rfl rfl) rfl ⟨by rw [HE.out];rfl,hbz⟩
  ·have i3:¬ (n:Int)=0:=by omega
   have e1:tmR c fs=frS (fun i=>(i:Int) == 40) (qO fs (fun _ j _ o=>decide ((j:Int)=6) || decide (4 < o.2.2.2.1.length))) fs 0:=by
    unfold tmR
    rw [List.getElem?_eq_none (by omega)]
    simp only []
    rw [if_neg (by omega)]
   rw [<- e1] at hcall
   obtain ⟨ra,rb,rq,hA⟩:∃ ra rb rq,anP (tmR c fs)=.tuple #[.agg #[.int .i64 ra,.int .i64 rb],.bool rq]:=⟨_,_,_,rfl⟩
   rw [hA] at hcall
   have HAA:=mkHid hA
   clear hA e1 hnv hn k1 k2 k3 k4 k5 hv hz0 y0 y1 f0 f1
   go_wp2_with (first|(go_at_call 127;refine hcall.mono ?_;rintro e w1 ⟨rfl,b1⟩;have h2':=h2.on b1;obtain ⟨y0,f0⟩:=h2' 0 _ rfl;obtain ⟨y1,f1⟩:=h2' 1 _ rfl)|fail)
   have hz:=(h2'.set (i:=0) (by simp) (.int .i64 ra)).set (i:=1) (by simp) (.int .i64 rb)
   have hbz:=putL_below [.int .i64 ra,.int .i64 rb] w1 (w.heap.size+1) 0 (hal.trans (b1.mono hal.size)) (by omega)
   exact bodyPost_ret (tmR_any_res hz rfl rfl) rfl ⟨by rw [HAA.out],hbz⟩
theorem ntR_any_res {w:World}{R:Nat}{a b:Int}{q:Bool}{tmps:Array Value}(hR:Bn w R [.int .i64 a,.int .i64 b]) (ht:tmps.getD 2 undef=.pointer (some ⟨R,0,none⟩)) (ht2:tmps.getD 3 undef=.bool q):(results Tryz.f102 tmps).run Tryz.prog w=.ok (.tuple #[.agg #[.int .i64 a,.int .i64 b],.bool q]) w:=by
 have ht':tmps[2]?.getD undef=.pointer (some ⟨R,0,none⟩):=by simpa using ht
 have ht2':tmps[3]?.getD undef=.bool q:=by simpa using ht2
 have c0:=(hR 0 _ rfl).1
 have c1:=(hR 1 _ rfl).1
 simp [results,Tryz.results102,go_sem,ht',ht2',c0,c1]
theorem ntR_any {ok:Nat->Prop}{w:World}{Lb d:Nat}{c:ChG d}{fs:List (Int × SgS)}(h:Ly ok w Lb c fs) (hf:FsOk c fs) :
  Calls Tryz.prog 102 #[.pointer (some ⟨Lb,0,none⟩)] w fun e w'=>e=.returned (anP (ntR c fs))/\Below w.heap.size w w':=by
 have hal:Below w.heap.size w ((w.alloc (.cells #[.pointer (some ⟨Lb,0,none⟩)] 162)).alloc (.cells #[.int .i64 0,.int .i64 0] 23)):=((Below.refl _ _).alloc Nat.le.refl _).alloc (by simp) _
 have h0:Bn ((w.alloc (.cells #[.pointer (some ⟨Lb,0,none⟩)] 162)).alloc (.cells #[.int .i64 0,.int .i64 0] 23)) w.heap.size [.pointer (some ⟨Lb,0,none⟩)]:=(Bn.new w [.pointer (some ⟨Lb,0,none⟩)] 162 _ rfl).on ((Below.refl _ _).alloc Nat.le.refl _)
 have h2:Bn ((w.alloc (.cells #[.pointer (some ⟨Lb,0,none⟩)] 162)).alloc (.cells #[.int .i64 0,.int .i64 0] 23)) (w.heap.size+1) [.int .i64 0,.int .i64 0]:=Bn.new _ [.int .i64 0,.int .i64 0] 23 (w.heap.size+1) (by simp)
 have hLy:=h.on hal
 go_enter Tryz.func102,Tryz.ntmps102
 go_upto_region 1 with fail
 generalize ((w.alloc (.cells #[.pointer (some ⟨Lb,0,none⟩)] 162)).alloc (.cells #[.int .i64 0,.int .i64 0] 23))=wx at *
 have hcall:∀ w1,Below wx.heap.size wx w1->Calls Tryz.prog 131 #[.pointer (some ⟨Lb,0,none⟩),.func (.func 132) #[] #[.pointer (some ⟨w.heap.size,0,none⟩)]] w1 fun e w'=>e=.returned (anP (frS (ntP fs) (fun _ _=>false) fs 0))/\Below w1.heap.size w1 w':=fun w1 b1=>firstState_any (hLy.on b1) hf.l hf.o 132 #[] #[.pointer (some ⟨w.heap.size,0,none⟩)] (enters_of Tryz.func132 (by kernel_rfl) rfl) (ntP fs) (fun i hi cs W W' hb hr hb'=>by
  unfold ntP
  rw [atB_of hi]
  exact nt1_any hr (((hLy.on b1).on hb).on hb') hf.l w.heap.size (((h0.on b1).on hb).on hb') i)
 have hvar:=fun w1 nm (b1:Below wx.heap.size wx w1)=>varL_any (hLy.on b1) hf.v nm
 have hvl:=hf.v
 obtain ⟨g0,g1,g2,g3,g4,g6,g7,g8,g9,sa,sc0,oa,oc,k1,k2,k3,k4,k5⟩:=hLy
 obtain ⟨hvc,hvm⟩:c.2.2.1.length<=g6/\g6<=maxLen:=by
  obtain ⟨_,_,he,q1,q2⟩:=k2.form
  simp only [Value.slice.injEq] at he
  omega
 unfold maxLen at hvm
 have x0:=(h0 0 _ rfl).1
 have c4:=(k1 4 _ rfl).1
 obtain ⟨nv,hnv⟩:∃ nv,c.2.2.1.length=nv:=⟨_,rfl⟩
 rw [hnv] at c4 hvc hvl
 have HV:=mkHid k2
 rw [hnv] at HV
 have HN:=mkHid hnv
 clear k1 k2 k3 k4 k5 hnv hf h
 go_wp2
 go_loopw [12] (fun ix wr=>∃ (k:Nat),k<=nv/\ix=.int .i64 (k:Int)/\Hid (ntV c.2.2.1 c.2.2.1 0=ntV c.2.2.1 (c.2.2.1.drop k) k)/\Below wx.heap.size wx wr) (fun ix _=>nv - (RowKit.intOf ix).toNat)
 case atStart=>exact ⟨0,Nat.zero_le _,rfl,by show _=_;rw [List.drop_zero],Below.refl _ _⟩
 case round=>
  obtain ⟨k,hk,rfl,HX,hb⟩:=hrel
  have h2r:=h2.on hb
  have h0r:=h0.on hb
  have x0r:=(h0r 0 _ rfl).1
  by_cases hlt:k < nv
  ·have hkl:k < c.2.2.1.length:=by rw [HN.out];exact hlt
   obtain ⟨b,off,v0,v1,v2,v3,rfl,hbl,HVV,hc⟩:=varP_at HV.out k hkl
   have C0:=(hb.cell (p:=⟨b,off+k*4+0,none⟩) hbl).trans (hc 0 _ rfl)
   have C1:=(hb.cell (p:=⟨b,off+k*4+1,none⟩) hbl).trans (hc 1 _ rfl)
   have C2:=(hb.cell (p:=⟨b,off+k*4+2,none⟩) hbl).trans (hc 2 _ rfl)
   have C3:=(hb.cell (p:=⟨b,off+k*4+3,none⟩) hbl).trans (hc 3 _ rfl)
   rw [Nat.add_zero] at C0
   clear hc
   have i1:(k:Int) < (nv:Int):=by omega
   have i2:(0:Int)<=(k:Int):=by omega
   have hal3:Below wr.heap.size wr (wr.alloc (.cells #[.string v0,.int .i64 v1,.int .i64 v2,.int .i64 v3] 92)):=(Below.refl _ _).alloc Nat.le.refl _
   have hY:=Bn.new wr [.string v0,.int .i64 v1,.int .i64 v2,.int .i64 v3] 92 _ rfl
   go_upto_region 4 with fail
   generalize (wr.alloc (.cells #[.string v0,.int .i64 v1,.int .i64 v2,.int .i64 v3] 92))=wy at *
   have hby:Below wx.heap.size wx wy:=hb.trans (hal3.mono hb.size)
   have hv1:=hvar wy v0 hby
   obtain ⟨F,hF⟩:∃ F,fdV c.2.2.1 v0=F:=⟨_,rfl⟩
   rw [hF] at hv1
   have HS:Hid (ntV c.2.2.1 c.2.2.1 0=if F < (k:Int) then some (v2,v3) else ntV c.2.2.1 (c.2.2.1.drop (k+1)) (k+1)):=by
    show _=_
    rw [HX.out,List.drop_eq_getElem_cons hkl]
    conv=>lhs;unfold ntV
    rw [<- HVV.out.1,HVV.out.2,hF]
   have y0:=(hY 0 _ rfl).1
   obtain ⟨x0y,_⟩:=(h0r.on hal3) 0 _ rfl
   have h2y:=h2r.on hal3
   obtain ⟨Y,hYY⟩:∃ Y,wr.heap.size=Y:=⟨_,rfl⟩
   rw [hYY] at hY y0 ⊢
   clear C0 C1 C2 C3 hF HVV HX hYY
   by_cases hlF:F < (k:Int)
   ·have HE:Hid (ntR c fs=some (v2,v3)):=by
     show _=_
     unfold ntR
     rw [HS.out,if_pos hlF]
    go_upto_region 5 with (first|(go_at_call 130;refine hv1.mono ?_;rintro e w1 ⟨rfl,b1⟩)|fail)
    obtain ⟨z2,_⟩:=(hY.on b1) 2 _ rfl
    obtain ⟨z3,_⟩:=(hY.on b1) 3 _ rfl
    have h2':=h2y.on b1
    obtain ⟨u0,f0⟩:=h2' 0 _ rfl
    obtain ⟨u1,f1⟩:=h2' 1 _ rfl
    have hz:=(h2'.set (i:=0) (by simp) (.int .i64 v2)).set (i:=1) (by simp) (.int .i64 v3)
    have hbw:=hal.trans ((hby.trans (b1.mono hby.size)).mono hal.size)
    have hbz:=putL_below [.int .i64 v2,.int .i64 v3] w1 (w.heap.size+1) 0 hbw (by omega)
    go_wp2
    exact bodyPost_ret (ntR_any_res hz rfl rfl) rfl ⟨by rw [HE.out];rfl,hbz⟩
   ·have HE:Hid (ntV c.2.2.1 c.2.2.1 0=ntV c.2.2.1 (c.2.2.1.drop (k+1)) (k+1)):=by
     show _=_
     rw [HS.out,if_neg hlF]
    go_upto_region 6 with (first|(go_at_call 130;refine hv1.mono ?_;rintro e w1 ⟨rfl,b1⟩)|fail)
    have hbb:=hby.trans (b1.mono hby.size)
    go_wp2
    go_roundw
    case rel=>exact ⟨k+1,hlt,by go_num,HE,hbb⟩
    case measure=>simp [RowKit.intOf];omega
  ·have i1:¬ (k:Int) < (nv:Int):=by omega
   have e1:ntR c fs=frS (ntP fs) (fun _ _=>false) fs 0:=by
    unfold ntR
    rw [HX.out,List.drop_of_length_le (by rw [HN.out];omega)]
    rfl
   have hc2:=hcall wr hb
   rw [<- e1] at hc2
   obtain ⟨ra,rb,rq,hA⟩:∃ ra rb rq,anP (ntR c fs)=.tuple #[.agg #[.int .i64 ra,.int .i64 rb],.bool rq]:=⟨_,_,_,rfl⟩
   rw [hA] at hc2
   have HAA:=mkHid hA
   clear hA e1 hcall hvar
   go_wp2_with (first|(go_at_call 131;refine hc2.mono ?_;rintro e w1 ⟨rfl,b1⟩;have h2':=h2r.on b1;obtain ⟨y0,f0⟩:=h2' 0 _ rfl;obtain ⟨y1,f1⟩:=h2' 1 _ rfl)|fail)
   have hz:=(h2'.set (i:=0) (by simp) (.int .i64 ra)).set (i:=1) (by simp) (.int .i64 rb)
   have hbw:=hal.trans ((hb.trans (b1.mono hb.size)).mono hal.size)
   have hbz:=putL_below [.int .i64 ra,.int .i64 rb] w1 (w.heap.size+1) 0 hbw (by omega)
   exact bodyPost_ret (ntR_any_res hz rfl rfl) rfl ⟨by rw [HAA.out],hbz⟩
def rSo (ok0:Nat->Prop) (W0:World) (ok:Nat->Prop) (w:World) (x:Int × SgS) (cs:List Value):Prop:=rSg ok0 W0 x cs
theorem kp_so (ok0:Nat->Prop) (W0:World):Kp (rSo ok0 W0):=fun _ _ _ _ _ _ h _=>h
structure LadI (ok0:Nat->Prop) (W0:World) (Lb:Nat) (cs6:List Value) (w:World) (P:List (Int × SgS)) (v6 v7:Value):Prop where
 b:Bn w Lb (cs6++[v6,v7])
 s:OwnB w (Lb+1) (fun b=>v7.ownBlock=some b) 79 11 (rSo ok0 W0) v6 P
 o:OwnB w (Lb+1) (fun b=>v6.ownBlock=some b) 3 1 rIn v7 P
 w0:Below Lb W0 w
 sz:Lb < w.heap.size
theorem LadI.on {ok0:Nat->Prop}{W0 w w':World}{Lb:Nat}{cs6:List Value}{c0:Value}{P:List (Int × SgS)}{v6 v7:Value}(h:LadI ok0 W0 Lb (c0 :: cs6) w P v6 v7) (hb:Below w.heap.size w w'):LadI ok0 W0 Lb (c0 :: cs6) w' P v6 v7:=
 ⟨Bn.on (c:=c0) (cs:=cs6++[v6,v7]) h.b hb,h.s.on (kp_so ok0 W0) hb,h.o.on kp_in hb,h.w0.trans (hb.mono (Nat.le_of_lt h.sz)),Nat.lt_of_lt_of_le h.sz hb.size⟩
def fin41 (d:Nat) (P:List (Int × SgS)) (p:Int) (l:List (St d)):List (Int × SgS):=(P++flP d p P.length l).take 41
theorem fin41_nil (d:Nat) (P:List (Int × SgS)) (p:Int) (h:P.length<=41):fin41 d P p []=P:=by
 unfold fin41
 have:flP d p P.length []=[]:=by cases d<;>rfl
 rw [this,List.append_nil,List.take_of_length_le h]
theorem fin41_full (d:Nat) (P:List (Int × SgS)) (p:Int) (l:List (St d)) (h:P.length=41):fin41 d P p l=P:=by
 unfold fin41
 rw [List.take_append_of_le_length (by omega),List.take_of_length_le (by omega)]
theorem fin41_len (d:Nat) (P:List (Int × SgS)) (p:Int) (l:List (St d)):(fin41 d P p l).length<=41:=by
 unfold fin41
 rw [List.length_take]
 omega
theorem fin41_cons (d:Nat) (P:List (Int × SgS)) (p:Int) (t:St (d+1)) (r:List (St (d+1))) (h:P.length<=40):fin41 (d+1) P p (t :: r)=fin41 (d+1) (fin41 d (P++[(p,⟨d+1,t⟩)]) P.length t.2) p r:=by
 have e1:flP (d+1) p P.length (t :: r)=(p,⟨d+1,t⟩) :: (flP d P.length (P.length+1) t.2++flP (d+1) p (P.length+1+(flP d P.length (P.length+1) t.2).length) r):=rfl
 have e2:(P++[(p,(⟨d+1,t⟩:SgS))]).length=P.length+1:=by simp
 obtain ⟨X,hX⟩:∃ X,flP d P.length (P.length+1) t.2=X:=⟨_,rfl⟩
 have e3:fin41 d (P++[(p,(⟨d+1,t⟩:SgS))]) P.length t.2=(P++[(p,(⟨d+1,t⟩:SgS))]++X).take 41:=by unfold fin41;rw [e2,hX]
 rw [e3]
 unfold fin41
 rw [e1,hX]
 by_cases hl:(P++[(p,(⟨d+1,t⟩:SgS))]++X).length<=41
 ·rw [List.take_of_length_le hl]
  have:(P++[(p,(⟨d+1,t⟩:SgS))]++X).length=P.length+1+X.length:=by simp;omega
  rw [this]
  simp
 ·have hq:((P++[(p,(⟨d+1,t⟩:SgS))]++X).take 41).length=41:=by rw [List.length_take];omega
  rw [List.take_append_of_le_length (Nat.le_of_eq hq.symm),List.take_take,Nat.min_self]
  rw [show P++(p,(⟨d+1,t⟩:SgS)) :: (X++flP (d+1) p (P.length+1+X.length) r)=(P++[(p,⟨d+1,t⟩)]++X)++flP (d+1) p (P.length+1+X.length) r by simp]
  rw [List.take_append_of_le_length (by omega)]
theorem Tryz.infoCS:(Tryz.prog.info? 79).map (fun i=>(i.zero,i.size,i.bytes))=some (some (.agg #[.string ⟨#[]⟩,.int .i64 0,.int .i64 0,.bool false,.bool false,.string ⟨#[]⟩,.string ⟨#[]⟩,.int .i64 0,.int .i64 0,.slice none 0 0,.slice none 0 0]),11,136):=by kernel_rfl
theorem Tryz.infoI3:(Tryz.prog.info? 3).map (fun i=>(i.zero,i.size,i.bytes))=some (some (.int .i64 0),1,8):=by kernel_rfl
theorem wpList_pushL {α:Type}{P:Program}(w:World) {ops:Array Oper}{rest:List Oper}{o:Oper}{a:Act}{Q:Exit->Act->World->Prop}(hgd:o.guard=none) (s x:Operand) (t:TypeId)
  (ho:o.op=.call { callee:=.builtin .append,args:=#[s,x],argTypes:=#[t,t] })
  (base:Nat) (bad:Nat->Prop) (e:TypeId) (i:TypeInfo) (z:Value) (k bytes:Nat) (ht:P.underlying t=some (.slice e)) (hi:P.info? e=some i) (hz:i.zero=some z)
  (hsize:i.size=k) (hby:i.bytes=bytes) (hzs:z.cells.size=k) {R:(Nat->Prop)->World->α->List Value->Prop}(hR:Kp R)
  (v:Value) (l:List α) (p:α) (cs:List Value) (lo:Nat) (hs:a.eval s=v) (hx:a.eval x=.slice (some ⟨w.heap.size,0,none⟩) 1 1) (hk:cs.length=k) (h1:∀ u∈cs,u.oneCell'=true)
  (hown:OwnB w base bad e k R v l) (hp:R (fun b=>lo<=b) w p cs) (hlo:base<=lo) (hv:∀ x,v.ownBlock=some x->x < lo) (hbad:∀ b,bad b->b < lo/\b < w.heap.size) (hroom:(l.length+1+(l.length+1) / 4+192)*bytes<=281474976710656)
  (h63:l.length+1<=maxLen) (hbase:base<=w.heap.size)
  (h:∀ v' w',OwnB w' base bad e k R v' (l++[p])->(w.alloc (.cells cs.toArray e)).grownBy w' v.ownBlock->Below base w w'->(v'.ownBlock=v.ownBlock∨v'.ownBlock=some (w.alloc (.cells cs.toArray e)).heap.size)->wpList P ops Q rest (a.put o.dst v') w') :
  wpList P ops Q (o :: rest) a (w.alloc (.cells cs.toArray e)):=by
 have hal:Below w.heap.size w (w.alloc (.cells cs.toArray e)):=(Below.refl _ _).alloc Nat.le.refl _
 obtain ⟨qs,ho1,hl1,hr1,hg1⟩:=hown.on hR hal
 refine wpList_append_at _ hgd s x t t ho base e i z k bytes ht hi hz hsize hby hzs v l.length qs.flatten hs ho1 _ 1 cs hx (src_row ht w cs hk h1) 1 (.inr hroom) Nat.le.refl h63 (Nat.le_trans hbase hal.size) ?_
 intro v' w' hown' hg hat
 refine h v' w' (OwnB.snoc hR hk rfl ho1 hl1 hr1 hown' hg hat (hR hp (fun b hb hlt=>⟨hb,hal.block b hlt⟩)) hlo hv (fun b q=>⟨(hbad b q).1,Nat.lt_of_lt_of_le (hbad b q).2 hal.size⟩) hg1) hg ?_ hat
 exact ((Below.refl base w).alloc hbase _).grown hg (Nat.le_trans hbase hal.size) (fun k hk=>(World.ownsRow.lt ho1 k hk).1)
def LadC (d:Nat):Prop:=∀ (ok0:Nat->Prop) (W0:World) (Lb:Nat) (g0:ByteArray) (g1 g2 g3:Int) (g4:Option Addr) (g5 g6:Nat) (g7:Option Addr) (g8 g9:Nat) (w:World) (P:List (Int × SgS)) (v6 v7:Value) (l:List (St d)) (v:Value) (p:Int),RdK ok0 W0 11 (rSt d ok0 W0) l v->(∀ b,ok0 b->b < Lb)->FoOk ⟨d,l⟩->P.length<=41->LadI ok0 W0 Lb [.string g0,.int .i64 g1,.int .i64 g2,.int .i64 g3,.slice g4 g5 g6,.slice g7 g8 g9] w P v6 v7->
 Calls Tryz.prog 100 #[.pointer (some ⟨Lb,0,none⟩),v,.int .i64 p] w fun e w'=>(∃ r,e=.returned r)/\(∃ v6' v7',LadI ok0 W0 Lb [.string g0,.int .i64 g1,.int .i64 g2,.int .i64 g3,.slice g4 g5 g6,.slice g7 g8 g9] w' (fin41 d P p l) v6' v7')/\w.heap.size<=w'.heap.size
theorem lad_step (d:Nat) (IH:LadC d):LadC (d+1):=by
 intro ok0 W0 Lb g0 g1 g2 g3 g4 g5 g6 g7 g8 g9 w P v6 v7 l v p hrd hok hfo hP41 hI
 obtain ⟨it,hit,hit0,hit1,hit2⟩:=info_parts Tryz.infoCS
 obtain ⟨ii,hii,hii0,hii1,hii2⟩:=info_parts Tryz.infoI3
 obtain ⟨a,cap,rfl,hlc,hcm⟩:=hrd.form
 unfold maxLen at hcm
 have hl0:=hfo.1
 have hl0:l.length<=100000:=hl0
 obtain ⟨n,hn⟩:∃ n,l.length=n:=⟨_,rfl⟩
 rw [hn] at hlc hl0
 have HR:=mkHid hrd
 rw [hn] at HR
 rw [hn]
 have HN:=mkHid hn
 have HFO:=mkHid hfo
 have HOK:=mkHid hok
 have HI:=mkHid hI
 have HIH:=mkHid IH
 clear hrd hn hfo hok hI IH
 go_enter Tryz.func100,Tryz.ntmps100
 go_wp2
 go_loopw [11] (fun ix wr=>∃ (i:Nat) (Q:List (Int × SgS)) (u6 u7:Value),i<=n/\ix=.int .i64 (i:Int)/\Hid (fin41 (d+1) P p l=fin41 (d+1) Q p (l.drop i))/\Q.length<=41/\Hid (LadI ok0 W0 Lb [.string g0,.int .i64 g1,.int .i64 g2,.int .i64 g3,.slice g4 g5 g6,.slice g7 g8 g9] wr Q u6 u7)/\w.heap.size<=wr.heap.size) (fun ix _=>n - (RowKit.intOf ix).toNat)
 case atStart=>exact ⟨0,P,v6,v7,Nat.zero_le _,rfl,by show _=_;rw [List.drop_zero],hP41,HI,Nat.le_refl _⟩
 case round=>
  clear HI hP41
  obtain ⟨i,Q,u6,u7,hi,rfl,HX,hQ41,HA,hwr⟩:=hrel
  by_cases hlt:i < n
  ·have hil:i < l.length:=by rw [HN.out];exact hlt
   have hdr:=List.drop_eq_getElem_cons hil
   obtain ⟨b,off,cs,rfl,hob,hbl,_,hr,hc⟩:=rdK_at HR.out i hil
   have hrs:rSg ok0 W0 (p,⟨d+1,l[i]⟩) cs:=hr
   obtain ⟨sn,sl,sc,sb,se,sd,su,sw,sr,p1,p3,p4,p6,rfl,_,hin⟩:=sg_in hrs
   obtain ⟨no,hno⟩:∃ no,l[i].1.2.2.2.2.length=no:=⟨_,rfl⟩
   obtain ⟨ni,hni⟩:∃ ni,l[i].2.length=ni:=⟨_,rfl⟩
   rw [hno,hni] at hc hrs
   rw [hni] at hin
   have hw0:=HA.out.w0
   have hLs:=HA.out.sz
   have hbLb:=HOK.out b hob
   have C0:=(hw0.cell (p:=⟨b,off+i*11+0,none⟩) hbLb).trans (hc 0 _ rfl)
   have C1:=(hw0.cell (p:=⟨b,off+i*11+1,none⟩) hbLb).trans (hc 1 _ rfl)
   have C2:=(hw0.cell (p:=⟨b,off+i*11+2,none⟩) hbLb).trans (hc 2 _ rfl)
   have C3:=(hw0.cell (p:=⟨b,off+i*11+3,none⟩) hbLb).trans (hc 3 _ rfl)
   have C4:=(hw0.cell (p:=⟨b,off+i*11+4,none⟩) hbLb).trans (hc 4 _ rfl)
   have C5:=(hw0.cell (p:=⟨b,off+i*11+5,none⟩) hbLb).trans (hc 5 _ rfl)
   have C6:=(hw0.cell (p:=⟨b,off+i*11+6,none⟩) hbLb).trans (hc 6 _ rfl)
   have C7:=(hw0.cell (p:=⟨b,off+i*11+7,none⟩) hbLb).trans (hc 7 _ rfl)
   have C8:=(hw0.cell (p:=⟨b,off+i*11+8,none⟩) hbLb).trans (hc 8 _ rfl)
   have C9:=(hw0.cell (p:=⟨b,off+i*11+9,none⟩) hbLb).trans (hc 9 _ rfl)
   have C10:=(hw0.cell (p:=⟨b,off+i*11+10,none⟩) hbLb).trans (hc 10 _ rfl)
   rw [Nat.add_zero] at C0
   clear hc hr
   have i1:(i:Int) < (n:Int):=by omega
   have i2:(0:Int)<=(i:Int):=by omega
   have hal:Below wr.heap.size wr (wr.alloc (.cells #[.string sn,.int .i64 sl,.int .i64 sc,.bool sb,.bool se,.string sd,.string su,.int .i64 sw,.int .i64 sr,.slice p1 no p3,.slice p4 ni p6] 79)):=(Below.refl _ _).alloc Nat.le.refl _
   have hY:Bn (wr.alloc (.cells #[.string sn,.int .i64 sl,.int .i64 sc,.bool sb,.bool se,.string sd,.string su,.int .i64 sw,.int .i64 sr,.slice p1 no p3,.slice p4 ni p6] 79)) wr.heap.size [.string sn,.int .i64 sl,.int .i64 sc,.bool sb,.bool se,.string sd,.string su,.int .i64 sw,.int .i64 sr,.slice p1 no p3,.slice p4 ni p6]:=Bn.new wr [.string sn,.int .i64 sl,.int .i64 sc,.bool sb,.bool se,.string sd,.string su,.int .i64 sw,.int .i64 sr,.slice p1 no p3,.slice p4 ni p6] 79 _ rfl
   have HA2:=mkHid (HA.out.on hal)
   go_upto_region 3 with fail
   generalize (wr.alloc (.cells #[.string sn,.int .i64 sl,.int .i64 sc,.bool sb,.bool se,.string sd,.string su,.int .i64 sw,.int .i64 sr,.slice p1 no p3,.slice p4 ni p6] 79))=wy at *
   clear C0 C1 C2 C3 C4 C5 C6 C7 C8 C9 C10
   obtain ⟨Y,hYY⟩:∃ Y,wr.heap.size=Y:=⟨_,rfl⟩
   have hYL:Lb < Y:=by omega
   rw [hYY] at hY ⊢
   have hws:w.heap.size<=wy.heap.size:=Nat.le_trans hwr hal.size
   have hYw:=hY.lt
   obtain ⟨ua,uc,rfl,huc,hum⟩:=HA2.out.s.form
   obtain ⟨xa,xc,rfl,hxc,hxm⟩:=HA2.out.o.form
   unfold maxLen at hum hxm
   obtain ⟨m,hm⟩:∃ m,Q.length=m:=⟨_,rfl⟩
   rw [hm] at huc hxc hQ41
   have hLB:Bn wy Lb [.string g0,.int .i64 g1,.int .i64 g2,.int .i64 g3,.slice g4 g5 g6,.slice g7 g8 g9,.slice ua m uc,.slice xa m xc]:=by rw [<- hm];exact HA2.out.b
   obtain ⟨c6,z6⟩:=hLB 6 _ rfl
   obtain ⟨c7,z7⟩:=hLB 7 _ rfl
   by_cases h40:40 < m
   ·have j1:(m:Int) > 40:=by omega
    have HE:Hid (fin41 (d+1) P p l=Q):=by
     show _=_
     rw [HX.out,fin41_full _ _ _ _ (by omega)]
    go_wp2
    exact bodyPost_ret (results_none (by rfl) _ _ _) rfl ⟨⟨_,rfl⟩,⟨_,_,by rw [HE.out];exact HA2.out⟩,hws⟩
   ·have j1:¬ (m:Int) > 40:=by omega
    go_upto_region 5 with fail
    have hali:Below wy.heap.size wy (wy.alloc (.cells #[.string ⟨#[]⟩,.int .i64 0,.int .i64 0,.bool false,.bool false,.string ⟨#[]⟩,.string ⟨#[]⟩,.int .i64 0,.int .i64 0,.slice none 0 0,.slice none 0 0] 79)).drew:=((Below.refl _ _).alloc Nat.le.refl _).drew
    have hsrc:Src Tryz.prog 11 40 (.slice (some ⟨wy.heap.size,0,none⟩) 1 1) 1 [.string ⟨#[]⟩,.int .i64 0,.int .i64 0,.bool false,.bool false,.string ⟨#[]⟩,.string ⟨#[]⟩,.int .i64 0,.int .i64 0,.slice none 0 0,.slice none 0 0] (wy.alloc (.cells #[.string ⟨#[]⟩,.int .i64 0,.int .i64 0,.bool false,.bool false,.string ⟨#[]⟩,.string ⟨#[]⟩,.int .i64 0,.int .i64 0,.slice none 0 0,.slice none 0 0] 79)).drew:=Src.ofSlice _ Tryz.underlying40 _ 1 1 _ (by simp) (fun j u hu=>cells_new (w:=wy) j u hu) (by simp [Value.oneCell'])
    have hOs:=HA2.out.s
    have hOo:=HA2.out.o
    rw [hm] at hOs hOo
    have j2:(m:Int) < (m:Int)+1:=by omega
    have j3:(0:Int)<=(m:Int):=by omega
    have y0:=(hY 0 _ rfl).1
    have y1:=(hY 1 _ rfl).1
    have y2:=(hY 2 _ rfl).1
    have y3:=(hY 3 _ rfl).1
    have y4:=(hY 4 _ rfl).1
    have y5:=(hY 5 _ rfl).1
    have y6:=(hY 6 _ rfl).1
    have y7:=(hY 7 _ rfl).1
    have y8:=(hY 8 _ rfl).1
    have y9:=(hY 9 _ rfl).1
    have y10:=(hY 10 _ rfl).1
    have hYlt:Y < (wy.alloc (.cells #[.string ⟨#[]⟩,.int .i64 0,.int .i64 0,.bool false,.bool false,.string ⟨#[]⟩,.string ⟨#[]⟩,.int .i64 0,.int .i64 0,.slice none 0 0,.slice none 0 0] 79)).drew.heap.size:=Nat.lt_of_lt_of_le hYw hali.size
    have ngY:some Y≠(Value.slice ua m uc).ownBlock:=fun e=>by
     have:=(HA.out.s.lt Y (by rw [hm];exact e.symm)).2
     omega
    have kL:=((hLB.on hali) 6 _ rfl).1
    have yB0:=((hY.on hali) 0 _ rfl).1
    have yB1:=((hY.on hali) 1 _ rfl).1
    have yB2:=((hY.on hali) 2 _ rfl).1
    have yB3:=((hY.on hali) 3 _ rfl).1
    have yB4:=((hY.on hali) 4 _ rfl).1
    have yB5:=((hY.on hali) 5 _ rfl).1
    have yB6:=((hY.on hali) 6 _ rfl).1
    have yB7:=((hY.on hali) 7 _ rfl).1
    have yB8:=((hY.on hali) 8 _ rfl).1
    have yB9:=((hY.on hali) 9 _ rfl).1
    have yB10:=((hY.on hali) 10 _ rfl).1
    go_cut [] (fun wc=>∃ (G C:Nat),m+1<=C/\C<=maxLen/\Bn wc Lb [.string g0,.int .i64 g1,.int .i64 g2,.int .i64 g3,.slice g4 g5 g6,.slice g7 g8 g9,.slice (some ⟨G,0,none⟩) (m+1) C,.slice xa m xc]/\Hid (OwnB wc (Lb+1) (fun b=>(Value.slice xa m xc).ownBlock=some b) 79 11 (rSo ok0 W0) (.slice (some ⟨G,0,none⟩) (m+1) C) (Q++[(p,⟨d+1,l[i]⟩)]))/\Hid (OwnB wc (Lb+1) (fun b=>(Value.slice (some ⟨G,0,none⟩) (m+1) C).ownBlock=some b) 3 1 rIn (.slice xa m xc) Q)/\Below Lb wy wc/\Bn wc Y [.string sn,.int .i64 sl,.int .i64 sc,.bool sb,.bool se,.string sd,.string su,.int .i64 sw,.int .i64 sr,.slice p1 no p3,.slice p4 ni p6]/\wy.heap.size<=wc.heap.size)
    case first=>
     go_region_law (first
      | (refine step_zero wy (wy.alloc (.cells #[.string ⟨#[]⟩,.int .i64 0,.int .i64 0,.bool false,.bool false,.string ⟨#[]⟩,.string ⟨#[]⟩,.int .i64 0,.int .i64 0,.slice none 0 0,.slice none 0 0] 79)).drew hali rfl _ _ 40 rfl (Lb+1) (fun b=>(Value.slice xa m xc).ownBlock=some b) 79 it (.agg #[.string ⟨#[]⟩,.int .i64 0,.int .i64 0,.bool false,.bool false,.string ⟨#[]⟩,.string ⟨#[]⟩,.int .i64 0,.int .i64 0,.slice none 0 0,.slice none 0 0]) 11 136 Tryz.underlying40 hit hit0 hit1 hit2 rfl (kp_so ok0 W0) (.slice ua m uc) Q (p,⟨d+1,l[i]⟩) [.string sn,.int .i64 sl,.int .i64 sc,.bool sb,.bool se,.string sd,.string su,.int .i64 sw,.int .i64 sr,.slice p1 no p3,.slice p4 ni p6] [.string ⟨#[]⟩,.int .i64 0,.int .i64 0,.bool false,.bool false,.string ⟨#[]⟩,.string ⟨#[]⟩,.int .i64 0,.int .i64 0,.slice none 0 0,.slice none 0 0] _ wy.heap.size rfl rfl hsrc hOs hrs (by omega) (fun x hx=>(hOs.lt x hx).2) (fun b hb=>⟨(hOo.lt b hb).2,(hOo.lt b hb).2⟩) (by omega) (by unfold maxLen;omega) (by omega) ?_;intro G9 C9 wb hgc hgm hZ hcs hgb hbb hat;have hzc:=hZ.cells;rw [hm] at hzc;obtain ⟨d0,t0⟩:=hzc 0 _ rfl;obtain ⟨d1,t1⟩:=hzc 1 _ rfl;obtain ⟨d2,t2⟩:=hzc 2 _ rfl;obtain ⟨d3,t3⟩:=hzc 3 _ rfl;obtain ⟨d4,t4⟩:=hzc 4 _ rfl;obtain ⟨d5,t5⟩:=hzc 5 _ rfl;obtain ⟨d6,t6⟩:=hzc 6 _ rfl;obtain ⟨d7,t7⟩:=hzc 7 _ rfl;obtain ⟨d8,t8⟩:=hzc 8 _ rfl;obtain ⟨d9,t9⟩:=hzc 9 _ rfl;obtain ⟨d10,t10⟩:=hzc 10 _ rfl;rw [Nat.add_zero] at d0 t0;have hLBb:=hLB.blk (hbb.block Lb (by omega));obtain ⟨m5,n5⟩:=hLBb 6 _ rfl;have hYb:=(hY.on hali).blk (hgb.block Y hYlt ngY);have y0:=(hYb 0 _ rfl).1;have y1:=(hYb 1 _ rfl).1;have y2:=(hYb 2 _ rfl).1;have y3:=(hYb 3 _ rfl).1;have y4:=(hYb 4 _ rfl).1;have y5:=(hYb 5 _ rfl).1;have y6:=(hYb 6 _ rfl).1;have y7:=(hYb 7 _ rfl).1;have y8:=(hYb 8 _ rfl).1;have y9:=(hYb 9 _ rfl).1;have y10:=(hYb 10 _ rfl).1;have hg9:Lb+1<=G9:=hZ.1;have ngL:G9≠Lb:=(by omega);have ngY9:G9≠Y:=(by rcases hat with h|h;exact fun e=>ngY ((by rw [<- e];exact h:some Y=_));exact fun e=>(by have h2:G9=_:=Option.some.inj h;rw [e] at h2;simp at h2;omega)))
      | fail)
     all_goals (
      have hPB:Bn (putL wb G9 (m*11) [.string sn,.int .i64 sl,.int .i64 sc,.bool sb,.bool se,.string sd,.string su,.int .i64 sw,.int .i64 sr,.slice p1 no p3,.slice p4 ni p6]) Lb [.string g0,.int .i64 g1,.int .i64 g2,.int .i64 g3,.slice g4 g5 g6,.slice g7 g8 g9,.slice ua m uc,.slice xa m xc]:=hLBb.blk (putL_heap [.string sn,.int .i64 sl,.int .i64 sc,.bool sb,.bool se,.string sd,.string su,.int .i64 sw,.int .i64 sr,.slice p1 no p3,.slice p4 ni p6] wb G9 (m*11) Lb (by omega))
      have hPS:=hZ.put (kp_so ok0 W0) (cs:=[.string sn,.int .i64 sl,.int .i64 sc,.bool sb,.bool se,.string sd,.string su,.int .i64 sw,.int .i64 sr,.slice p1 no p3,.slice p4 ni p6]) rfl rfl hcs
      rw [hm] at hPS
      have hPO:OwnB (putL wb G9 (m*11) [.string sn,.int .i64 sl,.int .i64 sc,.bool sb,.bool se,.string sd,.string su,.int .i64 sw,.int .i64 sr,.slice p1 no p3,.slice p4 ni p6]) (Lb+1) (fun b=>(Value.slice (some ⟨G9,0,none⟩) (m+1) C9).ownBlock=some b) 3 1 rIn (.slice xa m xc) Q:=(((hOo.on kp_in hali).other kp_in (u':=.slice (some ⟨G9,0,none⟩) (m+1) C9) hgb (by rw [hm] at hat;exact hat))).keep kp_in (fun b hb hbad hlt=>⟨putL_heap [.string sn,.int .i64 sl,.int .i64 sc,.bool sb,.bool se,.string sd,.string su,.int .i64 sw,.int .i64 sr,.slice p1 no p3,.slice p4 ni p6] wb G9 (m*11) b (fun e=>hbad (by rw [e];rfl)),hbad⟩)
      have hPY:Bn (putL wb G9 (m*11) [.string sn,.int .i64 sl,.int .i64 sc,.bool sb,.bool se,.string sd,.string su,.int .i64 sw,.int .i64 sr,.slice p1 no p3,.slice p4 ni p6]) Y [.string sn,.int .i64 sl,.int .i64 sc,.bool sb,.bool se,.string sd,.string su,.int .i64 sw,.int .i64 sr,.slice p1 no p3,.slice p4 ni p6]:=hYb.blk (putL_heap [.string sn,.int .i64 sl,.int .i64 sc,.bool sb,.bool se,.string sd,.string su,.int .i64 sw,.int .i64 sr,.slice p1 no p3,.slice p4 ni p6] wb G9 (m*11) Y (by omega))
      have hPW:Below Lb wy (putL wb G9 (m*11) [.string sn,.int .i64 sl,.int .i64 sc,.bool sb,.bool se,.string sd,.string su,.int .i64 sw,.int .i64 sr,.slice p1 no p3,.slice p4 ni p6]):=putL_below [.string sn,.int .i64 sl,.int .i64 sc,.bool sb,.bool se,.string sd,.string su,.int .i64 sw,.int .i64 sr,.slice p1 no p3,.slice p4 ni p6] wb G9 (m*11) (hbb.mono (by omega)) (by omega)
      have hPZ:wy.heap.size<=(putL wb G9 (m*11) [.string sn,.int .i64 sl,.int .i64 sc,.bool sb,.bool se,.string sd,.string su,.int .i64 sw,.int .i64 sr,.slice p1 no p3,.slice p4 ni p6]).heap.size:=hPW.size
      have hput:(((((((((((wb.setCell ⟨G9,m*11,none⟩ (.string sn)).setCell ⟨G9,m*11+1,none⟩ (.int .i64 sl)).setCell ⟨G9,m*11+2,none⟩ (.int .i64 sc)).setCell ⟨G9,m*11+3,none⟩ (.bool sb)).setCell ⟨G9,m*11+4,none⟩ (.bool se)).setCell ⟨G9,m*11+5,none⟩ (.string sd)).setCell ⟨G9,m*11+6,none⟩ (.string su)).setCell ⟨G9,m*11+7,none⟩ (.int .i64 sw)).setCell ⟨G9,m*11+8,none⟩ (.int .i64 sr)).setCell ⟨G9,m*11+9,none⟩ (.slice p1 no p3)).setCell ⟨G9,m*11+10,none⟩ (.slice p4 ni p6))=putL wb G9 (m*11) [.string sn,.int .i64 sl,.int .i64 sc,.bool sb,.bool se,.string sd,.string su,.int .i64 sw,.int .i64 sr,.slice p1 no p3,.slice p4 ni p6]:=rfl
      have hput2:((((((((((((wb.setCell ⟨Lb,6,none⟩ (.slice (some ⟨G9,0,none⟩) (m+1) C9)).setCell ⟨G9,m*11,none⟩ (.string sn)).setCell ⟨G9,m*11+1,none⟩ (.int .i64 sl)).setCell ⟨G9,m*11+2,none⟩ (.int .i64 sc)).setCell ⟨G9,m*11+3,none⟩ (.bool sb)).setCell ⟨G9,m*11+4,none⟩ (.bool se)).setCell ⟨G9,m*11+5,none⟩ (.string sd)).setCell ⟨G9,m*11+6,none⟩ (.string su)).setCell ⟨G9,m*11+7,none⟩ (.int .i64 sw)).setCell ⟨G9,m*11+8,none⟩ (.int .i64 sr)).setCell ⟨G9,m*11+9,none⟩ (.slice p1 no p3)).setCell ⟨G9,m*11+10,none⟩ (.slice p4 ni p6))=(putL wb G9 (m*11) [.string sn,.int .i64 sl,.int .i64 sc,.bool sb,.bool se,.string sd,.string su,.int .i64 sw,.int .i64 sr,.slice p1 no p3,.slice p4 ni p6]).setCell ⟨Lb,6,none⟩ (.slice (some ⟨G9,0,none⟩) (m+1) C9):=putL_far G9 Lb 6 (.slice (some ⟨G9,0,none⟩) (m+1) C9) (by omega) [.string sn,.int .i64 sl,.int .i64 sc,.bool sb,.bool se,.string sd,.string su,.int .i64 sw,.int .i64 sr,.slice p1 no p3,.slice p4 ni p6] wb (m*11)
      first
       | rw [hput]
       | rw [hput2]
      have hgc':m+1<=C9:=(by rw [hm] at hgc;exact hgc)
      clear hput hput2 hZ hcs hzc hYb hLBb hgb hbb hat m5 n5 d0 d1 d2 d3 d4 d5 d6 d7 d8 d9 d10 t0 t1 t2 t3 t4 t5 t6 t7 t8 t9 t10 hgc y0 y1 y2 y3 y4 y5 y6 y7 y8 y9 y10 yB0 yB1 yB2 yB3 yB4 yB5 yB6 yB7 yB8 yB9 yB10 kL
      generalize putL wb G9 (m*11) [.string sn,.int .i64 sl,.int .i64 sc,.bool sb,.bool se,.string sd,.string su,.int .i64 sw,.int .i64 sr,.slice p1 no p3,.slice p4 ni p6]=wq at *
      have r1:=hPB.set (i:=6) (by simp) (.slice (some ⟨G9,0,none⟩) (m+1) C9)
      have r2:=mkHid (hPS.set (kp_so ok0 W0) (X:=Lb) (i:=6) (by omega) (.slice (some ⟨G9,0,none⟩) (m+1) C9))
      have r3:=mkHid (hPO.set kp_in (X:=Lb) (i:=6) (by omega) (.slice (some ⟨G9,0,none⟩) (m+1) C9))
      have r4:=hPW.setCell (p:=⟨Lb,6,none⟩) Nat.le.refl (.slice (some ⟨G9,0,none⟩) (m+1) C9)
      have r5:=hPY.far (X:=Lb) (i:=6) (by omega) (.slice (some ⟨G9,0,none⟩) (m+1) C9)
      have r6:wy.heap.size<=(wq.setCell ⟨Lb,6,none⟩ (.slice (some ⟨G9,0,none⟩) (m+1) C9)).heap.size:=(by simpa using hPZ)
      go_wp2
      go_meet
      case rel=>exact ⟨G9,C9,hgc',hgm,r1,r2,r3,r4,r5,r6⟩)
    case rest=>
     obtain ⟨G,C,hC1,hC2,hLC,HSc,HOc,hBc,hYc,hszc⟩:=hcut
     unfold maxLen at hC2
     obtain ⟨c7',z7'⟩:=hLC 7 _ rfl
     have hLCl:=hLC.lt
     have hOn:=HOc.out
     have hGL:∀ b,(Value.slice (some ⟨G,0,none⟩) (m+1) C).ownBlock=some b->b < wc.heap.size:=fun b hb=>(HSc.out.lt b (by simpa using hb)).2
     have hxl:=hOn.lt
     have ngL:some Lb≠(Value.slice xa m xc).ownBlock:=fun e=>by have:=(hxl Lb e.symm).1;omega
     have ngY7:some Y≠(Value.slice xa m xc).ownBlock:=fun e=>by
      have:=(HA.out.o.lt Y (by rw [hm];exact e.symm)).2
      omega
     have hYcl:=hYc.lt
     have hq1:(Q++[(p,(⟨d+1,l[i]⟩:SgS))]).length=m+1:=by simp [hm]
     go_upto_region 7 with (first
      | (at_builtin;refine wpList_pushL wc rfl _ _ 75 rfl (Lb+1) (fun b=>(Value.slice (some ⟨G,0,none⟩) (m+1) C).ownBlock=some b) 3 ii (.int .i64 0) 1 8 Tryz.underlying75 hii hii0 hii1 hii2 rfl kp_in (.slice xa m xc) Q (p,⟨d+1,l[i]⟩) [.int .i64 p] wc.heap.size rfl rfl rfl (by simp [Value.oneCell']) hOn rfl (by omega) (fun x hx=>(hxl x hx).2) (fun b hb=>⟨hGL b hb,hGL b hb⟩) (by omega) (by unfold maxLen;omega) (by omega) ?_;intro vb wb hOb hgb hbb hat;obtain ⟨va,vc,rfl,hvc1,hvc2⟩:=hOb.form;rw [hq1] at hOb hat hvc1;simp only [hq1];have hLB7:Bn wb Lb _:=hLC.blk (hbb.block Lb (by omega));obtain ⟨m7,n7⟩:=hLB7 7 _ rfl)
      | fail)
     have halc:Below wc.heap.size wc (wc.alloc (.cells #[.int .i64 p] 3)):=(Below.refl _ _).alloc Nat.le.refl _
     have hSb:=(HSc.out.on (kp_so ok0 W0) halc).other (kp_so ok0 W0) (u':=(.slice va (m+1) vc)) hgb hat
     have hYb2:Bn wb Y [.string sn,.int .i64 sl,.int .i64 sc,.bool sb,.bool se,.string sd,.string su,.int .i64 sw,.int .i64 sr,.slice p1 no p3,.slice p4 ni p6]:=(hYc.on halc).blk (hgb.block Y (Nat.lt_of_lt_of_le hYcl halc.size) ngY7)
     have hYz:=hYb2.far (X:=Lb) (i:=7) (by omega) (.slice va (m+1) vc)
     have hw0z:Below Lb W0 (wb.setCell ⟨Lb,7,none⟩ (.slice va (m+1) vc)):=((HA2.out.w0.trans hBc).trans (hbb.mono (by omega))).setCell (p:=⟨Lb,7,none⟩) Nat.le.refl _
     have hszz:wy.heap.size<=(wb.setCell ⟨Lb,7,none⟩ (.slice va (m+1) vc)).heap.size:=by simpa using Nat.le_trans hszc hbb.size
     have HLz:Hid (LadI ok0 W0 Lb [.string g0,.int .i64 g1,.int .i64 g2,.int .i64 g3,.slice g4 g5 g6,.slice g7 g8 g9] (wb.setCell ⟨Lb,7,none⟩ (.slice va (m+1) vc)) (Q++[(p,⟨d+1,l[i]⟩)]) (.slice (some ⟨G,0,none⟩) (m+1) C) (.slice va (m+1) vc)):=⟨hLB7.set (i:=7) (by simp) (.slice va (m+1) vc),hSb.set (kp_so ok0 W0) (X:=Lb) (i:=7) (by omega) _,hOb.set kp_in (X:=Lb) (i:=7) (by omega) _,hw0z,by omega⟩
     clear hSb hYb2 hLB7 m7 n7 hOb hgb hbb hat hYc HSc HOc hOn c7' z7' hLC halc
     generalize wb.setCell ⟨Lb,7,none⟩ (.slice va (m+1) vc)=wz at *
     have hst:StOk (d+1) l[i]:=HFO.out.2 _ (List.getElem_mem hil)
     have hcall:=HIH.out ok0 W0 Lb g0 g1 g2 g3 g4 g5 g6 g7 g8 g9 wz _ _ _ l[i].2 _ (m:Int) hin HOK.out ⟨hst.2.1,hst.2.2⟩ (by rw [hq1];omega) HLz.out
     have y10:=(hYz 10 _ rfl).1
     have HE:Hid (fin41 (d+1) P p l=fin41 (d+1) (fin41 d (Q++[(p,⟨d+1,l[i]⟩)]) (m:Int) l[i].2) p (l.drop (i+1))):=by
      show _=_
      rw [HX.out,hdr,fin41_cons d Q p l[i] _ (by omega),hm]
     obtain ⟨F,hF⟩:∃ F,fin41 d (Q++[(p,(⟨d+1,l[i]⟩:SgS))]) (m:Int) l[i].2=F:=⟨_,rfl⟩
     have hFl:F.length<=41:=by rw [<- hF];exact fin41_len _ _ _ _
     rw [hF] at hcall HE
     clear hF hq1 HLz
     go_wp2_with (first
      | (go_at_call 100;refine hcall.mono ?_;rintro e w2 ⟨⟨rv,rfl⟩,⟨v6',v7',hL2⟩,hs2⟩)
      | fail)
     have hw2:w.heap.size<=w2.heap.size:=by omega
     go_roundw
     case rel=>exact ⟨i+1,F,v6',v7',hlt,by go_num,HE,hFl,hL2,hw2⟩
     case measure=>simp [RowKit.intOf];omega
  ·have i1:¬ (i:Int) < (n:Int):=by omega
   have HE:Hid (fin41 (d+1) P p l=Q):=by
    show _=_
    rw [HX.out,List.drop_of_length_le (by rw [HN.out];omega),fin41_nil _ _ _ hQ41]
   go_wp2
   go_end0
   exact ⟨⟨_,rfl⟩,⟨u6,u7,by rw [HE.out];exact HA.out⟩,hwr⟩
theorem lad_zero:LadC 0:=by
 intro ok0 W0 Lb g0 g1 g2 g3 g4 g5 g6 g7 g8 g9 w P v6 v7 l v p hrd hok hfo hP41 hI
 cases l with
 | cons x _=>exact Empty.elim x
 | nil=>
  obtain ⟨a,cap,rfl,hlc,hcm⟩:=hrd.form
  have HE:=mkHid (fin41_nil 0 P p hP41)
  have HI:=mkHid hI
  clear hrd hok hfo hI
  simp only [List.length_nil]
  go_enter Tryz.func100,Tryz.ntmps100
  go_wp2
  go_loopw [11] (fun ix wr=>ix=.int .i64 0/\Hid (w=wr)) (fun _ _=>0)
  case atStart=>exact ⟨rfl,rfl⟩
  case round=>
   obtain ⟨rfl,hw⟩:=hrel
   obtain rfl:=hw.out
   go_wp2
   go_end0
   exact ⟨⟨_,rfl⟩,⟨v6,v7,by rw [HE.out];exact HI.out⟩,Nat.le_refl _⟩
theorem lad_all:∀ d,LadC d
 | 0=>lad_zero
 | d+1=>lad_step d (lad_all d)
def fsC {d:Nat}(c:ChG d):List (Int × SgS):=(flP d (-1) 0 c.2.2.2).take 41
theorem laid_any {ok:Nat->Prop}{w:World}{d:Nat}{c:ChG d}{v:Value}(h:RdC ok w d c v) (hok:∀ b,ok b->b < w.heap.size) (hfo:FoOk ⟨d,c.2.2.2⟩) :
  Calls Tryz.prog 67 #[v] w fun e w'=>e=.returned (.pointer (some ⟨w.heap.size+1,0,none⟩))/\Ly (fun _=>True) w' (w.heap.size+1) c (fsC c)/\Below w.heap.size w w':=by
 obtain ⟨sv,ss,rfl,hv,hs⟩:=h
 obtain ⟨va,vc,rfl,_⟩:=hv.form
 obtain ⟨sa,sc,rfl,_⟩:=hs.form
 obtain ⟨nm,hnm⟩:∃ nm:ByteArray,sV c.1.1=.string nm:=⟨_,rfl⟩
 rw [hnm]
 obtain ⟨nv,hnv⟩:∃ n,c.2.2.1.length=n:=⟨_,rfl⟩
 obtain ⟨ns,hns⟩:∃ n,c.2.2.2.length=n:=⟨_,rfl⟩
 obtain ⟨vn,hvn⟩:∃ x,c.2.1=x:=⟨_,rfl⟩
 obtain ⟨ln,hln⟩:∃ x,c.1.2.1=x:=⟨_,rfl⟩
 obtain ⟨co,hco⟩:∃ x,c.1.2.2=x:=⟨_,rfl⟩
 rw [hvn,hln,hco,hnv,hns]
 have HPL:Hid ((ln,co)=c.1.2):=by rw [<- hln,<- hco];exact rfl
 have HNV:=mkHid hnv
 have HNS:=mkHid hns
 have HV:=mkHid hv
 have HS:=mkHid hs
 rw [hnv] at HV
 rw [hns] at HS
 have HFO:=mkHid hfo
 have HOK:=mkHid hok
 clear hv hs hnm hnv hns hvn hln hco hfo hok
 have hal:Below w.heap.size w ((w.alloc (.cells #[.string nm,.int .i64 vn,.int .i64 ln,.int .i64 co,.slice va nv vc,.slice sa ns sc] 42)).alloc (.cells #[.string nm,.int .i64 vn,.int .i64 ln,.int .i64 co,.slice va nv vc,.slice sa ns sc,.slice none 0 0,.slice none 0 0] 208)):=((Below.refl _ _).alloc Nat.le.refl _).alloc (by simp) _
 have hX:Bn ((w.alloc (.cells #[.string nm,.int .i64 vn,.int .i64 ln,.int .i64 co,.slice va nv vc,.slice sa ns sc] 42)).alloc (.cells #[.string nm,.int .i64 vn,.int .i64 ln,.int .i64 co,.slice va nv vc,.slice sa ns sc,.slice none 0 0,.slice none 0 0] 208)) w.heap.size [.string nm,.int .i64 vn,.int .i64 ln,.int .i64 co,.slice va nv vc,.slice sa ns sc]:=(Bn.new w [.string nm,.int .i64 vn,.int .i64 ln,.int .i64 co,.slice va nv vc,.slice sa ns sc] 42 _ rfl).on ((Below.refl _ _).alloc Nat.le.refl _)
 have hL:Bn ((w.alloc (.cells #[.string nm,.int .i64 vn,.int .i64 ln,.int .i64 co,.slice va nv vc,.slice sa ns sc] 42)).alloc (.cells #[.string nm,.int .i64 vn,.int .i64 ln,.int .i64 co,.slice va nv vc,.slice sa ns sc,.slice none 0 0,.slice none 0 0] 208)) (w.heap.size+1) [.string nm,.int .i64 vn,.int .i64 ln,.int .i64 co,.slice va nv vc,.slice sa ns sc,.slice none 0 0,.slice none 0 0]:=Bn.new _ [.string nm,.int .i64 vn,.int .i64 ln,.int .i64 co,.slice va nv vc,.slice sa ns sc,.slice none 0 0,.slice none 0 0] 208 (w.heap.size+1) (by simp)
 go_enter Tryz.func67,Tryz.ntmps67
 go_upto_region 2 with fail
 generalize ((w.alloc (.cells #[.string nm,.int .i64 vn,.int .i64 ln,.int .i64 co,.slice va nv vc,.slice sa ns sc] 42)).alloc (.cells #[.string nm,.int .i64 vn,.int .i64 ln,.int .i64 co,.slice va nv vc,.slice sa ns sc,.slice none 0 0,.slice none 0 0] 208))=wx at *
 have x5:=(hX 5 _ rfl).1
 have hLl:=hL.lt
 have hlow:∀ b,ok b->b < w.heap.size+1:=fun b hb=>by have:=HOK.out b hb;omega
 have hrd:RdK ok wx 11 (rSt d ok wx) c.2.2.2 (.slice sa ns sc):=HS.out.stay (kp_st d) (fun b hb hl=>⟨hb,hal.block b hl⟩)
 have hcall:=lad_all d ok wx (w.heap.size+1) nm vn ln co va nv vc sa ns sc wx [] (.slice none 0 0) (.slice none 0 0) c.2.2.2 (.slice sa ns sc) (-1) hrd hlow HFO.out (by simp) ⟨hL,ownB_nil _ _ _ _ _ _,ownB_nil _ _ _ _ _ _,Below.refl _ _,hLl⟩
 have HFS:Hid (fin41 d [] (-1) c.2.2.2=fsC c):=by show _=_;unfold fin41 fsC;simp
 rw [HFS.out] at hcall
 have HRD:=mkHid hrd
 clear hrd
 go_wp2_with (first
  | (go_at_call 100;refine hcall.mono ?_;rintro e w2 ⟨⟨rv,rfl⟩,⟨v6',v7',hL2⟩,hs2⟩)
  | fail)
 go_ret
 obtain ⟨a6,c6,rfl,_⟩:=hL2.s.form
 obtain ⟨a7,c7,rfl,_⟩:=hL2.o.form
 have hbw:Below w.heap.size w w2:=hal.trans (hL2.w0.mono (by omega))
 refine ⟨rfl,⟨nm,vn,ln,co,va,vc,sa,ns,sc,a6,c6,a7,c7,?_,?_,?_,?_,HPL.out⟩,hbw⟩
 ·rw [HNV.out]
  exact hL2.b
 ·rw [HNV.out]
  exact HV.out.stay kp_var (fun b hb hl=>⟨trivial,hbw.block b hl⟩)
 ·have h3:=hL2.s.rd (kp_so ok wx)
  exact h3.keep (fun x _ cs hcs=>kp_sg (ok':=fun _=>True) (w':=w2) (show rSg ok wx x cs from hcs) (fun b hb hl=>⟨trivial,hL2.w0.block b (hlow b hb)⟩)) (fun b _ hl=>⟨trivial,rfl⟩)
 ·have h4:=hL2.o.rd kp_in
  exact h4.keep (fun x _ cs hcs=>hcs) (fun b _ hl=>⟨trivial,rfl⟩)
theorem rvar_any (s0:ByteArray) (x pl pc:Int) (w:World) (hs0:s0.size<=140737488351232):Calls Tryz.prog 98 #[.agg #[.string s0,.int .i64 x,.int .i64 pl,.int .i64 pc]] w fun e w'=>e=.returned (.bool (plainB (bl s0) && decide (-1000000000<=x/\x<=1000000000)))/\Below w.heap.size w w':=by
 have hal:Below w.heap.size w (w.alloc (.cells #[.string s0,.int .i64 x,.int .i64 pl,.int .i64 pc] 92)):=(Below.refl w.heap.size w).alloc Nat.le.refl _
 have hX:Bn (w.alloc (.cells #[.string s0,.int .i64 x,.int .i64 pl,.int .i64 pc] 92)) w.heap.size [.string s0,.int .i64 x,.int .i64 pl,.int .i64 pc]:=Bn.new w [.string s0,.int .i64 x,.int .i64 pl,.int .i64 pc] 92 _ rfl
 cases h1:plainB (bl s0)<;>by_cases h2 : -1000000000<=x<;>by_cases h3:x<=1000000000
 all_goals try (exfalso;omega)
 all_goals simp only [h2,h3,and_self,and_true,true_and,and_false,false_and,decide_true,decide_false]
 all_goals (have H2:=mkHid h2;have H3:=mkHid h3)
 all_goals (
  go_enter Tryz.func98,Tryz.ntmps98
  go_upto_region 1 with fail
  generalize (w.alloc (.cells #[.string s0,.int .i64 x,.int .i64 pl,.int .i64 pc] 92))=wx at *
  have hB:Below wx.heap.size wx wx:=Below.refl _ _
  have x0:=(hX 0 _ rfl).1
  have x1:=(hX 1 _ rfl).1
  have x2:=(hX 2 _ rfl).1
  have x3:=(hX 3 _ rfl).1
  have h2:=H2.out
  have h3:=H3.out
  go_wp2_with (first
   | (go_at_call 95;refine (rnameB _ _ (by assumption)).mono ?_;rintro e w1 ⟨rfl,b1⟩;simp only [h1];have hB:=Below.nx hB b1;obtain ⟨x1,_⟩:=(hX.on hB) 1 _ rfl)
   | fail)
  go_ret
  exact ⟨rfl,hal.trans (hB.mono hal.size)⟩)
theorem everyVar_any  {ok:Nat->Prop}{w:World}{l:List (List UInt8 × Int × Pl)}{v:Value}(h:RdK ok w 4 (rVar ok w) l v) (hok:∀ s∈l,s.1.length<=140737488351232) :
  Calls Tryz.prog 97 #[v,.func (.func 98) #[] #[]] w fun e w'=>e=.returned (.bool (l.all (varF)))/\Below w.heap.size w w':=by
 obtain ⟨a,cap,rfl,hlc,hcm⟩:=h.form
 unfold maxLen at hcm
 have HC:=mkHid h
 have HK:=mkHid hok
 obtain ⟨n,hn⟩:∃ n,l.length=n:=⟨_,rfl⟩
 rw [hn] at hlc ⊢
 have HN:Hid (l.length=n):=hn
 obtain ⟨f,hf⟩:∃ f:(List UInt8 × Int × Pl)->Bool,(varF)=f:=⟨_,rfl⟩
 rw [hf]
 have HF:=mkHid hf
 obtain ⟨V,HA⟩:∃ V,l.all f=V:=⟨_,rfl⟩
 rw [HA]
 have HAA:=mkHid HA
 clear h hok hn hf HA
 go_enter Tryz.func97,Tryz.ntmps97
 go_wp2
 go_loopw [9] (fun ix wr=>∃ (i:Nat),i<=n/\ix=.int .i64 (i:Int)/\Hid (∀ x∈l.take i,f x=true)/\Below w.heap.size w wr) (fun ix _=>n - (RowKit.intOf ix).toNat)
 case atStart=>exact ⟨0,Nat.zero_le _,rfl,(show Hid _ from fun x hx=>by simp at hx),Below.refl _ _⟩
 case round=>
  obtain ⟨i,hi,rfl,hT,hb⟩:=hrel
  by_cases hlt:i < n
  ·have hil:i < l.length:=by rw [HN.out];exact hlt
   have HA:=HAA.out
   obtain ⟨b,off,rfl,hbl,hc⟩:=varQ_at HC.out i hil
   have hks:=HK.out _ (List.getElem_mem hil)
   obtain ⟨q,hq⟩:∃ q,l[i]=q:=⟨_,rfl⟩
   have HQ:=mkHid hq
   rw [hq] at hc hks
   obtain ⟨s0,hs0,hsb,hss⟩:=sV_out q.1 hks
   obtain ⟨x,hx⟩:∃ x,q.2.1=x:=⟨_,rfl⟩
   have hfx:f q=(plainB (bl s0) && decide (-1000000000<=x/\x<=1000000000)):=by rw [<- HF.out,hsb,<- hx];rfl
   obtain ⟨pl,pc,hov⟩:∃ pl pc,varV q=[sV q.1,.int .i64 q.2.1,.int .i64 pl,.int .i64 pc]:=⟨_,_,rfl⟩
   rw [hov,hs0,hx] at hc
   clear hs0 hq hks hx hov hsb
   have i1:(i:Int) < (n:Int):=by omega
   have i2:(0:Int)<=(i:Int):=by omega
   have C0:=(hb.cell (p:=⟨b,off+i*4+0,none⟩) hbl).trans (hc 0 _ rfl)
   have C1:=(hb.cell (p:=⟨b,off+i*4+1,none⟩) hbl).trans (hc 1 _ rfl)
   have C2:=(hb.cell (p:=⟨b,off+i*4+2,none⟩) hbl).trans (hc 2 _ rfl)
   have C3:=(hb.cell (p:=⟨b,off+i*4+3,none⟩) hbl).trans (hc 3 _ rfl)
   rw [Nat.add_zero] at C0
   clear hc
   have hal:Below wr.heap.size wr (wr.alloc (.cells #[.string s0,.int .i64 x,.int .i64 pl,.int .i64 pc] 92)):=(Below.refl _ _).alloc Nat.le.refl _
   have hX:Bn (wr.alloc (.cells #[.string s0,.int .i64 x,.int .i64 pl,.int .i64 pc] 92)) wr.heap.size [.string s0,.int .i64 x,.int .i64 pl,.int .i64 pc]:=Bn.new wr [.string s0,.int .i64 x,.int .i64 pl,.int .i64 pc] 92 _ rfl
   have hbx:=hb.trans (hal.mono hb.size)
   have hcall:∀ w1,Below w.heap.size w w1->Calls Tryz.prog 98 #[.agg #[.string s0,.int .i64 x,.int .i64 pl,.int .i64 pc]] w1 fun e w'=>e=.returned (.bool (f q))/\Below w1.heap.size w1 w':=fun w1 b1=>by
    rw [hfx]
    exact rvar_any s0 x pl pc w1 hss
   clear hfx hss
   have hac2:Hid (f q=true->(∀ x∈l.take (i+1),f x=true)):=fun hq=>by
    rw [List.take_succ_eq_append_getElem hil,HQ.out]
    intro x hx
    rcases List.mem_append.1 hx with hx|hx
    ·exact hT.out x hx
    ·rw [List.mem_singleton.1 hx];exact hq
   have hall:Hid (f q=false->l.all f=false):=fun hq=>by
    show l.all f=false
    rw [List.all_eq_false]
    exact ⟨q,by rw [<- HQ.out];exact List.getElem_mem hil,by rw [hq];decide⟩
   cases hfq:f q with
   | true=>
    rw [hfq] at hcall
    have hT2:Hid (∀ x∈l.take (i+1),f x=true):=hac2.out hfq
    clear hac2 hall hfq
    go_upto_region 4 with fail
    clear C0 C1 C2 C3
    generalize (wr.alloc (.cells #[.string s0,.int .i64 x,.int .i64 pl,.int .i64 pc] 92))=wx at *
    have x0:=(hX 0 _ rfl).1
    have x1:=(hX 1 _ rfl).1
    have x2:=(hX 2 _ rfl).1
    have x3:=(hX 3 _ rfl).1
    go_wp2_with (first
     | (go_at_call 98;refine (hcall _ hbx).mono ?_;rintro e w1 ⟨rfl,b1⟩)
     | fail)
    have hb2:=hbx.trans (b1.mono hbx.size)
    go_wp2
    go_roundw
    case rel=>exact ⟨i+1,hlt,by go_num,hT2,hb2⟩
    case measure=>simp [RowKit.intOf];omega
   | false=>
    rw [hfq] at hcall
    have hA:=hall.out hfq
    rw [hA] at HA
    subst HA
    clear hac2 hall hfq hA
    go_upto_region 4 with fail
    clear C0 C1 C2 C3
    generalize (wr.alloc (.cells #[.string s0,.int .i64 x,.int .i64 pl,.int .i64 pc] 92))=wx at *
    have x0:=(hX 0 _ rfl).1
    have x1:=(hX 1 _ rfl).1
    have x2:=(hX 2 _ rfl).1
    have x3:=(hX 3 _ rfl).1
    go_wp2_with (first
     | (go_at_call 98;refine (hcall _ hbx).mono ?_;rintro e w1 ⟨rfl,b1⟩)
     | fail)
    go_ret
    exact ⟨rfl,hbx.trans (b1.mono hbx.size)⟩
  ·have i1:¬ (i:Int) < (n:Int):=by omega
   have hV:V=true:=by
    rw [<- HAA.out,List.all_eq_true]
    have hf:=hT.out
    rw [List.take_of_length_le (by rw [HN.out];omega)] at hf
    exact hf
   subst hV
   go_wp2
   go_ret
   exact ⟨rfl,hb⟩
