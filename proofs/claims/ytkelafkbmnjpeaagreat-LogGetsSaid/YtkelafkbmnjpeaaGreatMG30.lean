/-
  Texts that the statements lean on, one behind the other.
-/
import Derived.Test.YtkelafkbmnjpeaaGreatLgSm
import Derived.LoopTactic
import Derived.Test.YtkelafkbmnjpeaaGreatMG23
import Derived.Test.YtkelafkbmnjpeaaGreatMG01
import Derived.Test.YtkelafkbmnjpeaaGreatMG10
import Derived.Test.YtkelafkbmnjpeaaGreatMG08
import Derived.Test.YtkelafkbmnjpeaaGreatMG03
import Derived.Laws.AppendOwn
import Derived.Maps.AppendAt
import Derived.OwnWalkIn
import Derived.Test.YtkelafkbmnjpeaaGreatMG12
import Derived.Test.YtkelafkbmnjpeaaGreatMG16
import Derived.Test.YtkelafkbmnjpeaaGreatMG04
import Derived.Test.YtkelafkbmnjpeaaGreatMG11
import Derived.Test.YtkelafkbmnjpeaaGreatMG14
set_option maxHeartbeats 8000000
set_option maxRecDepth 100000
namespace Go.Proofs.YtkelafkbmnjpeaaGreat
open Go.Lib (hid)
open Go.RowKit Go.Maps Go.WideMaps
theorem Zg9 (s:ByteArray) (g N:Nat) (steps:List (Dk→Dk×Int)) (In:Nat→Dk→World→Prop) (Out:Dk→World→Prop) (fns:Nat→FuncId×Array Value×Array Value) (hN:steps.length=N) (hN9:N≤9)
 (hrow:∀ i m w,In i m w→∀ j,j < N→w.cell? ⟨g,j,none⟩=some (.func (.func (fns j).1) (fns j).2.1 (fns j).2.2))
 (eg:∀ j,j < N→∀ args w,(callFunc (fns j).1 args).run Tryz.prog w=.ok (.enter (fns j).1 args) w)
 (hstep:∀ j m w st,steps[j]?=some st→In j m w→Calls Tryz.prog (fns j).1 ((fns j).2.1++#[.string s]++(fns j).2.2) w fun e w'=>e=.returned (.int .i64 (st m).2)∧Out (st m).1 w'∧((st m).2=0→In (j+1) (st m).1 w'))
 (hout:∀ j m w,In j m w→Out m w)
 (m:Dk) (w:World) (h:In 0 m w) :
 Calls Tryz.prog 138 #[.string s,.slice (some ⟨g,0,none⟩) N N] w fun e w'=>e=.returned (.tuple #[])∧Out (seqP steps m).1 w':=by
 obtain ⟨r,hr⟩:∃ r,seqP steps m=r:=⟨_,rfl⟩
 rw [hr]
 have H:=hid h
 have HRR:=hid hr
 have HROW:=hid hrow
 have HSTEP:=hid hstep
 have HEG:=hid eg
 have HLN:=hid hN
 have HOUT:=hid hout
 clear h hr hrow hstep eg hN hout
 go_enter Tryz.func138,Tryz.ntmps138
 go_wp2_with (fail)
 go_loopw [8] (fun i wr=>∃ (j:Nat) (mj:Dk),j≤N∧i=.int .i64 (j:Nat)∧Hid (In j mj wr)∧Hid (seqP (steps.drop j) mj=r)) (fun i _=>N - (intOf i).toNat)
 case atStart=>exact ⟨0,m,by omega,rfl,H,hid HRR.out⟩
 case round =>
  obtain ⟨j,mj,hj,rfl,HI,HQ⟩:=hrel
  by_cases hlt:j < N
  ·have hlt':(j:Int) < (N:Int):=by omega
   have hj0:(0:Int)≤(j:Int):=by omega
   have e5:IntKind.i64.wrap ((j:Int)+1)=(j:Int)+1:=IntWalk.i64_in _ ⟨by omega,by omega⟩
   have hcell:=HROW.out j mj wr HI.out j hlt
   have heg:=HEG.out j hlt
   obtain ⟨st,hst⟩:∃ st,steps[j]?=some st:=⟨_,List.getElem?_eq_getElem (by rw [HLN.out];exact hlt)⟩
   have hcall:=HSTEP.out j mj wr st hst HI.out
   have hq:=HQ.out
   obtain ⟨hj',hst'⟩:=List.getElem?_eq_some_iff.1 hst
   rw [List.drop_eq_getElem_cons hj',hst',seqP] at hq
   obtain ⟨⟨f,us,vs⟩,hf⟩:∃ q,fns j=q:=⟨_,rfl⟩
   rw [hf] at hcell heg hcall
   dsimp only at hcell heg hcall
   obtain ⟨⟨m',er⟩,he⟩:∃ q,st mj=q:=⟨_,rfl⟩
   rw [he] at hcall hq
   dsimp only at hcall hq
   have HCALL:=hid hcall
   have HQ2:=hid hq
   clear hst hst' hcall hq he hf
   by_cases her:er=0
   ·subst her
    go_wp2_with (fail)
    refine HCALL.out.mono ?_
    rintro e w5 ⟨rfl,_,hi⟩
    have HI5:=hid (hi (by first | exact rfl | trivial))
    clear hi hcell heg
    go_wp2_with (fail)
    go_roundw
    case rel=>exact ⟨j+1,m',by omega,by first | rfl | go_num,HI5,hid (by have:=HQ2.out;first | (rw [if_pos trivial] at this;exact this) | (rw [if_pos rfl] at this;exact this))⟩
    case measure=>simp [intOf];omega
   ·have herb:(er != 0)=true:=by rw [bne_iff_ne];exact her
    obtain rfl:r=(m',er):=by have:=HQ2.out;rw [if_neg her] at this;exact this.symm
    clear her
    go_wp2_with (fail)
    refine HCALL.out.mono ?_
    rintro e w5 ⟨rfl,hi,_⟩
    have HI5:=hid hi
    clear hi hcell heg
    go_wp2_with (fail)
    refine bodyPost_ret (results_none rfl _ _ _) rfl ?_
    exact ⟨rfl,HI5.out⟩
  ·obtain rfl:j=N:=by omega
   obtain rfl:r=(mj,0):=by
    have:=HQ.out
    rw [List.drop_of_length_le (by rw [HLN.out];omega)] at this
    exact this.symm
   go_wp2_with (fail)
   refine bodyPost_end (results_none rfl _ _ _) rfl ?_
   exact ⟨rfl,HOUT.out _ _ _ HI.out⟩
end Go.Proofs.YtkelafkbmnjpeaaGreat
namespace Go.Proofs.YtkelafkbmnjpeaaGreat
open Go.RowKit
theorem Zhb {w:World} {base:Nat} {e:TypeId} {size:Nat} {v:Value} {n:Nat} {xs:List Value} (h:w.ownsRow base e size v n xs):∃ A c,v=.slice A n c:=by
 rcases h.2 with ⟨rfl,rfl⟩ | ⟨g,cap,_,rfl,_⟩
 ·exact ⟨none,0,rfl⟩
 ·exact ⟨_,cap,rfl⟩
theorem Zbd {w:World} {base:Nat} {e:TypeId} {size:Nat} {v:Value} {n:Nat} {xs:List Value} (h:w.ownsRow base e size v n xs) {k:Nat} (hk:v.ownBlock=some k):base≤k∧k < w.heap.size:=by
 rcases h.2 with ⟨rfl,_⟩ | ⟨g,cap,cur,rfl,hb,hh,_⟩
 ·simp [Value.ownBlock] at hk
 ·obtain rfl:g=k:=by simpa [Value.ownBlock] using hk
  exact ⟨hb,(Array.getElem?_eq_some_iff.1 hh).1⟩
theorem Zbv {w w':World} {base:Nat} {e:TypeId} {size:Nat} {v:Value} {n:Nat} {xs:List Value} (h:w.ownsRow base e size v n xs) (hk:∀ k,v.ownBlock=some k→w'.heap[k]?=w.heap[k]?):w'.ownsRow base e size v n xs:=by
 obtain ⟨h1,h2⟩:=h
 refine ⟨h1,?_⟩
 rcases h2 with h2 | ⟨g,cap,cur,hv,hb,hh,r⟩
 ·exact .inl h2
 ·subst hv
  exact .inr ⟨g,cap,cur,rfl,hb,(hk g (by simp [Value.ownBlock])).trans hh,r⟩
section
variable {F:Fence} {n:Nat} {P:Program} {w:World} {ops:Array Oper} {rest:List Oper} {o:Oper} {a:Act} {Q:Exit→Act→World→Prop}
theorem Ze4 (hg:o.guard=none) (s x:Operand) (t:TypeId) (hop:o.op=Op.call { callee:=Callee.builtin Builtin.append,args:=#[s,x],argTypes:=#[t,t] })
 (base:Nat) (e:TypeId) (i:TypeInfo) (z:Value) (size bytes:Nat) (h1:P.underlying t=some (.slice e)) (h2:P.info? e=some i) (h3:i.zero=some z) (h4:i.size=size) (h5:i.bytes=bytes) (h6:z.cells.size=size) (h7:0 < size)
 (v:Value) (k:Nat) (xs:List Value) (hs:a.eval s=v) (hown:w.ownsRow base e size v k xs) (ad:Addr) (m c:Nat) (news:List Value) (hx:a.eval x=.slice (some ad) m c) (hn:news.length=m*size)
 (hc:∀ j u,news[j]?=some u→w.cell? (ad.add j)=some u) (h1c:∀ u∈news,u.oneCell'=true) (b1:k+m≤maxLen) (b2:(k+m)*bytes≤140737488355328) (b3:base≤w.heap.size)
 (hK:∀ A' c' w',w'.ownsRow base e size (.slice A' (k+m) c') (k+m) (xs++news)→w.grownBy w' v.ownBlock→((Value.slice A' (k+m) c').ownBlock=v.ownBlock∨(Value.slice A' (k+m) c').ownBlock=some w.heap.size)→wpListIn F n P ops Q rest (a.put o.dst (.slice A' (k+m) c')) w') :
 wpListIn F n P ops Q (o :: rest) a w:=by
 refine wpListIn_plain hg fun K hK'=>?_
 obtain ⟨v',w',hrun,r1,r2,_,r3⟩:=run_append_own_at (P:=P) (w:=w) base t o.type e i z size bytes h1 h2 h3 h4 h5 h6 h7 v k xs hown ad m c news hn hc h1c b1 b2 b3
 obtain ⟨A',c',rfl⟩:=Zhb r1
 unfold Oper.wpIn
 refine ⟨?_,?_⟩
 ·simp [Oper.about,hop,resolve,Target.leads,Sem.run_pure]
 ·rw [Oper.semAt_plain F _ _ (by rw [hop];intro c hc';cases hc')]
  simp only [execOp,hop,resolve,invoke,builtin,Sem.run_bind,Sem.run_pure,Result.andThen_ok,List.map_toArray,List.map_cons,List.map_nil,hs,hx,hrun]
  exact hK' _ _ (hK A' c' w' r1 r2 r3)
theorem Zhc (hg:o.guard=none) (s x:Operand) (t:TypeId) (hop:o.op=Op.call { callee:=Callee.builtin Builtin.append,args:=#[s,x],argTypes:=#[t,t] })
 (base:Nat) (e:TypeId) (i:TypeInfo) (z:Value) (size bytes:Nat) (h1:P.underlying t=some (.slice e)) (h2:P.info? e=some i) (h3:i.zero=some z) (h4:i.size=size) (h5:i.bytes=bytes) (h6:z.cells.size=size) (h7:0 < size)
 {v:Value} {k:Nat} {xs:List Value} (hs:a.eval s=v) (hown:w.ownsRow base e size v k xs) {A:Option Addr} {m c:Nat} {B:Nat} {news:List Value} (hx:a.eval x=.slice A m c) (hr:Row w B A (size*m) news) (hbare:A=none→c=0)
 (h1c:∀ u∈news,u.oneCell'=true) (j:Nat) (hj:k+m=j) (b1:j≤maxLen) (b2:j*bytes≤140737488355328) (b3:base≤w.heap.size)
 (hK:∀ A' c' w',w'.ownsRow base e size (.slice A' j c') j (xs++news)→w.grownBy w' v.ownBlock→((Value.slice A' j c').ownBlock=v.ownBlock∨(Value.slice A' j c').ownBlock=some w.heap.size)→wpList P ops Q rest (a.put o.dst (.slice A' j c')) w') :
 wpList P ops Q (o :: rest) a w:=by
 subst hj
 refine wpList_plain hg fun K hK'=>?_
 have key:∃ v' w',(Builtin.append_ #[t,t] o.type #[v,.slice A m c]).run P w=.ok v' w'∧w'.ownsRow base e size v' (k+m) (xs++news)∧w.grownBy w' v.ownBlock∧(v'.ownBlock=v.ownBlock∨v'.ownBlock=some w.heap.size):=by
  rcases A with _ | ad
  ·have hnil:news=[]:=by
    rcases news with _ | ⟨u,us⟩
    ·rfl
    ·obtain ⟨ad,he,_⟩:=hr.spot 0 u rfl
     cases he
   subst hnil
   have hm:m=0:=by
    have:=hr.len
    simp only [List.length_nil] at this
    rcases Nat.eq_zero_or_pos m with h | h
    ·exact h
    ·have:=Nat.mul_pos h7 h;omega
   have hc:=hbare rfl
   subst hm hc
   exact ⟨v,w,run_append_owned_none (P:=P) (w:=w) base t o.type e i size h1 h2 v k xs hown,by simpa using hown,World.grownBy.refl w _,.inl rfl⟩
  ·obtain ⟨v',w',hrun,r1,r2,_,r3⟩:=run_append_own_at (P:=P) (w:=w) base t o.type e i z size bytes h1 h2 h3 h4 h5 h6 h7 v k xs hown ad m c news (by rw [hr.len,Nat.mul_comm])
    (fun j u hu=>by obtain ⟨ad',he,_,hc⟩:=hr.spot j u hu;injection he with he;subst he;exact hc) h1c b1 b2 b3
   exact ⟨v',w',hrun,r1,r2,r3⟩
 obtain ⟨v',w',hrun,r1,r2,r3⟩:=key
 obtain ⟨A',c',rfl⟩:=Zhb r1
 unfold Oper.wp execOp
 simp only [hop,resolve,invoke,builtin,Sem.run_bind,Sem.run_pure,Result.andThen_ok,List.map_toArray,List.map_cons,List.map_nil,hs,hx,hrun]
 exact hK' _ _ (hK A' c' w' r1 r2 r3)
end
section
variable {α:Type}
structure Rs (w:World) (A:Option Addr) (n c:Nat) (enc:α→List Value) (k:Nat) (l:List α):Prop where
 len:l.length=n
 cap:n≤c
 bare:A=none→c=0
 row:Row w w.heap.size A (k*n) (l.flatMap enc)
variable {enc:α→List Value} {k:Nat}
theorem Rs.grow {w w':World} {A:Option Addr} {n c:Nat} {l:List α} (h:Rs w A n c enc k l) (hg:Grows w w'):Rs w' A n c enc k l:=⟨h.len,h.cap,h.bare,hg.row h.row⟩
theorem Rs.get (hk:∀ a,(enc a).length=k) (h0:0 < k) {w:World} {A:Option Addr} {n c:Nat} {l:List α} (h:Rs w A n c enc k l) {i:Nat} (hi:i < n) :
 ∃ ad x,A=some ad∧l[i]?=some x∧ad.block < w.heap.size∧∀ j u,(enc x)[j]?=some u→w.cell? ((ad.add (i*k)).add j)=some u:=by
 have hl:i < l.length:=by have:=h.len;omega
 have hx:l[i]?=some l[i]:=List.getElem?_eq_getElem hl
 have key:∀ j u,(enc l[i])[j]?=some u→∃ ad,A=some ad∧ad.block < w.heap.size∧w.cell? ((ad.add (i*k)).add j)=some u:=by
  intro j u hj
  have hjk:j < k:=by
   rw [←hk l[i]]
   exact (List.getElem?_eq_some_iff.1 hj).1
  have hf:=Zfp hk l i j _ hx hjk
  rw [hj] at hf
  obtain ⟨ad,hA,hb,hc⟩:=h.row.spot _ _ hf
  exact ⟨ad,hA,hb,by rw [Jn];exact hc⟩
 obtain ⟨u0,h1⟩:∃ u,(enc l[i])[0]?=some u:=⟨(enc l[i])[0]'(by rw [hk];exact h0),List.getElem?_eq_getElem _⟩
 obtain ⟨ad,hA,hb,_⟩:=key 0 _ h1
 refine ⟨ad,l[i],hA,hx,hb,fun j u hj=>?_⟩
 obtain ⟨ad',hA',_,hc⟩:=key j u hj
 rw [hA] at hA'
 injection hA' with hA'
 rw [hA']
 exact hc
theorem Rs.owned (hk:∀ a,(enc a).length=k) {e:TypeId} {w:World} {base:Nat} {A:Option Addr} {n c:Nat} {l:List α} (hn:l.length=n) (h:w.ownsRow base e k (.slice A n c) n (l.flatMap enc)):Rs w A n c enc k l:=by
 refine ⟨hn,?_,?_,?_⟩
 ·rcases h.2 with ⟨h1,h2⟩ | ⟨g,cap,_,h1,_,_,h2,_⟩
  ·omega
  ·injection h1 with _ _ h1;omega
 ·intro hA
  rcases h.2 with ⟨h1,h2⟩ | ⟨g,cap,_,h1,_⟩
  ·injection h1
  ·injection h1 with h1 _ _;rw [hA] at h1;cases h1
 ·refine ⟨by rw [Y7 hk,hn,Nat.mul_comm],fun j v hv=>?_⟩
  have hpos:0 < n:=by
   rcases Nat.eq_zero_or_pos n with h0 | h0
   ·subst h0
    have:l=[]:=List.eq_nil_of_length_eq_zero hn
    subst this
    simp at hv
   ·exact h0
  obtain ⟨g,cap,hval,_,hlt⟩:=h.form hpos
  injection hval with hA _ _
  subst hA
  exact ⟨_,rfl,hlt,h.cells (g:=g) rfl j v hv⟩
theorem Rs.lit (hk:∀ a,(enc a).length=k) {w:World} {g t:Nat} {cs:Array Value} (h:Whole w g t cs) (l:List α) {n:Nat} (he:cs=(l.flatMap enc).toArray) (hn:l.length=n):Rs w (some ⟨g,0,none⟩) n n enc k l :=
 ⟨hn,Nat.le_refl _,(fun h=>by cases h),by rw [Y7 hk,hn,Nat.mul_comm],fun j v hv=>⟨⟨g,0,none⟩,rfl,h.lt,by
  rw [show (⟨g,0,none⟩:Addr).add j=⟨g,j,none⟩ by unfold Addr.add;split <;> simp_all,h.cell j,he]
  simpa using hv⟩⟩
end
/-! Hints. -/
instance:Inhabited Ht:=⟨Ht.none⟩
theorem htL (h:Ht):(htE h).length=4:=rfl
theorem Zmv (h:Ht):∀ u∈htE h,u.oneCell'=true:=by
 intro u hu
 simp only [htE,List.mem_cons,List.not_mem_nil,or_false] at hu
 rcases hu with rfl | rfl | rfl | rfl <;> first | rfl | simp [Value.oneCell']
abbrev Hts (w:World) (A:Option Addr) (n c:Nat) (l:List Ht):Prop:=Rs w A n c htE 4 l
theorem Hts.at {w:World} {A:Option Addr} {n c:Nat} {l:List Ht} (h:Hts w A n c l) {i:Nat} (hi:i < n):∃ ad x,A=some ad∧l[i]?=some x∧ad.block < w.heap.size ∧
 ∀ w',Grows w w'→w'.cell? (ad.add (i*4))=some (.int .i64 x.kind)∧w'.cell? { block:=(ad.add (i*4)).block,off:=(ad.add (i*4)).off+1 }=some (.string ⟨x.key.toArray⟩) ∧
  w'.cell? { block:=(ad.add (i*4)).block,off:=(ad.add (i*4)).off+2 }=some (.int .i64 x.at_)∧w'.cell? { block:=(ad.add (i*4)).block,off:=(ad.add (i*4)).off+3 }=some (.int .i64 x.size):=by
 obtain ⟨ad,x,h1,h2,h3,h4⟩:=Rs.get htL (by omega) h hi
 refine ⟨ad,x,h1,h2,h3,fun w' hg=>?_⟩
 have key:∀ j u,(htE x)[j]?=some u→w'.cell? ((ad.add (i*4)).add j)=some u:=fun j u hj=>(hg.cell (by rw [Zj,Zj];exact h3)).trans (h4 j u hj)
 have k0:=key 0 _ rfl
 have k1:=key 1 _ rfl
 have k2:=key 2 _ rfl
 have k3:=key 3 _ rfl
 rw [show (ad.add (i*4)).add 0=ad.add (i*4) from by generalize ad.add (i*4)=q;unfold Addr.add;simp] at k0
 rw [Addr.add_succ'] at k1 k2 k3
 exact ⟨k0,k1,k2,k3⟩
theorem ht_at {w:World} {g ty:Nat} {x:Ht} (hw:Whole w g ty #[.int .i64 x.kind,.string ⟨x.key.toArray⟩,.int .i64 x.at_,.int .i64 x.size]):∀ j u,(htE x)[j]?=some u→w.cell? ((⟨g,0,none⟩:Addr).add j)=some u:=by
 intro j u hj
 rw [show (⟨g,0,none⟩:Addr).add j=⟨g,j,none⟩ by unfold Addr.add;split <;> simp_all,hw.cell j]
 simpa [htE] using hj
/-! What was found. -/
def fdE (f:Fd):List Value:=[.int .i64 f.at_,.int .i64 f.size,.int .i64 f.kind,.string ⟨f.key.toArray⟩,.int .i64 f.id,.int .i64 f.no,.int .i64 f.sz,.slice f.locs.1 f.locs.2.1 f.locs.2.2,.slice f.b.1 f.b.2.1 f.b.2.2]
theorem fdL (f:Fd):(fdE f).length=9:=rfl
abbrev Fds (w:World) (A:Option Addr) (n c:Nat) (l:List Fd):Prop:=Rs w A n c fdE 9 l
theorem Fds.at {w:World} {A:Option Addr} {n c:Nat} {l:List Fd} (h:Fds w A n c l) {i:Nat} (hi:i < n):∃ ad x,A=some ad∧l[i]?=some x∧ad.block < w.heap.size ∧
 ∀ w',Grows w w'→w'.cell? (ad.add (i*9))=some (.int .i64 x.at_)∧w'.cell? { block:=(ad.add (i*9)).block,off:=(ad.add (i*9)).off+1 }=some (.int .i64 x.size) ∧
  w'.cell? { block:=(ad.add (i*9)).block,off:=(ad.add (i*9)).off+2 }=some (.int .i64 x.kind)∧w'.cell? { block:=(ad.add (i*9)).block,off:=(ad.add (i*9)).off+3 }=some (.string ⟨x.key.toArray⟩) ∧
  w'.cell? { block:=(ad.add (i*9)).block,off:=(ad.add (i*9)).off+4 }=some (.int .i64 x.id)∧w'.cell? { block:=(ad.add (i*9)).block,off:=(ad.add (i*9)).off+5 }=some (.int .i64 x.no) ∧
  w'.cell? { block:=(ad.add (i*9)).block,off:=(ad.add (i*9)).off+6 }=some (.int .i64 x.sz)∧w'.cell? { block:=(ad.add (i*9)).block,off:=(ad.add (i*9)).off+7 }=some (.slice x.locs.1 x.locs.2.1 x.locs.2.2) ∧
  w'.cell? { block:=(ad.add (i*9)).block,off:=(ad.add (i*9)).off+8 }=some (.slice x.b.1 x.b.2.1 x.b.2.2):=by
 obtain ⟨ad,x,h1,h2,h3,h4⟩:=Rs.get fdL (by omega) h hi
 refine ⟨ad,x,h1,h2,h3,fun w' hg=>?_⟩
 have key:∀ j u,(fdE x)[j]?=some u→w'.cell? ((ad.add (i*9)).add j)=some u:=fun j u hj=>(hg.cell (by rw [Zj,Zj];exact h3)).trans (h4 j u hj)
 have k0:=key 0 _ rfl
 have k1:=key 1 _ rfl
 have k2:=key 2 _ rfl
 have k3:=key 3 _ rfl
 have k4:=key 4 _ rfl
 have k5:=key 5 _ rfl
 have k6:=key 6 _ rfl
 have k7:=key 7 _ rfl
 have k8:=key 8 _ rfl
 rw [show (ad.add (i*9)).add 0=ad.add (i*9) from by generalize ad.add (i*9)=q;unfold Addr.add;simp] at k0
 rw [Addr.add_succ'] at k1 k2 k3 k4 k5 k6 k7 k8
 exact ⟨k0,k1,k2,k3,k4,k5,k6,k7,k8⟩
end Go.Proofs.YtkelafkbmnjpeaaGreat
set_option maxHeartbeats 4000000
set_option maxRecDepth 100000
namespace Go.Proofs.YtkelafkbmnjpeaaGreat
open Go.Lib (hid)
open Go.RowKit
attribute [local irreducible] wpF
theorem Zdj (a lo hi:Int) (w:World) :
 Calls Tryz.prog 230 #[.int .i64 a,.int .i64 lo,.int .i64 hi] w fun e w'=>e=.returned (.bool (decide (lo≤a)&&decide (a≤hi)))∧Grows w w':=by
 go_enter Tryz.func230,Tryz.ntmps230
 go_wp2
 all_goals
  go_ret
  refine ⟨Zy (by rw [Bool.eq_iff_iff];simp at *;omega),?_⟩
  first | exact Below.refl _ _ | exact Za _ _
theorem Ziv (k:Int) (w:World) :
 Calls Tryz.prog 205 #[.int .i64 k] w fun e w'=>e=.returned (.bool (Zal k))∧Grows w w':=by
 go_enter Tryz.func205,Tryz.ntmps205
 go_wp2
 all_goals
  go_ret
  refine ⟨Zy (by unfold Zal;rw [Bool.eq_iff_iff];simp at *;omega),?_⟩
  first | exact Below.refl _ _ | exact Za _ _
theorem Zoc (k:List UInt8) (w:World) :
 Calls Tryz.prog 206 #[.string ⟨k.toArray⟩] w fun e w'=>e=.returned (.bool (keyB k))∧Grows w w' :=
 (Zwq ⟨k.toArray⟩ w).mono fun e w' h=>⟨h.1.trans (Zy (by unfold keyB;rw [Bool.eq_iff_iff];simp [ByteArray.size])),h.2⟩
theorem Zsy (h:Ht) (w:World):Calls Tryz.prog 232 #[htV h] w fun e w'=>e=.returned (.bool (Zam h))∧Grows w w':=by
 obtain ⟨k,key,a,s⟩:=h
 show Calls _ _ #[.agg #[.int .i64 k,.string ⟨key.toArray⟩,.int .i64 a,.int .i64 s]] _ _
 have hm:=Whole.made w 167 #[.int .i64 k,.string ⟨key.toArray⟩,.int .i64 a,.int .i64 s]
 have hg:=Za w (.cells #[.int .i64 k,.string ⟨key.toArray⟩,.int .i64 a,.int .i64 s] 167)
 obtain ⟨W1,hW1⟩:∃ y,w.alloc (.cells #[.int .i64 k,.string ⟨key.toArray⟩,.int .i64 a,.int .i64 s] 167)=y:=⟨_,rfl⟩
 rw [hW1] at hm hg
 have HG:=hid hg
 have HC:=hid (fun w' (hC:Grows W1 w')=>by
  have h1:=hC.whole hm
  exact (⟨h1.cell 0,h1.cell 1,h1.cell 2,h1.cell 3⟩:w'.cell? { block:=w.heap.size,off:=0 }=some (.int .i64 k)∧w'.cell? { block:=w.heap.size,off:=1 }=some (.string ⟨key.toArray⟩)∧w'.cell? { block:=w.heap.size,off:=2 }=some (.int .i64 a)∧w'.cell? { block:=w.heap.size,off:=3 }=some (.int .i64 s)))
 clear hm hg
 obtain ⟨b1,h1⟩:∃ b,Zal k=b:=⟨_,rfl⟩
 obtain ⟨b2,h2⟩:∃ b,keyB key=b:=⟨_,rfl⟩
 obtain ⟨b3,h3⟩:∃ b,(decide ((0:Int)≤a)&&decide (a≤1073741824))=b:=⟨_,rfl⟩
 obtain ⟨b4,h4⟩:∃ b,(decide ((9:Int)≤s)&&decide (s≤8200))=b:=⟨_,rfl⟩
 have HR:=hid (show Zam ⟨k,key,a,s⟩=(b1&&b2&&b3&&b4) by unfold Zam;dsimp only;rw [h1,h2,h3,h4])
 have H1:=hid (fun w'=>h1 ▸ Ziv k w')
 have H2:=hid (fun w'=>h2 ▸ Zoc key w')
 have H3:=hid (fun w'=>h3 ▸ Zdj a 0 1073741824 w')
 have H4:=hid (fun w'=>h4 ▸ Zdj s 9 8200 w')
 clear h1 h2 h3 h4
 go_enter Tryz.func232,Tryz.ntmps232
 rcases b1 with _ | _
 ·replace HR:=hid (HR.out.trans (by simp:_=false))
  go_wp2_with (fail)
  clear hW1
  refine Zk (E:=Grows) [Zb (.pointer (some ⟨w.heap.size,0,none⟩)),Zb (.int .i64 k),Zb (.bool false),Zb (.bool false),Zb undef,Zb undef,Zb undef,Zb (.bool false),Zb (.bool false),Zb undef,Zb undef,Zb undef,Zb (.bool false),Zb (.bool false),Zb undef,Zb undef,Zb undef,Zb undef,Zb undef,Zb (.bool false),Zb (.bool false)] (by kernel_rfl) (by kernel_rfl) (fun _ _ _=>Grows.trans) (Zf _) ?_
  refine f_val _ (by rfl) ?_ ?_
  ·intro w' hC;clear hC;go_simp
  simp only [Pu]
  refine f_val _ (by rfl) ?_ ?_
  ·intro w' hC;obtain ⟨z0,z1,z2,z3⟩:=HC.out w' hC;clear hC;go_simp
  simp only [Pu]
  refine Z7 205 #[.int .i64 k] (.bool false) (by rfl) (by intro w' hC;clear hC;go_simp) ?_ ?_
  ·intro w' hC hks;exact (H1.out w').mono fun e w'' hh=>⟨hh.1,hh.2⟩
  simp only [Pu]
  refine f_val _ (by rfl) ?_ ?_
  ·intro w' hC;clear hC;go_simp
  simp only [Pu]
  iterate 3
   refine Zc8 (by rfl) ?_
   simp only [Pu]
  iterate 2
   refine f_val _ (by rfl) ?_ ?_
   ·intro w' hC;clear hC;go_simp
   simp only [Pu]
  iterate 3
   refine Zc8 (by rfl) ?_
   simp only [Pu]
  iterate 2
   refine f_val _ (by rfl) ?_ ?_
   ·intro w' hC;clear hC;go_simp
   simp only [Pu]
  iterate 5
   refine Zc8 (by rfl) ?_
   simp only [Pu]
  iterate 2
   refine f_val _ (by rfl) ?_ ?_
   ·intro w' hC;clear hC;go_simp
   simp only [Pu]
  refine Zu ?_
  intro w2 hC hks
  have HCw2:=hid hC
  clear hC hks
  go_wp2_with (fail)
  go_ret
  exact ⟨Zy (by rw [HR.out]),HG.out.trans HCw2.out⟩
 rcases b2 with _ | _
 ·replace HR:=hid (HR.out.trans (by simp:_=false))
  go_wp2_with (fail)
  clear hW1
  refine Zk (E:=Grows) [Zb (.pointer (some ⟨w.heap.size,0,none⟩)),Zb (.int .i64 k),Zb (.bool true),Zb (.bool true),Zb (.pointer (some ⟨w.heap.size,1,none⟩)),Zb (.string ⟨key.toArray⟩),Zb (.bool false),Zb (.bool false),Zb (.bool false),Zb undef,Zb undef,Zb undef,Zb (.bool false),Zb (.bool false),Zb undef,Zb undef,Zb undef,Zb undef,Zb undef,Zb (.bool false),Zb (.bool false)] (by kernel_rfl) (by kernel_rfl) (fun _ _ _=>Grows.trans) (Zf _) ?_
  refine f_val _ (by rfl) ?_ ?_
  ·intro w' hC;clear hC;go_simp
  simp only [Pu]
  refine f_val _ (by rfl) ?_ ?_
  ·intro w' hC;obtain ⟨z0,z1,z2,z3⟩:=HC.out w' hC;clear hC;go_simp
  simp only [Pu]
  refine Z7 205 #[.int .i64 k] (.bool true) (by rfl) (by intro w' hC;clear hC;go_simp) ?_ ?_
  ·intro w' hC hks;exact (H1.out w').mono fun e w'' hh=>⟨hh.1,hh.2⟩
  simp only [Pu]
  iterate 2
   refine f_val _ (by rfl) ?_ ?_
   ·intro w' hC;clear hC;go_simp
   simp only [Pu]
  refine f_val _ (by rfl) ?_ ?_
  ·intro w' hC;obtain ⟨z0,z1,z2,z3⟩:=HC.out w' hC;clear hC;go_simp
  simp only [Pu]
  refine Z7 206 #[.string ⟨key.toArray⟩] (.bool false) (by rfl) (by intro w' hC;clear hC;go_simp) ?_ ?_
  ·intro w' hC hks;exact (H2.out w').mono fun e w'' hh=>⟨hh.1,hh.2⟩
  simp only [Pu]
  iterate 2
   refine f_val _ (by rfl) ?_ ?_
   ·intro w' hC;clear hC;go_simp
   simp only [Pu]
  iterate 3
   refine Zc8 (by rfl) ?_
   simp only [Pu]
  iterate 2
   refine f_val _ (by rfl) ?_ ?_
   ·intro w' hC;clear hC;go_simp
   simp only [Pu]
  iterate 5
   refine Zc8 (by rfl) ?_
   simp only [Pu]
  iterate 2
   refine f_val _ (by rfl) ?_ ?_
   ·intro w' hC;clear hC;go_simp
   simp only [Pu]
  refine Zu ?_
  intro w2 hC hks
  have HCw2:=hid hC
  clear hC hks
  go_wp2_with (fail)
  go_ret
  exact ⟨Zy (by rw [HR.out]),HG.out.trans HCw2.out⟩
 rcases b3 with _ | _
 ·replace HR:=hid (HR.out.trans (by simp:_=false))
  go_wp2_with (fail)
  clear hW1
  refine Zk (E:=Grows) [Zb (.pointer (some ⟨w.heap.size,0,none⟩)),Zb (.int .i64 k),Zb (.bool true),Zb (.bool true),Zb (.pointer (some ⟨w.heap.size,1,none⟩)),Zb (.string ⟨key.toArray⟩),Zb (.bool true),Zb (.bool true),Zb (.bool true),Zb (.pointer (some ⟨w.heap.size,2,none⟩)),Zb (.int .i64 a),Zb (.bool false),Zb (.bool false),Zb (.bool false),Zb undef,Zb undef,Zb undef,Zb undef,Zb undef,Zb (.bool false),Zb (.bool false)] (by kernel_rfl) (by kernel_rfl) (fun _ _ _=>Grows.trans) (Zf _) ?_
  refine f_val _ (by rfl) ?_ ?_
  ·intro w' hC;clear hC;go_simp
  simp only [Pu]
  refine f_val _ (by rfl) ?_ ?_
  ·intro w' hC;obtain ⟨z0,z1,z2,z3⟩:=HC.out w' hC;clear hC;go_simp
  simp only [Pu]
  refine Z7 205 #[.int .i64 k] (.bool true) (by rfl) (by intro w' hC;clear hC;go_simp) ?_ ?_
  ·intro w' hC hks;exact (H1.out w').mono fun e w'' hh=>⟨hh.1,hh.2⟩
  simp only [Pu]
  iterate 2
   refine f_val _ (by rfl) ?_ ?_
   ·intro w' hC;clear hC;go_simp
   simp only [Pu]
  refine f_val _ (by rfl) ?_ ?_
  ·intro w' hC;obtain ⟨z0,z1,z2,z3⟩:=HC.out w' hC;clear hC;go_simp
  simp only [Pu]
  refine Z7 206 #[.string ⟨key.toArray⟩] (.bool true) (by rfl) (by intro w' hC;clear hC;go_simp) ?_ ?_
  ·intro w' hC hks;exact (H2.out w').mono fun e w'' hh=>⟨hh.1,hh.2⟩
  simp only [Pu]
  iterate 3
   refine f_val _ (by rfl) ?_ ?_
   ·intro w' hC;clear hC;go_simp
   simp only [Pu]
  refine f_val _ (by rfl) ?_ ?_
  ·intro w' hC;obtain ⟨z0,z1,z2,z3⟩:=HC.out w' hC;clear hC;go_simp
  simp only [Pu]
  refine Z7 230 #[.int .i64 a,.int .i64 0,.int .i64 1073741824] (.bool false) (by rfl) (by intro w' hC;clear hC;go_simp) ?_ ?_
  ·intro w' hC hks;exact (H3.out w').mono fun e w'' hh=>⟨hh.1,hh.2⟩
  simp only [Pu]
  iterate 2
   refine f_val _ (by rfl) ?_ ?_
   ·intro w' hC;clear hC;go_simp
   simp only [Pu]
  iterate 5
   refine Zc8 (by rfl) ?_
   simp only [Pu]
  iterate 2
   refine f_val _ (by rfl) ?_ ?_
   ·intro w' hC;clear hC;go_simp
   simp only [Pu]
  refine Zu ?_
  intro w2 hC hks
  have HCw2:=hid hC
  clear hC hks
  go_wp2_with (fail)
  go_ret
  exact ⟨Zy (by rw [HR.out]),HG.out.trans HCw2.out⟩
 ·replace HR:=hid (HR.out.trans (by simp:_=b4))
  go_wp2_with (fail)
  clear hW1
  refine Zk (E:=Grows) [Zb (.pointer (some ⟨w.heap.size,0,none⟩)),Zb (.int .i64 k),Zb (.bool true),Zb (.bool true),Zb (.pointer (some ⟨w.heap.size,1,none⟩)),Zb (.string ⟨key.toArray⟩),Zb (.bool true),Zb (.bool true),Zb (.bool true),Zb (.pointer (some ⟨w.heap.size,2,none⟩)),Zb (.int .i64 a),Zb (.bool true),Zb (.bool true),Zb (.bool true),Zb (.pointer (some ⟨w.heap.size,3,none⟩)),Zb (.int .i64 s),Zb (.int .i64 9),Zb (.int .i64 8200),Zb (.bool b4),Zb (.bool b4),Zb (.bool b4)] (by kernel_rfl) (by kernel_rfl) (fun _ _ _=>Grows.trans) (Zf _) ?_
  refine f_val _ (by rfl) ?_ ?_
  ·intro w' hC;clear hC;go_simp
  simp only [Pu]
  refine f_val _ (by rfl) ?_ ?_
  ·intro w' hC;obtain ⟨z0,z1,z2,z3⟩:=HC.out w' hC;clear hC;go_simp
  simp only [Pu]
  refine Z7 205 #[.int .i64 k] (.bool true) (by rfl) (by intro w' hC;clear hC;go_simp) ?_ ?_
  ·intro w' hC hks;exact (H1.out w').mono fun e w'' hh=>⟨hh.1,hh.2⟩
  simp only [Pu]
  iterate 2
   refine f_val _ (by rfl) ?_ ?_
   ·intro w' hC;clear hC;go_simp
   simp only [Pu]
  refine f_val _ (by rfl) ?_ ?_
  ·intro w' hC;obtain ⟨z0,z1,z2,z3⟩:=HC.out w' hC;clear hC;go_simp
  simp only [Pu]
  refine Z7 206 #[.string ⟨key.toArray⟩] (.bool true) (by rfl) (by intro w' hC;clear hC;go_simp) ?_ ?_
  ·intro w' hC hks;exact (H2.out w').mono fun e w'' hh=>⟨hh.1,hh.2⟩
  simp only [Pu]
  iterate 3
   refine f_val _ (by rfl) ?_ ?_
   ·intro w' hC;clear hC;go_simp
   simp only [Pu]
  refine f_val _ (by rfl) ?_ ?_
  ·intro w' hC;obtain ⟨z0,z1,z2,z3⟩:=HC.out w' hC;clear hC;go_simp
  simp only [Pu]
  refine Z7 230 #[.int .i64 a,.int .i64 0,.int .i64 1073741824] (.bool true) (by rfl) (by intro w' hC;clear hC;go_simp) ?_ ?_
  ·intro w' hC hks;exact (H3.out w').mono fun e w'' hh=>⟨hh.1,hh.2⟩
  simp only [Pu]
  iterate 3
   refine f_val _ (by rfl) ?_ ?_
   ·intro w' hC;clear hC;go_simp
   simp only [Pu]
  refine f_val _ (by rfl) ?_ ?_
  ·intro w' hC;obtain ⟨z0,z1,z2,z3⟩:=HC.out w' hC;clear hC;go_simp
  simp only [Pu]
  refine Z7 86 #[.int .i64 1] (.int .i64 9) (by rfl) (by intro w' hC;clear hC;go_simp) ?_ ?_
  ·intro w' hC hks;exact (Yw 1 w' (by omega) (by omega)).mono fun e w'' hh=>⟨hh.1,hh.2 ▸ Below.refl _ _⟩
  simp only [Pu]
  refine Z7 86 #[.int .i64 8192] (.int .i64 8200) (by rfl) (by intro w' hC;clear hC;go_simp) ?_ ?_
  ·intro w' hC hks;exact (Yw 8192 w' (by omega) (by omega)).mono fun e w'' hh=>⟨hh.1,hh.2 ▸ Below.refl _ _⟩
  simp only [Pu]
  refine Z7 230 #[.int .i64 s,.int .i64 9,.int .i64 8200] (.bool b4) (by rfl) (by intro w' hC;clear hC;go_simp) ?_ ?_
  ·intro w' hC hks;exact (H4.out w').mono fun e w'' hh=>⟨hh.1,hh.2⟩
  simp only [Pu]
  iterate 2
   refine f_val _ (by rfl) ?_ ?_
   ·intro w' hC;clear hC;go_simp
   simp only [Pu]
  refine Zu ?_
  intro w2 hC hks
  have HCw2:=hid hC
  clear hC hks
  go_wp2_with (fail)
  go_ret
  exact ⟨Zy (by rw [HR.out]),HG.out.trans HCw2.out⟩
theorem Ziw (A:Option Addr) (n c:Nat) (l:List Ht) (w:World) (h:Hts w A n c l) (hn:n≤4611686018427387904) :
 Calls Tryz.prog 154 #[.slice A n c] w fun e w'=>e=.returned (.bool (J3 l))∧Grows w w':=by
 have HX:=hid h
 have hlen:=h.len
 clear h
 go_enter Tryz.func154,Tryz.ntmps154
 go_wp2_with (fail)
 go_loopw [3,8] (fun p i wr=>∃ (j:Nat) (d:List UInt8),j≤n∧i=.int .i64 (j:Nat)∧p=.string ⟨d.toArray⟩∧Hid (rightF [] (l.take j)=true∧lastK [] (l.take j)=d)∧Hid (Grows w wr)) (fun _ i _=>n - (intOf i).toNat)
 case atStart=>exact ⟨0,[],by omega,rfl,rfl,hid ⟨rfl,rfl⟩,hid (Below.refl _ _)⟩
 case round =>
  obtain ⟨j,d,hj,rfl,rfl,HJ,HG⟩:=hrel
  by_cases hlt:j < n
  ·obtain ⟨ad,x,rfl,hx,hb,hc⟩:=HX.out.at hlt
   have k0:(0:Int)≤(j:Int):=by omega
   have k1:(j:Int) < (n:Int):=by omega
   obtain ⟨c0,c1,c2,c3⟩:=hc _ HG.out
   have htk:l.take (j+1)=l.take j++[x]:=by rw [List.take_add_one,hx];rfl
   have HNX:=hid (show rightF [] (l.take (j+1))=(Zam x&&bytesBefore d x.key)∧lastK [] (l.take (j+1))=x.key by
    rw [htk,rightF_append,HJ.out.1,HJ.out.2,lastK_snoc]
    simp [rightF])
   have HAL:=hid (fun w'=>Zsy x w')
   have HFAIL:=hid (show rightF [] (l.take (j+1))=false→J3 l=false from fun hf=>by
    unfold J3
    rw [←List.take_append_drop (j+1) l,rightF_append,hf,Bool.false_and])
   obtain ⟨al,hal⟩:∃ b,Zam x=b:=⟨_,rfl⟩
   obtain ⟨bf,hbf⟩:∃ b,bytesBefore d x.key=b:=⟨_,rfl⟩
   rw [hal] at HAL
   rw [hal,hbf] at HNX
   have hm:=Whole.made wr 167 #[.int .i64 x.kind,.string ⟨x.key.toArray⟩,.int .i64 x.at_,.int .i64 x.size]
   have hg1:=Za wr (.cells #[.int .i64 x.kind,.string ⟨x.key.toArray⟩,.int .i64 x.at_,.int .i64 x.size] 167)
   obtain ⟨W1,hW1⟩:∃ y,wr.alloc (.cells #[.int .i64 x.kind,.string ⟨x.key.toArray⟩,.int .i64 x.at_,.int .i64 x.size] 167)=y:=⟨_,rfl⟩
   rw [hW1] at hm hg1
   have m0:=hm.cell 0
   have m1:=hm.cell 1
   have m2:=hm.cell 2
   have m3:=hm.cell 3
   simp only [Gt] at m0 m1 m2 m3
   have HM:=hid (And.intro hm (HG.out.trans hg1))
   have HBF:=hid hbf
   clear hc hx hb htk hm hg1 hal hbf
   go_wp2_with (fail)
   refine (HAL.out W1).mono ?_
   rintro e w2 ⟨rfl,hg2⟩
   have hm2:=hg2.whole HM.out.1
   have p0:=hm2.cell 0
   have p1:=hm2.cell 1
   simp only [Gt] at p0 p1
   have HG2:=hid (HM.out.2.trans hg2)
   clear hm2 hg2 hW1 m0 m1 m2 m3
   cases al
   ·go_wp2_with (fail)
    go_ret
    exact ⟨Zy (HFAIL.out (by rw [HNX.out.1];rfl)).symm,HG2.out⟩
   go_wp2_with (fail)
   ·rename_i hno
    go_ret
    exact ⟨Zy (HFAIL.out (by rw [HNX.out.1,←HBF.out,Zr0 hno];rfl)).symm,HG2.out⟩
   ·rename_i hyes
    have HY:=hid (Zuv hyes)
    go_roundw
    case rel=>exact ⟨j+1,x.key,by omega,by go_num,rfl,hid ⟨by rw [HNX.out.1,←HBF.out,HY.out];rfl,HNX.out.2⟩,HG2⟩
    case measure=>simp [intOf];omega
  ·obtain rfl:j=n:=by omega
   have HE:=hid (show J3 l=true by
    have:=HJ.out.1
    rw [List.take_of_length_le (by omega)] at this
    exact this)
   go_wp2_with (fail)
   go_ret
   exact ⟨Zy HE.out.symm,HG.out⟩
end Go.Proofs.YtkelafkbmnjpeaaGreat
set_option maxHeartbeats 4000000
set_option maxRecDepth 100000
namespace Go.Proofs.YtkelafkbmnjpeaaGreat
open Go.Lib (hid)
open Go.RowKit
theorem Zbw (A:Option Addr) (m c:Nat) (bs:List UInt8) (w:World) (h:Sl w A m c bs) (hm:m≤6) :
 Calls Tryz.prog 283 #[.slice A m c] w fun e w'=>e=.returned (.int .i64 (valB bs))∧w=w':=by
 have hlen:=Bytes.len h.bytes
 have HL:=hid h
 clear h
 go_enter Tryz.func283,Tryz.ntmps283
 go_wp2_with (fail)
 go_loop [3,8] (fun n i=>∃ j:Nat,j≤m∧i=.int .i64 (j:Nat)∧n=.int .i64 (valB (bs.take j))) (fun _ i=>m - (intOf i).toNat)
 case atStart=>exact ⟨0,by omega,rfl,rfl⟩
 case round =>
  obtain ⟨j,hj,rfl,rfl⟩:=hrel
  by_cases hlt:j < m
  ·obtain ⟨ad,rfl,_,hc⟩:=HL.out.bytes.spot hlt
   have hnx:=Zgq bs j (by omega)
   have hsm:=Jc (bs.take j) (by rw [List.length_take];omega)
   have hsm2:=Jc (bs.take (j+1)) (by rw [List.length_take];omega)
   have hb:=(bs.getD j 0).toNat_lt
   generalize bs.getD j 0=b at *
   generalize valB (bs.take j)=v at *
   have HX:=hid hnx
   have k0:(0:Int)≤(j:Int):=by omega
   have k1:(j:Int) < (m:Int):=by omega
   clear hnx
   go_wp2_with (fail)
   go_round
   case rel=>exact ⟨j+1,by omega,by go_num,by rw [HX.out,Zl7 v _ (by omega) (by have:=hsm2;rw [HX.out] at this;omega) hb];congr 1;omega⟩
   case measure=>simp [intOf];omega
  ·obtain rfl:j=m:=by omega
   have e1:bs.take j=bs:=List.take_of_length_le (by omega)
   rw [e1]
   go_wp2_with (fail)
   go_ret
   exact ⟨rfl,rfl⟩
theorem Je (base:Nat) (A0:Option Addr) (n0 c0:Nat) (xs:List UInt8) (x:Int) (k:Nat) (w:World) (ho:w.ownsRow base 5 1 (.slice A0 n0 c0) n0 (xs.map byteV)) (hb:base≤w.heap.size) (hn:n0≤1000000) (hk:k≤8) :
 Calls Tryz.prog 233 #[.slice A0 n0 c0,.int .i64 x,.int .i64 (k:Int)] w fun e w'=>∃ A' c',e=.returned (.slice A' (n0+k) c')∧w'.ownsRow base 5 1 (.slice A' (n0+k) c') (n0+k) ((xs++numB x k).map byteV)∧Below base w w'∧Stay w w':=by
 have HO:=hid ho
 clear ho
 have hk1:IntKind.i64.wrap ((k:Int) - 1)=(k:Int) - 1:=IntWalk.i64_in _ ⟨by omega,by omega⟩
 go_enter Tryz.func233,Tryz.ntmps233
 go_wp2_with (fail)
 go_loopw [0,7] (fun m i wr=>∃ (A:Option Addr) (c j n:Nat),j≤k∧i=.int .i64 ((k:Int) - 1 - (j:Int))∧m=.slice A n c∧Hid (n=n0+j)∧Hid (wr.ownsRow base 5 1 (.slice A n c) n ((xs++(numB x k).take j).map byteV))∧Hid (Below base w wr∧Stay w wr)) (fun _ i _=>(intOf i+1).toNat)
 case atStart=>exact ⟨A0,c0,0,n0,by omega,by simp,rfl,hid rfl,hid (by simpa using HO.out),hid ⟨Below.refl _ _,Stay.refl _⟩⟩
 case round =>
  obtain ⟨A,c,j,n,hj,rfl,rfl,HN,HR,HB⟩:=hrel
  by_cases hlt:j < k
  ·obtain ⟨i,hi⟩:∃ i:Nat,k=j+1+i:=⟨k - (j+1),by omega⟩
   have e1:(k:Int) - 1 - (j:Int)=(i:Int):=by omega
   have e2:IntKind.i64.wrap (8*(i:Int))=8*(i:Int):=IntWalk.i64_in _ ⟨by omega,by omega⟩
   have e3:wrap64 (8*(i:Int))=8*(i:Int):=by rw [←IntWalk.i64_left];exact e2
   have e4:IntKind.i64.wrap ((i:Int) - 1)=(i:Int) - 1:=IntWalk.i64_in _ ⟨by omega,by omega⟩
   rw [e1]
   have h0:(0:Int)≤(i:Int):=by omega
   have h7:i≤7:=by omega
   have hby:x / 2 ^ (8*i) % 256=((byteI (x / 256 ^ i)).toNat:Int):=by
    rw [Yu,show (2:Int) ^ (8*i)=256 ^ i by rw [Int.pow_mul];rfl]
   have hnx:=Zgy x k j i hi
   generalize byteI (x / 256 ^ i)=b at *
   have HX:=hid hnx
   have HI:=hid hi
   have hm:=Whole.made wr 5 #[.int .u8 (b.toNat:Int)]
   have HM:=hid (Whole.sl hm [b] rfl (n:=1) rfl)
   have HG:=hid (Zd HR.out (Za wr (.cells #[.int .u8 (b.toNat:Int)] 5)))
   clear hnx hm hi e1
   go_wp2_with (at_builtin
                refine Zbo isSl_bytes isSl_bytes rfl (.tmp 14) (.tmp 20) rfl (base:=base) rfl HG.out (A:=some ⟨wr.heap.size,0,none⟩) (m:=1) (c:=1) rfl HM.out (n+1) rfl (by have:=HN.out;omega) (by have:=HB.out.1.size;simp;omega) ?_
                intro A2 c2 w2 ho2 hb2 hs2
                have HO2:=hid ho2
                have HB2:=hid (And.intro (Below.trans (HB.out.1.alloc (Nat.le_trans hb HB.out.1.size) _) hb2) (Stay.trans HB.out.2 (Stay.trans (Stay.grow (Za _ _)) hs2)))
                clear ho2 hb2 hs2)
   go_roundw
   case rel=>exact ⟨A2,c2,j+1,n+1,by omega,by (have:=HI.out;congr 1;omega),rfl,hid (by have:=HN.out;omega),hid (by rw [HX.out,←List.append_assoc];exact HO2.out),HB2⟩
   case measure=>(simp [intOf] <;> omega)
  ·obtain rfl:j=k:=by omega
   have e1:(j:Int) - 1 - (j:Int)=-1:=by omega
   rw [e1]
   have HR':=HR.out
   rw [List.take_of_length_le (by rw [Zm];omega),HN.out] at HR'
   have hN:=HN.out
   subst hN
   have HF:=hid HR'
   clear HR'
   go_wp2_with (fail)
   go_ret
   exact ⟨A,c,rfl,by simpa using HF.out,HB.out⟩
end Go.Proofs.YtkelafkbmnjpeaaGreat
