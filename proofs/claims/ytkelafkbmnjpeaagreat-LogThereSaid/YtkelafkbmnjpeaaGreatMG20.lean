/-
  Texts that the statements lean on, one behind the other.
-/
import Derived.Test.YtkelafkbmnjpeaaGreatMG19
import Derived.Test.YtkelafkbmnjpeaaGreatMG16
import Derived.Test.YtkelafkbmnjpeaaGreatMG01
import Derived.Laws.AppendOwn
import Derived.Maps.AppendAt
import Derived.OwnWalkIn
import Derived.Test.YtkelafkbmnjpeaaGreatMG09
import Derived.Test.YtkelafkbmnjpeaaGreatMG18
set_option linter.unusedSimpArgs false
set_option linter.unusedVariables false
set_option maxHeartbeats 4000000
set_option maxRecDepth 100000
namespace Go.Proofs.YtkelafkbmnjpeaaGreat
open Go.Lib (hid)
open Go.RowKit
attribute [local irreducible] wpF
def Zia (ts:List It) (n:Int):Bool:=match ts with
 | []=>false
 | t :: _=>decide (t.1=0)&&decide (t.2.2=Zy n)
theorem Znr (w:World) (d:Nat) (n:Int) (hn:-9223372036854775808≤n∧n≤9223372036854775807) {A:Option Addr} {k c:Nat} {ts:List It} (hI:Items w A k c ts) :
 Calls Tryz.prog 150 #[.agg (segV d n),.slice A k c] w fun e w'=>e=.returned (.bool (Zia ts n))∧Grows w w':=by
 have HFB:=hid (fun w'=>Zd4 w' d n hn)
 have HFL:=hid (Yh n)
 have hwm:=Whole.made w 176 (segV d n)
 unfold segV at HFB hwm ⊢
 obtain ⟨s,hs⟩:∃ s:ByteArray,(⟨(nmS n).toArray⟩:ByteArray)=s:=⟨_,rfl⟩
 rw [hs] at HFB hwm ⊢
 have HG:=hid (Zb w (.cells #[.pointer (some ⟨d,0,none⟩),.int .i64 n,.string s] 176))
 have HC:=hid (show ∀ w',Grows (w.alloc (.cells #[.pointer (some ⟨d,0,none⟩),.int .i64 n,.string s] 176)) w'→w'.cell? { block:=w.heap.size,off:=0 }=some (.pointer (some ⟨d,0,none⟩))∧w'.cell? { block:=w.heap.size,off:=1 }=some (.int .i64 n)∧w'.cell? { block:=w.heap.size,off:=2 }=some (.string s) from fun w' hC=>by
  have hx:=hC.whole hwm
  exact ⟨hx.cell 0,hx.cell 1,hx.cell 2⟩)
 clear hs hwm
 have hkl:=hI.len
 match ts,hI,hkl with
 | [],hI,hkl =>
   obtain rfl:k=0:=by simpa using hkl.symm
   show Calls _ _ _ _ fun e w'=>e=.returned (.bool false)∧Grows w w'
   clear hI hkl
   go_enter Tryz.func150,Tryz.ntmps150
   go_wp2_with (fail)
   refine Zg (E:=Grows) [Za (.slice A 0 c),Za (.int .i64 0),Za (.bool false),Za (.bool false),Za undef,Za undef,Za undef,Za undef,Za undef,Za (.bool false),Za (.bool false),Za undef,Za undef,Za undef,Za undef,Za undef,Za undef,Za undef,Za (.bool false),Za (.bool false)] (by kernel_rfl) (by kernel_rfl) (fun _ _ _=>Grows.trans) (Ze _) ?_
   iterate 4
    refine f_val _ (by rfl) ?_ ?_
    ·intro w' hC;clear hC;go_simp
    simp only [Pu]
   iterate 5
    refine Zbc (by rfl) ?_
    simp only [Pu]
   iterate 2
    refine f_val _ (by rfl) ?_ ?_
    ·intro w' hC;clear hC;go_simp
    simp only [Pu]
   iterate 7
    refine Zbc (by rfl) ?_
    simp only [Pu]
   iterate 2
    refine f_val _ (by rfl) ?_ ?_
    ·intro w' hC;clear hC;go_simp
    simp only [Pu]
   refine Zs ?_
   intro w5 hC hks
   have HCw5:=hid hC
   clear hC hks
   go_wp2_with (fail)
   go_ret
   exact ⟨rfl,Grows.trans HG.out HCw5.out⟩
 | t :: ts,hI,hkl =>
   obtain ⟨ad,B,m,dd,hA,c1,c2,c3,hsl⟩:=hI.spot (i:=0) (by rw [List.length_cons] at hkl;omega)
   subst hA
   simp only [Nat.zero_mul,Addr.add_zero',List.getD_cons_zero] at c1 c2 c3 hsl
   have hkn:0 < k:=by rw [List.length_cons] at hkl;omega
   have hk0:(0:Int) < (k:Int):=by omega
   have HI:=hid (show ∀ w',Grows (w.alloc (.cells #[.pointer (some ⟨d,0,none⟩),.int .i64 n,.string s] 176)) w'→w'.cell? ad=some (.int .i64 (t.1:Nat))∧w'.cell? { block:=ad.block,off:=ad.off+2 }=some (.slice B m dd) from fun w' hg=>⟨c1 w' (Grows.trans HG.out hg),c3 w' (Grows.trans HG.out hg)⟩)
   have HSL:=hid hsl
   clear c1 c2 c3 hsl hI hkl
   show Calls _ _ _ _ fun e w'=>e=.returned (.bool (decide (t.1=0)&&decide (t.2.2=Zy n)))∧Grows w w'
   obtain ⟨⟨t1,t2,tb⟩,ht⟩:∃ q,t=q:=⟨_,rfl⟩
   subst ht
   dsimp only at HI HSL ⊢
   by_cases ht1:t1=0
   rotate_left 1
   ·have hz:((t1:Int)==0)=false:=by rw [beq_eq_false_iff_ne];omega
    have hz':¬ ((t1:Int)=0):=by omega
    rw [decide_eq_false ht1,Bool.false_and]
    clear ht1
    go_enter Tryz.func150,Tryz.ntmps150
    go_wp2_with (fail)
    refine Zg (E:=Grows) [Za (.slice (some ad) k c),Za (.int .i64 (k:Nat)),Za (.bool true),Za (.bool true),Za (.slice (some ad) k c),Za (.pointer (some ad)),Za (.pointer (some ad)),Za (.int .i64 (t1:Nat)),Za (.bool false),Za (.bool false),Za (.bool false),Za undef,Za undef,Za undef,Za undef,Za undef,Za undef,Za undef,Za (.bool false),Za (.bool false)] (by kernel_rfl) (by kernel_rfl) (fun _ _ _=>Grows.trans) (Ze _) ?_
    iterate 7
     refine f_val _ (by rfl) ?_ ?_
     ·intro w' hC;clear hC;go_simp
     simp only [Pu]
    refine f_val _ (by rfl) ?_ ?_
    ·intro w' hC;obtain ⟨z1,z2⟩:=HI.out w' hC;clear hC;go_simp
    simp only [Pu]
    iterate 3
     refine f_val _ (by rfl) ?_ ?_
     ·intro w' hC;clear hC;go_simp
     simp only [Pu]
    iterate 7
     refine Zbc (by rfl) ?_
     simp only [Pu]
    iterate 2
     refine f_val _ (by rfl) ?_ ?_
     ·intro w' hC;clear hC;go_simp
     simp only [Pu]
    refine Zs ?_
    intro w5 hC hks
    have HCw5:=hid hC
    clear hC hks
    go_wp2_with (fail)
    go_ret
    exact ⟨rfl,Grows.trans HG.out HCw5.out⟩
   ·subst ht1
    rw [decide_eq_true (Eq.refl 0),Bool.true_and]
    have HEQ:=hid (fun w' (hg:Grows (w.alloc (.cells #[.pointer (some ⟨d,0,none⟩),.int .i64 n,.string s] 176)) w')=>(HSL.out.grow (Grows.trans HG.out hg)))
    obtain ⟨q,hq⟩:∃ q,decide (tb=Zy n)=q:=⟨_,rfl⟩
    rw [hq]
    have HQ:=hid hq
    clear hq
    go_enter Tryz.func150,Tryz.ntmps150
    go_wp2_with (fail)
    refine Zg (E:=Grows) [Za (.slice (some ad) k c),Za (.int .i64 (k:Nat)),Za (.bool true),Za (.bool true),Za (.slice (some ad) k c),Za (.pointer (some ad)),Za (.pointer (some ad)),Za (.int .i64 0),Za (.bool true),Za (.bool true),Za (.bool true),Za (.slice (some ad) k c),Za (.pointer (some ad)),Za (.pointer (some ⟨ad.block,ad.off+2,none⟩)),Za (.slice B m dd),Za (.agg #[.pointer (some ⟨d,0,none⟩),.int .i64 n,.string s]),Jq (Zy n),Za (.bool q),Za (.bool q),Za (.bool q)] (by kernel_rfl) (by kernel_rfl) (fun _ _ _=>Grows.trans) (Ze _) ?_
    iterate 7
     refine f_val _ (by rfl) ?_ ?_
     ·intro w' hC;clear hC;go_simp
     simp only [Pu]
    refine f_val _ (by rfl) ?_ ?_
    ·intro w' hC;obtain ⟨z1,z2⟩:=HI.out w' hC;clear hC;go_simp
    simp only [Pu]
    iterate 6
     refine f_val _ (by rfl) ?_ ?_
     ·intro w' hC;clear hC;go_simp
     simp only [Pu]
    refine f_val _ (by rfl) ?_ ?_
    ·intro w' hC;obtain ⟨z1,z2⟩:=HI.out w' hC;clear hC;go_simp
    simp only [Pu]
    refine f_val _ (by rfl) ?_ ?_
    ·intro w' hC;obtain ⟨y1,y2,y3⟩:=HC.out w' hC;clear hC;go_simp
    simp only [Pu]
    refine f_new (Zy n) 132 #[.agg #[.pointer (some ⟨d,0,none⟩),.int .i64 n,.string s]] (by rfl) (by intro w' hC;clear hC;go_simp) ?_ ?_
    ·intro w' hC hks;exact (HFB.out w').mono fun e w'' ⟨g2,he,hlt,hsl,hgr⟩=>⟨some ⟨g2,0,none⟩,5,5,he,hsl,hgr⟩
    intro FA fc
    simp only [Pu]
    refine Zv 155 #[.slice B m dd,.slice FA (Zy n).length fc] (.bool q) (by rfl) (by intro w' hC;clear hC;go_simp) ?_ ?_
    ·intro w' hC hks;have he:=Zp3 w' (HEQ.out w' hC) (Known.get hks 0 rfl rfl);rw [HQ.out] at he;exact he.mono fun e w'' hh=>⟨hh.1,hh.2 ▸ Grows.refl _⟩
    simp only [Pu]
    iterate 2
     refine f_val _ (by rfl) ?_ ?_
     ·intro w' hC;clear hC;go_simp
     simp only [Pu]
    refine Zs ?_
    intro w5 hC hks
    have HCw5:=hid hC
    clear hC hks
    go_wp2_with (fail)
    go_ret
    exact ⟨rfl,Grows.trans HG.out HCw5.out⟩
end Go.Proofs.YtkelafkbmnjpeaaGreat
namespace Go.Proofs.YtkelafkbmnjpeaaGreat
open Go.RowKit
theorem Zg4 {w:World} {base:Nat} {e:TypeId} {size:Nat} {v:Value} {n:Nat} {xs:List Value} (h:w.ownsRow base e size v n xs):∃ A c,v=.slice A n c:=by
 rcases h.2 with ⟨rfl,rfl⟩ | ⟨g,cap,_,rfl,_⟩
 ·exact ⟨none,0,rfl⟩
 ·exact ⟨_,cap,rfl⟩
section
variable {F:Fence} {n:Nat} {P:Program} {w:World} {ops:Array Oper} {rest:List Oper} {o:Oper} {a:Act} {Q:Exit→Act→World→Prop}
theorem Zbd (hg:o.guard=none) (s x:Operand) (t:TypeId) (hop:o.op=Op.call { callee:=Callee.builtin Builtin.append,args:=#[s,x],argTypes:=#[t,t] })
 (base:Nat) (e:TypeId) (i:TypeInfo) (z:Value) (size bytes:Nat) (h1:P.underlying t=some (.slice e)) (h2:P.info? e=some i) (h3:i.zero=some z) (h4:i.size=size) (h5:i.bytes=bytes) (h6:z.cells.size=size) (h7:0 < size)
 (v:Value) (k:Nat) (xs:List Value) (hs:a.eval s=v) (hown:w.ownsRow base e size v k xs) (ad:Addr) (m c:Nat) (news:List Value) (hx:a.eval x=.slice (some ad) m c) (hn:news.length=m*size)
 (hc:∀ j u,news[j]?=some u→w.cell? (ad.add j)=some u) (h1c:∀ u∈news,u.oneCell'=true) (b1:k+m≤maxLen) (b2:(k+m)*bytes≤140737488355328) (b3:base≤w.heap.size)
 (hK:∀ A' c' w',w'.ownsRow base e size (.slice A' (k+m) c') (k+m) (xs++news)→w.grownBy w' v.ownBlock→((Value.slice A' (k+m) c').ownBlock=v.ownBlock∨(Value.slice A' (k+m) c').ownBlock=some w.heap.size)→wpListIn F n P ops Q rest (a.put o.dst (.slice A' (k+m) c')) w') :
 wpListIn F n P ops Q (o :: rest) a w:=by
 refine wpListIn_plain hg fun K hK'=>?_
 obtain ⟨v',w',hrun,r1,r2,_,r3⟩:=run_append_own_at (P:=P) (w:=w) base t o.type e i z size bytes h1 h2 h3 h4 h5 h6 h7 v k xs hown ad m c news hn hc h1c b1 b2 b3
 obtain ⟨A',c',rfl⟩:=Zg4 r1
 unfold Oper.wpIn
 refine ⟨?_,?_⟩
 ·simp [Oper.about,hop,resolve,Target.leads,Sem.run_pure]
 ·rw [Oper.semAt_plain F _ _ (by rw [hop];intro c hc';cases hc')]
  simp only [execOp,hop,resolve,invoke,builtin,Sem.run_bind,Sem.run_pure,Result.andThen_ok,List.map_toArray,List.map_cons,List.map_nil,hs,hx,hrun]
  exact hK' _ _ (hK A' c' w' r1 r2 r3)
theorem Zap (hg:o.guard=none) (s x:Operand) (t:TypeId) (hop:o.op=Op.call { callee:=Callee.builtin Builtin.append,args:=#[s,x],argTypes:=#[t,t] })
 (base:Nat) (e:TypeId) (i:TypeInfo) (z:Value) (size bytes:Nat) (h1:P.underlying t=some (.slice e)) (h2:P.info? e=some i) (h3:i.zero=some z) (h4:i.size=size) (h5:i.bytes=bytes) (h6:z.cells.size=size) (h7:0 < size)
 {v:Value} {k:Nat} {xs:List Value} (hs:a.eval s=v) (hown:w.ownsRow base e size v k xs) {A:Option Addr} {m c:Nat} {B:Nat} {news:List Value} (hx:a.eval x=.slice A m c) (hr:Row w B A (size*m) news) (hbare:A=none→c=0)
 (h1c:∀ u∈news,u.oneCell'=true) (j:Nat) (hj:k+m=j) (b1:j≤maxLen) (b2:j*bytes≤140737488355328) (b3:base≤w.heap.size)
 (hK:∀ A' c' w',w'.ownsRow base e size (.slice A' j c') j (xs++news)→w.grownBy w' v.ownBlock→((Value.slice A' j c').ownBlock=v.ownBlock∨(Value.slice A' j c').ownBlock=some w.heap.size)→wpList P ops Q rest (a.put o.dst (.slice A' j c')) w') :
 wpList P ops Q (o :: rest) a w:=by
 subst hj
 refine wpList_plain hg fun K hK'=>?_
 have key:∃ v' w',(Builtin.append_ #[t,t] o.type #[v,.slice A m c]).run P w=.ok v' w'∧w'.ownsRow base e size v' (k+m) (xs++news)∧w.grownBy w' v.ownBlock∧(v'.ownBlock=v.ownBlock∨v'.ownBlock=some w.heap.size):=by
  rcases A with _ | ad
  ·have hnil:news=[]:=by
    rcases news with _ | ⟨u,us⟩
    ·rfl
    ·obtain ⟨ad,he,_⟩:=hr.spot 0 u rfl
     cases he
   subst hnil
   have hm:m=0:=by
    have:=hr.len
    simp only [List.length_nil] at this
    rcases Nat.eq_zero_or_pos m with h | h
    ·exact h
    ·have:=Nat.mul_pos h7 h;omega
   have hc:=hbare rfl
   subst hm hc
   exact ⟨v,w,run_append_owned_none (P:=P) (w:=w) base t o.type e i size h1 h2 v k xs hown,by simpa using hown,World.grownBy.refl w _,.inl rfl⟩
  ·obtain ⟨v',w',hrun,r1,r2,_,r3⟩:=run_append_own_at (P:=P) (w:=w) base t o.type e i z size bytes h1 h2 h3 h4 h5 h6 h7 v k xs hown ad m c news (by rw [hr.len,Nat.mul_comm])
    (fun j u hu=>by obtain ⟨ad',he,_,hc⟩:=hr.spot j u hu;injection he with he;subst he;exact hc) h1c b1 b2 b3
   exact ⟨v',w',hrun,r1,r2,r3⟩
 obtain ⟨v',w',hrun,r1,r2,r3⟩:=key
 obtain ⟨A',c',rfl⟩:=Zg4 r1
 unfold Oper.wp execOp
 simp only [hop,resolve,invoke,builtin,Sem.run_bind,Sem.run_pure,Result.andThen_ok,List.map_toArray,List.map_cons,List.map_nil,hs,hx,hrun]
 exact hK' _ _ (hK A' c' w' r1 r2 r3)
end
end Go.Proofs.YtkelafkbmnjpeaaGreat
namespace Go.Proofs.YtkelafkbmnjpeaaGreat
open Go.RowKit
def GotTo (w:World) (r:Option (List UInt8)×Int) (e:Ending) (w':World):Prop:=∃ A c,e=.returned (.tuple #[.slice A (r.1.getD []).length c,.int .i64 r.2])∧Sl w' A (r.1.getD []).length c (r.1.getD [])∧Grows w w'
theorem Zgg.got {w w':World} {r:Option (List UInt8)×Int} {e:Ending} (h:Zgg w r e w'):GotTo w r e w':=by
 unfold Zgg at h
 unfold GotTo
 cases hr:r.1 with
 | none =>
   rw [hr] at h
   obtain ⟨h1,rfl⟩:=h
   exact ⟨none,0,h1,Sl.nil _,Grows.refl _⟩
 | some bs =>
   rw [hr] at h
   exact ⟨_,_,h.1,Sl.owned h.2.1,h.2.2⟩
theorem Zda {m:Dk} {n:Nm} {x k:Int} (h:(m.read n x k).2=0):∃ bs,(m.read n x k).1=some bs∧(bs.length:Int)=k:=by
 by_cases hd:m.down=true
 ·have e:m.read n x k=(none,82):=by unfold Dk.read;rw [if_pos hd]
  rw [e] at h;cases h
 cases hf:Dir.find n m.names with
 | none =>
   have e:m.read n x k=(none,3):=by unfold Dk.read;rw [if_neg hd,hf]
   rw [e] at h;cases h
 | some f =>
   by_cases hc:x < 0∨k < 0∨((m.files f).bytes.length:Int) < x∨((m.files f).bytes.length:Int) - x < k
   ·have e:m.read n x k=(none,1):=by unfold Dk.read;rw [if_neg hd,hf];dsimp only;rw [if_pos hc]
    rw [e] at h;cases h
   ·have e:m.read n x k=(some (((m.files f).bytes.drop x.toNat).take k.toNat),0):=by unfold Dk.read;rw [if_neg hd,hf];dsimp only;rw [if_neg hc]
    rw [e]
    refine ⟨_,rfl,?_⟩
    rw [List.length_take,List.length_drop]
    omega
section
variable {B d K:Nat} {w0 w:World} {out:Nat→Prop} {m:Dk}
theorem Zdb (n:Nm) (x k:Int) (h:DkIn B w0 w d out m) (ok:DkOk K m) (hK:K≤1000000000) (hn:n.length≤1000000) (hx:-9223372036854775808≤x∧x≤9223372036854775807) (hk:-9223372036854775808≤k∧k≤9223372036854775807) {r:Option (List UInt8)×Int} (hr:m.read n x k=r) :
 Calls Tryz.prog 93 #[.pointer (some ⟨d,0,none⟩),.string ⟨n.toArray⟩,.int .i64 x,.int .i64 k] w fun e w'=>GotTo w r e w':=(Zul n x k h ok hK hn hx hk hr).mono fun e w' h=>h.got
end
end Go.Proofs.YtkelafkbmnjpeaaGreat
namespace Go.Proofs.YtkelafkbmnjpeaaGreat
open Go.RowKit Go.Shelf
attribute [local go_sem] Oper.semAt_some
theorem Y8 {n₀ m b i:Nat} {X Y:World} (u:Value) (hY:X.setCell ⟨b,i,none⟩ u=Y) (h1:n₀≤b) (h2:b < m):Zc (fun k=>n₀≤k∧k < m) X Y:=hY ▸ (Zc.refl _ X).setCell (p:=⟨b,i,none⟩) ⟨h1,h2⟩ u
theorem J4 {X Y:World} {g t i:Nat} {cs:Array Value} (u:Value) (h:Whole X g t cs) (hY:X.setCell ⟨g,i,none⟩ u=Y):Whole Y g t (cs.setIfInBounds i u):=hY ▸ h.put i u
theorem Zr {X Y:World} {g t b i:Nat} {cs:Array Value} (u:Value) (h:Whole X g t cs) (hY:X.setCell ⟨b,i,none⟩ u=Y) (hne:g≠b):Whole Y g t cs:=hY ▸ h.elsewhere (p:=⟨b,i,none⟩) hne u
end Go.Proofs.YtkelafkbmnjpeaaGreat
