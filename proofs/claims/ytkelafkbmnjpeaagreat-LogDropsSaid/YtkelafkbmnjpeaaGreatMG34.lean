/-
  Texts that the statements lean on, one behind the other.
-/
import Derived.Test.YtkelafkbmnjpeaaGreatMG30
import Derived.Test.YtkelafkbmnjpeaaGreatMG33
import Derived.Test.YtkelafkbmnjpeaaGreatMG31
import Derived.Test.YtkelafkbmnjpeaaGreatSgAll
import Derived.Test.YtkelafkbmnjpeaaGreatMG29
set_option linter.unusedVariables false
set_option maxHeartbeats 8000000
set_option maxRecDepth 100000
namespace Go.Proofs.YtkelafkbmnjpeaaGreat
open Go.Lib (hid)
open Go.RowKit Go.Maps Go.WideMaps
def fnT (B n:Nat) (x y:Int) (Fs:List Fn):Fact Grows:=⟨Option Addr×Nat×List (Fn×Fh),(none,0,[]),fun q=>.tuple #[.slice q.1 n q.2.1,.int .i64 x,.int .i64 y],fun q w=>FnOwn B w q.1 n q.2.1 q.2.2∧q.2.2.map (·.1)=Fs,fun _ _ _ h g=>⟨h.1.grow g,h.2⟩⟩
def fnO (B n:Nat) (Fs:List Fn):Fact Grows:=⟨Option Addr×Nat×List (Fn×Fh),(none,0,[]),fun q=>.slice q.1 n q.2.1,fun q w=>FnOwn B w q.1 n q.2.1 q.2.2∧q.2.2.map (·.1)=Fs,fun _ _ _ h g=>⟨h.1.grow g,h.2⟩⟩
def htO (B n:Nat) (hs:List Ht):Fact Grows:=⟨Option Addr×Nat,(none,0),fun q=>.slice q.1 n q.2,fun q w=>w.ownsRow B 167 4 (.slice q.1 n q.2) n (hs.flatMap htE),fun _ _ _ h g=>Zd h g⟩
section
variable {P:Program} {ops:Array Oper} {W:World} {Q:Act→World→Prop} {o:Oper} {rest:List Oper} {fs:List (Fact Grows)} {ks:Known} {a:Act}
theorem Zsu {F:Fact Grows} (x:F.α) (hw:Region.wanted o (yielded ops a.tmps)=true) (h1:∀ w,Grows W w→ks.for (o.looksAt ops) w→(execOp a.eval o).run P w=.ok (.value (F.val x)) w∧F.R x w)
 (h2:∀ x,wpF P ops Grows W Q rest fs ((o.dst,F.R x) :: ks) (a.put o.dst (F.val x))):wpF P ops Grows W Q (o :: rest) (F :: fs) ks a:=by
 unfold wpF fStep
 rw [if_pos hw]
 refine ⟨fun w hW hk=>?_,h2⟩
 unfold gives
 rw [(h1 w hW hk).1]
 exact ⟨Grows.refl w,x,rfl,(h1 w hW hk).2⟩
end
/-! What is found, as hints are made of it. -/
def fdOf (p:Fn×Fh):Fd:=⟨p.1.1,p.1.2.1,p.1.2.2.kind,p.1.2.2.key,p.1.2.2.id,p.1.2.2.no,p.1.2.2.size,p.2.1,p.2.2⟩
theorem hofP_congr:∀ (l l':List Fd),l.map (fun f=>(Zak f,toldF f))=l'.map (fun f=>(Zak f,toldF f))→hofP l=hofP l':=by
 have key:∀ (l l':List Fd) (a:List Ht),l.map (fun f=>(Zak f,toldF f))=l'.map (fun f=>(Zak f,toldF f))→l.foldl (fun a f=>if toldF f=true then hput (Zak f) a else a) a=l'.foldl (fun a f=>if toldF f=true then hput (Zak f) a else a) a:=by
  intro l
  induction l with
  | nil=>intro l' a h;cases l' with | nil=>rfl | cons y ys=>cases h
  | cons x xs ih =>
    intro l' a h
    cases l' with
    | nil=>cases h
    | cons y ys =>
      rw [List.map_cons,List.map_cons] at h
      injection h with h1 h2
      injection h1 with h3 h4
      rw [List.foldl_cons,List.foldl_cons,h3,h4]
      exact ih ys _ h2
 exact fun l l' h=>key l l' [] h
theorem Zsv (l:List (Fn×Fh)):hofP (l.map fdOf)=Zab (l.map (·.1)):=by
 unfold Zab
 refine hofP_congr _ _ ?_
 rw [List.map_map,List.map_map,List.map_map]
 rfl
theorem Zxl {b:Nat} {w:World} {A:Option Addr} {n c:Nat} {l:List (Fn×Fh)} (h:FnOwn b w A n c l):Fds w A n c (l.map fdOf):=by
 refine Rs.owned (base:=b) (e:=145) fdL (by rw [List.length_map];exact h.len) ?_
 have e:(l.map fdOf).flatMap fdE=l.flatMap fnE:=by
  rw [List.flatMap_map]
  rfl
 rw [e]
 exact h.own
section
variable {B d l n c T S:Nat} {w0 w:World} {out:Nat→Prop} {A:Option Addr} {L:Lg}
theorem LgAt.more {w':World} (h:LgAt B w0 w d l out A n c L) (hg:Grows w w'):LgAt B w0 w' d l (fun k=>out k∨(w.heap.size≤k∧k < w'.heap.size)) A n c L:=by
 have hl:=h.lt
 have hA:∀ ad,A=some ad→ad.block < w.heap.size:=fun ad e=>h.dk.lt (.inr (.inr ⟨ad,e,rfl⟩))
 obtain ⟨h1,h2,h3,h4,h5,h6⟩:=h
 refine ⟨(h1.more hg).less fun k hk=>?_,hg.whole h2,Zd h3 hg,h4,fun e=>e.elim h5 fun e=>by omega,fun ad e=>⟨(h6 ad e).1,fun e2=>e2.elim (h6 ad e).2 fun e2=>by have:=hA ad e;omega⟩⟩
 rcases hk with (hk | hk) | hk | hk
 ·exact .inl (.inl hk)
 ·exact .inr hk
 ·exact .inl (.inr (.inl hk))
 ·exact .inl (.inr (.inr hk))
theorem Ze2 (x:Int):(nmH x).length≤1000000:=by
 unfold nmH
 have:=Yx x
 unfold ofP
 split
 ·simp
 ·rw [if_neg (by decide),if_pos rfl,List.length_cons,Yc]
  omega
structure CloW (out:Nat→Prop) (w:World) (l b1 b2:Nat) (la:Int):Prop where
 x1:Whole w b1 29 #[.pointer (some ⟨l,0,none⟩)]
 x2:Whole w b2 3 #[.int .i64 la]
 o1:out b1
 o2:out b2
theorem CloW.stays {b1 b2:Nat} {la:Int} {w':World} (h:CloW out w l b1 b2 la) (hs:Stays B out w w'):CloW out w' l b1 b2 la:=⟨Zt hs h.x1 h.o1,Zt hs h.x2 h.o2,h.o1,h.o2⟩
theorem Zvb (la:Int) (hla:0≤la∧la≤99999999) (b1 b2:Nat) (w:World) (h:LgAt B w0 w d l out A n c L) (hc:CloW out w l b1 b2 la) (ok:LOk T S L.dk) (hT:T≤100000) (hS:S≤100000) {s:ByteArray} (hs:(⟨(nmH la).toArray⟩:ByteArray)=s) :
 Calls Tryz.prog 135 #[.string s,.pointer (some ⟨b1,0,none⟩),.pointer (some ⟨b2,0,none⟩)] w fun e w'=>e=.returned (.int .i64 (L.dk.append (nmH la) (hintB L.dk la)).2)∧LgAt B w0 w' d l out A n c (L.on (L.dk.append (nmH la) (hintB L.dk la)).1)∧Stays B out w w':=by
 have hok:=ok.ok
 have hsz0:=ok.size hla
 have hcnt:=Zf6 L.dk la
 have hbl:=Zf5 L.dk la
 have HF:=hid (fun w' (hg:Grows w w')=>h.fields hg)
 have HX:=hid (fun w' (hg:Grows w w')=>And.intro ((hg.whole hc.x1).cell 0) ((hg.whole hc.x2).cell 0))
 have hall:=fun w' (hg:Grows w w')=>Zid w' la (by omega) (h.grow hg).dk hok (by omega)
 obtain ⟨⟨sv,sb⟩,hsz⟩:∃ q,L.dk.size (nmS la)=q:=⟨_,rfl⟩
 have hsize:=fun w' (hg:Grows w w')=>Zbs w' la (h.grow hg).dk hsz
 unfold hintB at hbl ⊢
 rw [hsz] at hsz0 hcnt hbl ⊢
 dsimp only at hsz0 hcnt hbl ⊢
 obtain ⟨⟨Fs,p2,p3⟩,hP⟩:∃ q,Ya L.dk la=q:=⟨_,rfl⟩
 simp only [hP] at hall hcnt hbl ⊢
 obtain ⟨N,hN⟩:∃ N,Fs.length=N:=⟨_,rfl⟩
 obtain ⟨hs2,hhs⟩:∃ q,Zab Fs=q:=⟨_,rfl⟩
 rw [hhs] at hbl ⊢
 obtain ⟨M,hM⟩:∃ M,hs2.length=M:=⟨_,rfl⟩
 obtain ⟨bs,hbs⟩:∃ q,putH hs2 sv=q:=⟨_,rfl⟩
 rw [hbs] at hbl ⊢
 have HAL:=hid (show ∀ w',Grows w w'→Calls Tryz.prog 92 #[.pointer (some ⟨d,0,none⟩),.int .i64 la] w' fun e w''=>Grows w' w''∧∃ x:(fnT w.heap.size N p2 p3 Fs).α,e=.returned ((fnT w.heap.size N p2 p3 Fs).val x)∧(fnT w.heap.size N p2 p3 Fs).R x w'' from fun w' hg=>(hall w' hg).mono fun e w'' ⟨A',c',fl,he,ho,hm,hg2⟩=>by
  have hl:fl.length=N:=by rw [←hN,←hm,List.length_map]
  rw [hl] at he ho
  exact ⟨hg2,(A',c',fl),he,ho.low hg.size,hm⟩)
 have HOF:=hid (show ∀ w' A' c' fl,Grows w w'→(FnOwn w.heap.size w' A' N c' fl∧fl.map (·.1)=Fs)→Calls Tryz.prog 137 #[.slice A' N c'] w' fun e w''=>Grows w' w''∧∃ x:(htO w.heap.size M hs2).α,e=.returned ((htO w.heap.size M hs2).val x)∧(htO w.heap.size M hs2).R x w'' from fun w' A' c' fl hg hf=>(Zvc A' N c' (fl.map fdOf) w' (Zxl hf.1) (by omega)).mono fun e w'' hh=>by
  obtain ⟨A2,c2,he,ho,hg2⟩:=hh
  rw [Zsv,hf.2,hhs,hM] at he
  rw [Zsv,hf.2,hhs,hM] at ho
  exact ⟨hg2,(A2,c2),he,Zg ho hg.size⟩)
 have HPU:=hid (show ∀ w' A' c',Grows w w'→w'.ownsRow w.heap.size 167 4 (.slice A' M c') M (hs2.flatMap htE)→Calls Tryz.prog 136 #[.slice A' M c',.int .i64 sv] w' fun e w''=>∃ A2 m c2,e=.returned (.slice A2 m c2)∧w''.ownsRow w'.heap.size 5 1 (.slice A2 m c2) m (bs.map byteV)∧Below w'.heap.size w' w'' from fun w' A' c' hg ho=>(Zve A' M c' hs2 sv w' (Rs.owned htL hM ho) (by
  have h1:=Zir ((Fs.map fd0))
  have h2:hs2.length≤Fs.length:=by rw [←hhs];unfold Zab;rw [List.length_map] at h1;exact h1
  omega) (by omega)).mono fun e w'' hh=>by
  obtain ⟨A2,m,c2,he,hm,ho2,hg2⟩:=hh
  rw [hbs] at ho2
  exact ⟨A2,m,c2,he,ho2,hg2⟩)
 obtain ⟨⟨m',er⟩,hq⟩:∃ q,L.dk.append (nmH la) bs=q:=⟨_,rfl⟩
 rw [hq]
 have HQ:=hid hq
 have HSZ:=hid hsize
 have HH:=hid (And.intro h (And.intro hok (And.intro hbs (show bs.length≤1000000∧T+2*S+4100≤1000000000 by omega))))
 have HS:=hid hs
 clear h hc ok hok hall hsize hsz hP hcnt hbl hsz0 hN hhs hM hbs hs hla hq
 go_enter Tryz.func135,Tryz.ntmps135
 go_wp2_with (fail)
 refine Zk (E:=Grows) [Zb (.pointer (some ⟨l,0,none⟩)),Zb (.pointer (some ⟨l,0,none⟩)),Zb (.pointer (some ⟨l,0,none⟩)),Zb (.pointer (some ⟨d,0,none⟩)),Zb (.int .i64 la),fnT w.heap.size N p2 p3 Fs,fnT w.heap.size N p2 p3 Fs,fnO w.heap.size N Fs,Zb (.int .i64 p2),Zb (.int .i64 p3),fnO w.heap.size N Fs,Zb (.int .i64 p2),Zb (.int .i64 p3)] (by kernel_rfl) (by kernel_rfl) (fun _ _ _=>Grows.trans) (Zf _) ?_
 refine f_val _ (by rfl) ?_ ?_
 ·intro w' hC;obtain ⟨y1,y2⟩:=HX.out w' hC;clear hC;go_simp
 simp only [Pu]
 iterate 2
  refine f_val _ (by rfl) ?_ ?_
  ·intro w' hC;clear hC;go_simp
  simp only [Pu]
 refine f_val _ (by rfl) ?_ ?_
 ·intro w' hC;obtain ⟨z0,z1,z2,z3,z4⟩:=HF.out w' hC;clear hC;go_simp
 simp only [Pu]
 refine f_val _ (by rfl) ?_ ?_
 ·intro w' hC;obtain ⟨y1,y2⟩:=HX.out w' hC;clear hC;go_simp
 simp only [Pu]
 refine Zjy (F:=fnT w.heap.size N p2 p3 Fs) 92 #[.pointer (some ⟨d,0,none⟩),.int .i64 la] (by rfl) (by intro w' hC;clear hC;go_simp) ?_ ?_
 ·intro w' hC hks;exact HAL.out w' hC
 rintro ⟨A1,c1,fl1⟩
 dsimp only [fnT]
 simp only [Pu]
 refine Zsu (A1,c1,fl1) (by rfl) ?_ ?_
 ·intro w' hC hks;refine ⟨?_,Known.get hks 0 rfl rfl⟩;clear hC hks;dsimp only [fnT];go_simp
 rintro ⟨A1,c1,fl1⟩
 dsimp only [fnT]
 simp only [Pu]
 refine Zsu (A1,c1,fl1) (by rfl) ?_ ?_
 ·intro w' hC hks;refine ⟨?_,Known.get hks 0 rfl rfl⟩;clear hC hks;dsimp only [fnO];go_simp
 rintro ⟨A1,c1,fl1⟩
 dsimp only [fnO]
 simp only [Pu]
 iterate 2
  refine f_val _ (by rfl) ?_ ?_
  ·intro w' hC;clear hC;go_simp
  simp only [Pu]
 refine Zsu (A1,c1,fl1) (by rfl) ?_ ?_
 ·intro w' hC hks;refine ⟨?_,Known.get hks 0 rfl rfl⟩;clear hC hks;dsimp only [fnO];go_simp
 rintro ⟨A1,c1,fl1⟩
 dsimp only [fnO]
 simp only [Pu]
 iterate 2
  refine f_val _ (by rfl) ?_ ?_
  ·intro w' hC;clear hC;go_simp
  simp only [Pu]
 refine Zu ?_
 intro w2 hC hks
 have HCw2:=hid hC
 have HK:=hid (Known.at hks 0 rfl)
 clear hC hks
 have HK2:=hid (show FnOwn w.heap.size w2 A1 N c1 fl1∧fl1.map (·.1)=Fs from HK.out)
 clear HK
 go_wp2_with (fail)
 refine Ze (E:=Grows) 14 [Zb (.pointer (some ⟨l,0,none⟩)),Zb (.pointer (some ⟨l,0,none⟩)),Zb (.pointer (some ⟨l,0,none⟩)),Zb (.pointer (some ⟨d,0,none⟩)),Zb (.string s),Zb (.slice A1 N c1),htO w.heap.size M hs2,Zb (.pointer (some ⟨l,0,none⟩)),Zb (.pointer (some ⟨l,0,none⟩)),Zb (.pointer (some ⟨l,0,none⟩)),Zb (.pointer (some ⟨d,0,none⟩)),Zb (.int .i64 la),Zb (.int .i64 sv),Zci w2 (bs)] mixed (by kernel_rfl) (fun _ _ _=>Grows.trans) (Zf _) ?_
 simp only [List.take_succ_cons,List.take_zero,List.drop_succ_cons,List.drop_zero]
 refine f_val _ (by rfl) ?_ ?_
 ·intro w' hC;obtain ⟨y1,y2⟩:=HX.out w' (Grows.trans HCw2.out hC);clear hC;go_simp
 simp only [Pu]
 iterate 2
  refine f_val _ (by rfl) ?_ ?_
  ·intro w' hC;clear hC;go_simp
  simp only [Pu]
 refine f_val _ (by rfl) ?_ ?_
 ·intro w' hC;obtain ⟨z0,z1,z2,z3,z4⟩:=HF.out w' (Grows.trans HCw2.out hC);clear hC;go_simp
 simp only [Pu]
 iterate 2
  refine f_val _ (by rfl) ?_ ?_
  ·intro w' hC;clear hC;go_simp
  simp only [Pu]
 refine Zjy (F:=htO w.heap.size M hs2) 137 #[.slice A1 N c1] (by rfl) (by intro w' hC;clear hC;go_simp) ?_ ?_
 ·intro w' hC hks;exact HOF.out w' A1 c1 fl1 (Grows.trans HCw2.out hC) ⟨HK2.out.1.grow hC,HK2.out.2⟩
 rintro ⟨A3,c3⟩
 dsimp only [htO]
 simp only [Pu]
 refine f_val _ (by rfl) ?_ ?_
 ·intro w' hC;obtain ⟨y1,y2⟩:=HX.out w' (Grows.trans HCw2.out hC);clear hC;go_simp
 simp only [Pu]
 iterate 2
  refine f_val _ (by rfl) ?_ ?_
  ·intro w' hC;clear hC;go_simp
  simp only [Pu]
 refine f_val _ (by rfl) ?_ ?_
 ·intro w' hC;obtain ⟨z0,z1,z2,z3,z4⟩:=HF.out w' (Grows.trans HCw2.out hC);clear hC;go_simp
 simp only [Pu]
 refine f_val _ (by rfl) ?_ ?_
 ·intro w' hC;obtain ⟨y1,y2⟩:=HX.out w' (Grows.trans HCw2.out hC);clear hC;go_simp
 simp only [Pu]
 refine Z7 95 #[.pointer (some ⟨d,0,none⟩),.int .i64 la] (.int .i64 sv) (by rfl) (by intro w' hC;clear hC;go_simp) ?_ ?_
 ·intro w' hC hks;exact HSZ.out w' (Grows.trans HCw2.out hC)
 simp only [Pu]
 refine f_own (bs) 136 #[.slice A3 M c3,.int .i64 sv] (by rfl) (by intro w' hC;clear hC;go_simp) ?_ ?_
 ·intro w' hC hks;exact HPU.out w' A3 c3 (Grows.trans HCw2.out hC) (Known.get hks 0 rfl rfl)
 intro A4 c4
 simp only [Pu]
 refine Zu ?_
 intro w3 hC hks
 have HCw3:=hid hC
 have HR:=hid (Known.at hks 0 rfl)
 clear hC hks
 have hr:w3.ownsRow w2.heap.size 5 1 (.slice A4 bs.length c4) bs.length (bs.map byteV):=HR.out
 have hg3:Grows w w3:=Grows.trans HCw2.out HCw3.out
 have hoff:∀ ad,A4=some ad→w.heap.size≤ad.block∧ad.block < w3.heap.size:=fun ad e=>by
  have:=Zoa hr ad e
  have:=HCw2.out.size
  omega
 have hdop:=(HH.out.1.more hg3).dop (f:=130) (args:=#[.pointer (some ⟨d,0,none⟩),.string s,.slice A4 bs.length c4]) (v:=.returned (.int .i64 (L.dk.append (nmH la) bs).2)) (m':=(L.dk.append (nmH la) bs).1) fun out' ho hd=>by
  rw [←HS.out]
  exact Za8 (nmH la) hd HH.out.2.1 HH.out.2.2.2.2 (Ze2 la) (Sl.owned hr) (fun ad e _=>.inr (ho _ (.inl (.inr (hoff ad e))))) (by have:=HH.out.2.2.2.1;omega) rfl rfl
 rw [HQ.out] at hdop
 have HDO:=hid hdop
 have HG3:=hid hg3
 obtain ⟨bl,hbl⟩:∃ bl,bs.length=bl:=⟨_,rfl⟩
 rw [hbl] at HDO ⊢
 clear hr hg3 hoff hdop HR hbl
 go_wp2_with (fail)
 refine HDO.out.mono ?_
 rintro e w4 ⟨rfl,hd,hst⟩
 have HY:=hid (And.intro hd hst)
 clear hd hst
 go_wp2_with (fail)
 go_ret
 exact ⟨rfl,HY.out.1.less fun k hk=>.inl hk,(Stays.grows HG3.out).trans (Zs HY.out.2 fun k hk=>.inl hk)⟩
end
end Go.Proofs.YtkelafkbmnjpeaaGreat
set_option maxHeartbeats 8000000
set_option maxRecDepth 100000
namespace Go.Proofs.YtkelafkbmnjpeaaGreat
open Go.Lib (hid)
open Go.RowKit Go.Maps Go.WideMaps
section
variable {B d l n c T S K:Nat} {w0 w:World} {out:Nat→Prop} {A:Option Addr} {L:Lg}
theorem LgAt.num {j:Nat} {L':Lg} {v:Value} (h:LgAt B w0 w d l out A n c L) (hdk:L'.dk=L.dk) (hs:L'.man.segs=L.man.segs) (hv:(lgC d A n c L).setIfInBounds j v=lgC d A n c L') :
 LgAt B w0 (w.setCell ⟨l,j,none⟩ v) d l out A n c L'∧Stays B out w (w.setCell ⟨l,j,none⟩ v):=by
 obtain ⟨h1,h2,h3,h4,h5,h6⟩:=h
 have hsp:Zc (fun k=>k=l) w (w.setCell ⟨l,j,none⟩ v):=(Zc.refl (fun k=>k=l) w).setCell (p:=⟨l,j,none⟩) rfl _
 have hrow:=h2.put j v
 rw [hv] at hrow
 refine ⟨⟨by rw [hdk];exact h1.other hsp (fun k e _=>.inr (.inl e)) fun k e=>by rw [e];exact h4,hrow,?_,h4,h5,h6⟩,hsp.wider fun k _ e=>by rw [e];exact ⟨h4,h5⟩⟩
 rw [hs]
 refine Z5 h3 fun k hk=>hsp.same k (h3.lt k hk).2 ?_
 rcases Yr h3 with ⟨rfl,_⟩ | ⟨g,rfl,_⟩
 ·cases hk
 ·injection hk with hk
  rw [←hk]
  exact (h6 _ rfl).1
def LgTo (B:Nat) (w0:World) (d l:Nat) (out:Nat→Prop) (w:World) (r:Lg×Int) (e:Ending) (w':World):Prop:=e=.returned (.int .i64 r.2)∧LgIn B w0 w' d l out r.1∧Stays B out w w'
def blkB (B:Nat) (t:TypeId) (cs:Array Value) (n:Nat):Fact Grows:=⟨Nat,0,fun g=>.slice (some ⟨g,0,none⟩) n n,fun g w=>B≤g∧Whole w g t cs,fun _ _ _ h g=>⟨h.1,Grows.whole g h.2⟩⟩
theorem Zv8 {P:Program} {ops:Array Oper} {W:World} {Q:Act→World→Prop} {o:Oper} {rest:List Oper} {fs:List (Fact Grows)} {ks:Known} {a:Act} (t:TypeId) (cs:Array Value) (n:Nat) (hw:Region.wanted o (yielded ops a.tmps)=true) (h1:∀ w,Grows W w→(execOp a.eval o).run P w=.ok (.value (.slice (some ⟨w.heap.size,0,none⟩) n n)) (w.alloc (.cells cs t)))
 (h2:∀ g:Nat,wpF P ops Grows W Q rest fs ((o.dst,fun w=>W.heap.size≤g∧Whole w g t cs) :: ks) (a.put o.dst (.slice (some ⟨g,0,none⟩) n n))) :
 wpF P ops Grows W Q (o :: rest) (blkB W.heap.size t cs n :: fs) ks a:=by
 unfold wpF fStep
 rw [if_pos hw]
 refine ⟨fun w hW hk=>?_,fun g=>h2 g⟩
 unfold gives
 rw [h1 w hW]
 exact ⟨Za w _,w.heap.size,rfl,hW.size,Whole.made w t cs⟩
def WrIn (B:Nat) (w0 w3:World) (d l b1 b2 g:Nat) (out:Nat→Prop) (A:Option Addr) (n c:Nat) (L:Lg) (la:Int) (T S:Nat) (j:Nat) (m:Dk) (w':World):Prop :=
 LgAt B w0 w' d l out A n c (L.on m)∧Stays B out w3 w'∧CloW out w' l b1 b2 la∧Whole w' g 126 #[.func (.func 129) #[.pointer (some ⟨d,0,none⟩)] #[],.func (.func 135) #[] #[.pointer (some ⟨b1,0,none⟩),.pointer (some ⟨b2,0,none⟩)],.func (.func 72) #[.pointer (some ⟨d,0,none⟩)] #[]]∧LOk (T+min j 1) S m∧(j=1→m.size (nmH la)=(0,true))
theorem Zof (la:Int) (hla:0≤la∧la≤99999999) (w:World) (h:LgAt B w0 w d l out A n c L) (ok:LOk T S L.dk) (hT:T≤90000) (hS:S≤100000) :
 Calls Tryz.prog 77 #[.pointer (some ⟨l,0,none⟩),.int .i64 la] w fun e w'=>e=.returned (.tuple #[])∧LgAt B w0 w' d l out A n c (L.on (Zas L.dk la))∧Stays B out w w':=by
 obtain ⟨b1,hb1⟩:∃ b,w.heap.size=b:=⟨_,rfl⟩
 obtain ⟨b2,hb2⟩:∃ b,b1+1=b:=⟨_,rfl⟩
 have hm1:=Whole.made w 29 #[.pointer (some ⟨l,0,none⟩)]
 have hg1:=Za w (.cells #[.pointer (some ⟨l,0,none⟩)] 29)
 have hz1:=World.size_alloc w (.cells #[.pointer (some ⟨l,0,none⟩)] 29)
 obtain ⟨w1,hw1⟩:∃ y,w.alloc (.cells #[.pointer (some ⟨l,0,none⟩)] 29)=y:=⟨_,rfl⟩
 rw [hw1] at hm1 hg1 hz1
 have hm2:=Whole.made w1 3 #[.int .i64 la]
 have hg2:=Za w1 (.cells #[.int .i64 la] 3)
 have hz2:=World.size_alloc w1 (.cells #[.int .i64 la] 3)
 obtain ⟨w2,hw2⟩:∃ y,w1.alloc (.cells #[.int .i64 la] 3)=y:=⟨_,rfl⟩
 rw [hw2] at hm2 hg2 hz2
 rw [hz1,hb1,hb2] at hm2
 rw [hb1] at hm1
 have hgt:=Grows.trans hg1 hg2
 have HF:=hid (fun w' (hg:Grows w2 w')=>h.fields (Grows.trans hgt hg))
 have HX:=hid (fun w' (hg:Grows w2 w')=>And.intro ((hg.whole (hg2.whole hm1)).cell 0) ((hg.whole hm2).cell 0))
 have hn:=fun w'=>nm_of 2 la w'
 rw [show ofP 2 la=nmH la from rfl] at hn
 obtain ⟨s,hs⟩:∃ s:ByteArray,(⟨(nmH la).toArray⟩:ByteArray)=s:=⟨_,rfl⟩
 simp only [hs] at hn
 have HN:=hid hn
 have HH:=hid h
 have HM:=hid (And.intro (hg2.whole hm1) (And.intro hm2 (And.intro hgt (show w2.heap.size=b1+2 by omega))))
 have HOK:=hid (And.intro ok (And.intro hT hS))
 have HS:=hid hs
 have HLA:=hid hla
 have HB1:=hid hb1
 have HB2:=hid hb2
 have hsz1:w1.heap.size=b2:=by omega
 clear h ok hT hS hm1 hm2 hg1 hg2 hgt hn hs hla hz1 hz2
 go_enter Tryz.func77,Tryz.ntmps77
 go_wp2_with (fail)
 clear hw1 hw2
 refine Ze (E:=Grows) 14 [Zb (.int .i64 la),Zb (.string s),Zb (.pointer (some ⟨l,0,none⟩)),Zb (.pointer (some ⟨l,0,none⟩)),Zb (.pointer (some ⟨l,0,none⟩)),Zb (.pointer (some ⟨d,0,none⟩)),Zb (.func (.func 129) #[.pointer (some ⟨d,0,none⟩)] #[]),Zb (.func (.func 135) #[] #[.pointer (some ⟨b1,0,none⟩),.pointer (some ⟨b2,0,none⟩)]),Zb (.pointer (some ⟨l,0,none⟩)),Zb (.pointer (some ⟨l,0,none⟩)),Zb (.pointer (some ⟨l,0,none⟩)),Zb (.pointer (some ⟨d,0,none⟩)),Zb (.func (.func 72) #[.pointer (some ⟨d,0,none⟩)] #[]),blkB w2.heap.size 126 #[.func (.func 129) #[.pointer (some ⟨d,0,none⟩)] #[],.func (.func 135) #[] #[.pointer (some ⟨b1,0,none⟩),.pointer (some ⟨b2,0,none⟩)],.func (.func 72) #[.pointer (some ⟨d,0,none⟩)] #[]] 3] mixed (by kernel_rfl) (fun _ _ _=>Grows.trans) (Zf _) ?_
 simp only [List.take_succ_cons,List.take_zero,List.drop_succ_cons,List.drop_zero]
 refine f_val _ (by rfl) ?_ ?_
 ·intro w' hC;obtain ⟨y1,y2⟩:=HX.out w' hC;clear hC;go_simp
 simp only [Pu]
 refine Z7 73 #[.int .i64 2,.int .i64 la] (.string s) (by rfl) (by intro w' hC;clear hC;go_simp) ?_ ?_
 ·intro w' hC hks;exact HN.out w'
 simp only [Pu]
 refine f_val _ (by rfl) ?_ ?_
 ·intro w' hC;obtain ⟨y1,y2⟩:=HX.out w' hC;clear hC;go_simp
 simp only [Pu]
 iterate 2
  refine f_val _ (by rfl) ?_ ?_
  ·intro w' hC;clear hC;go_simp
  simp only [Pu]
 refine f_val _ (by rfl) ?_ ?_
 ·intro w' hC;obtain ⟨z0,z1,z2,z3,z4⟩:=HF.out w' hC;clear hC;go_simp
 simp only [Pu]
 iterate 2
  refine f_val _ (by rfl) ?_ ?_
  ·intro w' hC;clear hC;go_simp
  simp only [Pu]
 refine f_val _ (by rfl) ?_ ?_
 ·intro w' hC;obtain ⟨y1,y2⟩:=HX.out w' hC;clear hC;go_simp
 simp only [Pu]
 iterate 2
  refine f_val _ (by rfl) ?_ ?_
  ·intro w' hC;clear hC;go_simp
  simp only [Pu]
 refine f_val _ (by rfl) ?_ ?_
 ·intro w' hC;obtain ⟨z0,z1,z2,z3,z4⟩:=HF.out w' hC;clear hC;go_simp
 simp only [Pu]
 refine f_val _ (by rfl) ?_ ?_
 ·intro w' hC;clear hC;go_simp
 simp only [Pu]
 refine Zv8 126 #[.func (.func 129) #[.pointer (some ⟨d,0,none⟩)] #[],.func (.func 135) #[] #[.pointer (some ⟨b1,0,none⟩),.pointer (some ⟨b2,0,none⟩)],.func (.func 72) #[.pointer (some ⟨d,0,none⟩)] #[]] 3 (by rfl) ?_ ?_
 ·intro w' hC;clear hC;go_simp
 intro g
 simp only [Pu]
 refine Zu ?_
 intro w3 hC hks
 have HCw3:=hid hC
 have HR:=hid (Known.at hks 0 rfl)
 clear hC hks
 have hr:w2.heap.size≤g∧Whole w3 g 126 #[.func (.func 129) #[.pointer (some ⟨d,0,none⟩)] #[],.func (.func 135) #[] #[.pointer (some ⟨b1,0,none⟩),.pointer (some ⟨b2,0,none⟩)],.func (.func 72) #[.pointer (some ⟨d,0,none⟩)] #[]]:=HR.out
 have hg3:Grows w w3:=Grows.trans HM.out.2.2.1 HCw3.out
 obtain ⟨out',hout'⟩:∃ o:Nat→Prop,(fun k=>out k∨(w.heap.size≤k∧k < w3.heap.size))=o:=⟨_,rfl⟩
 have hl3:=HH.out.more hg3
 rw [hout'] at hl3
 have hin:∀ k,out k→out' k:=fun k hk=>by rw [←hout'];exact .inl hk
 have hnew:∀ k,w.heap.size≤k→k < w3.heap.size→out' k:=fun k h1 h2=>by rw [←hout'];exact .inr ⟨h1,h2⟩
 have hsz:=HM.out.2.2.2
 have hsz3:=HCw3.out.size
 have hb1:=HB1.out
 have hb2:=HB2.out
 have hclo:CloW out' w3 l b1 b2 la:=⟨HCw3.out.whole HM.out.1,HCw3.out.whole HM.out.2.1,hnew _ (by omega) (by omega),hnew _ (by omega) (by omega)⟩
 have hog:out' g:=hnew g (by omega) hr.2.lt
 have ha:=Zg9 s g 3 (Zel la) (WrIn B w0 w3 d l b1 b2 g out' A n c L la T S) (fun m w'=>LgAt B w0 w' d l out' A n c (L.on m)∧Stays B out' w3 w') (fun j=>match j with
  | 0=>(129,#[.pointer (some ⟨d,0,none⟩)],#[])
  | 1=>(135,#[],#[.pointer (some ⟨b1,0,none⟩),.pointer (some ⟨b2,0,none⟩)])
  | _=>(72,#[.pointer (some ⟨d,0,none⟩)],#[])) rfl (by omega)
  (fun i m w' hi j hj=>by
    have hwh:=hi.2.2.2.1
    rw [hwh.cell j]
    match j,hj with
    | 0,_=>rfl
    | 1,_=>rfl
    | 2,_=>rfl)
  (fun j hj=>match j,hj with
    | 0,_=>enters_of Tryz.func129 (by kernel_rfl) rfl
    | 1,_=>enters_of Tryz.func135 (by kernel_rfl) rfl
    | 2,_=>enters_of Tryz.func72 (by kernel_rfl) rfl)
  (fun j m w' st hst hi=>by
    obtain ⟨i1,i2,i3,i4,i5,i6⟩:=hi
    have hTS:=HOK.out.2
    match j,hst with
    | 0,hst =>
      injection hst with hst
      subst hst
      refine (i1.dop (v:=.returned (.int .i64 (m.create (nmH la)).2)) (m':=(m.create (nmH la)).1) fun out' ho hd=>by rw [←HS.out];exact Zgj (nmH la) hd i5.ok (by omega) (Ze2 la) rfl rfl).mono ?_
      rintro e w4 ⟨rfl,k1,k2⟩
      exact ⟨rfl,⟨k1,i2.trans k2⟩,fun e=>⟨k1,i2.trans k2,i3.stays k2,Zt k2 i4 hog,i5.create _,fun _=>Zbh e⟩⟩
    | 1,hst =>
      injection hst with hst
      subst hst
      refine (Zvb la HLA.out b1 b2 w' i1 i3 i5 (by omega) (by omega) HS.out).mono ?_
      rintro e w4 ⟨rfl,k1,k2⟩
      exact ⟨rfl,⟨k1,i2.trans k2⟩,fun e=>⟨k1,i2.trans k2,i3.stays k2,Zt k2 i4 hog,LOk.hints i5 HLA.out (i6 rfl),fun e=>by cases e⟩⟩
    | 2,hst =>
      injection hst with hst
      subst hst
      refine (i1.dop (v:=.returned (.int .i64 (m.sync (nmH la)).2)) (m':=(m.sync (nmH la)).1) fun out' ho hd=>by rw [←HS.out];exact Zl3 (nmH la) hd i5.ok (by omega) (Ze2 la) rfl rfl).mono ?_
      rintro e w4 ⟨rfl,k1,k2⟩
      exact ⟨rfl,⟨k1,i2.trans k2⟩,fun e=>⟨k1,i2.trans k2,i3.stays k2,Zt k2 i4 hog,i5.sync _,fun e=>by cases e⟩⟩
    | j+3,hst=>cases hst)
  (fun j m w' hi=>⟨hi.1,hi.2.1⟩)
  L.dk w3 ⟨hl3,Stays.grows (Grows.refl _),hclo,hr.2,HOK.out.1,fun e=>by cases e⟩
 have HA:=hid ha
 have HY:=hid (And.intro hg3 hin)
 clear hr hg3 hl3 hin hnew hsz hsz3 hb1 hb2 hclo hog ha hout' HR
 go_wp2_with (fail)
 refine HA.out.mono ?_
 rintro e w4 ⟨rfl,k1,k2⟩
 have HZ:=hid (And.intro k1 k2)
 clear k1 k2
 go_wp2_with (fail)
 refine bodyPost_end (results_none rfl _ _ _) rfl ?_
 exact ⟨rfl,HZ.out.1.less HY.out.2,(Stays.grows HY.out.1).trans (Zs HZ.out.2 HY.out.2)⟩
theorem Zf2 (nm:Nm) (hnm:nm.length≤1000000) (w:World) (h:LgAt B w0 w d l out A n c L) (ok:DkOk K L.dk) (hK:K≤90000000) {s:ByteArray} (hs:(⟨nm.toArray⟩:ByteArray)=s) :
 Calls Tryz.prog 79 #[.pointer (some ⟨l,0,none⟩),.string s] w fun e w'=>e=.returned (.tuple #[])∧LgAt B w0 w' d l out A n c (L.on (L.dk.remove nm).1)∧Stays B (lgO l A out) w w':=by
 obtain ⟨z0,z1,z2,z3,z4⟩:=h.fields (Grows.refl w)
 have hm1:=Whole.made w 126 #[.func (.func 133) #[.pointer (some ⟨d,0,none⟩)] #[]]
 have hg1:=Za w (.cells #[.func (.func 133) #[.pointer (some ⟨d,0,none⟩)] #[]] 126)
 obtain ⟨w1,hw1⟩:∃ y,w.alloc (.cells #[.func (.func 133) #[.pointer (some ⟨d,0,none⟩)] #[]] 126)=y:=⟨_,rfl⟩
 rw [hw1] at hm1 hg1
 have hm:=h.more hg1
 have ha:=Zg9 s w.heap.size 1 [fun m=>m.remove nm] (fun j m w'=>j=0∧m=L.dk∧LgAt B w0 w' d l (fun k=>out k∨(w.heap.size≤k∧k < w1.heap.size)) A n c (L.on m)∧Whole w' w.heap.size 126 #[.func (.func 133) #[.pointer (some ⟨d,0,none⟩)] #[]]∧Stays B (lgO l A (fun k=>out k∨(w.heap.size≤k∧k < w1.heap.size))) w1 w'∨j=1∧LgAt B w0 w' d l (fun k=>out k∨(w.heap.size≤k∧k < w1.heap.size)) A n c (L.on m)∧Stays B (lgO l A (fun k=>out k∨(w.heap.size≤k∧k < w1.heap.size))) w1 w'∧Whole w' w.heap.size 126 #[.func (.func 133) #[.pointer (some ⟨d,0,none⟩)] #[]])
  (fun m w'=>LgAt B w0 w' d l (fun k=>out k∨(w.heap.size≤k∧k < w1.heap.size)) A n c (L.on m)∧Stays B (lgO l A (fun k=>out k∨(w.heap.size≤k∧k < w1.heap.size))) w1 w') (fun _=>(133,#[.pointer (some ⟨d,0,none⟩)],#[])) rfl (by omega)
  (fun i m w' hi j hj=>by
    obtain rfl:j=0:=by omega
    have hwh:Whole w' w.heap.size 126 #[.func (.func 133) #[.pointer (some ⟨d,0,none⟩)] #[]]:=hi.elim (fun h=>h.2.2.2.1) fun h=>h.2.2.2
    exact hwh.cell 0)
  (fun j _=>enters_of Tryz.func133 (by kernel_rfl) rfl)
  (fun j m w' st hst hi=>by
    rcases hi with ⟨rfl,rfl,hi,hwh,hsy⟩ | ⟨rfl,_⟩
    ·injection hst with hst
     subst hst
     refine (hi.dopO (v:=.returned (.int .i64 (L.dk.remove nm).2)) (m':=(L.dk.remove nm).1) (by rw [←hs];exact Zgk nm hi.dk ok (by omega) hnm rfl rfl)).mono ?_
     rintro e w2 ⟨rfl,h2,h1⟩
     exact ⟨rfl,⟨h1,hsy.trans h2⟩,fun _=>.inr ⟨rfl,h1,hsy.trans h2,Zt h2 hwh (.inl (.inr ⟨Nat.le_refl _,by rw [←hw1,World.size_alloc];omega⟩))⟩⟩
    ·cases hst)
  (fun j m w' hi=>hi.elim (fun h=>⟨h.2.2.1,h.2.2.2.2⟩) fun h=>⟨h.2.1,h.2.2.1⟩)
  L.dk w1 (.inl ⟨rfl,rfl,hm,hm1,Stays.grows (Grows.refl _)⟩)
 have HA:=hid ha
 have HG:=hid hg1
 clear h ha hm hm1 hg1 ok hs hnm
 go_enter Tryz.func79,Tryz.ntmps79
 go_wp2_with (fail)
 clear hw1
 refine HA.out.mono ?_
 rintro e w2 ⟨rfl,h1,h2⟩
 have HX:=hid (And.intro h1 h2)
 clear h1 h2
 go_wp2_with (fail)
 refine bodyPost_end (results_none rfl _ _ _) rfl ?_
 refine ⟨rfl,?_,(Stays.grows HG.out).trans (Zs HX.out.2 fun k hk=>hk.imp .inl id)⟩
 have hf:=HX.out.1.less (out':=out) fun k hk=>.inl hk
 rw [show seqP [fun m=>m.remove nm] L.dk=L.dk.remove nm by
  simp only [seqP]
  split
  ·rename_i he
   exact Prod.ext rfl he.symm
  ·rfl] at hf
 exact hf
theorem Zf3 (nm:Nm) (hnm:nm.length≤1000000) (w:World) (h:LgAt B w0 w d l out A n c L) (ok:DkOk K L.dk) (hK:K≤90000000) {s:ByteArray} (hs:(⟨nm.toArray⟩:ByteArray)=s) :
 Calls Tryz.prog 79 #[.pointer (some ⟨l,0,none⟩),.string s] w fun e w'=>e=.returned (.tuple #[])∧LgAt B w0 w' d l out A n c (L.on (L.dk.remove nm).1)∧Stays B out w w' :=
 (Zf2 nm hnm w h ok hK hs).mono fun e w' ⟨h1,h2,h3⟩=>⟨h1,h2,Zs h3 fun k hk=>.inl hk⟩
end
end Go.Proofs.YtkelafkbmnjpeaaGreat
