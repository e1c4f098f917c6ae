/-
  Texts that the statements lean on, one behind the other.
-/
import Derived.Test.YtkelafkbmnjpeaaGreatMG08
import Derived.Shelf.SlMaps.Clone
import Derived.LoopTactic
import Derived.IntWalk
import Derived.Lib.Hide
import Derived.WalkLawsBesides
set_option linter.unusedVariables false
set_option maxHeartbeats 8000000
set_option maxRecDepth 100000
namespace Go.Proofs.YtkelafkbmnjpeaaGreat
open Go.Lib (hid)
open Go.RowKit Go.Maps Go.WideMaps
attribute [local irreducible] Go.wpQuiet
theorem Ints.off {w w':World} {A:Option Addr} {n c:Nat} {xs:List Int} (h:Ints w A n c xs) (hz:w.heap.size≤w'.heap.size) (hA:∀ ad,A=some ad→xs≠[]→ad.block < w.heap.size→w'.heap[ad.block]?=w.heap[ad.block]?):Ints w' A n c xs:=by
 refine ⟨⟨h.row.len,fun k v hv=>?_⟩,h.cap,h.bare⟩
 obtain ⟨ad,he,hb,hc⟩:=h.row.spot k v hv
 refine ⟨ad,he,by omega,?_⟩
 rw [←hc]
 refine World.cell?_of_block ?_
 rw [show (ad.add k).block=ad.block by unfold Addr.add;split <;> rfl]
 exact hA ad he (fun e=>by rw [e] at hv;simp at hv) hb
theorem Zp5 {w:World} {base:Nat} {e:TypeId} {size:Nat} {A:Option Addr} {n c k:Nat} {xs:List Value} (h:w.ownsRow base e size (.slice A n c) k xs):n≤c:=by
 rcases h.2 with ⟨e1,_⟩ | ⟨g,cap,cur,e1,_,_,e2,_⟩
 ·injection e1 with _ e1 e3;omega
 ·injection e1 with _ e1 e3;omega
theorem Zoh {w:World} {base:Nat} {e:TypeId} {A:Option Addr} {n c k:Nat} {xs:List Value} (h:w.ownsRow base e 1 (.slice A n c) n xs) (hk:k≤n):w.ownsRow base e 1 (.slice A k c) k (xs.take k):=by
 obtain ⟨h1,h2⟩:=h
 refine ⟨by rw [List.length_take];omega,?_⟩
 rcases h2 with ⟨e1,e2⟩ | ⟨g,cap,cur,e1,hb,hh,r1,r2,r3,r4⟩
 ·injection e1 with e1 _ e3
  exact .inl ⟨by rw [e1,e3,show k=0 by omega],by omega⟩
 ·injection e1 with e1 _ e3
  refine .inr ⟨g,cap,cur,by rw [e1,e3],hb,hh,by omega,r2,r3,?_⟩
  rw [←r4,List.take_take]
  congr 1
  omega
section
variable {w:World} {d:Nat} {own:Nat→Prop} {G:Geo} {m:Dk}
theorem Z6.renamed {w w':World} (h:Z6 w own G m) {nb:Nat} {l:Dir} (hn:Zdf w' m.made G.loc nb l) (hnew:¬ own nb) (hs:∀ k,own k→w'.heap[k]?=w.heap[k]?) (hz:w.heap.size≤w'.heap.size) :
 Z6 w' (fun k=>own k∨k=nb) { G with nb:=nb } { m with names:=l }:=by
 have h':=h.stay hs hz
 constructor
 ·rintro k (hk | rfl)
  ·exact h'.lt k hk
  ·exact World.ownsMap.lt hn
 ·exact hn
 ·exact .inr rfl
 ·exact h'.kept
 ·exact .inl h'.ok
 ·exact fun e=>hnew (by have e:nb=G.kb:=e;exact e ▸ h.ok)
 ·exact h'.pend
 ·exact fun k hk=>.inl (h'.op k hk)
 ·exact fun i v c h1 h2=>(h'.chs i v c h1 h2).stay (fun _ h=>.inl h) (Nat.le_refl _) (fun _ _=>rfl) fun _ _ _ _ _ _=>rfl
 ·exact h'.inj
 ·exact h'.cells
 ·exact fun i hi=>.inl (h'.ol i hi)
 ·exact h'.rows
 ·exact fun i k hi hk=>.inl (h'.or i k hi hk)
 ·exact h'.apart
theorem DkAt.losing {w w':World} (h:DkAt w d own G m) {f:Nat} (hf:f < m.made) (l:List Int) {A:Option Addr} {c:Nat} (hA:G.row f=.slice A (m.files f).bytes.length c) (hk:(m.files f).kept≤(m.files f).bytes.length)
 (hw:Whole w' (G.loc f) 108 #[.int .i64 (f:Int),.slice A (left l f (m.files f).bytes.length (m.files f).kept) c,.int .i64 (left l f (m.files f).bytes.length (m.files f).kept:Nat)]) (hs:Zc (fun k=>k=G.loc f) w w') :
 DkAt w' d own { G with row:=fun j=>if j=f then .slice A (left l f (m.files f).bytes.length (m.files f).kept) c else G.row j } (m.setFile f ((m.files f).lose (more l f))):=by
 have hle:=Zf7 l f hk
 have hr:=h.rest.rows f hf
 rw [hA] at hr
 have hsh:=Zoh hr hle.1
 have hb:∀ k,(Value.slice A (left l f (m.files f).bytes.length (m.files f).kept) c).ownBlock=some k→(G.row f).ownBlock=some k:=fun k hk=>by
  rw [hA]
  cases A <;> exact hk
 have hne:∀ k,(G.row f).ownBlock=some k→k≠G.loc f:=fun k hk e=>by
  obtain ⟨cur,h1⟩:=Z3 (h.rest.rows f hf) hk
  have h2:=h.rest.cells f hf
  unfold Whole at h2
  rw [←e,h1] at h2
  injection h2 with h2
  injection h2 with _ h2 _
  cases h2
 have e1:(m.files f).lose (more l f)=⟨(m.files f).bytes.take (left l f (m.files f).bytes.length (m.files f).kept),left l f (m.files f).bytes.length (m.files f).kept⟩:=rfl
 have hlen:((m.files f).bytes.take (left l f (m.files f).bytes.length (m.files f).kept)).length=left l f (m.files f).bytes.length (m.files f).kept:=by
  rw [List.length_take];omega
 rw [e1]
 refine ⟨h.rest.filed hf hw ?_ (fun k hk=>hk) (fun k hk=>Nat.lt_of_lt_of_le (h.rest.lt k hk) hs.size) (fun k hk=>h.rest.or f k hf (hb k hk)) (fun k hk=>.inl (hb k hk)) (fun k hk h1 _=>hs.same k (h.rest.lt k hk) h1),?_,h.free⟩
 ·show w'.ownsRow 0 5 1 _ ((m.files f).bytes.take (left l f (m.files f).bytes.length (m.files f).kept)).length (((m.files f).bytes.take (left l f (m.files f).bytes.length (m.files f).kept)).map byteV)
  rw [hlen,List.map_take]
  exact Ym hsh fun k hk=>hs.same k (h.rest.lt k (h.rest.or f k hf (hb k hk))) (hne k (hb k hk))
 ·exact h.top.same (hs.same d h.top.lt fun e=>h.free (e ▸ h.rest.ol f hf))
theorem Zac {H:Type} {P:Program} {k:TypeId} {R:Value→Option (DataW H×List MemPlace)} {w w':World} {b r n:Nat} {D:DataW H} {lf:Lit→Bool} {cnt:Nat} (h:w.ranges P k R b r n D lf cnt) (e1:w'.heap[b]?=w.heap[b]?) (e2:w'.heap[r]?=w.heap[r]?):w'.ranges P k R b r n D lf cnt:=by
 obtain ⟨es,clock,since,seen,c0,hb,F,hs,hD,hr,rest⟩:=h
 exact ⟨es,clock,since,seen,c0,e1.trans hb,F,hs,hD,e2.trans hr,rest⟩
theorem Ztn {files:Nat→Fl} {ns:Dir} {l:List Int} {lf:Lit→Bool} {i:Nat} (h:(files i).bytes.length≤1000000000∧(files i).kept≤(files i).bytes.length):(Yn files ns l lf i).bytes.length≤1000000000∧(Yn files ns l lf i).kept≤(Yn files ns l lf i).bytes.length:=by
 unfold Yn
 split
 ·have:=Zf7 l i h.2
  unfold left at this
  unfold Fl.lose
  dsimp only
  rw [List.length_take]
  omega
 ·exact h
theorem Zoi {made:Nat} {loc:Nat→Nat} {ns:Dir} {x:Nm} {c:Value} {yd:DataW Unit} {yp:List MemPlace} (hv:ptrR made loc c=some (yd,yp)) (hat:∀ zd,(encD (H:=Unit) ns).atKey (.string x) zd=yd):∃ f,Dir.find x ns=some f∧f < made∧c=.pointer (some ⟨loc f,0,none⟩):=by
 cases hf:Dir.find x ns with
 | none =>
   have h1:=hat (.lit (.int .i64 0))
   have h2:=hat (.lit (.int .i64 1))
   rw [Zqm,hf] at h1 h2
   dsimp only at h1 h2
   rw [←h1] at h2
   simp only [DataW.lit.injEq,Lit.int.injEq] at h2
   omega
 | some f =>
   have h1:=hat (.lit (.int .i64 0))
   rw [Zqm,hf] at h1
   dsimp only at h1
   rcases Zfl hv with ⟨rfl,e⟩ | ⟨i,hi,rfl,e⟩
   ·simp only [Prod.mk.injEq] at e
    rw [←h1] at e
    simp only [DataW.lit.injEq,Lit.int.injEq] at e
    omega
   ·simp only [Prod.mk.injEq] at e
    rw [←h1] at e
    simp only [DataW.lit.injEq,Lit.int.injEq] at e
    obtain rfl:f=i:=by omega
    exact ⟨f,rfl,hi,rfl⟩
theorem Zto (w:World) (dirs:Int) {l:List Int} {A:Option Addr} {n c:Nat} (h:DkAt w d own G m) (hF:DkFit m) (hI:Ints w A n c l) (hl:∀ x∈l,-9223372036854775808≤x∧x≤9223372036854775807) (hoff:∀ ad,A=some ad→l≠[]→ad.block≠d∧¬ own ad.block) :
 Calls Tryz.prog 19 #[.pointer (some ⟨d,0,none⟩),.int .i64 dirs,.slice A n c] w fun e w'=>e=.returned (.tuple #[])∧DkTo w d own w' (m.boot dirs l):=by
 obtain ⟨k,hk⟩:∃ k:Nat,(min (max dirs 0) (m.pend.length:Int)).toNat=k:=⟨_,rfl⟩
 have hk1:(k:Int)=min (max dirs 0) (m.pend.length:Int):=by omega
 have HKP:=hid (Zh2 (k:=k) w h (by omega) hF.pend hF.kept)
 rw [hk1] at HKP
 obtain ⟨PA,pc,hPA,_⟩:=Zo h.rest.pend
 have c5:w.cell? ⟨d,5,none⟩=some (.slice PA m.pend.length pc):=by rw [←hPA];exact h.cell 5
 have HK:=hid (And.intro hk hF)
 have HI:=hid (And.intro hI (And.intro hl hoff))
 have HLT:=hid (fun k hk=>DkAt.lt h (k:=k) hk)
 clear hk hk1 hF hI hl hoff h hPA
 generalize hN:m.pend.length=N at c5 HKP
 have HN:=hid hN
 clear hN
 go_enter Tryz.func19,Tryz.ntmps19
 go_wp2_with (fail)
 refine HKP.out.mono ?_
 rintro e w1 ⟨rfl,own1,G1,h1,s1,o1⟩
 have c4:w1.cell? ⟨d,4,none⟩=some (.map (some G1.kb)):=h1.cell 4
 have HCL:=hid (AnyW.maps_Clone_owns cloneDk 9 (ptrR m.made G1.loc) G1.kb _ _ w1 h1.rest.kept)
 have H1:=hid h1
 have S1:=hid (And.intro s1 o1)
 clear h1 s1 o1 HKP c5
 go_wp2_with (fail)
 refine HCL.out.mono ?_
 rintro e w2 ⟨rfl,hm2,_,hb2⟩
 have HM2:=hid hm2
 have hg2:Grows w1 w2:=hb2
 have HB2:=hid hg2
 have c3:w2.cell? ⟨d,3,none⟩=some (.map (some G1.nb)):=hg2.cellq H1.out.top
 have c2:w2.cell? ⟨d,2,none⟩=some (.int .i64 m.used):=hg2.cellq H1.out.top
 have f3:=(hg2.whole H1.out.top).free 3
 have f2:=(hg2.whole H1.out.top).free 2
 obtain ⟨nb,hnb⟩:∃ nb,w1.heap.size=nb:=⟨_,rfl⟩
 have hlt1:∀ k,k=d∨own1 k→k < nb:=fun k hk=>hnb ▸ H1.out.lt hk
 rw [hnb] at hm2
 have hnd:nb≠d:=fun e=>by have:=hlt1 d (.inl rfl);omega
 have hno:¬ own1 nb:=fun e=>by have:=hlt1 nb (.inr e);omega
 have HNB:=hid (And.intro hnb (And.intro hnd hno))
 -- the world behind the first two stores
 have D3:DkAt ((w2.setCell ⟨d,3,none⟩ (.map (some nb))).setCell ⟨d,2,none⟩ (.int .i64 0)) d (fun k=>own1 k∨k=nb) { G1 with nb:=nb } { m.keep k with names:=(m.keep k).kept,used:=0 }:=by
  have h2:=H1.out.grow hg2
  have hother:∀ x,x≠d→((w2.setCell ⟨d,3,none⟩ (.map (some nb))).setCell ⟨d,2,none⟩ (.int .i64 0)).heap[x]?=w2.heap[x]?:=fun x hx=>by
   rw [Below.heap_setCell _ _ _ _ hx,Below.heap_setCell _ _ _ _ hx]
  have hsz:w2.heap.size≤((w2.setCell ⟨d,3,none⟩ (.map (some nb))).setCell ⟨d,2,none⟩ (.int .i64 0)).heap.size:=by simp [World.setCell]
  have r1:=h2.rest.renamed (w':=(w2.setCell ⟨d,3,none⟩ (.map (some nb))).setCell ⟨d,2,none⟩ (.int .i64 0)) (l:=(m.keep k).kept) (Ys hm2 (hother nb hnd)) hno (fun x hx=>hother x fun e=>h2.free (e ▸ hx)) hsz
  refine ⟨r1.like rfl rfl rfl rfl rfl,(h2.top.put 3 (.map (some nb))).put 2 (.int .i64 0),?_⟩
  rintro (e | e)
  ·exact h2.free e
  ·exact hnd e.symm
 have s3:Zc (fun k=>k=d∨own k) w ((w2.setCell ⟨d,3,none⟩ (.map (some nb))).setCell ⟨d,2,none⟩ (.int .i64 0)):=((S1.out.1.trans (Zc.grows hg2)).setCell (p:=⟨d,3,none⟩) (.inl rfl) _).setCell (p:=⟨d,2,none⟩) (.inl rfl) _
 have cd:((w2.setCell ⟨d,3,none⟩ (.map (some nb))).setCell ⟨d,2,none⟩ (.int .i64 0)).cell? ⟨d,3,none⟩=some (.map (some nb)):=D3.cell 3
 have D3H:=hid D3
 have S3:=hid s3
 have HM3:=hid D3.rest.names
 clear hm2 hb2 HCL c4 hg2 hlt1 hnd hno D3 s3
 subst hnb
 go_wp2_with (first
  | (at_range;refine wpList_range_own _ rfl _ 85 rfl 9 105 lawStr Tryz.underlying85 _ w1.heap.size _ _ rfl HM3.out ?_;intro w4 hrg hg4 hs4;have HRG:=hid hrg;have HG4:=hid hg4;clear hrg hg4 hs4))
 go_frame
 generalize hw3:(w2.setCell ⟨d,3,none⟩ (.map (some w1.heap.size))).setCell ⟨d,2,none⟩ (.int .i64 0)=w3 at *
 generalize hrr:w3.heap.size=r at *
 have HR:=hid (And.intro hw3 hrr)
 clear hw3 hrr cd c3 c2 f3 f2
 have hro:r≠d∧¬ (own1 r∨r=w1.heap.size):=by
  constructor
  ·intro e
   have:=D3H.out.top.lt
   have:=HR.out.2
   omega
  ·intro e
   have:=D3H.out.rest.lt r e
   have:=HR.out.2
   omega
 have HRO:=hid (And.intro hro (by have:=HR.out.2;have:=S3.out.size;omega:w.heap.size≤r))
 clear hro
 have hnd:(((m.keep k).kept).map (·.1)).Nodup:=(Ze9 HM3.out).imp fun {a b} h e=>by
  subst e
  rw [WideAt.bytes_irrefl] at h
  cases h
 have HND:=hid hnd
 clear hnd
 have hst:=Zok m.files l (m.keep k).kept
 have D4:DkAt w4 d (fun x=>own1 x∨x=w1.heap.size) { G1 with nb:=w1.heap.size } { m.keep k with names:=(m.keep k).kept,files:=Yn m.files (m.keep k).kept l (Maps.has (encD (H:=Unit) (m.keep k).kept)),used:=wrap64 (Y2 m.files (m.keep k).kept l (Maps.has (encD (H:=Unit) (m.keep k).kept))) }:=by
  have:=D3H.out.grow ((Below.refl _ w3).grown HG4.out (Nat.le_refl _) (fun g e=>by cases e))
  rw [hst.1,hst.2,show wrap64 0=0 from IntWalk.wrap64_in 0 (by omega)]
  exact this
 have S4:=hid (S3.out.grown (w':=w4) HG4.out (fun g e=>by cases e))
 have HD4:=hid D4
 clear D4 hst
 go_loopw [7] (fun _ wr=>∃ (lf:Lit→Bool) (cnt:Nat) (G':Geo),Hid (G'.nb=w1.heap.size)∧Hid (wr.ranges Tryz.prog 9 (ptrR m.made G'.loc) w1.heap.size r (m.keep k).kept.length (encD (m.keep k).kept) lf cnt)∧Hid (DkAt wr d (fun x=>own1 x∨x=w1.heap.size) G' { m.keep k with names:=(m.keep k).kept,files:=Yn m.files (m.keep k).kept l lf,used:=wrap64 (Y2 m.files (m.keep k).kept l lf) })∧Hid (Zc (fun x=>x=d∨own x) w wr)) (fun _ wr=>wr.rangeLeft w1.heap.size r)
 case atStart=>exact ⟨_,_,{ G1 with nb:=w1.heap.size },hid rfl,HRG,HD4,S4⟩
 case round =>
  obtain ⟨lf,cnt,G',HNB',HRr,HDr,HSr⟩:=hrel
  go_wp2_with (first
   | (at_next;refine wpList_next_ranges _ rfl _ rfl 9 lawStr (ptrR m.made G'.loc) encStr (fun v:Value=>v) (fun key kl hk=>by obtain ⟨x,hx,_⟩:=Maps.keyOf_str Tryz.underlying9 hk;exact ⟨x,hx⟩) (fun v y hv=>⟨v,rfl⟩) w1.heap.size r _ _ _ _ rfl HRr.out ?_ ?_))
  ·intro _ hl0
   have HL0:=hid hl0
   clear hl0
   have c7:wr.cell? ⟨d,7,none⟩=some (.int .i64 m.fail):=HDr.out.cell 7
   have f7:=HDr.out.top.free 7
   have c8:wr.cell? ⟨d,8,none⟩=some (.int .i64 m.cut):=HDr.out.cell 8
   have f8:=HDr.out.top.free 8
   have c9:wr.cell? ⟨d,9,none⟩=some (.bool m.down):=HDr.out.cell 9
   have f9:=HDr.out.top.free 9
   go_wp2_with (fail)
   go_end0
   have h7:=HDr.out.set 7 (.int .i64 (-1)) (m':={ m.keep k with names:=(m.keep k).kept,files:=Yn m.files (m.keep k).kept l lf,used:=wrap64 (Y2 m.files (m.keep k).kept l lf),fail:=-1 }) rfl rfl rfl rfl rfl rfl
   have h8:=h7.set 8 (.int .i64 (-1)) (m':={ m.keep k with names:=(m.keep k).kept,files:=Yn m.files (m.keep k).kept l lf,used:=wrap64 (Y2 m.files (m.keep k).kept l lf),fail:=-1,cut:=-1 }) rfl rfl rfl rfl rfl rfl
   have h9:=h8.set 9 (.bool false) (m':={ m.keep k with names:=(m.keep k).kept,files:=Yn m.files (m.keep k).kept l lf,used:=wrap64 (Y2 m.files (m.keep k).kept l lf),fail:=-1,cut:=-1,down:=false }) rfl rfl rfl rfl rfl rfl
   have hend:=Ztp m.files l (names:=(m.keep k).kept) HL0.out
   rw [hend.1,hend.2] at h9
   have em:m.boot dirs l={ m.keep k with names:=(m.keep k).kept,files:=fun i=>if (m.keep k).kept.any (fun p=>p.2==i) then (m.files i).lose (more l i) else m.files i,used:=wrap64 (((m.keep k).kept.map fun p=>((((fun i=>if (m.keep k).kept.any (fun p=>p.2==i) then (m.files i).lose (more l i) else m.files i) p.2:Fl).bytes.length:Nat):Int)).sum),fail:=-1,cut:=-1,down:=false }:=by
    unfold Dk.boot
    rw [HK.out.1]
   refine ⟨rfl,_,_,em ▸ h9,((HSr.out.setCell (p:=⟨d,7,none⟩) (.inl rfl) _).setCell (p:=⟨d,8,none⟩) (.inl rfl) _).setCell (p:=⟨d,9,none⟩) (.inl rfl) _,?_⟩
   rintro x (hx | rfl)
   ·exact S1.out.2 x hx
   ·exact .inr S1.out.1.size
  ·intro x c' kl yd yp w5 cnt5 hkey hlk hv hat hrg5 hlt5 hg5 hs5 hen
   obtain ⟨x',ex,rfl,hxl⟩:=Maps.keyOf_str Tryz.underlying9 hkey
   obtain rfl:x=x':=encStr_inj ex
   obtain ⟨f,hf,hfm,rfl⟩:=Zoi hv hat
   have HF:=hid (And.intro hf (And.intro hfm hlk))
   have HR5:=hid (And.intro hrg5 (And.intro hlt5 hg5))
   have h5:DkAt w5 d (fun x=>own1 x∨x=w1.heap.size) G' { m.keep k with names:=(m.keep k).kept,files:=Yn m.files (m.keep k).kept l lf,used:=wrap64 (Y2 m.files (m.keep k).kept l lf) } :=
    HDr.out.spare (oth:=fun y=>y=r) ((Zc.refl _ wr).grown hg5 (fun g e=>by injection e with e;exact e.symm)) (by
     rintro y (rfl | hy) e
     ·exact HRO.out.1.1 e.symm
     ·exact HRO.out.1.2 (e ▸ hy))
   have s5:Zc (fun y=>y=d∨own y) w w5:=by
    refine ((HSr.out.wider (own':=fun y=>(y=d∨own y)∨y=r) fun y _ h=>.inl h).grown hg5 (fun g e=>by injection e with e;exact .inr e.symm)).wider fun y hy h=>h.elim id fun e=>?_
    have:=HRO.out.2
    omega
   have hi5:Ints w5 A n c l:=HI.out.1.off s5.size fun ad e hne hlt=>s5.same _ hlt (fun h=>h.elim (HI.out.2.2 ad e hne).1 (HI.out.2.2 ad e hne).2)
   have hfit:=Ztn (ns:=(m.keep k).kept) (l:=l) (lf:=lf) (HK.out.2.bytes f hfm)
   obtain ⟨A0,c0,hA0,hbare⟩:=Zo (h5.rest.rows f hfm)
   have hcc:=h5.rest.cells f hfm
   rw [hA0] at hcc
   have hcap:(Yn m.files (m.keep k).kept l lf f).bytes.length≤c0:=by
    have:=h5.rest.rows f hfm
    rw [hA0] at this
    exact Zp5 this
   have HLO:=hid (Zlw hcc hfit.2 hcap hbare hfit.1 hi5 (by have:=HK.out.2.made;omega) HI.out.2.1)
   have H5:=hid (And.intro h5 (And.intro s5 (And.intro hfit hA0)))
   clear hkey hlk hv hat hrg5 hlt5 hg5 hs5 hxl hf hfm h5 s5 hi5 hfit hA0 hbare hcc hcap ex
   generalize hlo:G'.loc f=lo at hen HLO
   have HLC:=hid hlo
   clear hlo
   go_wp2_with (fail)
   refine HLO.out.mono ?_
   rintro e w6 ⟨rfl,hw6,s6⟩
   obtain ⟨n1,hn1⟩:∃ n1,left l f (Yn m.files (m.keep k).kept l lf f).bytes.length (Yn m.files (m.keep k).kept l lf f).kept=n1:=⟨_,rfl⟩
   have h6:=H5.out.1.losing HF.out.2.1 l H5.out.2.2.2 H5.out.2.2.1.2 (HLC.out ▸ hw6) (HLC.out ▸ s6)
   have hw6':Whole w6 lo 108 #[.int .i64 (f:Int),.slice A0 n1 c0,.int .i64 (n1:Int)]:=hn1 ▸ hw6
   have hne1:w1.heap.size≠lo:=fun e=>by
    obtain ⟨es,cl,h2⟩:=Z4 HR5.out.1.owns
    have h3:=H5.out.1.rest.cells f HF.out.2.1
    unfold Whole at h3
    rw [HLC.out,←e,h2] at h3
    cases h3
   have hne2:r≠lo:=fun e=>HRO.out.1.2 (e ▸ HLC.out ▸ H5.out.1.rest.ol f HF.out.2.1)
   have r6:=Zac HR5.out.1 (s6.same _ (World.ownsMap.lt HR5.out.1.owns) hne1) (s6.same _ HR5.out.1.lt hne2)
   have t6:Zc (fun y=>y=d∨own y) w w6:=by
    refine ((H5.out.2.1.wider (own':=fun y=>(y=d∨own y)∨w.heap.size≤y) fun y _ h=>.inl h).trans (s6.wider fun y _ e=>?_)).wider fun y hy h=>h.elim id fun e=>by omega
    have:=H5.out.1.rest.ol f HF.out.2.1
    rw [HLC.out] at this
    rw [e]
    rcases this with e | e
    ·exact (S1.out.2 _ e).imp .inr id
    ·exact .inr (e ▸ S1.out.1.size)
   have HC6:=hid (show ∀ w',Grows w6 w'→w'.cell? ⟨d,2,none⟩=some (.int .i64 (wrap64 (Y2 m.files (m.keep k).kept l lf)))∧w'.cell? ⟨lo,1,none⟩=some (.slice A0 n1 c0) from fun w' hg=>⟨hg.cellq h6.top,hg.cellq hw6'⟩)
   have H6:=hid (And.intro h6 (And.intro r6 (And.intro t6 hn1)))
   clear h6 r6 t6 hn1 hw6 hw6' s6 hne1 hne2 HLO
   generalize hus:wrap64 (Y2 m.files (m.keep k).kept l lf)=us at HC6
   have HUS:=hid hus
   clear hus
   go_wp2_with (fail)
   refine Ze (E:=Grows) 12 [Zb (.pointer (some ⟨d,0,none⟩)),Zb (.pointer (some ⟨d,0,none⟩)),Zb (.pointer (some ⟨d,2,none⟩)),Zb (.int .i64 us),Zb (.pointer (some ⟨lo,0,none⟩)),Zb (.pointer (some ⟨lo,0,none⟩)),Zb (.pointer (some ⟨lo,1,none⟩)),Zb (.slice A0 n1 c0),Zb (.int .i64 (n1:Int)),Zb (.int .i64 (wrap64 (us+n1))),Zb (.pointer (some ⟨d,0,none⟩)),Zb (.pointer (some ⟨d,2,none⟩))] mixed (by kernel_rfl) (fun _ _ _=>Grows.trans) (Zf _) ?_
   simp only [List.take_succ_cons,List.take_zero,List.drop_succ_cons,List.drop_zero]
   iterate 9
    refine f_val _ (by rfl) ?_ ?_
    ·intro w' hC;obtain ⟨z0,z1⟩:=HC6.out w' hC;clear hC;go_simp
    simp only [Pu]
   refine f_val _ (by rfl) ?_ ?_
   ·intro w' hC;clear hC;(go_simp;unfold wrap64;rw [IntKind.wrap_i64])
   simp only [Pu]
   iterate 2
    refine f_val _ (by rfl) ?_ ?_
    ·intro w' hC;obtain ⟨z0,z1⟩:=HC6.out w' hC;clear hC;go_simp
    simp only [Pu]
   refine Zu ?_
   intro w7 hC hks
   have HCw7:=hid hC
   clear hC hks
   have c2:=(HC6.out w7 HCw7.out).1
   have h7:=H6.out.1.grow HCw7.out
   have f2:=h7.top.free 2
   have H7:=hid h7
   clear h7
   go_wp2_with (fail)
   go_roundw
   case rel =>
    have hls:=Zp7 m.files l HND.out HF.out.1 HF.out.2.2
    have e1:((Yn m.files (m.keep k).kept l lf f).lose (more l f)).bytes.length=n1:=by
     have hle:=Zf7 l f H5.out.2.2.1.2
     have:=H6.out.2.2.2
     unfold left at this hle
     unfold Fl.lose
     dsimp only
     rw [List.length_take]
     omega
    have e2:wrap64 (us+n1)=wrap64 (Y2 m.files (m.keep k).kept l (fun z=>lf z&&!z.sameKey (.string x))):=by
     rw [hls.2.1,←HUS.out,←hls.2.2,e1]
     unfold wrap64
     omega
    have h8:=H7.out.set 2 (.int .i64 (wrap64 (us+n1))) (m':={ m.keep k with names:=(m.keep k).kept,files:=Yn m.files (m.keep k).kept l (fun z=>lf z&&!z.sameKey (.string x)),used:=wrap64 (us+n1) }) rfl rfl rfl rfl rfl hls.1
    rw [e2] at h8 ⊢
    refine ⟨_,cnt5,_,hid ?_,hid ?_,hid h8,hid ?_⟩
    ·exact HNB'.out
    ·have hn:w1.heap.size≠d:=HNB.out.2.1
     exact Zac (Zac H6.out.2.1 (HCw7.out.block _ (World.ownsMap.lt H6.out.2.1.owns)) (HCw7.out.block _ H6.out.2.1.lt)) (Below.heap_setCell _ _ _ _ hn) (Below.heap_setCell _ _ _ _ HRO.out.1.1)
    ·exact (H6.out.2.2.1.trans (Zc.grows HCw7.out)).setCell (p:=⟨d,2,none⟩) (.inl rfl) _
   case measure =>
    have hn:w1.heap.size≠d:=HNB.out.2.1
    have r8:=Zac (Zac H6.out.2.1 (HCw7.out.block _ (World.ownsMap.lt H6.out.2.1.owns)) (HCw7.out.block _ H6.out.2.1.lt)) (w':=w7.setCell ⟨d,2,none⟩ (.int .i64 (wrap64 (us+n1)))) (Below.heap_setCell _ _ _ _ hn) (Below.heap_setCell _ _ _ _ HRO.out.1.1)
    rw [r8.left_eq,HRr.out.left_eq]
    exact HR5.out.2.1
end
end Go.Proofs.YtkelafkbmnjpeaaGreat
namespace Go.Proofs.YtkelafkbmnjpeaaGreat
open Go.RowKit Go.Maps Go.WideMaps
structure DkOk (K:Nat) (m:Dk):Prop where
 cut:-1≤m.cut∧m.cut≤9223372036854775807
 fail:-1≤m.fail∧m.fail≤9223372036854775807
 made:m.made≤K
 pend:m.kept.length+m.pend.length≤K
 names:m.names.length≤K
 bytes:∀ i,i < m.made→(m.files i).bytes.length≤K∧(m.files i).kept≤(m.files i).bytes.length
section
variable {K K':Nat} {m:Dk}
theorem DkOk.fit (h:DkOk K m) (hK:K≤1000000000):DkFit m :=
 ⟨h.cut,h.fail,Nat.le_trans h.made hK,by have:=h.pend;omega,Nat.le_trans h.names hK,by have:=h.pend;omega,fun i hi=>⟨Nat.le_trans (h.bytes i hi).1 hK,(h.bytes i hi).2⟩⟩
theorem DkOk.mono (h:DkOk K m) (hK:K≤K'):DkOk K' m :=
 ⟨h.cut,h.fail,Nat.le_trans h.made hK,Nat.le_trans h.pend hK,Nat.le_trans h.names hK,fun i hi=>⟨Nat.le_trans (h.bytes i hi).1 hK,(h.bytes i hi).2⟩⟩
theorem DkOk.nums (h:DkOk K m) {m':Dk} (hc:-1≤m'.cut∧m'.cut≤9223372036854775807) (hf:-1≤m'.fail∧m'.fail≤9223372036854775807) (h1:m'.made=m.made) (h2:m'.names=m.names) (h3:m'.kept=m.kept) (h4:m'.pend=m.pend) (h5:m'.files=m.files):DkOk K m' :=
 ⟨hc,hf,h1 ▸ h.made,by rw [h3,h4];exact h.pend,h2 ▸ h.names,fun i hi=>by rw [h5];exact h.bytes i (h1 ▸ hi)⟩
theorem Zdo {x:Int} (h:-1≤x∧x≤9223372036854775807):-1≤sooner x∧sooner x≤9223372036854775807:=by unfold sooner;split <;> omega
theorem DkOk.soon (h:DkOk K m):DkOk K m.sooner:=h.nums (Zdo h.cut) (Zdo h.fail) rfl rfl rfl rfl rfl
theorem DkOk.thing (h:DkOk K m) (hK:K≤K') {does:Dk→Dk} (hd:DkOk K m.sooner→DkOk K' (does m.sooner)):DkOk K' (m.thing does).1:=by
 have hs:=h.soon
 unfold Dk.thing
 split
 ·exact h.mono hK
 ·split
  ·exact (hs.mono hK).nums (by simp) hs.fail rfl rfl rfl rfl rfl
  ·split
   ·exact (hs.mono hK).nums hs.cut (by simp) rfl rfl rfl rfl rfl
   ·have h2:=hd hs
    exact h2.nums h2.cut h2.fail rfl rfl rfl rfl rfl
theorem DkOk.change (h:DkOk K m) (c:Ch):DkOk (K+1) (m.change c) :=
 ⟨h.cut,h.fail,Nat.le_succ_of_le h.made,by show m.kept.length+(m.pend++[c]).length≤_;rw [List.length_append];have:=h.pend;simp only [List.length_singleton];omega,
  by show (c.on m.names).length≤_;have:=Zcs c m.names;have:=h.names;omega,fun i hi=>⟨Nat.le_succ_of_le (h.bytes i hi).1,(h.bytes i hi).2⟩⟩
theorem DkOk.create (h:DkOk K m) (n:Nm):DkOk (K+1) (m.create n).1:=by
 unfold Dk.create
 split
 ·exact h.mono (Nat.le_succ _)
 ·split
  ·exact h.mono (Nat.le_succ _)
  ·split
   ·exact h.mono (Nat.le_succ _)
   ·split
    ·exact h.mono (Nat.le_succ _)
    ·refine h.thing (Nat.le_succ _) fun hs=>?_
     have h1:=hs.change (.made n m.sooner.made)
     refine ⟨h1.cut,h1.fail,Nat.succ_le_succ hs.made,h1.pend,h1.names,fun i hi=>?_⟩
     show (if i=m.sooner.made then (⟨[],0⟩:Fl) else m.sooner.files i).bytes.length≤_∧(if i=m.sooner.made then (⟨[],0⟩:Fl) else m.sooner.files i).kept≤(if i=m.sooner.made then (⟨[],0⟩:Fl) else m.sooner.files i).bytes.length
     split
     ·exact ⟨Nat.zero_le _,Nat.le_refl _⟩
     ·have:i < m.sooner.made+1:=hi
      exact h1.bytes i (show i < m.sooner.made by omega)
theorem DkOk.append (h:DkOk K m) (n:Nm) (b:List UInt8):DkOk (K+b.length) (m.append n b).1:=by
 unfold Dk.append
 split
 ·exact h.mono (Nat.le_add_right _ _)
 ·split
  ·exact h.mono (Nat.le_add_right _ _)
  ·rename_i f hf
   split
   ·exact h.mono (Nat.le_add_right _ _)
   ·refine h.thing (Nat.le_add_right _ _) fun hs=>?_
    have h1:=hs.mono (Nat.le_add_right K b.length)
    refine ⟨h1.cut,h1.fail,h1.made,h1.pend,h1.names,fun i hi=>?_⟩
    show (if i=f then (⟨(m.sooner.files f).bytes++b,(m.sooner.files f).kept⟩:Fl) else m.sooner.files i).bytes.length≤_∧(if i=f then (⟨(m.sooner.files f).bytes++b,(m.sooner.files f).kept⟩:Fl) else m.sooner.files i).kept≤(if i=f then (⟨(m.sooner.files f).bytes++b,(m.sooner.files f).kept⟩:Fl) else m.sooner.files i).bytes.length
    by_cases e:i=f
    ·subst e
     rw [if_pos rfl]
     have:=hs.bytes i hi
     dsimp only
     rw [List.length_append]
     omega
    ·rw [if_neg e]
     exact h1.bytes i hi
theorem DkOk.sync (h:DkOk K m) (n:Nm):DkOk K (m.sync n).1:=by
 unfold Dk.sync
 split
 ·exact h
 ·split
  ·exact h
  ·rename_i f hf
   refine h.thing (Nat.le_refl _) fun hs=>⟨hs.cut,hs.fail,hs.made,hs.pend,hs.names,fun i hi=>?_⟩
   show (if i=f then (⟨(m.sooner.files f).bytes,(m.sooner.files f).bytes.length⟩:Fl) else m.sooner.files i).bytes.length≤_∧(if i=f then (⟨(m.sooner.files f).bytes,(m.sooner.files f).bytes.length⟩:Fl) else m.sooner.files i).kept≤(if i=f then (⟨(m.sooner.files f).bytes,(m.sooner.files f).bytes.length⟩:Fl) else m.sooner.files i).bytes.length
   by_cases e:i=f
   ·subst e
    rw [if_pos rfl]
    exact ⟨(hs.bytes i hi).1,Nat.le_refl _⟩
   ·rw [if_neg e]
    exact hs.bytes i hi
theorem DkOk.rename (h:DkOk K m) (n to:Nm):DkOk (K+1) (m.rename n to).1:=by
 unfold Dk.rename
 split
 ·exact h.mono (Nat.le_succ _)
 ·split
  ·exact h.mono (Nat.le_succ _)
  ·split
   ·exact h.mono (Nat.le_succ _)
   ·refine h.thing (Nat.le_succ _) fun hs=>?_
    exact (hs.nums (m':={ m.sooner with used:=wrap64 (m.sooner.used - (m.sooner.size to).1) }) hs.cut hs.fail rfl rfl rfl rfl rfl).change _
theorem DkOk.remove (h:DkOk K m) (n:Nm):DkOk (K+1) (m.remove n).1:=by
 unfold Dk.remove
 split
 ·exact h.mono (Nat.le_succ _)
 ·split
  ·exact h.mono (Nat.le_succ _)
  ·rename_i f hf
   refine h.thing (Nat.le_succ _) fun hs=>?_
   exact (hs.nums (m':={ m.sooner with used:=wrap64 (m.sooner.used - (m.sooner.files f).bytes.length) }) hs.cut hs.fail rfl rfl rfl rfl rfl).change _
theorem DkOk.keep (h:DkOk K m) (k:Nat):DkOk K (m.keep k) :=
 ⟨h.cut,h.fail,h.made,by
  show (redo (m.pend.take k) m.kept).length+0≤K
  have:=h.pend
  exact redo_short _ _ (by rw [List.length_take];omega),h.names,h.bytes⟩
theorem DkOk.syncDir (h:DkOk K m):DkOk K m.syncDir.1:=h.thing (Nat.le_refl _) fun hs=>hs.keep _
end
end Go.Proofs.YtkelafkbmnjpeaaGreat
namespace Go.Proofs.YtkelafkbmnjpeaaGreat
open Go.RowKit
end Go.Proofs.YtkelafkbmnjpeaaGreat
namespace Go.Proofs.YtkelafkbmnjpeaaGreat
open Go.RowKit Go.Maps Go.WideMaps
def DkIn (B:Nat) (w0 w:World) (d:Nat) (out:Nat→Prop) (m:Dk):Prop :=
 ∃ own G,DkAt w d own G m∧B≤d∧(∀ k,own k→B≤k)∧Below B w0 w∧B≤w.heap.size∧∀ k,out k→k < w.heap.size∧k≠d∧¬ own k
abbrev Stays (B:Nat) (out:Nat→Prop) (w w':World):Prop:=Zc (fun k=>B≤k∧¬ out k) w w'
section
variable {B d K:Nat} {w0 w w':World} {out:Nat→Prop} {m:Dk}
theorem Stays.grows (h:Grows w w'):Stays B out w w':=Zc.grows h
theorem DkIn.size (h:DkIn B w0 w d out m):B≤w.heap.size:=by obtain ⟨_,_,_,_,_,_,h,_⟩:=h;exact h
theorem DkIn.low (h:DkIn B w0 w d out m):Below B w0 w:=by obtain ⟨_,_,_,_,_,h,_⟩:=h;exact h
theorem DkIn.lt (h:DkIn B w0 w d out m) {k:Nat} (hk:out k):k < w.heap.size:=by obtain ⟨_,_,_,_,_,_,_,h⟩:=h;exact (h k hk).1
theorem DkIn.grow (h:DkIn B w0 w d out m) (hg:Grows w w'):DkIn B w0 w' d out m:=by
 obtain ⟨own,G,h1,h2,h3,h4,h5,h6⟩:=h
 exact ⟨own,G,h1.grow hg,h2,h3,h4.trans (Below.mono hg h5),Nat.le_trans h5 hg.size,fun k hk=>⟨Nat.lt_of_lt_of_le (h6 k hk).1 hg.size,(h6 k hk).2⟩⟩
theorem DkIn.more (h:DkIn B w0 w d out m) (hg:Grows w w'):DkIn B w0 w' d (fun k=>out k∨(w.heap.size≤k∧k < w'.heap.size)) m:=by
 obtain ⟨own,G,h1,h2,h3,h4,h5,h6⟩:=h
 refine ⟨own,G,h1.grow hg,h2,h3,h4.trans (Below.mono hg h5),Nat.le_trans h5 hg.size,?_⟩
 rintro k (hk | hk)
 ·exact ⟨Nat.lt_of_lt_of_le (h6 k hk).1 hg.size,(h6 k hk).2⟩
 ·exact ⟨hk.2,fun e=>by have:=h1.top.lt;omega,fun e=>by have:=h1.rest.lt k e;omega⟩
theorem DkIn.less {out':Nat→Prop} (h:DkIn B w0 w d out m) (ho:∀ k,out' k→out k):DkIn B w0 w d out' m:=by
 obtain ⟨own,G,h1,h2,h3,h4,h5,h6⟩:=h
 exact ⟨own,G,h1,h2,h3,h4,h5,fun k hk=>h6 k (ho k hk)⟩
theorem DkIn.new {x:Int} (h:DkNew w d w' (Dk.new x)) (hB:B≤w.heap.size) (hb:Below B w0 w) (hout:∀ k,out k→k < w.heap.size):DkIn B w0 w' d out (Dk.new x):=by
 obtain ⟨own,G,h1,h2,h3,h4⟩:=h
 exact ⟨own,G,h1,Nat.le_trans hB h2,fun k hk=>Nat.le_trans hB (h3 k hk),hb.trans (Below.mono h4 hB),Nat.le_trans hB h4.size,fun k hk=>⟨Nat.lt_of_lt_of_le (hout k hk) h4.size,fun e=>by have:=hout k hk;omega,fun e=>by have:=hout k hk;have:=h3 k e;omega⟩⟩
theorem DkIn.other (h:DkIn B w0 w d out m) {oth:Nat→Prop} (hs:Zc oth w w') (ho:∀ k,oth k→k < w.heap.size→out k) (hB:∀ k,oth k→B≤k):DkIn B w0 w' d out m:=by
 obtain ⟨own,G,h1,h2,h3,h4,h5,h6⟩:=h
 refine ⟨own,G,h1.spare hs fun k hk e=>?_,h2,h3,h4.trans (hs.below h5 fun k hk e=>by have:=hB k e;omega),Nat.le_trans h5 hs.size,fun k hk=>⟨Nat.lt_of_lt_of_le (h6 k hk).1 hs.size,(h6 k hk).2⟩⟩
 have:=h6 k (ho k e (h1.lt hk))
 rcases hk with hk | hk
 ·exact this.2.1 hk
 ·exact this.2.2 hk
theorem DkIn.to {f:FuncId} {args:Array Value} {v:Ending} {m':Dk} (h:DkIn B w0 w d out m) (hc:∀ own G,DkAt w d own G m→(∀ k,own k→B≤k)→(∀ k,out k→k≠d∧¬ own k)→Calls Tryz.prog f args w fun e w'=>e=v∧DkTo w d own w' m') :
 Calls Tryz.prog f args w fun e w'=>e=v∧DkIn B w0 w' d out m'∧Stays B out w w':=by
 obtain ⟨own,G,h1,h2,h3,h4,h5,h6⟩:=h
 refine (hc own G h1 h3 fun k hk=>(h6 k hk).2).mono ?_
 rintro e w' ⟨rfl,own',G',k1,k2,k3⟩
 have k2':Stays B out w w':=k2.wider fun k _ hk=>⟨hk.elim (fun e=>e ▸ h2) (h3 k),fun ho=>hk.elim (h6 k ho).2.1 (h6 k ho).2.2⟩
 refine ⟨rfl,⟨own',G',k1,h2,fun k hk=>(k3 k hk).elim (h3 k) (Nat.le_trans h5),h4.trans (k2'.below h5 fun k hk e=>by have:=e.1;omega),Nat.le_trans h5 k2'.size,fun k hk=>⟨Nat.lt_of_lt_of_le (h6 k hk).1 k2.size,(h6 k hk).2.1,fun e=>?_⟩⟩,k2'⟩
 rcases k3 k e with e | e
 ·exact (h6 k hk).2.2 e
 ·have:=(h6 k hk).1;omega
theorem DkIn.did {f:FuncId} {args:Array Value} {r:Dk×Int} (h:DkIn B w0 w d out m) (hc:∀ own G,DkAt w d own G m→(∀ k,own k→B≤k)→(∀ k,out k→k≠d∧¬ own k)→Calls Tryz.prog f args w fun e w'=>Did w d own r e w') {v:Int} {m':Dk} (h1:r.2=v) (h2:r.1=m') :
 Calls Tryz.prog f args w fun e w'=>e=.returned (.int .i64 v)∧DkIn B w0 w' d out m'∧Stays B out w w':=by
 subst h1 h2
 exact h.to hc
/-! The calls. -/
theorem Zgj (n:Nm) (h:DkIn B w0 w d out m) (ok:DkOk K m) (hK:K≤1000000000) (hn:n.length≤1000000) {v:Int} {m':Dk} (h1:(m.create n).2=v) (h2:(m.create n).1=m'):Calls Tryz.prog 129 #[.pointer (some ⟨d,0,none⟩),.string ⟨n.toArray⟩] w fun e w'=>e=.returned (.int .i64 v)∧DkIn B w0 w' d out m'∧Stays B out w w' :=
 h.did (fun own G ha _ _=>Zop w n ha (ok.fit hK) hn) h1 h2
theorem Zl3 (n:Nm) (h:DkIn B w0 w d out m) (ok:DkOk K m) (hK:K≤1000000000) (hn:n.length≤1000000) {v:Int} {m':Dk} (h1:(m.sync n).2=v) (h2:(m.sync n).1=m'):Calls Tryz.prog 72 #[.pointer (some ⟨d,0,none⟩),.string ⟨n.toArray⟩] w fun e w'=>e=.returned (.int .i64 v)∧DkIn B w0 w' d out m'∧Stays B out w w' :=
 h.did (fun own G ha _ _=>Ztt w n ha (ok.fit hK) (by unfold maxLen;omega)) h1 h2
theorem Zgk (n:Nm) (h:DkIn B w0 w d out m) (ok:DkOk K m) (hK:K≤1000000000) (hn:n.length≤1000000) {v:Int} {m':Dk} (h1:(m.remove n).2=v) (h2:(m.remove n).1=m'):Calls Tryz.prog 133 #[.pointer (some ⟨d,0,none⟩),.string ⟨n.toArray⟩] w fun e w'=>e=.returned (.int .i64 v)∧DkIn B w0 w' d out m'∧Stays B out w w' :=
 h.did (fun own G ha _ _=>Zom w n ha (ok.fit hK) hn) h1 h2
theorem Zqu (n to:Nm) (h:DkIn B w0 w d out m) (ok:DkOk K m) (hK:K≤1000000000) (hn:n.length≤1000000) (ht:to.length≤1000000) {v:Int} {m':Dk} (h1:(m.rename n to).2=v) (h2:(m.rename n to).1=m'):Calls Tryz.prog 202 #[.pointer (some ⟨d,0,none⟩),.string ⟨n.toArray⟩,.string ⟨to.toArray⟩] w fun e w'=>e=.returned (.int .i64 v)∧DkIn B w0 w' d out m'∧Stays B out w w' :=
 h.did (fun own G ha _ _=>Zol w n to ha (ok.fit hK) hn ht) h1 h2
theorem Zov (h:DkIn B w0 w d out m) (ok:DkOk K m) (hK:K≤1000000000) {v:Int} {m':Dk} (h1:m.syncDir.2=v) (h2:m.syncDir.1=m'):Calls Tryz.prog 203 #[.pointer (some ⟨d,0,none⟩)] w fun e w'=>e=.returned (.int .i64 v)∧DkIn B w0 w' d out m'∧Stays B out w w' :=
 h.did (fun own G ha _ _=>Zlx w ha (ok.fit hK)) h1 h2
theorem Za8 (n:Nm) {A:Option Addr} {nb cb:Nat} {bs:List UInt8} (h:DkIn B w0 w d out m) (ok:DkOk K m) (hK:K≤1000000000) (hn:n.length≤1000000) (hs:Sl w A nb cb bs) (hoff:∀ ad,A=some ad→bs≠[]→ad.block < B∨out ad.block) (hnb:nb≤1000000000) {v:Int} {m':Dk} (h1:(m.append n bs).2=v) (h2:(m.append n bs).1=m') :
 Calls Tryz.prog 130 #[.pointer (some ⟨d,0,none⟩),.string ⟨n.toArray⟩,.slice A nb cb] w fun e w'=>e=.returned (.int .i64 v)∧DkIn B w0 w' d out m'∧Stays B out w w':=by
 have hd:B≤d:=by obtain ⟨_,_,_,h,_⟩:=h;exact h
 exact h.did (fun own G ha hb ho=>Zon w n ha (ok.fit hK) (by unfold maxLen;omega) hs (fun ad e hne=>(hoff ad e hne).elim (fun hlt=>⟨by omega,fun e=>by have:=hb _ e;omega⟩) (ho _)) hnb) h1 h2
theorem Zwh (x:Int) (h:DkIn B w0 w d out m):Calls Tryz.prog 15 #[.pointer (some ⟨d,0,none⟩),.int .i64 x] w fun e w'=>e=.returned (.tuple #[])∧DkIn B w0 w' d out (m.setFail x)∧Stays B out w w' :=
 h.to fun own G ha _ _=>(Zty w x ha).mono fun e w' ⟨he,h1,h2⟩=>⟨he,DkTo.same h1 h2⟩
theorem Zwi (dirs:Int) {l:List Int} {A:Option Addr} {n c:Nat} (h:DkIn B w0 w d out m) (ok:DkOk K m) (hK:K≤1000000000) (hI:Ints w A n c l) (hl:∀ x∈l,-9223372036854775808≤x∧x≤9223372036854775807) (hoff:∀ ad,A=some ad→l≠[]→ad.block < B∨out ad.block) :
 Calls Tryz.prog 19 #[.pointer (some ⟨d,0,none⟩),.int .i64 dirs,.slice A n c] w fun e w'=>e=.returned (.tuple #[])∧DkIn B w0 w' d out (m.boot dirs l)∧Stays B out w w':=by
 have hd:B≤d:=by obtain ⟨_,_,_,h,_⟩:=h;exact h
 exact h.to fun own G ha hb ho=>Zto w dirs ha (ok.fit hK) hI hl (fun ad e hne=>(hoff ad e hne).elim (fun hlt=>⟨by omega,fun e=>by have:=hb _ e;omega⟩) (ho _))
theorem Zwj (n:Nm) (x k:Int) (h:DkIn B w0 w d out m) (ok:DkOk K m) (hK:K≤1000000000) (hn:n.length≤1000000) (hx:-9223372036854775808≤x∧x≤9223372036854775807) (hk:-9223372036854775808≤k∧k≤9223372036854775807) {r:Option (List UInt8)×Int} (hr:m.read n x k=r) :
 Calls Tryz.prog 93 #[.pointer (some ⟨d,0,none⟩),.string ⟨n.toArray⟩,.int .i64 x,.int .i64 k] w fun e w'=>Zh1 w r e w':=by
 subst hr
 obtain ⟨own,G,h1,_⟩:=h
 exact Zts w n x k h1 (ok.fit hK) (by unfold maxLen;omega) hx hk
theorem Zep (n:Nm) (h:DkIn B w0 w d out m) (hn:n.length≤1000000) {v:Int} {b:Bool} (h1:m.size n=(v,b)):Calls Tryz.prog 48 #[.pointer (some ⟨d,0,none⟩),.string ⟨n.toArray⟩] w fun e w'=>e=.returned (.tuple #[.int .i64 v,.bool b])∧w=w':=by
 obtain ⟨own,G,h2,_⟩:=h
 have:=Zng w h2 (n:=n) (by unfold maxLen;omega)
 rw [h1] at this
 exact this
theorem Zwk (h:DkIn B w0 w d out m):Calls Tryz.prog 30 #[.pointer (some ⟨d,0,none⟩)] w fun e w'=>e=.returned (.int .i64 m.done)∧w=w':=by
 obtain ⟨own,G,h2,_⟩:=h
 exact Ztx w h2
theorem Zl4 (h:DkIn B w0 w d out m) (ok:DkOk K m) (hK:K≤1000000000):Calls Tryz.prog 26 #[.pointer (some ⟨d,0,none⟩)] w fun e w' =>
 ∃ A c,e=.returned (.slice A m.names.length c)∧w'.ownsRow w.heap.size 9 1 (.slice A m.names.length c) m.names.length ((m.names.map (·.1)).map strB)∧Grows w w':=by
 obtain ⟨own,G,h2,_⟩:=h
 refine (Ztr w h2 (ok.fit hK)).mono ?_
 rintro e w' ⟨v,rfl,hr,hg⟩
 obtain ⟨A,c,rfl,_⟩:=Zo hr
 exact ⟨A,c,rfl,hr,hg⟩
end
end Go.Proofs.YtkelafkbmnjpeaaGreat
namespace Go.Proofs.YtkelafkbmnjpeaaGreat
open Go.RowKit Go.Maps Go.WideMaps
structure Well (m:Dk):Prop where
 down:m.down=false
 cut:m.cut < 0
 fail:m.fail < 0
def Dk.bump (m:Dk):Dk:={ m with done:=wrap64 (m.done+1) }
section
variable {m:Dk}
theorem Well.soon (h:Well m):m.sooner=m:=by
 have h1:=h.cut
 have h2:=h.fail
 unfold Dk.sooner sooner
 rw [if_neg (by omega),if_neg (by omega)]
theorem Well.thing (h:Well m) (does:Dk→Dk):m.thing does=((does m).bump,0):=by
 have h1:=h.cut
 have h2:=h.fail
 unfold Dk.thing
 rw [if_neg (by rw [h.down];decide),if_neg (by omega),if_neg (by omega),h.soon]
 rfl
theorem Well.create (h:Well m) {n:Nm} (hr:right n=true) (hf:Dir.find n m.names=none) (hl:m.names.length < 4096):m.create n=((m.doCreate n).bump,0):=by
 unfold Dk.create
 rw [if_neg (by rw [h.down];decide),if_neg (by rw [hr];decide),if_neg (by rw [hf];decide),if_neg (by omega),h.thing]
theorem Well.append (h:Well m) {n:Nm} {f:Nat} {b:List UInt8} (hf:Dir.find n m.names=some f) (hl:wrap64 (m.used+b.length)≤m.most):m.append n b=((m.doAppend f b).bump,0):=by
 unfold Dk.append
 rw [if_neg (by rw [h.down];decide),hf]
 dsimp only
 rw [if_neg (by omega),h.thing]
theorem Well.sync (h:Well m) {n:Nm} {f:Nat} (hf:Dir.find n m.names=some f):m.sync n=((m.doSync f).bump,0):=by
 unfold Dk.sync
 rw [if_neg (by rw [h.down];decide),hf]
 dsimp only
 rw [h.thing]
theorem Well.rename (h:Well m) {n to:Nm} {f:Nat} (hf:Dir.find n m.names=some f) (hr:right to=true) (hn:to≠n):m.rename n to=((m.doRename n to).bump,0):=by
 unfold Dk.rename
 rw [if_neg (by rw [h.down];decide),hf]
 dsimp only
 rw [if_neg (by rw [hr];simp [hn]),h.thing]
theorem Well.remove (h:Well m) {n:Nm} {f:Nat} (hf:Dir.find n m.names=some f):m.remove n=((m.doRemove f n).bump,0):=by
 unfold Dk.remove
 rw [if_neg (by rw [h.down];decide),hf]
 dsimp only
 rw [h.thing]
theorem Well.syncDir (h:Well m):m.syncDir=((m.keep m.pend.length).bump,0):=h.thing _
theorem Zb8 {n:Nm} {f:Nat} (hf:Dir.find n m.names=some f):m.size n=(((m.files f).bytes.length:Int),true):=by
 unfold Dk.size
 rw [hf]
theorem Zqt {n:Nm} (hf:Dir.find n m.names=none):m.size n=(0,false):=by
 unfold Dk.size
 rw [hf]
end
end Go.Proofs.YtkelafkbmnjpeaaGreat
namespace Go.Proofs.YtkelafkbmnjpeaaGreat
open Go.RowKit
section
variable (m:Dk) (f:Nat) (b:List UInt8) (n to:Nm)
end
end Go.Proofs.YtkelafkbmnjpeaaGreat
namespace Go.Proofs.YtkelafkbmnjpeaaGreat
open Go.RowKit
theorem Zc9 {n:Nm} {x:Nm×Nat} (h:x.1≠n):∀ l:Dir,Dir.find n (Dir.ins x l)=Dir.find n l
 | []=>by
   unfold Dir.ins Dir.find
   simp [h]
 | y :: r=>by
   have ih:=Zc9 h r
   unfold Dir.ins
   split
   ·unfold Dir.find
    simp [h]
   ·unfold Dir.find at ih ⊢
    rw [List.find?_cons,List.find?_cons]
    split
    ·rfl
    ·exact ih
theorem Zdw {n:Nm} {f:Nat}:∀ {l:Dir},(∀ y∈l,y.1≠n)→Dir.find n (Dir.ins (n,f) l)=some f
 | [],_=>by
   unfold Dir.ins Dir.find
   simp
 | y :: r,h=>by
   have ih:=Zdw (n:=n) (f:=f) (l:=r) fun z hz=>h z (List.mem_cons_of_mem _ hz)
   have hy:(y.1==n)=false:=by rw [beq_eq_false_iff_ne];exact h y List.mem_cons_self
   unfold Dir.ins
   split
   ·unfold Dir.find
    simp
   ·unfold Dir.find at ih ⊢
    rw [List.find?_cons,hy]
    exact ih
theorem Zqs {n:Nm} {l:Dir} {y:Nm×Nat}:y∈Dir.del n l↔y∈l∧y.1≠n:=by
 unfold Dir.del
 rw [List.mem_filter]
 simp
theorem Jj {n x:Nm} (h:n≠x):∀ l:Dir,Dir.find n (Dir.del x l)=Dir.find n l
 | []=>rfl
 | y :: r=>by
   have ih:=Jj h r
   unfold Dir.del Dir.find at ih ⊢
   by_cases hy:y.1=x
   ·have h1:(y.1==x)=true:=by rw [beq_iff_eq];exact hy
    have h2:(y.1==n)=false:=by rw [beq_eq_false_iff_ne,hy];exact fun e=>h e.symm
    rw [List.filter_cons,h1,List.find?_cons,h2]
    exact ih
   ·have h1:(y.1==x)=false:=by rw [beq_eq_false_iff_ne];exact hy
    rw [List.filter_cons,h1]
    simp only [Bool.not_false,if_true]
    rw [List.find?_cons,List.find?_cons]
    split
    ·rfl
    ·exact ih
theorem Zdx (n:Nm) (l:Dir):Dir.find n (Dir.del n l)=none:=by
 unfold Dir.find
 rw [Option.map_eq_none_iff,List.find?_eq_none]
 intro y hy
 have:=(Zqs.1 hy).2
 simpa using this
theorem Zda {n x:Nm} {f:Nat} (h:n≠x) (l:Dir):Dir.find n (Dir.put x f l)=Dir.find n l:=by
 unfold Dir.put
 rw [Zc9 (fun e=>h e.symm),Jj h]
theorem Zbk (n:Nm) (f:Nat) (l:Dir):Dir.find n (Dir.put n f l)=some f :=
 Zdw fun y hy=>(Zqs.1 hy).2
theorem Zfo {n:Nm} {f:Nat} {l:Dir} (h:Dir.find n l=some f):(n,f)∈l:=by
 unfold Dir.find at h
 obtain ⟨p,hp,e⟩:=Option.map_eq_some_iff.1 h
 have h1:=List.find?_some hp
 have h2:=List.mem_of_find?_eq_some hp
 have h1:p.1=n:=by simpa using h1
 subst h1;subst e
 exact h2
/-! What was synced, and one more file beside it. -/
structure KI (m:Dk) (A B:List UInt8):Prop where
 file:m.files 0=⟨A++B,A.length⟩
 kept:Dir.find [120] m.kept=some 0
 pend:∀ c∈m.pend,∃ n f,c=.made n f∧n≠[120]
 made:1≤m.made
 other:∀ n f,n≠[120]→Dir.find n m.names=some f→f≠0
section
variable {m:Dk} {A B:List UInt8}
end
end Go.Proofs.YtkelafkbmnjpeaaGreat
