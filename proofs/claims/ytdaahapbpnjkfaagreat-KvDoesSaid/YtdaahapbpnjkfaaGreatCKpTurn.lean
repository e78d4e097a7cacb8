/-
The program's turn: a log of all pairs, with puts done to them, in the other area. Conditions: at most 99,999 pairs and puts together, of at most 1,000,000,000 bytes together; the disk has taken at most 700,000 calls.
-/
import Derived.Test.YtdaahapbpnjkfaaGreatCKpBegin
import Derived.Test.YtdaahapbpnjkfaaGreatCRdPuts
import Derived.Test.YtdaahapbpnjkfaaGreatCTrCopyT
import Derived.Deep.RegionWith
namespace Go.Proofs.YtdaahapbpnjkfaaGreat
open Go.RowKit
section
variable {w w1 w2 W:World} {T T1:Nat->Prop} {q g b gt b' gt':Nat} {F F' F1:Nat->Prop} {h:Nat} {s s1 s2 s':Dsk} {k k1 k2 k':KvS}
theorem PTo.make (p:PSt w T q g b gt F h s k) (hsp:Spared w W (fun x=>F x\/x=b\/x=q\/x=gt)) (hd:DiskAt W g F' s') (hl:Blk W b' (lgCells g k'.lg) 145) (hx:Blk W q (psCells g b' gt' (k'.a*h) k'.down) 94) (ht:TreeAt W (fun x=>T x\/F' x\/x=b'\/x=gt') gt' anyRoom k'.L) (hb:b'=b\/w.heap.size<=b') (hg:gt'=gt\/w.heap.size<=gt') (hF:∀ x,F' x->F x\/w.heap.size<=x) (nb: ¬ F' b') (nt: ¬ F' gt') (bt:b'≠gt') (hf:k'.Fits h s') (hK:s'.K.length=s.K.length):PTo w T q g b gt F h s' k' W:=by
 have lq:=p.box.lt
 refine ⟨fun x=>T x\/F' x\/x=b'\/x=gt',b',gt',F',⟨hd,hl,hx,ht,fun x hy=> ?_,fun x hy=> ?_,nb,fun hy=> ?_,nt,?_,bt,?_,hf,by rw [hK];exact p.half⟩,hsp,fun _ h=> .inl h,fun x hy=> ?_,fun x hy=> ?_⟩
 · rcases hy with hy | hy | hy | hy
   · exact .inr (.inl hy)
   · exact .inr (.inr (.inl hy))
   · exact .inl (p.ins x (.inr (.inr (.inl hy))))
   · exact .inr (.inr (.inr hy))
 · rcases hy with hy | hy | hy | hy
   · exact Nat.lt_of_lt_of_le (p.tlt x hy) hsp.size
   · exact hd.lt x hy
   · rw [hy];exact hl.lt
   · rw [hy];exact ht.lt
 · exact (hF q hy).elim p.nq (fun h=>by omega)
 · rcases hb with h1 | h1
   · rw [h1];exact p.bq
   · omega
 · rcases hg with h1 | h1
   · rw [h1];exact p.qt
   · omega
 · rcases hy with hy | hy | hy | hy
   · exact .inl hy
   · exact (hF x hy).imp (fun h=>p.ins x (.inl h)) id
   · rcases hb with h1 | h1
     · exact .inl (p.ins x (.inr (.inl (hy.trans h1))))
     · exact .inr (by omega)
   · rcases hg with h1 | h1
     · exact .inl (p.ins x (.inr (.inr (.inr (hy.trans h1)))))
     · exact .inr (by omega)
 · rcases hy with hy | hy | hy
   · exact (hF x hy).imp .inl id
   · rcases hb with h1 | h1
     · exact .inl (.inr (.inl (hy.trans h1)))
     · exact .inr (by omega)
   · rcases hg with h1 | h1
     · exact .inl (.inr (.inr (hy.trans h1)))
     · exact .inr (by omega)
end
def turnedK (h:Nat) (s:Dsk) (k:KvS) (M:List Kv):KvS:=if (turnL h s k M).1=0 then { (turnL h s k M).2.2 with L:=M } else (turnL h s k M).2.2
set_option maxRecDepth 100000 in
set_option maxHeartbeats 4000000 in
theorem kturn_any (w:World) (T:Nat->Prop) (q g b gt:Nat) (F:Nat->Prop) (h:Nat) (s:Dsk) (k:KvS) (A:Option Addr) (ps:List PPut) (n c m:Nat) (p:PSt w T q g b gt F h s k) (hs:∀ W,Below w.heap.size w W->PutsSeen W A ps) (hn:ps.length=n) (hl:k.L.length+n<=99999) (hz:sizeT k.L+sizeP (valsOf ps)<=1000000000) (hbt:(batchL (allP (doAll (valsOf ps) k.L))).length<=140737488000000) (hf:s.Few m) (hm:m<=700000):
 Calls Tryz.prog 54 #[.pointer (some ⟨q,0,none⟩),.slice A n c] w fun e w'=>e= .returned (.int .i64 (turnL h s k (doAll (valsOf ps) k.L)).1)/\PTo w T q g b gt F h (turnL h s k (doAll (valsOf ps) k.L)).2.1 (turnedK h s k (doAll (valsOf ps) k.L)) w':=by
 have HP:=Lib.hid p
 have HS:=Lib.hid hs
 have hK4:=p.disk.ok.hi
 have hhalf:=p.half
 have ha1:=p.fits.two
 have hg1:=p.fits.log.gen1
 have hg2:=p.fits.log.gen2
 have HCE:=Lib.hid p.cells
 have HGEN:Hid (∀ W,Below w.heap.size w W->Calls Tryz.prog 67 #[.pointer (some ⟨b,0,none⟩)] W fun e w'=>e= .returned (.int .i64 k.lg.gen)/\w'=W):=fun W hW=>gen_any (p.log.below hW p.log.lt)
 obtain ⟨M,hM⟩:∃ M,M=doAll (valsOf ps) k.L:=⟨_,rfl⟩
 rw [<-hM] at hbt ⊢
 have HM:=Lib.hid hM
 have hsrt:Srt k.L:=p.tree.srt
 have hMl:M.length<=99999:=by
  have h5:=doAll_length (l:=valsOf ps) hsrt
  rw [valsOf_length,hn,<-hM] at h5
  omega
 have HML:=Lib.hid hMl
 have HBT:=Lib.hid hbt
 have HF:=Lib.hid hf
 have HMM:=Lib.hid hm
 have HN:=Lib.hid hn
 have HL:=Lib.hid hl
 have HZ:=Lib.hid hz
 have HHALF:=Lib.hid hhalf
 have hh4:h<=2048:=by omega
 obtain ⟨gen,hgen⟩:∃ gen,gen=k.lg.gen:=⟨_,rfl⟩
 rw [<-hgen] at HGEN hg1 hg2
 have HG:=Lib.hid hgen
 obtain ⟨f0,hf0⟩:∃ f0,f0=k.a*h:=⟨_,rfl⟩
 rw [<-hf0] at HCE
 have HF0:=Lib.hid hf0
 have hof:h-f0=(1-k.a)*h/\f0<=h:=by
  rw [hf0]
  rcases Nat.lt_or_ge k.a 1 with h1 | h1
  · obtain h2:k.a=0:=by omega
    rw [h2];omega
  · obtain h2:k.a=1:=by omega
    rw [h2];omega
 have HOF:=Lib.hid hof
 obtain ⟨x0,x1,x2,x3,_⟩:=HCE.out w (Below.refl _ _)
 clear p hs hM hsrt hMl hbt hf hm hn hl hz hhalf hgen hf0 hof hK4
 by_cases hg:1152921504606846976<=gen
 · have HT:Hid (turnL h s k M=(4,s,k)):=by show _=_;unfold turnL;rw [if_pos (by rw [<-HG.out];exact hg)]
   have HTK:Hid (turnedK h s k M=k):=by show _=_;unfold turnedK;rw [HT.out];exact if_neg (show ¬ ((4:Int)=0) by decide)
   rw [HT.out,HTK.out]
   obtain rfl:gen=1152921504606846976:=by omega
   go_enter Tryz.func54,Tryz.ntmps54
   go_wp2_with fail
   with_reducible refine (HGEN.out _ (Below.refl _ _)).mono ?_
   rintro e w1 ⟨rfl,rfl⟩
   go_wp2_with fail
   go_ret
   exact ⟨rfl,.still HP.out (Below.refl _ _)⟩
 · obtain ⟨lo,hbg,hok,hno⟩:=turn_bg (M:=M) HP.out.fits (by rw [<-HG.out];exact hg)
   have HTF:=Lib.hid (turn_fits (M:=M) HP.out.fits)
   have HTKE:Hid (turnedK h s k M=if (turnL h s k M).1=0 then { (turnL h s k M).2.2 with L:=M } else (turnL h s k M).2.2):=rfl
   rw [HTKE.out]
   obtain ⟨⟨E,t',k'⟩,hR⟩:∃ R,R=turnL h s k M:=⟨_,rfl⟩
   rw [<-hR] at hbg hok hno HTF ⊢
   rw [<-HOF.out.1,<-HG.out] at hbg
   obtain ⟨kk,hkk⟩:∃ kk,kk=(if E=0 then { k' with L:=M } else k'):=⟨_,rfl⟩
   rw [<-hkk]
   have HKK:=Lib.hid hkk
   have HOK:=Lib.hid hok
   have HNO:=Lib.hid hno
   have HBG:=Lib.hid hbg
   have hgn:(gen==1152921504606846976)=false:=by rw [beq_eq_false_iff_ne];omega
   have hw1:IntKind.i64.wrap ((h:Int)-(f0:Int))=((h-f0:Nat):Int):=by have:=HOF.out.2;rw [IntKind.wrap_i64];omega
   have hw3:IntKind.i64.wrap (gen+1)=gen+1:=by rw [IntKind.wrap_i64];omega
   have HCO:=Lib.hid (tcopy_any w T HP.out.tlt gt anyRoom k.L HP.out.tree)
   have HPX:=Lib.hid HP.out.box
   clear hok hno hbg hR hg1 hg2 hkk
   go_enter Tryz.func54,Tryz.ntmps54
   go_wp2_with fail
   with_reducible refine (HGEN.out _ (Below.refl _ _)).mono ?_
   rintro e w1 ⟨rfl,rfl⟩
   go_wp2_with fail
   with_reducible refine HCO.out.mono ?_
   rintro e w2 ⟨hb2,gn,rfl,hg1,hg2,ht2⟩
   have B2:=Lib.hid hb2
   have HGN:Hid (w1.heap.size<=gn/\gn<w2.heap.size):=⟨hg1,hg2⟩
   have HAP:Hid (Calls Tryz.prog 53 #[.pointer (some ⟨gn,0,none⟩),.slice A n c] w2 fun e w'=>e= .returned (.tuple #[])/\TreeAt w' (fun x=>T x\/x=gn) gn anyRoom (doAll (valsOf ps) k.L)/\Spared w2 w' (fun b=>b=gn)):=
    apply_any w2 _ (fun x hx=>by
     have:=hb2.size
     rcases hx with hx | hx
     · have:=HP.out.tlt x hx;omega
     · omega) gn k.L ht2 A ps n c (fun W hW=>HS.out W (hW.below hb2 (fun b hb=>by omega))) HN.out HL.out HZ.out
   rw [<-HM.out] at HAP
   clear hb2 hg1 hg2 ht2 HCO
   go_wp2_with fail
   with_reducible refine HAP.out.mono ?_
   rintro e w3 ⟨rfl,ht3,hs3⟩
   have T3:=Lib.hid ht3
   have B3:Hid (Below w1.heap.size w1 w3):=hs3.below B2.out (fun b hb=>by have:=HGN.out.1;omega)
   have bd:Below w3.heap.size w3 w3.drew:=(Below.refl _ _).drew
   have BD:Below w1.heap.size w1 w3.drew:=B3.out.drew
   have HHF:Hid (Calls Tryz.prog 40 #[.pointer (some ⟨g,0,none⟩)] w3.drew fun e w'=>e= .returned (.int .i64 (h:Int))/\w'=w3.drew):=half_any (HP.out.disk.still BD) HHALF.out
   have HGD:=Lib.hid (HGEN.out _ BD)
   have HBE:Hid (Calls Tryz.prog 44 #[.pointer (some ⟨q,0,none⟩),.int .i64 ((h-f0:Nat):Int),.int .i64 (gen+1),.pointer (some ⟨gn,0,none⟩)] w3.drew (KBegun w3.drew q g gn (h-f0) F t' E lo (.int .i64 (f0:Int)) (.pointer (some ⟨b,0,none⟩)) (.pointer (some ⟨gt,0,none⟩)) (.bool (!k.down)))):=by
    refine kbegin_any w3.drew _ q g gn (h-f0) h F s t' (gen+1) E M lo m _ _ _ _ (HP.out.disk.still BD) ?_ HP.out.nq HHALF.out (T3.out.below bd) HML.out HBT.out HBG.out HF.out HMM.out (by omega)
    have:=HPX.out.below BD HPX.out.lt
    rw [<-HF0.out] at this
    exact this
   have HTAIL:Hid (∀ (e:Ending) (W:World),KBegun w3.drew q g gn (h-f0) F t' E lo (.int .i64 (f0:Int)) (.pointer (some ⟨b,0,none⟩)) (.pointer (some ⟨gt,0,none⟩)) (.bool (!k.down)) e W->e= .returned (.int .i64 E)/\PTo w1 T q g b gt F h t' kk W):=by
    rintro e W ⟨b9,F9,rfl,hd9,hl9,hb9,hs9,hg9,hc9⟩
    have htot:Spared w1 W (fun x=>F x\/x=q):=(Spared.of_below BD _).trans hs9 (fun x hx=> .inl hx)
    have hs3':Spared w3 W (fun x=>F x\/x=q):=(Spared.of_below bd _).trans hs9 (fun x hx=> .inl hx)
    have z3:=B3.out.size
    have lq:=HP.out.box.lt
    have zd:w3.drew.heap.size=w3.heap.size:=rfl
    rw [zd] at hb9
    have hT:∀ x,(F x\/x=q)->T x:=fun x hx=>hx.elim (fun h=>HP.out.ins x (.inl h)) (fun h=>HP.out.ins x (.inr (.inr (.inl h))))
    have hG1:∀ x,F9 x->F x\/w3.heap.size<=x:=fun x hx=>hg9 x hx
    have hF1:∀ x,F9 x->F x\/w1.heap.size<=x:=fun x hx=>(hG1 x hx).imp id (fun h=>by omega)
    have hgn1:=HGN.out.1
    have hgn2:gn<w3.heap.size:=T3.out.lt
    refine ⟨rfl,?_⟩
    rw [HKK.out]
    rcases hc9 with ⟨rfl,hx9⟩ | ⟨hE,hx9⟩
    · obtain ⟨hlo,hk⟩:=HOK.out rfl
      rw [if_pos rfl]
      have hka:k'.a=1-k.a:=by rw [hk]
      have hkd:k'.down=k.down:=by rw [hk]
      refine PTo.make HP.out (htot.mono (fun x hx=>hx.elim .inl (fun h=> .inr (.inr (.inl h))))) hd9 (hl9 _ hlo).1 ?_ ?_ (.inr (by omega)) (.inr hgn1) hF1 (hl9 _ hlo).2 (fun h=> ?_) (by omega) ⟨HTF.out.1.half,HTF.out.1.two,HTF.out.1.log⟩ HTF.out.2.2
      · show Blk W q (psCells g b9 gn (k'.a*h) k'.down) _
        rw [hka,hkd,<-HOF.out.1]
        exact hx9
      · refine T3.out.moved (hs3'.mono (fun x hx=>⟨.inl (hT x hx),fun e=> ?_⟩)) (fun x hx=> ?_) (.inr (.inr (.inr rfl)))
        · have:=HP.out.tlt x (hT x hx)
          omega
        · rcases hx with hx | hx | hx | hx
          · exact .inl (.inl hx)
          · exact (hG1 x hx).imp (fun h=> .inl (hT x (.inl h))) id
          · exact .inr (by omega)
          · exact .inl (.inr hx)
      · rcases hG1 gn h with h1 | h1
        · have:=HP.out.tlt gn (hT gn (.inl h1))
          omega
        · omega
    · have hk:=(HNO.out hE).2
      have htf:=HTF.out
      rw [if_neg hE]
      rw [hk] at htf ⊢
      have lb:=HP.out.log.lt
      have lg:=HP.out.tree.lt
      refine PTo.make HP.out (htot.mono (fun x hx=>hx.elim .inl (fun h=> .inr (.inr (.inl h))))) hd9 (htot.blk HP.out.log (fun h=>h.elim HP.out.nb HP.out.bq)) ?_ ?_ (.inl rfl) (.inl rfl) hF1 (fun h=> ?_) (fun h=> ?_) HP.out.bt htf.1 htf.2.2
      · show Blk W q (psCells g b gt (k.a*h) k.down) _
        rw [<-HF0.out]
        exact hx9
      · refine HP.out.tree.moved (htot.mono (fun x hx=>⟨hT x hx,fun e=> ?_⟩)) (fun x hx=> ?_) (.inr (.inr (.inr rfl)))
        · subst e
          exact hx.elim HP.out.nt (fun e=>HP.out.qt e.symm)
        · rcases hx with hx | hx | hx | hx
          · exact .inl hx
          · exact (hF1 x hx).imp (fun h=>hT x (.inl h)) id
          · exact .inl (HP.out.ins x (.inr (.inl hx)))
          · exact .inl (HP.out.ins x (.inr (.inr (.inr hx))))
      · exact (hF1 b h).elim HP.out.nb (fun h=>by omega)
      · exact (hF1 gt h).elim HP.out.nt (fun h=>by omega)
   have y0:w3.drew.cell? ⟨q,0,none⟩=some (.pointer (some ⟨g,0,none⟩)):=(HCE.out _ BD).1
   have y1:w3.drew.cell? ⟨q,1,none⟩=some (.int .i64 (f0:Int)):=(HCE.out _ BD).2.1
   have y2:w3.drew.cell? ⟨q,2,none⟩=some (.pointer (some ⟨b,0,none⟩)):=(HCE.out _ BD).2.2.1
   clear ht3 hs3 HAP x0 x1 x2 x3
   go_wp2_with fail
   go_region_with (first
    | (go_at_call 40;(with_reducible refine HHF.out.mono ?_);rintro e w9 ⟨rfl,rfl⟩)
    | (go_at_call 67;(with_reducible refine HGD.out.mono ?_);rintro e w9 ⟨rfl,rfl⟩)
    | (go_at_call 44;(with_reducible refine HBE.out.mono ?_);rintro e w9 hk9;obtain ⟨rfl,hp9⟩:=HTAIL.out _ _ hk9;have P9:=Lib.hid hp9;clear hp9 hk9))
   all_goals
    go_wp2_with fail
    go_ret
    exact ⟨rfl,P9.out⟩
end Go.Proofs.YtdaahapbpnjkfaaGreat
