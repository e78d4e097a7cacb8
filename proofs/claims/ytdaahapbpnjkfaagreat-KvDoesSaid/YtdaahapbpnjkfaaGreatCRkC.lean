/-
The document's Commit. Conditions: at most 99,999 pairs and puts together, of at most 1,000,000,000 bytes together; the disk has taken at most 690,000 calls.
-/
import Derived.Test.YtdaahapbpnjkfaaGreatCKvD
import Derived.Test.YtdaahapbpnjkfaaGreatCKpBegin
import Derived.Deep.RegionHeldLaw
import Derived.Test.YtdaahapbpnjkfaaGreatCKvRows
namespace Go.Proofs.YtdaahapbpnjkfaaGreat
open Go.RowKit
theorem rbegin_to {w:World} {r:Nat} {G:Nat->Prop} {s s':Dsk} {f N gen E:Int} {A:Option Addr} {d:List UInt8} {n c q:Nat} {lo:Option Lg} (h:RefAt w r G s) (hb:BgTo s f N gen d E s' lo) (ha:Seen w A d) (hn:d.length=n) (hl:n<=9223372036854775807) (hf:s.Few q) (hq:q<=700000):
 Calls Tryz.prog 46 #[.pointer (some ⟨r,0,none⟩),.int .i64 f,.int .i64 N,.int .i64 gen,.slice A n c] w fun e w'=>∃ (b:Nat) (G':Nat->Prop),e= .returned (.tuple #[lp lo b,.int .i64 E])/\RefAt w' r G' s'/\(∀ l,lo=some l->Blk w' b (lgCells r l) 102/\ ¬ G' b)/\w.heap.size<=b/\Spared w w' G/\∀ k,G' k->G k\/w.heap.size<=k:=by
 refine (refBegin_any w r G s f N gen A d n c q h ha hn hl hf hq).mono ?_
 rintro e w' (⟨k1,rfl,k3⟩ | ⟨k1,k2,rfl,G',m1,m2,m3⟩ | ⟨k1,k2,b,rfl,hbw,G',m1,m2,m3,m4,m5⟩)
 · rcases hb with ⟨_,rfl,rfl,rfl⟩ | ⟨j,_⟩ | ⟨j,_⟩
   · exact ⟨w.heap.size,G,rfl,h.still k3,(fun l h=>by cases h),Nat.le_refl _,.of_below k3 _,fun _ h=> .inl h⟩
   · exact absurd j k1
   · exact absurd j k1
 · rcases hb with ⟨j,_⟩ | ⟨_,_,rfl,rfl,rfl⟩ | ⟨_,j,_⟩
   · exact absurd k1 j
   · exact ⟨w.heap.size,G',rfl,m1,(fun l h=>by cases h),Nat.le_refl _,m2,m3⟩
   · exact absurd j k2
 · rcases hb with ⟨j,_⟩ | ⟨_,j,_⟩ | ⟨_,_,rfl,rfl,rfl⟩
   · exact absurd k1 j
   · exact absurd k2 j
   · exact ⟨b,G',rfl,m1,(fun l h=>by injection h with h;rw [<-h];exact ⟨m2,m3⟩),hbw,m4,m5⟩
def rsCells (r b gm:Nat) (a:Nat) (down:Bool):List Value:=[.pointer (some ⟨r,0,none⟩),.pointer (some ⟨b,0,none⟩),.int .i64 (a:Int),.pointer (some ⟨gm,0,none⟩),.bool down]
structure RSt (w:World) (T:Nat->Prop) (q r b gm:Nat) (G:Nat->Prop) (h:Nat) (t:Dsk) (k:KvS):Prop where
 disk:RefAt w r G t
 log:Blk w b (lgCells r k.lg) 102
 box:Blk w q (rsCells r b gm k.a k.down) 98
 map:MapAt w T gm 1000000000 k.L
 ins:∀ x,(G x\/x=b\/x=q\/x=gm)->T x
 tlt:∀ x,T x->x<w.heap.size
 nb: ¬ G b
 nq: ¬ G q
 nm: ¬ G gm
 bq:b≠q
 bm:b≠gm
 qm:q≠gm
 fits:k.Fits h t
 half:h=t.K.length/2
def RTo (w:World) (T:Nat->Prop) (q r b gm:Nat) (G:Nat->Prop) (h:Nat) (t':Dsk) (k':KvS) (w':World):Prop:=
 ∃ (T':Nat->Prop) (b' gm':Nat) (G':Nat->Prop),RSt w' T' q r b' gm' G' h t' k'/\Spared w w' (fun x=>G x\/x=b\/x=q)/\(∀ x,T x->T' x)/\(∀ x,T' x->T x\/w.heap.size<=x)/\∀ x,(G' x\/x=b'\/x=gm')->(G x\/x=b\/x=gm)\/w.heap.size<=x
section
variable {w w':World} {T:Nat->Prop} {q r b gm:Nat} {G:Nat->Prop} {h:Nat} {t:Dsk} {k:KvS}
theorem RSt.below (s:RSt w T q r b gm G h t k) (hb:Below w.heap.size w w'):RSt w' T q r b gm G h t k:=
 ⟨s.disk.still hb,s.log.below hb s.log.lt,s.box.below hb s.box.lt,s.map.below hb,s.ins,fun x hx=>Nat.lt_of_lt_of_le (s.tlt x hx) hb.size,s.nb,s.nq,s.nm,s.bq,s.bm,s.qm,s.fits,s.half⟩
theorem RSt.cells (s:RSt w T q r b gm G h t k):∀ W,Below w.heap.size w W->W.cell? ⟨q,0,none⟩=some (.pointer (some ⟨r,0,none⟩))/\W.cell? ⟨q,1,none⟩=some (.pointer (some ⟨b,0,none⟩))/\W.cell? ⟨q,2,none⟩=some (.int .i64 (k.a:Int))/\W.cell? ⟨q,3,none⟩=some (.pointer (some ⟨gm,0,none⟩))/\W.cell? ⟨q,4,none⟩=some (.bool k.down)/\W.cell? ⟨b,3,none⟩=some (.int .i64 k.lg.gen):=fun W hW=>by
 have h1:=s.box.below hW s.box.lt
 have h2:=s.log.below hW s.log.lt
 exact ⟨h1.cell (i:=0) (by simp [rsCells]),h1.cell (i:=1) (by simp [rsCells]),h1.cell (i:=2) (by simp [rsCells]),h1.cell (i:=3) (by simp [rsCells]),h1.cell (i:=4) (by simp [rsCells]),h2.cell (i:=3) (by simp [lgCells])⟩
end
def RTurned (w:World) (T:Nat->Prop) (q r b gm gn:Nat) (G:Nat->Prop) (h:Nat) (M:List Kv) (t':Dsk) (k':KvS) (w':World):Prop:=
 ∃ (T':Nat->Prop) (b':Nat) (G':Nat->Prop),RSt w' T' q r b' gm G' h t' k'/\Spared w w' (fun x=>G x\/x=q)/\(∀ x,T x->T' x)/\(∀ x,T' x->T x\/w.heap.size<=x)/\(∀ x,(G' x\/x=b')->(G x\/x=b)\/w.heap.size<=x)/\MapAt w' T' gn 1000000000 M
theorem RTurned.still {w w':World} {T:Nat->Prop} {q r b gm gn:Nat} {G:Nat->Prop} {h:Nat} {t:Dsk} {k:KvS} {M:List Kv} (s:RSt w T q r b gm G h t k) (m:MapAt w T gn 1000000000 M) (hb:Below w.heap.size w w'):RTurned w T q r b gm gn G h M t k w':=
 ⟨T,b,G,s.below hb,.of_below hb _,fun _ h=>h,fun _ h=> .inl h,fun _ h=> .inl h,m.below hb⟩
theorem RTurned.make {w W:World} {T:Nat->Prop} {q r b gm gn b':Nat} {G G':Nat->Prop} {h:Nat} {t t':Dsk} {k k':KvS} {M:List Kv} (s:RSt w T q r b gm G h t k) (m:MapAt w T gn 1000000000 M) (hsp:Spared w W (fun x=>G x\/x=q)) (hd:RefAt W r G' t') (hl:Blk W b' (lgCells r k'.lg) 102) (hb:b'=b\/w.heap.size<=b') (hx:Blk W q (rsCells r b' gm k'.a k'.down) 98) (hG:∀ x,G' x->G x\/w.heap.size<=x) (hnb: ¬ G' b') (hf:k'.Fits h t') (hK:t'.K.length=t.K.length) (hL:k'.L=k.L) (hng: ¬ G gn) (hnq:gn≠q):RTurned w T q r b gm gn G h M t' k' W:=by
 have lq:=s.box.lt
 have lg:=s.map.lt
 have ln:=m.lt
 have hT:∀ x,(T x\/G' x\/x=b')->T x\/w.heap.size<=x:=fun x hx=>by
  rcases hx with hx | hx | hx
  · exact .inl hx
  · exact (hG x hx).imp (fun h=>s.ins x (.inl h)) id
  · rcases hb with h1 | h1
    · exact .inl (s.ins x (.inr (.inl (hx.trans h1))))
    · exact .inr (by omega)
 have hTg:∀ g,¬ G g->g≠q->∀ x,(G x\/x=q)->T x/\x≠g:=fun g h1 h2 x hx=>by
  rcases hx with hx | hx
  · exact ⟨s.ins x (.inl hx),fun e=>h1 (e ▸ hx)⟩
  · exact ⟨s.ins x (.inr (.inr (.inl hx))),fun e=>h2 (e.symm.trans hx)⟩
 have old:∀ x,x<w.heap.size-> ¬ G x-> ¬ G' x:=fun x h1 h2 h3=>(hG x h3).elim h2 (fun h=>by omega)
 have hbq:b'≠q:=by
  rcases hb with h1 | h1
  · rw [h1];exact s.bq
  · omega
 have hbm:b'≠gm:=by
  rcases hb with h1 | h1
  · rw [h1];exact s.bm
  · omega
 refine ⟨fun x=>T x\/G' x\/x=b',b',G',⟨hd,hl,hx,?_,fun x hx=> ?_,fun x hx=> ?_,hnb,old q lq s.nq,old gm lg s.nm,hbq,hbm,s.qm,hf,?_⟩,hsp,fun _ h=> .inl h,hT,fun x hx=> ?_,?_⟩
 · rw [hL]
   exact s.map.moved (hsp.mono (hTg gm s.nm (fun e=>s.qm e.symm))) hT (.inl (s.ins gm (.inr (.inr (.inr rfl)))))
 · rcases hx with hx | hx | hx | hx
   · exact .inr (.inl hx)
   · exact .inr (.inr hx)
   · exact .inl (s.ins x (.inr (.inr (.inl hx))))
   · exact .inl (s.ins x (.inr (.inr (.inr hx))))
 · rcases hx with hx | hx | hx
   · exact Nat.lt_of_lt_of_le (s.tlt x hx) hsp.size
   · exact hd.lt x hx
   · rw [hx];exact hl.lt
 · rw [hK];exact s.half
 · rcases hx with hx | hx
   · exact (hG x hx).imp .inl id
   · rcases hb with h1 | h1
     · exact .inl (.inr (hx.trans h1))
     · exact .inr (by omega)
 · exact m.moved (hsp.mono (hTg gn hng hnq)) hT (.inl m.1)
set_option maxRecDepth 100000 in
set_option maxHeartbeats 4000000 in
theorem rturned_any (w:World) (T:Nat->Prop) (q r b gm gn:Nat) (G:Nat->Prop) (h:Nat) (t:Dsk) (k:KvS) (M:List Kv) (m:Nat) (hs:RSt w T q r b gm G h t k) (hm:MapAt w T gn 1000000000 M) (hng: ¬ G gn) (hnq:gn≠q) (hf:t.Few m) (hmf:m<=700000) (hb:(batchL (allP M)).length<=140737488000000):
 Calls Tryz.prog 58 #[.pointer (some ⟨q,0,none⟩),.pointer (some ⟨gn,0,none⟩)] w fun e w'=>e= .returned (.int .i64 (turnL h t k M).1)/\RTurned w T q r b gm gn G h M (turnL h t k M).2.1 (turnL h t k M).2.2 w':=by
 have HS:=Lib.hid hs
 have HM:=Lib.hid hm
 have HNG:=Lib.hid hng
 have HNQ:=Lib.hid hnq
 have hK4:=hs.disk.ok.hi
 have hh2:=hs.half
 have hdisk:=hs.disk
 obtain ⟨vK,vM,PK,PM,armed,left,hrin⟩:=hdisk
 obtain ⟨⟨A0,c0,rfl,_⟩,_⟩:=hrin.forms
 have y0:=hrin.cells.1
 have HQC:=Lib.hid hs.cells
 obtain ⟨N,hN⟩:∃ N,N=t.K.length:=⟨_,rfl⟩
 rw [<-hN] at y0 hK4 hh2
 have HDIV:Hid ((N:Int)/2=(h:Int)):=by show _=_;omega
 obtain ⟨gen,hgen⟩:∃ gen,gen=k.lg.gen:=⟨_,rfl⟩
 have HGEN:=Lib.hid hgen
 rw [<-hgen] at HQC
 obtain ⟨a,haa⟩:∃ a,a=k.a:=⟨_,rfl⟩
 have HA:=Lib.hid haa
 rw [<-haa] at HQC
 have ha1:a<=1:=by rw [haa];exact hs.fits.two
 have hg1:1<=gen:=by rw [hgen];exact hs.fits.log.gen1
 obtain ⟨x0,x1,x2,_,_,x5⟩:=HQC.out w (Below.refl _ _)
 have HHN:=Lib.hid hh2
 have hh4:h<=2048:=by omega
 clear hs hm hrin hN hgen haa hng hnq hh2
 by_cases hg:1152921504606846976<=gen
 · have HT:Hid (turnL h t k M=(4,t,k)):=by show _=_;unfold turnL;rw [if_pos (by rw [<-HGEN.out];exact hg)]
   rw [HT.out]
   go_enter Tryz.func58,Tryz.ntmps58
   go_wp2_with fail
   go_ret
   exact ⟨rfl,.still HS.out HM.out (Below.refl _ _)⟩
 · obtain ⟨lo,hbg,hok,hno⟩:=turn_bg (M:=M) HS.out.fits (by rw [<-HGEN.out];exact hg)
   have HTF:=Lib.hid (turn_fits (M:=M) HS.out.fits)
   obtain ⟨⟨E,t',k'⟩,hR⟩:∃ R,R=turnL h t k M:=⟨_,rfl⟩
   rw [<-hR] at hbg hok hno HTF ⊢
   rw [<-HA.out,<-HGEN.out] at hbg
   rw [<-HA.out] at hok
   have HOK:=Lib.hid hok
   have HNO:=Lib.hid hno
   have HBG:=Lib.hid hbg
   obtain ⟨o,ho⟩:∃ o,o=(1-a)*h:=⟨_,rfl⟩
   rw [<-ho] at HBG
   have hw1:IntKind.i64.wrap (1-(a:Int))=((1-a:Nat):Int):=by rw [IntKind.wrap_i64];omega
   have hw2:IntKind.i64.wrap (((1-a:Nat):Int)*(h:Int))=(o:Int):=by
    rw [ho,<-Int.natCast_mul,IntKind.wrap_i64]
    have:(1-a)*h<=1*h:=Nat.mul_le_mul_right _ (by omega)
    omega
   have hw3:IntKind.i64.wrap (gen+1)=gen+1:=by rw [IntKind.wrap_i64];omega
   have HALL:Hid (∀ W,Below w.heap.size w W->Calls Tryz.prog 47 #[.pointer (some ⟨gn,0,none⟩)] W fun e w'=>∃ A' n' c',e= .returned (.slice A' n' c')/\MadeN 5 W (batchL (allP M)) A' n' c' w'):=fun W hW=>rall_any W T gn 1000000000 M (HM.out.below hW) hb
   have HBEG:Hid (∀ W,Below w.heap.size w W->∀ A n c,MadeN 5 w (batchL (allP M)) A n c W->Calls Tryz.prog 46 #[.pointer (some ⟨r,0,none⟩),.int .i64 (o:Int),.int .i64 (h:Int),.int .i64 (gen+1),.slice A n c] W fun e w'=>∃ (b:Nat) (G':Nat->Prop),e= .returned (.tuple #[lp lo b,.int .i64 E])/\RefAt w' r G' t'/\(∀ l,lo=some l->Blk w' b (lgCells r l) 102/\ ¬ G' b)/\W.heap.size<=b/\Spared W w' G/\∀ k,G' k->G k\/W.heap.size<=k):=fun W hW A n c hm=>by
    obtain ⟨hn,hm⟩:=hm
    obtain ⟨A2,c2,hv,hsn⟩:=hm.form
    injection hv with e1 e2 e3
    subst e1
    exact rbegin_to (HS.out.disk.still hW) HBG.out hsn hn (by omega) hf hmf
   have bd:Below w.heap.size w w.drew:=(Below.refl _ _).drew
   have HC:Hid (∀ W,Spared w W G->W.cell? ⟨q,0,none⟩=some (.pointer (some ⟨r,0,none⟩))/\W.cell? ⟨q,1,none⟩=some (.pointer (some ⟨b,0,none⟩))/\W.cell? ⟨q,2,none⟩=some (.int .i64 (a:Int))/\W.cell? ⟨b,3,none⟩=some (.int .i64 gen)):=fun W hW=>by
    have h1:=hW.blk HS.out.box HS.out.nq
    have h2:=hW.blk HS.out.log HS.out.nb
    rw [HA.out,HGEN.out]
    exact ⟨h1.cell (i:=0) (by simp [rsCells]),h1.cell (i:=1) (by simp [rsCells]),h1.cell (i:=2) (by simp [rsCells]),h2.cell (i:=3) (by simp [lgCells])⟩
   have SD:Spared w w.drew G:= .of_below bd _
   have hg2: ¬ gen>=1152921504606846976:=hg
   clear hok hno hbg ho hR
   go_enter Tryz.func58,Tryz.ntmps58
   go_wp2_with fail
   rw [HDIV.out]
   go_region_held_law (fun W=>W.cell? ⟨q,0,none⟩=some (.pointer (some ⟨r,0,none⟩))/\W.cell? ⟨q,1,none⟩=some (.pointer (some ⟨b,0,none⟩))/\W.cell? ⟨q,2,none⟩=some (.int .i64 (a:Int))/\W.cell? ⟨b,3,none⟩=some (.int .i64 gen))
    (first | exact HC.out _ SD | exact HC.out _ S6 | exact HC.out _ S7)
    (first
     | (go_at_call 47;(with_reducible refine (HALL.out _ bd).mono ?_);rintro e w6 ⟨A6,n6,c6,rfl,hm6⟩;have B6:=hop bd hm6.2.2;have S6:Spared w w6 G:= .of_below B6 _;have M6:Hid (MadeN 5 w (batchL (allP M)) A6 n6 c6 w6):=⟨hm6.1,hm6.2.since bd⟩;clear hm6)
     | (go_at_call 46;(with_reducible refine (HBEG.out _ B6 _ _ _ M6.out).mono ?_);rintro e w7 ⟨b7,G7,rfl,hr7,hl7,hb7,hs7,hg7⟩;have S7:Spared w w7 G:=S6.trans hs7 (fun _ h=> .inl h);have R7:=Lib.hid hr7;have L7:=Lib.hid hl7;have HB7:Hid (w.heap.size<=b7):=Nat.le_trans B6.size hb7;have HG7:Hid (∀ x,G7 x->G x\/w.heap.size<=x):=fun x hx=>(hg7 x hx).imp id (Nat.le_trans B6.size);clear hr7 hl7 hb7 hs7 hg7))
   all_goals
    have hx:=S7.blk HS.out.box HS.out.nq
    have HX:=Lib.hid hx
    by_cases hE:E=0
    · subst hE
      obtain ⟨hlo,hk⟩:=HOK.out rfl
      have HLO:=Lib.hid hlo
      have HK:=Lib.hid hk
      have hlp:lp lo b7= .pointer (some ⟨b7,0,none⟩):=by rw [hlo];rfl
      have z2:w7.cell? ⟨q,2,none⟩=some (.int .i64 (a:Int)):=(HC.out w7 S7).2.2.1
      have f1:=hx.free 1
      have f2:=hx.free 2
      clear hlo hk hx
      go_wp2_with fail
      go_ret
      obtain ⟨LB,LN⟩:=L7.out _ HLO.out
      have hsp8:Spared w7 ((w7.setCell ⟨q,1,none⟩ (.pointer (some ⟨b7,0,none⟩))).setCell ⟨q,2,none⟩ (.int .i64 ((1-a:Nat):Int))) (fun x=>x=q):=((Spared.refl w7 (fun x=>x=q)).setCell rfl _ _).setCell rfl _ _
      have lq:=HS.out.box.lt
      have hb7:=HB7.out
      refine ⟨rfl,.make HS.out HM.out ((S7.mono (fun _ h=> .inl h)).trans (hsp8.mono (fun _ h=> .inr h)) (fun _ h=> .inl h)) (R7.out.apart hsp8 (fun x h1 h2=> ?_)) (hsp8.blk LB (by omega)) (.inr hb7) ?_ HG7.out LN HTF.out.1 HTF.out.2.2 (by rw [HK.out]) HNG.out HNQ.out⟩
      · subst h2
        exact (HG7.out _ h1).elim HS.out.nq (fun h=>by omega)
      · rw [HK.out]
        exact (HX.out.set 1 _).set 2 _
    · have e0:(E==0)=false:=by rw [beq_eq_false_iff_ne];exact hE
      have HK:Hid (k'=k):=(HNO.out hE).2
      clear hx
      go_wp2_with fail
      go_ret
      rw [HK.out] at HTF ⊢
      exact ⟨rfl,.make HS.out HM.out (S7.mono (fun _ h=> .inl h)) R7.out (S7.blk HS.out.log HS.out.nb) (.inl rfl) HX.out HG7.out (fun h=>(HG7.out b h).elim HS.out.nb (fun h=>by have:=HS.out.log.lt;omega)) HTF.out.1 HTF.out.2.2 rfl HNG.out HNQ.out⟩
def mayOne (q:PPut):Bool:=decide (q.1.2.1.length<=512)&&decide (q.2.1.2.1.length<=8192)
def mayPs (ps:List PPut):Bool:=decide (ps.length<=1000)&&ps.all mayOne
set_option maxRecDepth 100000 in
set_option maxHeartbeats 1000000 in
theorem rmay_any (A:Option Addr) (ps:List PPut) (L c:Nat) (w:World) (hL:ps.length=L) (hn:L<=9223372036854775807) (hs:PutsSeen w A ps):
 Calls Tryz.prog 55 #[.slice A L c] w fun e w'=>e= .returned (.bool (mayPs ps))/\w=w':=by
 have HS:=Lib.hid hs
 have HL:=Lib.hid hL
 obtain ⟨v,hv⟩:∃ v,v=mayPs ps:=⟨_,rfl⟩
 rw [<-hv]
 by_cases h60:1000<L
 · have HV:Hid (false=v):=by show _=_;rw [hv,mayPs,decide_eq_false (by omega)];rfl
   clear hs hL hv
   go_enter Tryz.func55,Tryz.ntmps55
   go_wp2_with fail
   go_ret
   exact ⟨ret_bool HV.out,rfl⟩
 · have HV:Hid (ps.all mayOne=v):=by show _=_;rw [hv,mayPs,decide_eq_true (by omega)];rfl
   clear hs hL hv
   go_enter Tryz.func55,Tryz.ntmps55
   go_wp2_with fail
   go_loop [3] (fun i=>∃ k:Nat,k<=L/\i= .int .i64 k/\Hid ((ps.drop k).all mayOne=v)) (fun i=>L-(intOf i).toNat)
   case atStart=>exact ⟨0,by omega,rfl,HV.out⟩
   case round=>
    obtain ⟨k,hk,rfl,hall⟩:=hrel
    by_cases hlt:k<L
    · have hk':k<ps.length:=by rw [HL.out];exact hlt
      obtain ⟨b,off,hA,hok,hat⟩:=HS.out.at_ k hk'
      subst hA
      obtain ⟨e0,e1,e2⟩:=hat w (Below.refl _ _)
      have HN:Hid ((ps.drop k).all mayOne=(mayOne ps[k]&&(ps.drop (k+1)).all mayOne)):=by show _=_;rw [List.drop_eq_getElem_cons hk',List.all_cons]
      obtain ⟨q,hq⟩:∃ q,q=ps[k]:=⟨_,rfl⟩
      rw [<-hq] at hok HN e0 e1 e2
      obtain ⟨⟨qA,ql,qc⟩,⟨vA,vl,vc⟩,g⟩:=q
      have hl1:ql.length<=9223372036854775807:=hok.1.2
      have hl2:vl.length<=9223372036854775807:=hok.2.2
      simp only [pv] at e0 e1
      have HN':Hid ((ps.drop k).all mayOne=(decide (ql.length<=512)&&decide (vl.length<=8192)&&(ps.drop (k+1)).all mayOne)):=HN.out
      clear hat hok hq HN e2
      by_cases h1:512<ql.length
      · have HF:Hid (false=v):=by show _=_;rw [<-hall.out,HN'.out,decide_eq_false (by omega)];simp
        clear HN'
        generalize ql.length=qn at *
        generalize vl.length=vn at *
        go_wp2_with fail
        go_ret
        exact ⟨ret_bool HF.out,rfl⟩
      · by_cases h2:8192<vl.length
        · have HF:Hid (false=v):=by show _=_;rw [<-hall.out,HN'.out,decide_eq_false (p:=vl.length<=8192) (by omega)];simp
          clear HN'
          generalize ql.length=qn at *
          generalize vl.length=vn at *
          go_wp2_with fail
          go_ret
          exact ⟨ret_bool HF.out,rfl⟩
        · have HF:Hid ((ps.drop (k+1)).all mayOne=v):=by show _=_;rw [<-hall.out,HN'.out,decide_eq_true (by omega),decide_eq_true (by omega)];simp
          clear HN'
          generalize ql.length=qn at *
          generalize vl.length=vn at *
          go_wp2_with fail
          go_round
          case rel=>exact ⟨k+1,by omega,by go_num,HF.out⟩
          case measure=>simp [intOf];omega
    · have HF:Hid (true=v):=by
       have e:ps.drop k=[]:=List.drop_eq_nil_of_le (by rw [HL.out];omega)
       show _=_
       rw [<-hall.out,e];rfl
      clear hall
      go_wp2_with fail
      go_ret
      exact ⟨ret_bool HF.out,rfl⟩
theorem mayPs_vals (ps:List PPut):mayPs ps=mayV (valsOf ps):=by
 unfold mayPs mayV valsOf
 rw [List.length_map,List.all_map]
 rfl
theorem err_full {l:Lg} {s:Dsk} {d:List UInt8} (h:l.err s d=4):l.dsk s d=s/\l.next s d=l:=by
 by_cases hd:l.down=true
 · exact (next_down hd).2
 · have hd:l.down=false:=by simpa using hd
   by_cases hf:l.full d=true
   · exact (next_full hd hf).2
   · have hf:l.full d=false:=by simpa using hf
     unfold Lg.err at h
     rw [hd,hf] at h
     have:s.layErr (l.laid s d) (l.f+l.fin/64)=4:=h
     unfold Dsk.layErr Dsk.putErr at this
     split at this
     · cases this
     · split at this<;>cases this
def RMid (w:World) (T:Nat->Prop) (q r b gm gc:Nat) (G:Nat->Prop) (h:Nat) (M:List Kv) (t':Dsk) (k':KvS) (w':World):Prop:=
 ∃ (T':Nat->Prop) (b':Nat) (G':Nat->Prop),RSt w' T' q r b' gm G' h t' k'/\Spared w w' (fun x=>G x\/x=b\/x=q)/\(∀ x,T x->T' x)/\(∀ x,T' x->T x\/w.heap.size<=x)/\(∀ x,(G' x\/x=b')->(G x\/x=b)\/w.heap.size<=x)/\MapAt w' T' gc 1000000000 M/\w.heap.size<=gc/\ ¬ G' gc/\gc≠b'
section
variable {w w' W:World} {T:Nat->Prop} {q r b gm gc:Nat} {G:Nat->Prop} {h:Nat} {t t':Dsk} {k k':KvS} {M:List Kv}
theorem RMid.ends (s:RSt w T q r b gm G h t k) (m:RMid w T q r b gm gc G h M t' k' w') {E:Int} {gm':Nat} (hsp:Spared w' W (fun x=>x=q)) (hx:∀ b',Blk w' q (rsCells r b' gm k'.a k'.down) 98->Blk W q (rsCells r b' gm' k'.a (decide (E=5))) 98) (hg:(E=0/\gm'=gc)\/(E≠0/\gm'=gm)):RTo w T q r b gm G h t' (k'.ends E M) W:=by
 obtain ⟨T',b',G',hs,h1,h2,h3,h4,h5,h6,h7,h8⟩:=m
 have lq:=s.box.lt
 have hT:∀ g,T' g->g≠q->∀ x,x=q->T' x/\x≠g:=fun g _ hne x hx=>⟨hs.ins x (.inr (.inr (.inl hx))),fun e=>hne (e.symm.trans hx)⟩
 have hq:T' q:=hs.ins q (.inr (.inr (.inl rfl)))
 have hG:∀ x,(G' x\/x=b'\/x=gm')->(G x\/x=b\/x=gm)\/w.heap.size<=x:=fun x hy=>by
  rcases hy with hy | hy | hy
  · exact (h4 x (.inl hy)).imp (fun h=>h.elim .inl (fun h=> .inr (.inl h))) id
  · exact (h4 x (.inr hy)).imp (fun h=>h.elim .inl (fun h=> .inr (.inl h))) id
  · rcases hg with ⟨_,h9⟩ | ⟨_,h9⟩
    · exact .inr (by omega)
    · exact .inl (.inr (.inr (hy.trans h9)))
 have htot:Spared w W (fun x=>G x\/x=b\/x=q):=h1.trans (hsp.mono (fun _ h=> .inr (.inr h))) (fun _ h=> .inl h)
 have hmap:∀ {g:Nat} {N:List Kv},MapAt w' T' g 1000000000 N->g≠q->MapAt W T' g 1000000000 N:=fun {g N} hm hne=>hm.moved (hsp.mono (hT g hm.1 hne)) (fun _ h=> .inl h) hm.1
 have hfit:(k'.ends E M).Fits h t':=⟨hs.fits.half,hs.fits.two,hs.fits.log⟩
 have hdisk:RefAt W r G' t':=hs.disk.apart hsp (fun x h1 h2=>hs.nq (h2 ▸ h1))
 have hlog:=hsp.blk hs.log hs.bq
 rcases hg with ⟨rfl,rfl⟩ | ⟨hE,rfl⟩
 · have hgq:gm'≠q:=by omega
   exact ⟨T',b',gm',G',⟨hdisk,hlog,hx b' hs.box,hmap h5 hgq,fun x hx=>hx.elim (fun h=>hs.ins x (.inl h)) (fun h=>h.elim (fun h=>hs.ins x (.inr (.inl h))) (fun h=>h.elim (fun h=>hs.ins x (.inr (.inr (.inl h)))) (fun h=>h ▸ h5.1))),fun x hx=>Nat.lt_of_lt_of_le (hs.tlt x hx) hsp.size,hs.nb,hs.nq,h7,hs.bq,fun e=>h8 e.symm,fun e=>hgq e.symm,hfit,hs.half⟩,htot,h2,h3,hG⟩
 · have e:(k'.ends E M).L=k'.L:=if_neg hE
   exact ⟨T',b',gm',G',⟨hdisk,hlog,hx b' hs.box,by rw [e];exact hmap hs.map (fun e=>hs.qm e.symm),hs.ins,fun x hx=>Nat.lt_of_lt_of_le (hs.tlt x hx) hsp.size,hs.nb,hs.nq,hs.nm,hs.bq,hs.bm,hs.qm,hfit,hs.half⟩,htot,h2,h3,hG⟩
theorem RMid.app {w1:World} {G':Nat->Prop} {lg':Lg} (s:RSt w T q r b gm G h t k) (hb1:Below w.heap.size w w1) (hm:MapAt w1 (fun x=>T x\/x=gc) gc 1000000000 M) (hc:w.heap.size<=gc) (hsp:Spared w1 W (fun x=>G x\/x=b)) (hd:RefAt W r G' t') (hl:Blk W b (lgCells r lg') 102) (hn: ¬ G' b) (hG:∀ x,G' x->G x\/w1.heap.size<=x) (hf:({ k with lg:=lg' }:KvS).Fits h t') (hK:t'.K.length=t.K.length):RMid w T q r b gm gc G h M t' { k with lg:=lg' } W:=by
 have lq:=s.box.lt
 have lm:=s.map.lt
 have lb:=s.log.lt
 have lc:=hm.lt
 have h1s:=hb1.size
 have hgl:∀ x,G x->x<w.heap.size:=fun x hx=>s.tlt x (s.ins x (.inl hx))
 have hG1:∀ x,G' x->G x\/w.heap.size<=x:=fun x hx=>(hG x hx).imp id (fun h=>by omega)
 have old:∀ x,x<w.heap.size-> ¬ G x-> ¬ G' x:=fun x h1 h2 h3=>(hG1 x h3).elim h2 (fun h=>by omega)
 have hcn: ¬ G' gc:=fun h3=>(hG gc h3).elim (fun h=>by have:=hgl gc h;omega) (fun h=>by omega)
 have htot:Spared w W (fun x=>G x\/x=b):=(Spared.of_below hb1 _).trans hsp (fun _ h=> .inl h)
 have hGb:∀ x,(G x\/x=b)->T x:=fun x hx=>hx.elim (fun h=>s.ins x (.inl h)) (fun h=>s.ins x (.inr (.inl h)))
 refine ⟨fun x=>T x\/G' x\/x=gc,b,G',⟨hd,hl,htot.blk s.box (fun h=>h.elim s.nq (fun e=>s.bq e.symm)),?_,fun x hx=> ?_,fun x hx=> ?_,hn,old q lq s.nq,old gm lm s.nm,s.bq,s.bm,s.qm,hf,by rw [hK];exact s.half⟩,htot.mono (fun _ h=>h.elim .inl (fun h=> .inr (.inl h))),fun _ h=> .inl h,fun x hx=> ?_,fun x hx=> ?_,?_,hc,hcn,by omega⟩
 · refine s.map.moved (htot.mono (fun x hx=>⟨hGb x hx,?_⟩)) (fun x hx=> ?_) (.inl s.map.1)
   · rintro rfl
     exact hx.elim s.nm (fun e=>s.bm e.symm)
   · rcases hx with hx | hx | hx
     · exact .inl hx
     · exact (hG1 x hx).imp (fun h=>s.ins x (.inl h)) id
     · exact .inr (by omega)
 · rcases hx with hx | hx | hx | hx
   · exact .inr (.inl hx)
   · exact .inl (s.ins x (.inr (.inl hx)))
   · exact .inl (s.ins x (.inr (.inr (.inl hx))))
   · exact .inl (s.ins x (.inr (.inr (.inr hx))))
 · rcases hx with hx | hx | hx
   · exact Nat.lt_of_lt_of_le (s.tlt x hx) htot.size
   · exact hd.lt x hx
   · have:=hsp.size;omega
 · rcases hx with hx | hx | hx
   · exact .inl hx
   · exact (hG1 x hx).imp (fun h=>s.ins x (.inl h)) id
   · exact .inr (by omega)
 · rcases hx with hx | hx
   · exact (hG1 x hx).imp .inl id
   · exact .inl (.inr hx)
 · refine hm.moved (hsp.mono (fun x hx=>⟨.inl (hGb x hx),?_⟩)) (fun x hx=> ?_) (.inr (.inr rfl))
   · rintro rfl
     exact hx.elim (fun h=>by have:=hgl _ h;omega) (fun h=>by omega)
   · rcases hx with hx | hx | hx
     · exact .inl (.inl hx)
     · exact (hG x hx).imp (fun h=> .inl (s.ins x (.inl h))) id
     · exact .inl (.inr hx)
theorem RMid.turn {T':Nat->Prop} {b':Nat} {G':Nat->Prop} {t2:Dsk} {k2:KvS} (h1:Spared w w' (fun x=>G x\/x=b\/x=q)) (h2:∀ x,T x->T' x) (h3:∀ x,T' x->T x\/w.heap.size<=x) (h4:∀ x,(G' x\/x=b')->(G x\/x=b)\/w.heap.size<=x) (hc:w.heap.size<=gc) (hcl:gc<w'.heap.size) (hcn: ¬ G' gc) (hcb:gc≠b') (m:RTurned w' T' q r b' gm gc G' h M t2 k2 W):RMid w T q r b gm gc G h M t2 k2 W:=by
 obtain ⟨T2,b2,G2,hs2,m1,m2,m3,m4,m5⟩:=m
 have hsz:=h1.size
 refine ⟨T2,b2,G2,hs2,h1.trans m1 (fun x hx=> ?_),fun x hx=>m2 x (h2 x hx),fun x hx=> ?_,fun x hx=> ?_,m5,hc,fun h=> ?_,fun e=> ?_⟩
 · rcases hx with hx | hx
   · exact (h4 x (.inl hx)).imp (fun h=>h.elim .inl (fun h=> .inr (.inl h))) id
   · exact .inl (.inr (.inr hx))
 · exact (m3 x hx).elim (h3 x) (fun h=> .inr (by omega))
 · exact (m4 x hx).elim (h4 x) (fun h=> .inr (by omega))
 · exact (m4 gc (.inl h)).elim (fun h=>h.elim hcn hcb) (fun h=>by omega)
 · exact (m4 gc (.inr e)).elim (fun h=>h.elim hcn hcb) (fun h=>by omega)
theorem RTo.still (s:RSt w T q r b gm G h t k) (hb:Below w.heap.size w w'):RTo w T q r b gm G h t k w':=
 ⟨T,b,gm,G,s.below hb,.of_below hb _,fun _ h=>h,fun _ h=> .inl h,fun _ h=> .inl h⟩
end
set_option maxRecDepth 100000 in
set_option maxHeartbeats 4000000 in
theorem rcommit_any (w:World) (T:Nat->Prop) (q r b gm:Nat) (G:Nat->Prop) (h:Nat) (t:Dsk) (k:KvS) (A:Option Addr) (ps:List PPut) (n c m:Nat) (hs:RSt w T q r b gm G h t k) (hp:PutsSeen w A ps) (hn:ps.length=n) (hn9:n<=9223372036854775807) (hf:t.Few m) (hmf:m<=690000) (hl:k.L.length+n<=99999) (hb:sizeT k.L+sizeP (valsOf ps)<=1000000000) (hbt:(batchL (valsOf ps)).length<=140737488000000) (hba:(batchL (allP (doAll (valsOf ps) k.L))).length<=140737488000000):
 Calls Tryz.prog 16 #[.pointer (some ⟨q,0,none⟩),.slice A n c] w fun e w'=>e= .returned (.int .i64 (commitL h t k (valsOf ps)).1)/\RTo w T q r b gm G h (commitL h t k (valsOf ps)).2.1 (commitL h t k (valsOf ps)).2.2 w':=by
 have HS:=Lib.hid hs
 have HP:=Lib.hid hp
 have HN:=Lib.hid hn
 have HMAY:=Lib.hid (rmay_any A ps n c w hn hn9 hp)
 have HQC:=Lib.hid hs.cells
 obtain ⟨D,hD⟩:∃ D,D=k.down:=⟨_,rfl⟩
 rw [<-hD] at HQC
 have HD:=Lib.hid hD
 obtain ⟨Y,hY⟩:∃ Y,Y=mayPs ps:=⟨_,rfl⟩
 rw [<-hY] at HMAY
 have HY:Hid (mayV (valsOf ps)=Y):=by show _=_;rw [hY,mayPs_vals]
 have HDO:=Lib.hid (rdo_any w T hs.tlt gm 1000000000 k.L hs.map A ps n c hp hn hl hb (by omega))
 obtain ⟨x0,x1,x2,x3,x4,x5⟩:=HQC.out w (Below.refl _ _)
 clear hs hp hn hD hY
 by_cases hD:D=true
 · subst hD
   have HC:Hid (commitL h t k (valsOf ps)=(5,t,k)):=by show _=_;unfold commitL;rw [if_pos HD.out.symm]
   rw [HC.out]
   go_enter Tryz.func16,Tryz.ntmps16
   go_wp2_with fail
   with_reducible refine HMAY.out.mono ?_
   rintro e w1 ⟨rfl,rfl⟩
   go_wp2_with fail
   go_ret
   exact ⟨rfl,.still HS.out (Below.refl _ _)⟩
 obtain rfl:D=false:=by simpa using hD
 by_cases hY:Y=false
 · subst hY
   have HC:Hid (commitL h t k (valsOf ps)=(2,t,k)):=by show _=_;unfold commitL;rw [if_neg (by rw [<-HD.out];decide),if_pos HY.out]
   rw [HC.out]
   go_enter Tryz.func16,Tryz.ntmps16
   go_wp2_with fail
   with_reducible refine HMAY.out.mono ?_
   rintro e w1 ⟨rfl,rfl⟩
   go_wp2_with fail
   go_ret
   exact ⟨rfl,.still HS.out (Below.refl _ _)⟩
 obtain rfl:Y=true:=by simpa using hY
 clear hD hY
 by_cases hn0:n=0
 · subst hn0
   have HC:Hid (commitL h t k (valsOf ps)=(0,t,k)):=by
    show _=_
    have h0:valsOf ps=[]:=List.eq_nil_of_length_eq_zero (by rw [valsOf_length];exact HN.out)
    unfold commitL
    rw [if_neg (by rw [<-HD.out];decide),if_neg (by rw [HY.out];decide),if_pos h0]
   rw [HC.out]
   go_enter Tryz.func16,Tryz.ntmps16
   go_wp2_with fail
   with_reducible refine HMAY.out.mono ?_
   rintro e w1 ⟨rfl,rfl⟩
   go_wp2_with fail
   go_ret
   exact ⟨rfl,.still HS.out (Below.refl _ _)⟩
 have n1:(n==0)=false:=by rw [beq_eq_false_iff_ne];exact hn0
 have n2:((n:Int)==0)=false:=by rw [beq_eq_false_iff_ne];omega
 obtain ⟨M,hM⟩:∃ M,M=doAll (valsOf ps) k.L:=⟨_,rfl⟩
 obtain ⟨d,hd⟩:∃ d,d=batchL (valsOf ps):=⟨_,rfl⟩
 obtain ⟨E,hE⟩:∃ E,E=k.lg.err t d:=⟨_,rfl⟩
 obtain ⟨t3,ht3⟩:∃ t3,t3=k.lg.dsk t d:=⟨_,rfl⟩
 obtain ⟨lg3,hlg3⟩:∃ lg3,lg3=k.lg.next t d:=⟨_,rfl⟩
 have HC:Hid (commitL h t k (valsOf ps)=if E=4 then ((turnL h t k M).1,(turnL h t k M).2.1,(turnL h t k M).2.2.ends (turnL h t k M).1 M) else (E,t3,({ k with lg:=lg3 }:KvS).ends E M)):=by
  show _=_
  have h0:valsOf ps≠[]:=fun h=>hn0 (by have:=congrArg List.length h;rw [valsOf_length] at this;rw [<-HN.out];exact this)
  unfold commitL
  rw [if_neg (by rw [<-HD.out];decide),if_neg (by rw [HY.out];decide),if_neg h0,hE,ht3,hlg3,hd,hM]
 rw [HC.out]
 have HFULL:Hid (E=4->t3=t/\lg3=k.lg):=fun h=>by rw [ht3,hlg3];exact err_full (hE ▸ h)
 have hnx:=HS.out.fits.log.next (d:=d)
 rw [<-ht3,<-hlg3] at hnx
 have HNX:=Lib.hid hnx
 rw [<-hM] at HDO hba
 rw [<-hd] at hbt
 have HBAT:Hid (∀ W,Below w.heap.size w W->Calls Tryz.prog 57 #[.slice A n c] W fun e w'=>∃ A' n' c',e= .returned (.slice A' n' c')/\MadeN 5 W d A' n' c' w'):=fun W hW=>by
  have h5:=refBatch_any A ps n c W HN.out (HP.out.below hW) hn9 (by rw [<-hd];exact hbt)
  rw [<-hd] at h5
  exact h5
 have HAPP:Hid (∀ W,Below w.heap.size w W->∀ A6 n6 c6,MadeN 5 w d A6 n6 c6 W->Calls Tryz.prog 56 #[.pointer (some ⟨b,0,none⟩),.slice A6 n6 c6] W fun e w'=>e= .returned (.int .i64 E)/\LRMoved W r b G t3 lg3 w'):=fun W hW A6 n6 c6 hm=>by
  obtain ⟨hn,hm⟩:=hm
  obtain ⟨A2,c2,hv,hsn⟩:=hm.form
  injection hv with e1 e2 e3
  subst e1
  rw [hE,ht3,hlg3]
  exact refAppend_any W r b G t k.lg A6 d n6 c6 m ⟨HS.out.disk.still hW,HS.out.log.below hW HS.out.log.lt,HS.out.nb,HS.out.fits.log⟩ hsn hn (by omega) hf (by omega)
 clear hM hd hE ht3 hlg3 hnx
 go_enter Tryz.func16,Tryz.ntmps16
 go_wp2_with fail
 with_reducible refine HMAY.out.mono ?_
 rintro e w0 ⟨rfl,rfl⟩
 clear HMAY
 go_wp2_with fail
 with_reducible refine HDO.out.mono ?_
 rintro e w1 ⟨hb1,gc,rfl,hg1,hg2,hm1⟩
 have B1:=Lib.hid hb1
 have HG1:Hid (w.heap.size<=gc/\gc<w1.heap.size):=⟨hg1,hg2⟩
 have M1:=Lib.hid hm1
 have bd:Below w1.heap.size w1 w1.drew:=(Below.refl _ _).drew
 have BD:Below w.heap.size w w1.drew:=hop hb1 bd
 have HC1:Hid (∀ W,Spared w1 W (fun x=>G x\/x=b)->W.cell? ⟨q,1,none⟩=some (.pointer (some ⟨b,0,none⟩))):=fun W hW=>by
  have h5:=((Spared.of_below B1.out (fun x=>G x\/x=b)).trans hW (fun _ h=> .inl h)).blk HS.out.box (fun h=>h.elim HS.out.nq (fun e=>HS.out.bq e.symm))
  exact h5.cell (i:=1) (by simp [rsCells])
 have SD:Spared w1 w1.drew (fun x=>G x\/x=b):= .of_below bd _
 clear hb1 hg1 hg2 hm1 x0 x1 x2 x3 x4 x5 HDO
 go_wp2_with fail
 go_region_held_law (fun W=>W.cell? ⟨q,1,none⟩=some (.pointer (some ⟨b,0,none⟩)))
  (first | exact HC1.out _ SD | exact HC1.out _ S6 | exact HC1.out _ S7)
  (first
   | (go_at_call 57;(with_reducible refine (HBAT.out _ BD).mono ?_);rintro e w6 ⟨A6,n6,c6,rfl,hm6⟩;have B16:=hop bd hm6.2.2;have B6:=hop BD hm6.2.2;have S6:Spared w1 w6 (fun x=>G x\/x=b):= .of_below B16 _;have M6:Hid (MadeN 5 w d A6 n6 c6 w6):=⟨hm6.1,hm6.2.since BD⟩;clear hm6)
   | (go_at_call 56;(with_reducible refine (HAPP.out _ B6 _ _ _ M6.out).mono ?_);rintro e w7 ⟨rfl,G7,hd7,hl7,hn7,hs7,hg7⟩;have S7:Spared w1 w7 (fun x=>G x\/x=b):=S6.trans hs7 (fun _ h=> .inl h);have R7:=Lib.hid hd7;have L7:=Lib.hid hl7;have N7:=Lib.hid hn7;have HG7:Hid (∀ x,G7 x->G x\/w1.heap.size<=x):=fun x hx=>(hg7 x hx).imp id (Nat.le_trans B16.size);clear hd7 hl7 hn7 hs7 hg7))
 have HMID:=Lib.hid (RMid.app HS.out B1.out M1.out HG1.out.1 S7 R7.out L7.out N7.out HG7.out ⟨⟨HS.out.fits.half.pos,by rw [HNX.out.2.2];exact HS.out.fits.half.fits⟩,HS.out.fits.two,HNX.out.1⟩ HNX.out.2.2)
 clear hn0 n1 n2 SD S6 S7 bd BD B16
 rcases Classical.em (E=4) with h4 | h4
 case' inl=>
  subst h4
  obtain ⟨rfl,rfl⟩:=HFULL.out rfl
  obtain ⟨T3,b3,G3,hs3,m1,m2,m3,m4,m5,m6,m7,m8⟩:=HMID.out
  have HTU:=Lib.hid (rturned_any w7 T3 q r b3 gm gc G3 h t3 k M m hs3 m5 m7 (by have:=HS.out.box.lt;omega) hf (by omega) hba)
  obtain ⟨⟨E9,t9,k9⟩,hR⟩:∃ R,R=turnL h t3 k M:=⟨_,rfl⟩
  rw [<-hR] at HTU
  have HR9:=Lib.hid hR.symm
  have HMM:Hid (∀ W,RTurned w7 T3 q r b3 gm gc G3 h M t9 k9 W->RMid w T q r b gm gc G h M t9 k9 W):=fun W hW=>RMid.turn m1 m2 m3 m4 m6 (by have:=HG1.out;have:=m1.size;have h5:=m5.lt;omega) m7 m8 hW
  clear hs3 m1 m2 m3 m4 m5 m6 m7 m8 hR
  go_wp2_with fail
  with_reducible refine HTU.out.mono ?_
  rintro e w9 ⟨rfl,hm9⟩
  have HM9:=Lib.hid (HMM.out w9 hm9)
  clear hm9 HTU HMM
  obtain ⟨T9,b9,G9,hs9,z1,z2,z3,z4,z5,z6,z7,z8⟩:=HM9.out
  have hx:=hs9.box
  have f3:=hx.free 3
  have f4:=hx.free 4
  have c3:=hx.cell (i:=3) (by simp [rsCells])
  have c4:=hx.cell (i:=4) (by simp [rsCells])
  simp only [rsCells,List.getElem_cons_zero,List.getElem_cons_succ] at c3 c4
  clear hs9 hx z1 z2 z3 z4 z5 z6 z7 z8
  by_cases h5:E9=5
  · subst h5
    go_wp2_with fail
    go_ret
    rw [HR9.out]
    exact ⟨rfl,RMid.ends HS.out HM9.out ((Spared.refl w9 (fun x=>x=q)).setCell rfl _ _) (fun b' hb=>hb.set 4 _) (.inr ⟨(by show (5:Int)≠0;decide),rfl⟩)⟩
  · have e5:(E9==5)=false:=by rw [beq_eq_false_iff_ne];exact h5
    by_cases h0:E9=0
    · subst h0
      go_wp2_with fail
      go_ret
      rw [HR9.out]
      exact ⟨rfl,RMid.ends HS.out HM9.out (((Spared.refl w9 (fun x=>x=q)).setCell rfl _ _).setCell rfl _ _) (fun b' hb=>(hb.set 4 _).set 3 _) (.inl ⟨rfl,rfl⟩)⟩
    · have e0:(E9==0)=false:=by rw [beq_eq_false_iff_ne];exact h0
      go_wp2_with fail
      go_ret
      rw [HR9.out]
      exact ⟨rfl,RMid.ends HS.out HM9.out ((Spared.refl w9 (fun x=>x=q)).setCell rfl _ _) (fun b' hb=>by rw [decide_eq_false h5];exact hb.set 4 _) (.inr ⟨h0,rfl⟩)⟩
 case' inr=>
  have e4:(E==4)=false:=by rw [beq_eq_false_iff_ne];exact h4
  obtain ⟨T9,b9,G9,hs9,z1,z2,z3,z4,z5,z6,z7,z8⟩:=HMID.out
  have hx:=hs9.box
  have f3:=hx.free 3
  have f4:=hx.free 4
  have c3:=hx.cell (i:=3) (by simp [rsCells])
  have c4:=hx.cell (i:=4) (by simp [rsCells])
  simp only [rsCells,List.getElem_cons_zero,List.getElem_cons_succ] at c3 c4
  clear hs9 hx z1 z2 z3 z4 z5 z6 z7 z8
  by_cases h5:E=5
  · subst h5
    go_wp2_with fail
    go_ret
    skip
    exact ⟨rfl,RMid.ends HS.out HMID.out ((Spared.refl w7 (fun x=>x=q)).setCell rfl _ _) (fun b' hb=>hb.set 4 _) (.inr ⟨(by show (5:Int)≠0;decide),rfl⟩)⟩
  · have e5:(E==5)=false:=by rw [beq_eq_false_iff_ne];exact h5
    by_cases h0:E=0
    · subst h0
      go_wp2_with fail
      go_ret
      skip
      exact ⟨rfl,RMid.ends HS.out HMID.out (((Spared.refl w7 (fun x=>x=q)).setCell rfl _ _).setCell rfl _ _) (fun b' hb=>(hb.set 4 _).set 3 _) (.inl ⟨rfl,rfl⟩)⟩
    · have e0:(E==0)=false:=by rw [beq_eq_false_iff_ne];exact h0
      go_wp2_with fail
      go_ret
      skip
      exact ⟨rfl,RMid.ends HS.out HMID.out ((Spared.refl w7 (fun x=>x=q)).setCell rfl _ _) (fun b' hb=>by rw [decide_eq_false h5];exact hb.set 4 _) (.inr ⟨h0,rfl⟩)⟩
end Go.Proofs.YtdaahapbpnjkfaaGreat
