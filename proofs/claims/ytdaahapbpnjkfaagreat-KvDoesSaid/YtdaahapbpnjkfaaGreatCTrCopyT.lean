/-
Copy. Conditions: at most 100,000 pairs, of at most 1,000,000,000 bytes a key and a value.
-/
import Derived.Test.YtdaahapbpnjkfaaGreatCTrGet
import Derived.Test.YtdaahapbpnjkfaaGreatCTrLess
import Derived.Test.YtdaahapbpnjkfaaGreatCTrScan
import Derived.Deep.Cut
namespace Go.Proofs.YtdaahapbpnjkfaaGreat
open Go.RowKit
def CopyOut (w:World) (F:Nat->Prop) (h:Nat) (l:List Kv) (n:Nat) (e:Ending) (w':World):Prop:=
 (∃ q:Pg h,e= .returned (pval h q)/\EOk w' F (h+1) q/\Inner (h+1) q/\flats h q.els=l/\q.els.length=n)/\Below w.heap.size w w'
def halfRow (h:Nat) (done:List (El h)) (n:Nat):List (List Value):=done.map (ecells h)++List.replicate (n-done.length) (List.replicate (esize h) (.slice none 0 0))
theorem halfRow_length (h:Nat) (done:List (El h)) (n:Nat) (hn:done.length<=n):(halfRow h done n).length=n:=by unfold halfRow;simp;omega
theorem halfRow_each (h:Nat) (done:List (El h)) (n:Nat):∀ r ∈ halfRow h done n,r.length=esize h:=by
 intro r hr
 unfold halfRow at hr
 rcases List.mem_append.1 hr with hr | hr
 · obtain ⟨x,_,rfl⟩:=List.mem_map.1 hr;exact ecells_length h x
 · rw [(List.mem_replicate.1 hr).2];simp
theorem set_mid {α:Type} (l1:List α) (y x:α) (l2:List α):(l1++x::l2).set l1.length y=l1++y::l2:=by
 induction l1 with
 | nil=>rfl
 | cons a l1 ih=>rw [List.cons_append,List.length_cons,List.set_cons_succ,ih];rfl
theorem halfRow_set (h:Nat) (done:List (El h)) (n:Nat) (x:El h) (hn:done.length<n):(halfRow h done n).set done.length (ecells h x)=halfRow h (done++[x]) n:=by
 unfold halfRow
 have e:n-done.length=(n-(done++[x]).length)+1:=by simp;omega
 have key:=set_mid (done.map (ecells h)) (ecells h x) (List.replicate (esize h) (.slice none 0 0)) (List.replicate (n-(done++[x]).length) (List.replicate (esize h) (.slice none 0 0)))
 rw [List.length_map] at key
 rw [e,List.replicate_succ,key]
 simp
theorem halfRow_full (h:Nat) (done:List (El h)) (n:Nat) (hn:done.length=n):(halfRow h done n).flatten=rowCells h done:=by
 unfold halfRow rowCells
 rw [hn,Nat.sub_self];simp
theorem halfRow_none (h n:Nat):(halfRow h [] n).flatten=List.replicate (n*esize h) (.slice none 0 0):=by
 unfold halfRow
 simp
theorem made_nils (s:Nat) (hs:0<s) (m:Nat):(madeCells (Array.replicate s (.slice none 0 0)) m).toList=List.replicate m (.slice none 0 0):=by
 apply List.ext_getElem
 · simp [madeCells]
 · intro i h1 h2
   simp [madeCells,Nat.mod_lt _ hs]
theorem make_pairs (n:Nat) (hn:n<=1000) (w:World):(Instr.makeSlice 63 (.int .i64 (n:Int)) (.int .i64 (n:Int))).run Tryz.prog w= .ok (.slice (some ⟨w.heap.size,0,none⟩) n n) (w.alloc (.cells (List.replicate (n*2) (.slice none 0 0)).toArray 123)):=by
 have hf:(Tryz.prog.info? 123).map (fun i=>(i.zero,i.size,i.bytes))=some (some (.agg #[.slice none 0 0,.slice none 0 0]),2,48):=by kernel_rfl
 obtain ⟨i0,hi,hz0,hz1,hz2⟩:=info_parts hf
 have:=run_make (P:=Tryz.prog) w 63 123 i0 _ Tryz.underlying63 hi hz0 .i64 .i64 (n:Int) (n:Int) (by omega) (by omega) (by rw [hz2];omega) (by omega)
 rw [hz1] at this
 have e:=made_nils 2 (by decide) (n*2)
 have e3:((Value.agg #[.slice none 0 0,.slice none 0 0]:Value)).cells=Array.replicate 2 (.slice none 0 0):=rfl
 rw [<-e,Array.toArray_toList,<-e3]
 simpa using this
theorem make_pages (n:Nat) (hn:n<=1000) (w:World):(Instr.makeSlice 154 (.int .i64 (n:Int)) (.int .i64 (n:Int))).run Tryz.prog w= .ok (.slice (some ⟨w.heap.size,0,none⟩) n n) (w.alloc (.cells (List.replicate (n*3) (.slice none 0 0)).toArray 156)):=by
 have hf:(Tryz.prog.info? 156).map (fun i=>(i.zero,i.size,i.bytes))=some (some (.agg #[.slice none 0 0,.slice none 0 0,.slice none 0 0]),3,72):=by kernel_rfl
 obtain ⟨i0,hi,hz0,hz1,hz2⟩:=info_parts hf
 have:=run_make (P:=Tryz.prog) w 154 156 i0 _ Tryz.underlying154 hi hz0 .i64 .i64 (n:Int) (n:Int) (by omega) (by omega) (by rw [hz2];omega) (by omega)
 rw [hz1] at this
 have e:=made_nils 3 (by decide) (n*3)
 have e3:((Value.agg #[.slice none 0 0,.slice none 0 0,.slice none 0 0]:Value)).cells=Array.replicate 3 (.slice none 0 0):=rfl
 rw [<-e,Array.toArray_toList,<-e3]
 simpa using this
theorem row_step {w:World} {g h n:Nat} {t:TypeId} {done:List (El h)} (hb:Blk w g (halfRow h done n).flatten t) (hn:done.length<n) (x:El h):Blk (w.setCells g (done.length*esize h) (ecells h x)) g (halfRow h (done++[x]) n).flatten t:=by
 rw [<-halfRow_set h done n x hn]
 exact flat_store hb (halfRow_each h done n) done.length (by rw [halfRow_length h done n (by omega)];exact hn) (ecells h x) (ecells_length h x)
theorem row_there {w:World} {g h n:Nat} {t:TypeId} {done:List (El h)} (hb:Blk w g (halfRow h done n).flatten t) (hn:done.length<n) (j:Nat) (hj:j<esize h):(∃ v,w.cell? ⟨g,done.length*esize h+j,none⟩=some v)/\w.frozen? ⟨g,done.length*esize h+j,none⟩=false:=by
 have hl:(halfRow h done n).flatten.length=n*esize h:=by rw [flat_length (m:=esize h) _ (halfRow_each h done n),halfRow_length h done n (by omega)]
 have h1:done.length*esize h+esize h<=n*esize h:=by rw [<-Nat.succ_mul];exact Nat.mul_le_mul_right _ hn
 exact ⟨⟨_,hb.cell (by omega)⟩,hb.free _⟩
set_option maxHeartbeats 2000000 in
set_option maxRecDepth 100000 in
theorem copyLeaf_any (w:World) (F:Nat->Prop) (hF:∀ b,F b->b<w.heap.size) (p:Pg 0) (hp:EOk w F 1 p) (hn:p.els.length<=1000):
 Calls Tryz.prog 127 #[pval 0 p] w (CopyOut w F 0 (flats 0 p.els) p.els.length):=by
 obtain ⟨f,A,els,c⟩:=p
 obtain ⟨n,hnn⟩:∃ n,n=els.length:=⟨_,rfl⟩
 have HPV:Hid (pval 0 ⟨f,A,els,c⟩= .agg #[.slice f.1 f.2.1.length f.2.2,.slice A n c,.slice none 0 0]):=by rw [hnn];rfl
 obtain ⟨Af,hAf⟩:∃ Af,Af=f.1:=⟨_,rfl⟩
 obtain ⟨nf,hnf⟩:∃ nf,nf=f.2.1.length:=⟨_,rfl⟩
 obtain ⟨cf,hcf⟩:∃ cf,cf=f.2.2:=⟨_,rfl⟩
 rw [<-hAf,<-hnf,<-hcf] at HPV
 obtain ⟨w2,hw2⟩:∃ w2,w2=(w.alloc (.cells #[.slice Af nf cf,.slice A n c,.slice none 0 0] 156)).alloc (.cells #[.slice none 0 0,.slice none 0 0,.slice none 0 0] 156):=⟨_,rfl⟩
 have HBW:Hid (Below w.heap.size w w2):=by rw [hw2];exact ((Below.refl _ _).alloc (Nat.le_refl _) _).alloc (by simp) _
 have hF2:=Wider.lt hF HBW.out.size
 obtain ⟨F2,hF2e⟩:∃ F2,F2=Wider w w2 F:=⟨_,rfl⟩
 have HF2:=Lib.hid hF2e
 rw [<-hF2e] at hF2
 dsimp only at hn ⊢
 have HELS:Hid (∀ t (ht:t<els.length),∃ (a b:Piece),kv0 els[t]=(a.2.1,b.2.1)/\(Seen w a.1 a.2.1/\a.2.1.length<=1000000000)/\(Seen w b.1 b.2.1/\b.2.1.length<=1000000000)/\∃ bl off,A=some ⟨bl,off,none⟩/\∀ W,Below w.heap.size w W->W.cell? ⟨bl,off+t*2,none⟩=some (.slice a.1 a.2.1.length a.2.2)/\W.cell? ⟨bl,off+t*2+1,none⟩=some (.slice b.1 b.2.1.length b.2.2)):=fun t ht=>by
  have hx:=hp.2.2.2 _ (List.getElem_mem ht)
  obtain ⟨bl,off,hA,hb,_,hc⟩:=(hp.2.1).elem t ht
  exact ⟨epiece 0 els[t],eval0 els[t],rfl,⟨hx.1.1.seen,hx.1.2.2⟩,⟨hx.2.1.seen,hx.2.2.2⟩,bl,off,hA,fun W hW=>⟨(hW.cell (p:=⟨bl,off+t*2,none⟩) hb).trans (hc 0 (by decide)),(hW.cell (p:=⟨bl,off+t*2+1,none⟩) hb).trans (hc 1 (by decide))⟩⟩
 rw [HPV.out]
 have HW:Hid ((w.alloc (.cells #[.slice Af nf cf,.slice A n c,.slice none 0 0] 156)).alloc (.cells #[.slice none 0 0,.slice none 0 0,.slice none 0 0] 156)=w2):=hw2.symm
 have HB0:Hid (Blk w2 w.heap.size [.slice Af nf cf,.slice A n c,.slice none 0 0] 156):=by rw [hw2];exact (Blk.new w _ _).alloc _
 have HB2:Hid (Blk w2 (w.heap.size+1) [.slice none 0 0,.slice none 0 0,.slice none 0 0] 156):=by
  have:=Blk.new (w.alloc (.cells #[.slice Af nf cf,.slice A n c,.slice none 0 0] 156)) [.slice none 0 0,.slice none 0 0,.slice none 0 0] 156
  rw [show (w.alloc (.cells #[.slice Af nf cf,.slice A n c,.slice none 0 0] 156)).heap.size=w.heap.size+1 by simp] at this
  rw [hw2];exact this
 have HSZ:Hid (w2.heap.size=w.heap.size+1+1):=by rw [hw2];show _=_;simp
 have HNN:=Lib.hid hnn
 have HFB:=Lib.hid hF2
 obtain ⟨FL,hFL⟩:∃ FL,FL=flats 0 els:=⟨_,rfl⟩
 have HFL:=Lib.hid hFL
 rw [<-hFL]
 rw [<-hnn] at hn ⊢
 have x0:=HB0.out.cell (i:=0) (by simp)
 have x1:=HB0.out.cell (i:=1) (by simp)
 have x2:=HB0.out.cell (i:=2) (by simp)
 simp only [List.getElem_cons_zero,List.getElem_cons_succ] at x0 x1 x2
 clear hAf hnf hcf hF2e hF hp hw2 hnn hF2 hFL HPV
 go_enter Tryz.func127,Tryz.ntmps127
 go_wp2_with fail
 rw [HW.out]
 with_reducible refine (isLeaf_yes _ Af A nf cf n c).mono ?_
 rintro e w3 ⟨rfl,hb3⟩
 have bd3:Below w2.heap.size w2 w3:=hb3
 clear x0 x1 x2 hb3
 have x1:=(HB0.out.below bd3 HB0.out.lt).cell (i:=1) (by simp)
 simp only [List.getElem_cons_zero,List.getElem_cons_succ] at x1
 have hmk:=make_pairs n hn w3
 have HG:Hid (Blk (w3.alloc (.cells (List.replicate (n*2) (.slice none 0 0)).toArray 123)) w3.heap.size (halfRow 0 [] n).flatten 123):=by rw [halfRow_none];exact Blk.new w3 _ _
 have hb4:Below w3.heap.size w3 (w3.alloc (.cells (List.replicate (n*2) (.slice none 0 0)).toArray 123)):=(Below.refl _ _).alloc (Nat.le_refl _) _
 have HS4:Hid ((w3.alloc (.cells (List.replicate (n*2) (.slice none 0 0)).toArray 123)).heap.size=w3.heap.size+1):=by show _=_;simp
 obtain ⟨w4,hw4⟩:∃ w4,w4=w3.alloc (.cells (List.replicate (n*2) (.slice none 0 0)).toArray 123):=⟨_,rfl⟩
 rw [<-hw4] at hmk HG hb4 HS4
 have bd4:Below w2.heap.size w2 w4:=hop bd3 hb4
 clear hw4 hb4
 have x1':=(HB0.out.below bd4 HB0.out.lt).cell (i:=1) (by simp)
 simp only [List.getElem_cons_zero,List.getElem_cons_succ] at x1'
 go_wp2_with fail
 obtain ⟨G,hGe⟩:∃ G,G=w3.heap.size:=⟨_,rfl⟩
 have hG2:w2.heap.size<=G:=by rw [hGe];exact bd3.size
 have HS4':Hid (w4.heap.size=G+1):=by rw [hGe];exact HS4.out
 rw [<-hGe] at HG
 rw [<-hGe]
 have HFL0:Hid (flats 0 ([]:List (El 0))=flats 0 (els.take 0)):=rfl
 clear x1 x1' hmk HS4 bd3 hGe
 have HG2:=Lib.hid hG2
 clear hG2
 go_loopg [18] n (fun kx s wr=>∃ (k:Nat) (done:List (El 0)),k+kx=n/\s= .int .i64 (k:Int)/\done.length=k/\Blk wr G (halfRow 0 done n).flatten 123/\Spared w4 wr (fun b=>b=G)/\flats 0 done=flats 0 (els.take k)/\AllOk wr (fun b=>F2 b\/b=G) 0 done)
 case atStart=>exact ⟨0,[],by omega,rfl,rfl,HG.out,Spared.refl _ _,HFL0.out,fun x hx=>by cases hx⟩
 case round=>
  obtain ⟨k,done,hk,rfl,hdl,hbg,hsp,hfd,hok⟩:=hrel
  have HDL:=Lib.hid hdl
  have HBG:=Lib.hid hbg
  have HSP:=Lib.hid hsp
  have HFD:=Lib.hid hfd
  have HOK:=Lib.hid hok
  have HBWR:Hid (Below w.heap.size w wr):=HSP.out.below (hop HBW.out bd4) (fun b hb=>by have:=HG2.out;have:=HSZ.out;show _<=b;omega)
  clear hdl hbg hsp hfd hok HG
  by_cases hlt:k<n
  · have hkl:(k:Int)<(n:Int):=by omega
    have hk0:(0:Int)<=(k:Int):=by omega
    have hke:k<els.length:=by rw [<-HNN.out];exact hlt
    obtain ⟨a,b,hkv,⟨hsa,hla⟩,⟨hsb,hlb⟩,bl,off,rfl,hcell⟩:=HELS.out k hke
    obtain ⟨y0,y1⟩:=hcell wr HBWR.out
    obtain ⟨na,hna⟩:∃ na,na=a.2.1.length:=⟨_,rfl⟩
    obtain ⟨nb,hnb⟩:∃ nb,nb=b.2.1.length:=⟨_,rfl⟩
    rw [<-hna] at y0
    rw [<-hnb] at y1
    obtain ⟨w6,hw6⟩:∃ w6,w6=wr.alloc (.cells #[.slice a.1 na a.2.2,.slice b.1 nb b.2.2] 123):=⟨_,rfl⟩
    have HW6:Hid (wr.alloc (.cells #[.slice a.1 na a.2.2,.slice b.1 nb b.2.2] 123)=w6):=hw6.symm
    have hb6:Below wr.heap.size wr w6:=by rw [hw6];exact (Below.refl _ _).alloc (Nat.le_refl _) _
    have HOWN:=Lib.hid (own_any w6 a.1 b.1 a.2.1 b.2.1 na a.2.2 nb b.2.2 hna.symm hnb.symm (by omega) (by omega) (hsa.below (hop HBWR.out hb6)) (hsb.below (hop HBWR.out hb6)))
    have HB6:=Lib.hid hb6
    have HG6:=Lib.hid (HBG.out.below hb6 HBG.out.lt)
    have HTK:Hid (flats 0 (els.take (k+1))=flats 0 (els.take k)++[(a.2.1,b.2.1)]):=by
     show _=_
     rw [List.take_succ_eq_append_getElem hke,flats_append,flats_single,eflat_zero,hkv]
    have HGC:Hid (G<wr.heap.size):=HBG.out.lt
    generalize a.1=Aa at *
    generalize b.1=Ab at *
    generalize a.2.2=ca at *
    generalize b.2.2=cb at *
    clear hcell hsa hsb hla hlb hna hnb hkv hw6 hb6 hke
    go_wp2_with fail
    rw [HW6.out]
    with_reducible refine HOWN.out.mono ?_
    rintro e w7 ⟨⟨qa,qb,rfl,⟨hqa,hpa⟩,⟨hqb,hpb⟩⟩,hb7⟩
    have HG7:=Lib.hid (HG6.out.below hb7 HG6.out.lt)
    have HB7:=Lib.hid hb7
    have HQA:=Lib.hid hqa
    have HQB:=Lib.hid hqb
    have HPA:=Lib.hid hpa
    have HPB:=Lib.hid hpb
    have hdn:done.length<n:=by rw [HDL.out];exact hlt
    have t0:=row_there HG7.out hdn 0 (by decide)
    have t1:=row_there HG7.out hdn 1 (by decide)
    rw [HDL.out] at t0 t1
    obtain ⟨⟨u0,c0⟩,f0⟩:=t0
    obtain ⟨⟨u1,c1⟩,f1⟩:=t1
    rw [Nat.add_zero] at c0 f0
    change w7.cell? ⟨G,k*2,none⟩=_ at c0
    change w7.cell? ⟨G,k*2+1,none⟩=_ at c1
    change w7.frozen? ⟨G,k*2,none⟩=_ at f0
    change w7.frozen? ⟨G,k*2+1,none⟩=_ at f1
    have HROW:=Lib.hid (row_step HG7.out hdn (mkPair qa qb))
    clear hqa hqb hpa hpb hb7 hdn y0 y1
    have HSE:Hid (∀ v0 v1:Value,Spared w7 ((w7.setCell ⟨G,k*2,none⟩ v0).setCell ⟨G,k*2+1,none⟩ v1) (fun b=>b=G)):=fun v0 v1=>((Spared.refl w7 (fun b=>b=G)).setCell (g:=G) rfl _ _).setCell (g:=G) rfl _ _
    have HB67:Hid (Below wr.heap.size wr w7):=hop HB6.out HB7.out
    unfold pv
    go_wp2_with fail
    go_roundg (n-(k+1))
    case measure=>omega
    case rel=>
     have hlt6:∀ b,(F2 b\/b=G)->b<w6.heap.size:=fun b hb=>by
      have h1:=HB6.out.size
      have h2:=HGC.out
      have h3:=HG2.out
      rcases hb with hb | hb
      · have:=HFB.out b hb;omega
      · omega
     refine ⟨k+1,done++[mkPair qa qb],by omega,by go_num,by rw [List.length_append,HDL.out];rfl,?_,?_,?_,?_⟩
     · have:=HROW.out
       rw [HDL.out] at this
       exact this
     · exact (HSP.out.trans (.of_below HB67.out (fun b=>b=G)) (fun _ h=> .inl h)).trans (HSE.out _ _) (fun _ h=> .inl h)
     · rw [HTK.out,flats_append,HFD.out,flats_single,eflat_zero]
       show _++[(qa.2.1,qb.2.1)]=_
       rw [HQA.out,HQB.out]
     · intro y hy
       rcases List.mem_append.1 hy with hy | hy
       · exact EOk.moved ((HSE.out _ _).mono (fun _ h=> .inr h)) (fun _ h=> .inl h) 0 y ((HOK.out y hy).below HB67.out)
       · rw [List.mem_singleton.1 hy]
         exact EOk.moved ((HSE.out _ _).mono (fun _ h=> .inr h)) (fun _ h=> .inl h) 0 _ (show EOk w7 (fun b=>F2 b\/b=G) 0 (mkPair qa qb) from ⟨HPA.out.mono hlt6,HPB.out.mono hlt6⟩)
  · obtain rfl:k=n:=by omega
    have hkl: ¬ (k:Int)<(k:Int):=by omega
    have HCE:Hid (Cells wr F2 (some ⟨G,0,none⟩) (rowCells 0 done)):=by
     refine .inr ⟨G,0,rfl,HBG.out.lt,fun hf=>by have:=HFB.out G hf;have:=HG2.out;omega,fun j hj=> ?_⟩
     have hb:=HBG.out
     rw [halfRow_full 0 done k HDL.out] at hb
     rw [Nat.zero_add]
     exact hb.cell hj
    have HLF:=Lib.hid (leaf_any wr F2 (some ⟨G,0,none⟩) done k k HCE.out (fun x hx=>(HOK.out x hx).mono (fun b hb=> .inl hb)) HDL.out (Nat.le_refl _))
    have HFLE:Hid (flats 0 done=FL):=by
     show _=_
     rw [HFD.out,HFL.out,List.take_of_length_le (by have:=HNN.out;omega)]
    have HR2:Hid (Blk wr (w.heap.size+1) [.slice none 0 0,.slice none 0 0,.slice none 0 0] 156):=HSP.out.blk (HB2.out.below bd4 HB2.out.lt) (by have:=HG2.out;have:=HSZ.out;omega)
    go_wp2_with fail
    with_reducible refine HLF.out.mono ?_
    rintro e w5 ⟨⟨q,rfl,hq⟩,hb5⟩
    have Q5:=Lib.hid (hq.below hb5)
    have HR5:=Lib.hid (HR2.out.below hb5 HR2.out.lt)
    have HB5:=Lib.hid (hop HBWR.out hb5)
    clear hb5 hq
    obtain ⟨a0,m0,d0,a1,n1,d1,a2,m2',d2,hxf⟩:=page_form 0 q
    have HQV:Hid (pval 0 q= .agg #[.slice a0 m0 d0,.slice a1 n1 d1,.slice a2 m2' d2]):=by show pval _ _=_;unfold pval;rw [hxf]
    rw [HQV.out]
    clear hxf
    have r0:=HR5.out.cell (i:=0) (by simp)
    have r1:=HR5.out.cell (i:=1) (by simp)
    have r2:=HR5.out.cell (i:=2) (by simp)
    have f0:=HR5.out.free 0
    have f1:=HR5.out.free 1
    have f2:=HR5.out.free 2
    simp only [List.getElem_cons_zero,List.getElem_cons_succ] at r0 r1 r2
    have HBE:Hid (∀ u0 u1 u2:Value,Below w.heap.size w (((w5.setCell ⟨w.heap.size+1,0,none⟩ u0).setCell ⟨w.heap.size+1,1,none⟩ u1).setCell ⟨w.heap.size+1,2,none⟩ u2)):=fun u0 u1 u2=>((HB5.out.setCell (by simp) _).setCell (by simp) _).setCell (by simp) _
    have HQE:Hid (∀ u0 u1 u2:Value,EOk (((w5.setCell ⟨w.heap.size+1,0,none⟩ u0).setCell ⟨w.heap.size+1,1,none⟩ u1).setCell ⟨w.heap.size+1,2,none⟩ u2) F 1 q):=fun u0 u1 u2=>by
     have:=Q5.out.ok
     rw [HF2.out] at this
     have hsz:=HSZ.out
     exact this.narrow ((((Spared.refl w5 _).setCell (by omega) _ _).setCell (by omega) _ _).setCell (by omega) _ _)
    have HQF:Hid (flats 0 q.els=FL):=by show _=_;rw [Q5.out.els];exact HFLE.out
    have HQN:Hid (q.els.length=k):=by show _=_;rw [Q5.out.els];exact HDL.out
    go_wp2_with fail
    exact bodyPost_ret (v:=pval 0 q) (by rw [HQV.out];simp [results,Tryz.results127,go_sem,r0,r1,r2]) rfl ⟨⟨q,rfl,HQE.out _ _ _,Q5.out.inner,HQF.out,HQN.out⟩,HBE.out _ _ _⟩
set_option maxHeartbeats 2000000 in
set_option maxRecDepth 100000 in
theorem copyNode_any (lv:Nat) (ih:∀ (w:World) (F:Nat->Prop) (_:∀ b,F b->b<w.heap.size) (p:Pg lv) (_:Good w F lv p),Calls Tryz.prog 127 #[pval lv p] w (CopyOut w F lv (flats lv p.els) p.els.length))
 (w:World) (F:Nat->Prop) (hF:∀ b,F b->b<w.heap.size) (p:Pg (lv+1)) (hp:Good w F (lv+1) p):
 Calls Tryz.prog 127 #[pval (lv+1) p] w (CopyOut w F (lv+1) (flats (lv+1) p.els) p.els.length):=by
 obtain ⟨f,A,els,c⟩:=p
 have h0:0<els.length:=hp.some_ (by omega)
 have hn:els.length<=1000:=hp.few
 obtain ⟨b,off,rfl,hb,hFb,hdead⟩:=(hp.ok.2.1).elem 0 h0
 clear hdead
 have HKIDS:Hid (∀ t (ht:t<els.length),∃ kid:Pg lv,kid=els[t]/\(4<=kid.els.length/\kid.els.length<=8)/\Good w F lv kid/\∃ K0 k0 e0 K1 k1 e1 K2 k2 e2,pval lv kid= .agg #[.slice K0 k0 e0,.slice K1 k1 e1,.slice K2 k2 e2]/\∀ W,Below w.heap.size w W->W.cell? ⟨b,off+t*3,none⟩=some (.slice K0 k0 e0)/\W.cell? ⟨b,off+t*3+1,none⟩=some (.slice K1 k1 e1)/\W.cell? ⟨b,off+t*3+2,none⟩=some (.slice K2 k2 e2)):=fun t ht=>by
  obtain ⟨K0,k0,e0,K1,k1,e1,K2,k2,e2,hkv⟩:=page_form lv els[t]
  refine ⟨els[t],rfl,(hp.inner.full (List.getElem_mem ht)).1,hp.kid t ht,K0,k0,e0,K1,k1,e1,K2,k2,e2,by unfold pval;rw [hkv],fun W hW=> ?_⟩
  obtain ⟨hb',_,z0,z1,z2⟩:=kid_cells hp.ok.2.1 t ht els[t] rfl hkv
  exact ⟨(hW.cell (p:=⟨b,off+t*3,none⟩) hb').trans z0,(hW.cell (p:=⟨b,off+t*3+1,none⟩) hb').trans z1,(hW.cell (p:=⟨b,off+t*3+2,none⟩) hb').trans z2⟩
 obtain ⟨n,hnn⟩:∃ n,n=els.length:=⟨_,rfl⟩
 have HPV:Hid (pval (lv+1) ⟨f,some ⟨b,off,none⟩,els,c⟩= .agg #[.slice f.1 f.2.1.length f.2.2,.slice none 0 0,.slice (some ⟨b,off,none⟩) n c]):=by rw [hnn];rfl
 obtain ⟨Af,hAf⟩:∃ Af,Af=f.1:=⟨_,rfl⟩
 obtain ⟨nf,hnf⟩:∃ nf,nf=f.2.1.length:=⟨_,rfl⟩
 obtain ⟨cf,hcf⟩:∃ cf,cf=f.2.2:=⟨_,rfl⟩
 rw [<-hAf,<-hnf,<-hcf] at HPV
 obtain ⟨w2,hw2⟩:∃ w2,w2=(w.alloc (.cells #[.slice Af nf cf,.slice none 0 0,.slice (some ⟨b,off,none⟩) n c] 156)).alloc (.cells #[.slice none 0 0,.slice none 0 0,.slice none 0 0] 156):=⟨_,rfl⟩
 have HBW:Hid (Below w.heap.size w w2):=by rw [hw2];exact ((Below.refl _ _).alloc (Nat.le_refl _) _).alloc (by simp) _
 have hF2:=Wider.lt hF HBW.out.size
 obtain ⟨F2,hF2e⟩:∃ F2,F2=Wider w w2 F:=⟨_,rfl⟩
 have HF2:=Lib.hid hF2e
 rw [<-hF2e] at hF2
 dsimp only at ⊢
 rw [HPV.out]
 have HW:Hid ((w.alloc (.cells #[.slice Af nf cf,.slice none 0 0,.slice (some ⟨b,off,none⟩) n c] 156)).alloc (.cells #[.slice none 0 0,.slice none 0 0,.slice none 0 0] 156)=w2):=hw2.symm
 have HB0:Hid (Blk w2 w.heap.size [.slice Af nf cf,.slice none 0 0,.slice (some ⟨b,off,none⟩) n c] 156):=by rw [hw2];exact (Blk.new w _ _).alloc _
 have HB2:Hid (Blk w2 (w.heap.size+1) [.slice none 0 0,.slice none 0 0,.slice none 0 0] 156):=by
  have:=Blk.new (w.alloc (.cells #[.slice Af nf cf,.slice none 0 0,.slice (some ⟨b,off,none⟩) n c] 156)) [.slice none 0 0,.slice none 0 0,.slice none 0 0] 156
  rw [show (w.alloc (.cells #[.slice Af nf cf,.slice none 0 0,.slice (some ⟨b,off,none⟩) n c] 156)).heap.size=w.heap.size+1 by simp] at this
  rw [hw2];exact this
 have HSZ:Hid (w2.heap.size=w.heap.size+1+1):=by rw [hw2];show _=_;simp
 have HNN:=Lib.hid hnn
 have HFB:=Lib.hid hF2
 have HFW:=Lib.hid hF
 have HIH:=Lib.hid ih
 obtain ⟨FL,hFL⟩:∃ FL,FL=flats (lv+1) els:=⟨_,rfl⟩
 have HFL:=Lib.hid hFL
 rw [<-hFL]
 rw [<-hnn] at hn h0 ⊢
 have x0:=HB0.out.cell (i:=0) (by simp)
 have x1:=HB0.out.cell (i:=1) (by simp)
 have x2:=HB0.out.cell (i:=2) (by simp)
 simp only [List.getElem_cons_zero,List.getElem_cons_succ] at x0 x1 x2
 clear hAf hnf hcf hF2e hF hp hw2 hnn hF2 hFL HPV ih hb hFb
 go_enter Tryz.func127,Tryz.ntmps127
 go_wp2_with fail
 rw [HW.out]
 with_reducible refine (isLeaf_no _ Af none (some ⟨b,off,none⟩) nf cf 0 0 n c h0).mono ?_
 rintro e w3 ⟨rfl,hb3⟩
 have bd3:Below w2.heap.size w2 w3:=hb3
 clear x0 x1 x2 hb3
 have x1:=(HB0.out.below bd3 HB0.out.lt).cell (i:=2) (by simp)
 simp only [List.getElem_cons_zero,List.getElem_cons_succ] at x1
 have hmk:=make_pages n hn w3
 have HG:Hid (Blk (w3.alloc (.cells (List.replicate (n*3) (.slice none 0 0)).toArray 156)) w3.heap.size (halfRow (lv+1) [] n).flatten 156):=by rw [halfRow_none];exact Blk.new w3 _ _
 have hb4:Below w3.heap.size w3 (w3.alloc (.cells (List.replicate (n*3) (.slice none 0 0)).toArray 156)):=(Below.refl _ _).alloc (Nat.le_refl _) _
 have HS4:Hid ((w3.alloc (.cells (List.replicate (n*3) (.slice none 0 0)).toArray 156)).heap.size=w3.heap.size+1):=by show _=_;simp
 obtain ⟨w4,hw4⟩:∃ w4,w4=w3.alloc (.cells (List.replicate (n*3) (.slice none 0 0)).toArray 156):=⟨_,rfl⟩
 rw [<-hw4] at hmk HG hb4 HS4
 have bd4:Below w2.heap.size w2 w4:=hop bd3 hb4
 clear hw4 hb4
 have x1':=(HB0.out.below bd4 HB0.out.lt).cell (i:=2) (by simp)
 simp only [List.getElem_cons_zero,List.getElem_cons_succ] at x1'
 go_wp2_with fail
 obtain ⟨G,hGe⟩:∃ G,G=w3.heap.size:=⟨_,rfl⟩
 have hG2:w2.heap.size<=G:=by rw [hGe];exact bd3.size
 have HS4':Hid (w4.heap.size=G+1):=by rw [hGe];exact HS4.out
 rw [<-hGe] at HG
 rw [<-hGe]
 have HFL0:Hid (flats (lv+1) ([]:List (El (lv+1)))=flats (lv+1) (els.take 0)):=rfl
 clear x1 x1' hmk HS4 bd3 hGe
 have HG2:=Lib.hid hG2
 clear hG2
 go_loopg [38] n (fun kx s wr=>∃ (k:Nat) (done:List (El (lv+1))),k+kx=n/\s= .int .i64 (k:Int)/\done.length=k/\Blk wr G (halfRow (lv+1) done n).flatten 156/\Spared w4 wr (fun b=>b=G)/\flats (lv+1) done=flats (lv+1) (els.take k)/\AllOk wr (fun b=>F2 b\/b=G) (lv+1) done/\∀ x ∈ done,Full (lv+1) x)
 case atStart=>exact ⟨0,[],by omega,rfl,rfl,HG.out,Spared.refl _ _,HFL0.out,(fun x hx=>by cases hx),fun x hx=>by cases hx⟩
 case round=>
  obtain ⟨k,done,hk,rfl,hdl,hbg,hsp,hfd,hok,hfu⟩:=hrel
  have HDL:=Lib.hid hdl
  have HBG:=Lib.hid hbg
  have HSP:=Lib.hid hsp
  have HFD:=Lib.hid hfd
  have HOK:=Lib.hid hok
  have HFU:=Lib.hid hfu
  have HBWR:Hid (Below w.heap.size w wr):=HSP.out.below (hop HBW.out bd4) (fun b hb=>by have:=HG2.out;have:=HSZ.out;show _<=b;omega)
  clear hdl hbg hsp hfd hok HG hfu
  by_cases hlt:k<n
  · have hkl:(k:Int)<(n:Int):=by omega
    have hk0:(0:Int)<=(k:Int):=by omega
    have hke:k<els.length:=by rw [<-HNN.out];exact hlt
    obtain ⟨kid,hkid,hk48,hgood,K0,k0,e0,K1,k1,e1,K2,k2,e2,hkv,hcell⟩:=HKIDS.out k hke
    obtain ⟨y0,y1,y2⟩:=hcell wr HBWR.out
    obtain ⟨w6,hw6⟩:∃ w6,w6=wr.alloc (.cells #[.slice K0 k0 e0,.slice K1 k1 e1,.slice K2 k2 e2] 156):=⟨_,rfl⟩
    have HW6:Hid (wr.alloc (.cells #[.slice K0 k0 e0,.slice K1 k1 e1,.slice K2 k2 e2] 156)=w6):=hw6.symm
    have hb6:Below wr.heap.size wr w6:=by rw [hw6];exact (Below.refl _ _).alloc (Nat.le_refl _) _
    have HB6:=Lib.hid hb6
    have HG6:=Lib.hid (HBG.out.below hb6 HBG.out.lt)
    have HTK:Hid (flats (lv+1) (els.take (k+1))=flats (lv+1) (els.take k)++flats lv kid.els):=by
     show _=_
     rw [List.take_succ_eq_append_getElem hke,flats_append,flats_single,hkid]
     rfl
    have HGC:Hid (G<wr.heap.size):=HBG.out.lt
    have HF6:Hid (∀ b,(F2 b\/b=G)->b<w6.heap.size):=fun b hb=>by
     have h1:=HB6.out.size
     have h2:=HGC.out
     have h3:=HG2.out
     rcases hb with hb | hb
     · have:=HFB.out b hb;omega
     · omega
    have HK48:=Lib.hid hk48
    -- the page below lies in no block that was laid since
    have HGK:Hid (Good w6 (fun b=>F2 b\/b=G) lv kid):=by
     refine ⟨EOk.moved (.of_below (hop HBWR.out hb6) F) (fun i hi=> ?_) (lv+1) kid hgood.ok,hgood.inner,hgood.srt,hgood.few,hgood.some_⟩
     rcases hi with hi | hi
     · rw [HF2.out] at hi
       exact Wider.new i hi
     · exact .inr (by have:=HG2.out;have:=HSZ.out;omega)
    have HCP:=Lib.hid (HIH.out w6 (fun b=>F2 b\/b=G) HF6.out kid HGK.out)
    rw [hkv] at HCP
    clear hcell hkv hw6 hb6 hke hgood hk48 hkid
    go_wp2_with fail
    rw [HW6.out]
    with_reducible refine HCP.out.mono ?_
    rintro e w7 ⟨⟨q,rfl,hq1,hq2,hq3,hq4⟩,hb7⟩
    have HG7:=Lib.hid (HG6.out.below hb7 HG6.out.lt)
    have HB7:=Lib.hid hb7
    have Q1:=Lib.hid hq1
    have Q2:=Lib.hid hq2
    have Q3:=Lib.hid hq3
    have Q4:=Lib.hid hq4
    obtain ⟨a0,m0,d0,a1,n1,d1,a2,m2',d2,hxf⟩:=page_form lv q
    have HQV:Hid (pval lv q= .agg #[.slice a0 m0 d0,.slice a1 n1 d1,.slice a2 m2' d2]):=by show pval _ _=_;unfold pval;rw [hxf]
    have HQC:Hid (ecells (lv+1) q=[.slice a0 m0 d0,.slice a1 n1 d1,.slice a2 m2' d2]):=hxf
    have hdn:done.length<n:=by rw [HDL.out];exact hlt
    have t0:=row_there HG7.out hdn 0 (by decide:0<3)
    have t1:=row_there HG7.out hdn 1 (by decide:1<3)
    have t2:=row_there HG7.out hdn 2 (by decide:2<3)
    rw [HDL.out] at t0 t1 t2
    obtain ⟨⟨u0,c0⟩,f0⟩:=t0
    obtain ⟨⟨u1,c1⟩,f1⟩:=t1
    obtain ⟨⟨u2,c2⟩,f2⟩:=t2
    rw [Nat.add_zero] at c0 f0
    change w7.cell? ⟨G,k*3,none⟩=_ at c0
    change w7.cell? ⟨G,k*3+1,none⟩=_ at c1
    change w7.cell? ⟨G,k*3+2,none⟩=_ at c2
    change w7.frozen? ⟨G,k*3,none⟩=_ at f0
    change w7.frozen? ⟨G,k*3+1,none⟩=_ at f1
    change w7.frozen? ⟨G,k*3+2,none⟩=_ at f2
    have HROW:=Lib.hid (row_step HG7.out hdn q)
    clear hq1 hq2 hq3 hq4 hxf hb7 hdn y0 y1 y2
    have HSE:Hid (∀ v0 v1 v2:Value,Spared w7 (((w7.setCell ⟨G,k*3,none⟩ v0).setCell ⟨G,k*3+1,none⟩ v1).setCell ⟨G,k*3+2,none⟩ v2) (fun b=>b=G)):=fun v0 v1 v2=>(((Spared.refl w7 (fun b=>b=G)).setCell (g:=G) rfl _ _).setCell (g:=G) rfl _ _).setCell (g:=G) rfl _ _
    have HB67:Hid (Below wr.heap.size wr w7):=hop HB6.out HB7.out
    rw [HQV.out]
    go_wp2_with fail
    go_roundg (n-(k+1))
    case measure=>omega
    case rel=>
     refine ⟨k+1,done++([q]:List (El (lv+1))),by omega,by go_num,by rw [List.length_append,HDL.out];rfl,?_,?_,?_,?_,?_⟩
     · have:=HROW.out
       rw [HDL.out,HQC.out] at this
       exact this
     · exact (HSP.out.trans (.of_below HB67.out (fun b=>b=G)) (fun _ h=> .inl h)).trans (HSE.out _ _ _) (fun _ h=> .inl h)
     · rw [HTK.out,flats_append,HFD.out]
       refine congrArg _ ((flats_single (lv+1) q).trans ?_)
       exact Q3.out
     · intro y hy
       rcases List.mem_append.1 hy with hy | hy
       · exact EOk.moved ((HSE.out _ _ _).mono (fun _ h=> .inr h)) (fun _ h=> .inl h) (lv+1) y ((HOK.out y hy).below HB67.out)
       · rw [List.mem_singleton.1 hy]
         exact EOk.moved ((HSE.out _ _ _).mono (fun _ h=> .inr h)) (fun _ h=> .inl h) (lv+1) q Q1.out
     · intro y hy
       rcases List.mem_append.1 hy with hy | hy
       · exact HFU.out y hy
       · rw [List.mem_singleton.1 hy]
         refine ⟨?_,Q2.out⟩
         show 4<=q.els.length/\q.els.length<=8
         rw [Q4.out]
         exact HK48.out
  · obtain rfl:k=n:=by omega
    have hkl: ¬ (k:Int)<(k:Int):=by omega
    have HCE:Hid (Cells wr F2 (some ⟨G,0,none⟩) (rowCells (lv+1) done)):=by
     refine .inr ⟨G,0,rfl,HBG.out.lt,fun hf=>by have:=HFB.out G hf;have:=HG2.out;omega,fun j hj=> ?_⟩
     have hb:=HBG.out
     rw [halfRow_full (lv+1) done k HDL.out] at hb
     rw [Nat.zero_add]
     exact hb.cell hj
    have HLF:=Lib.hid (above_any wr F2 lv (some ⟨G,0,none⟩) done k k HCE.out (fun x hx=>(HOK.out x hx).mono (fun b hb=> .inl hb)) HFU.out HDL.out (Nat.le_refl _) h0)
    have HFLE:Hid (flats (lv+1) done=FL):=by
     show _=_
     rw [HFD.out,HFL.out,List.take_of_length_le (by have:=HNN.out;omega)]
    have HR2:Hid (Blk wr (w.heap.size+1) [.slice none 0 0,.slice none 0 0,.slice none 0 0] 156):=HSP.out.blk (HB2.out.below bd4 HB2.out.lt) (by have:=HG2.out;have:=HSZ.out;omega)
    go_wp2_with fail
    with_reducible refine HLF.out.mono ?_
    rintro e w5 ⟨⟨q,rfl,hq⟩,hb5⟩
    have Q5:=Lib.hid (hq.below hb5)
    have HR5:=Lib.hid (HR2.out.below hb5 HR2.out.lt)
    have HB5:=Lib.hid (hop HBWR.out hb5)
    clear hb5 hq
    obtain ⟨a0,m0,d0,a1,n1,d1,a2,m2',d2,hxf⟩:=page_form (lv+1) q
    have HQV:Hid (pval (lv+1) q= .agg #[.slice a0 m0 d0,.slice a1 n1 d1,.slice a2 m2' d2]):=by show pval _ _=_;unfold pval;rw [hxf]
    rw [HQV.out]
    clear hxf
    have r0:=HR5.out.cell (i:=0) (by simp)
    have r1:=HR5.out.cell (i:=1) (by simp)
    have r2:=HR5.out.cell (i:=2) (by simp)
    have f0:=HR5.out.free 0
    have f1:=HR5.out.free 1
    have f2:=HR5.out.free 2
    simp only [List.getElem_cons_zero,List.getElem_cons_succ] at r0 r1 r2
    have HBE:Hid (∀ u0 u1 u2:Value,Below w.heap.size w (((w5.setCell ⟨w.heap.size+1,0,none⟩ u0).setCell ⟨w.heap.size+1,1,none⟩ u1).setCell ⟨w.heap.size+1,2,none⟩ u2)):=fun u0 u1 u2=>((HB5.out.setCell (by simp) _).setCell (by simp) _).setCell (by simp) _
    have HQE:Hid (∀ u0 u1 u2:Value,EOk (((w5.setCell ⟨w.heap.size+1,0,none⟩ u0).setCell ⟨w.heap.size+1,1,none⟩ u1).setCell ⟨w.heap.size+1,2,none⟩ u2) F (lv+2) q):=fun u0 u1 u2=>by
     have:=Q5.out.ok
     rw [HF2.out] at this
     have hsz:=HSZ.out
     exact this.narrow ((((Spared.refl w5 _).setCell (by omega) _ _).setCell (by omega) _ _).setCell (by omega) _ _)
    have HQF:Hid (flats (lv+1) q.els=FL):=by show _=_;rw [Q5.out.els];exact HFLE.out
    have HQN:Hid (q.els.length=k):=by show _=_;rw [Q5.out.els];exact HDL.out
    go_wp2_with fail
    exact bodyPost_ret (v:=pval (lv+1) q) (by rw [HQV.out];simp [results,Tryz.results127,go_sem,r0,r1,r2]) rfl ⟨⟨q,rfl,HQE.out _ _ _,Q5.out.inner,HQF.out,HQN.out⟩,HBE.out _ _ _⟩
theorem copy_any:(lv:Nat)->∀ (w:World) (F:Nat->Prop) (_:∀ b,F b->b<w.heap.size) (p:Pg lv) (_:Good w F lv p),Calls Tryz.prog 127 #[pval lv p] w (CopyOut w F lv (flats lv p.els) p.els.length)
 | 0=>fun w F hF p hp=>copyLeaf_any w F hF p hp.ok hp.few
 | lv+1=>fun w F hF p hp=>copyNode_any lv (copy_any lv) w F hF p hp
def TCopyOut (w:World) (F:Nat->Prop) (room:Int) (L:List Kv) (e:Ending) (w':World):Prop:=
 Below w.heap.size w w'/\∃ g',e= .returned (.pointer (some ⟨g',0,none⟩))/\w.heap.size<=g'/\g'<w'.heap.size/\TreeAt w' (fun b=>F b\/b=g') g' room L
set_option maxHeartbeats 1000000 in
theorem tcopy_any (w:World) (F:Nat->Prop) (hF:∀ b,F b->b<w.heap.size) (g:Nat) (room:Int) (L:List Kv) (t:TreeAt w F g room L):
 Calls Tryz.prog 91 #[.pointer (some ⟨g,0,none⟩)] w (TCopyOut w F room L):=by
 have HSM:=Lib.hid t.2.1
 obtain ⟨h,p,A0,A1,A2,n0,c0,n1,c1,n2,c2,hr,hv,hc,hb⟩:=tree_open t
 have HB:=Lib.hid hb
 have hgood:=hr.good
 have HC:Hid (∀ W,Below w.heap.size w W->Calls Tryz.prog 127 #[.agg #[.slice A0 n0 c0,.slice A1 n1 c1,.slice A2 n2 c2]] W (CopyOut W F h L p.els.length)):=fun W hW=>by
  have:=copy_any h W F (fun b hb=>Nat.lt_of_lt_of_le (hF b hb) hW.size) p (hgood.below hW)
  rw [hv,hr.flat] at this
  exact this
 have HRT:=Lib.hid hr
 obtain ⟨N,hN⟩:∃ N,N=L.length:=⟨_,rfl⟩
 obtain ⟨S,hS⟩:∃ S,S=sizeT L:=⟨_,rfl⟩
 rw [<-hN,<-hS] at HB
 have HN:=Lib.hid hN
 have HS:=Lib.hid hS
 have HK:Hid (∀ W,Below w.heap.size w W->W.cell? ⟨g,0,none⟩=some (.slice A0 n0 c0)/\W.cell? ⟨g,1,none⟩=some (.slice A1 n1 c1)/\W.cell? ⟨g,2,none⟩=some (.slice A2 n2 c2)/\W.cell? ⟨g,3,none⟩=some (.int .i64 room)/\W.cell? ⟨g,4,none⟩=some (.int .i64 (N:Int))/\W.cell? ⟨g,5,none⟩=some (.int .i64 (S:Int))):=fun W hW=>by
  have:=HB.out.below hW HB.out.lt
  exact ⟨this.cell (i:=0) (by simp),this.cell (i:=1) (by simp),this.cell (i:=2) (by simp),this.cell (i:=3) (by simp),this.cell (i:=4) (by simp),this.cell (i:=5) (by simp)⟩
 have bd:Below w.heap.size w w.drew:=(Below.refl _ _).drew
 have HF:=Lib.hid hF
 clear hr hv hc hb hgood t hN hS hF
 go_enter Tryz.func91,Tryz.ntmps91
 go_upto_region 3 with fail
 go_region_held_law (fun W=>W.cell? ⟨g,0,none⟩=some (.slice A0 n0 c0)/\W.cell? ⟨g,1,none⟩=some (.slice A1 n1 c1)/\W.cell? ⟨g,2,none⟩=some (.slice A2 n2 c2)/\W.cell? ⟨g,3,none⟩=some (.int .i64 room)/\W.cell? ⟨g,4,none⟩=some (.int .i64 (N:Int))/\W.cell? ⟨g,5,none⟩=some (.int .i64 (S:Int)))
  (first | exact HK.out _ bd | exact HK.out _ bd6 | exact HK.out _ (bd6.alloc bd6.size _))
  ((go_at_call 127;(with_reducible refine (HC.out _ bd).mono ?_);rintro e w6 ⟨⟨q,rfl,hq1,hq2,hq3,hq4⟩,hb6⟩;have bd6:Below w.heap.size w w6:=hop bd hb6;have Q1:=Lib.hid hq1;have Q2:=Lib.hid hq2;have Q3:=Lib.hid hq3;have Q4:=Lib.hid hq4;clear hb6 hq1 hq2 hq3 hq4;obtain ⟨a0,m0,d0,a1,m1,d1,a2,m2,d2,hxf⟩:=page_form h q;have XF:=Lib.hid hxf;unfold pval;rw [hxf];clear hxf))
 all_goals go_wp2_with fail
 all_goals go_ret
 refine ⟨bd6.alloc bd6.size _,w6.heap.size,rfl,bd6.size,by simp,.inr rfl,HSM.out,h,q,?_,?_⟩
 · exact ⟨EOk.moved (.of_below ((Below.refl _ _).alloc (Nat.le_refl _) _) F) (fun i hi=>hi.imp id (fun e=>by omega)) (h+1) q Q1.out,Q2.out,Q3.out,HRT.out.srt,by have:=Q4.out;have:=HRT.out.top;omega,fun h0=>by have:=Q4.out;have:=HRT.out.two h0;omega⟩
 · unfold treeCells
   rw [XF.out,<-HN.out,<-HS.out]
   exact Blk.new w6 _ _
end Go.Proofs.YtdaahapbpnjkfaaGreat
