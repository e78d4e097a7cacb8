/-
with, of a leaf: the leaf with a pair, which takes the place of the one with the same key. Conditions: the keys rise; at most 1000 pairs.
-/
import Derived.Test.YtdaahapbpnjkfaaGreatCTrJnK
namespace Go.Proofs.YtdaahapbpnjkfaaGreat
open Go.RowKit
set_option maxHeartbeats 400000 in
theorem top_walk (w:World) (b off c:Nat) (A0 A1 A2:Option Addr) (n0 c0 n1 c1 n2 c2:Nat) (h0:w.cell? ⟨b,off,none⟩=some (.slice A0 n0 c0)) (h1:w.cell? ⟨b,off+1,none⟩=some (.slice A1 n1 c1)) (h2:w.cell? ⟨b,off+2,none⟩=some (.slice A2 n2 c2)) (hb:b<w.heap.size):
 Calls Tryz.prog 125 #[.slice (some ⟨b,off,none⟩) 1 c] w fun e w'=>e= .returned (.agg #[.slice A0 n0 c0,.slice A1 n1 c1,.slice A2 n2 c2])/\Below w.heap.size w w':=by
 have hne:w.heap.size≠b:=by omega
 go_enter Tryz.func125,Tryz.ntmps125
 go_wp2_with fail
 exact bodyPost_ret (v:= .agg #[.slice A0 n0 c0,.slice A1 n1 c1,.slice A2 n2 c2]) (by simp [results,Tryz.results125,go_sem]) rfl ⟨rfl,(Below.refl _ _).alloc (Nat.le_refl _) _⟩
theorem top_one (w:World) (F:Nat->Prop) (h:Nat) (p:Pg h) (A:Option Addr) (c:Nat) (hc:Cells w F A (rowCells (h+1) [p])):
 Calls Tryz.prog 125 #[.slice A 1 c] w fun e w'=>e= .returned (pval h p)/\Below w.heap.size w w':=by
 obtain ⟨b,off,rfl,hb,_,hcell⟩:=hc.elem 0 (Nat.zero_lt_one:0<1)
 obtain ⟨A0,n0,c0,A1,n1,c1,A2,n2,c2,hv⟩:=page_form h p
 have k:∀ j,j<3->w.cell? ⟨b,off+0*3+j,none⟩=([.slice A0 n0 c0,.slice A1 n1 c1,.slice A2 n2 c2]:List Value)[j]? :=fun j hj=>(hcell j hj).trans (by show (ecells (h+1) p)[j]? =_;rw [hv])
 have k0:=k 0 (by decide)
 have k1:=k 1 (by decide)
 have k2:=k 2 (by decide)
 rw [Nat.zero_mul,Nat.add_zero] at k0 k1 k2
 refine (top_walk w b off c A0 A1 A2 n0 c0 n1 c1 n2 c2 k0 k1 k2 hb).mono ?_
 rintro e w' ⟨rfl,hb'⟩
 exact ⟨by unfold pval;rw [hv],hb'⟩
set_option maxHeartbeats 400000 in
theorem top_two (w:World) (F:Nat->Prop) (hF:∀ b,F b->b<w.heap.size) (h:Nat) (A:Option Addr) (c n:Nat) (l:List (El (h+1))) (hc:Cells w F A (rowCells (h+1) l)) (hok:AllOk w F (h+1) l) (hf:∀ x ∈ l,Full (h+1) x) (hn:l.length=n) (h2:n=2) (hcap:n<=c):
 Calls Tryz.prog 125 #[.slice A n c] w (PageOut w F (h+1) l):=by
 obtain ⟨w2,hw2⟩:∃ w2,w2=w.alloc (.cells #[.slice none 0 0,.slice none 0 0,.slice none 0 0] 156):=⟨_,rfl⟩
 have HBW:Hid (Below w.heap.size w w2):=by rw [hw2];exact (Below.refl _ _).alloc (Nat.le_refl _) _
 have hok2:AllOk w2 (Wider w w2 F) (h+1) l:=fun x hx=>EOk.wider (hok x hx) HBW.out
 have hF2:=Wider.lt hF HBW.out.size
 have hc2:Cells w2 (Wider w w2 F) A (rowCells (h+1) l):=hc.moved (.of_below HBW.out F) Wider.new
 obtain ⟨F2,hF2e⟩:∃ F2,F2=Wider w w2 F:=⟨_,rfl⟩
 have HF2:=Lib.hid hF2e
 rw [<-hF2e] at hok2 hc2 hF2
 have HABV:Hid (Calls Tryz.prog 150 #[.slice A n c] w2 fun e w'=>(∃ q:Pg (h+1),e= .returned (pval (h+1) q)/\IsPg w2 F2 (h+1) l q)/\Below w2.heap.size w2 w'):=
  above_any w2 F2 h A l n c hc2 hok2 hf hn hcap (by omega)
 have HB2:Hid (Blk w2 w.heap.size [.slice none 0 0,.slice none 0 0,.slice none 0 0] 156):=by rw [hw2];exact Blk.new w _ _
 have HSZ:Hid (w2.heap.size=w.heap.size+1):=by rw [hw2];show _=_;simp
 have HW:Hid (w.alloc (.cells #[.slice none 0 0,.slice none 0 0,.slice none 0 0] 156)=w2):=hw2.symm
 have hne:((n:Int)==1)=false:=by rw [beq_eq_false_iff_ne];omega
 clear hF2e hF hc hok hf hn h2 hok2 hc2 hw2 hF2
 go_enter Tryz.func125,Tryz.ntmps125
 go_wp2_with fail
 rw [HW.out]
 with_reducible refine (HABV.out).mono ?_
 rintro e w5 ⟨⟨q,rfl,hq⟩,hb5⟩
 have bd5:Below w2.heap.size w2 w5:=hb5
 have Q5:=Lib.hid (hq.below hb5)
 clear hb5 hq
 obtain ⟨a0,m0,d0,a1,n1,d1,a2,m2',d2,hxf⟩:=page_form (h+1) q
 have HQV:Hid (pval (h+1) q= .agg #[.slice a0 m0 d0,.slice a1 n1 d1,.slice a2 m2' d2]):=by show pval _ _=_;unfold pval;rw [hxf]
 rw [HQV.out]
 clear hxf
 have r0:=(HB2.out.below bd5 HB2.out.lt).cell (i:=0) (by simp)
 have r1:=(HB2.out.below bd5 HB2.out.lt).cell (i:=1) (by simp)
 have r2:=(HB2.out.below bd5 HB2.out.lt).cell (i:=2) (by simp)
 have f0:=(HB2.out.below bd5 HB2.out.lt).free 0
 have f1:=(HB2.out.below bd5 HB2.out.lt).free 1
 have f2:=(HB2.out.below bd5 HB2.out.lt).free 2
 simp only [List.getElem_cons_zero,List.getElem_cons_succ] at r0 r1 r2
 have HBE:Hid (∀ u0 u1 u2:Value,Below w.heap.size w (((w5.setCell ⟨w.heap.size,0,none⟩ u0).setCell ⟨w.heap.size,1,none⟩ u1).setCell ⟨w.heap.size,2,none⟩ u2)):=fun u0 u1 u2=>(((hop HBW.out bd5).setCell (Nat.le_refl _) _).setCell (Nat.le_refl _) _).setCell (Nat.le_refl _) _
 have HQE:Hid (∀ u0 u1 u2:Value,IsPg (((w5.setCell ⟨w.heap.size,0,none⟩ u0).setCell ⟨w.heap.size,1,none⟩ u1).setCell ⟨w.heap.size,2,none⟩ u2) F (h+1) l q):=fun u0 u1 u2=>by
  refine ⟨Q5.out.els,?_,Q5.out.inner⟩
  have:=Q5.out.ok
  rw [HF2.out] at this
  have hsz:=HSZ.out
  exact this.narrow ((((Spared.refl w5 _).setCell (by omega) _ _).setCell (by omega) _ _).setCell (by omega) _ _)
 go_wp2_with fail
 exact bodyPost_ret (v:=pval (h+1) q) (by rw [HQV.out];simp [results,Tryz.results125,go_sem,r0,r1,r2]) rfl ⟨⟨q,rfl,HQE.out _ _ _⟩,HBE.out _ _ _⟩
def WithOut (w:World) (F:Nat->Prop) (h:Nat) (l:List Kv) (n:Nat) (k v:Key) (e:Ending) (w':World):Prop:=
 (∃ q:Pg h,e= .returned (pval h q)/\EOk w' F (h+1) q/\Inner (h+1) q/\flats h q.els=putT k v l/\(n<=q.els.length/\q.els.length<=n+1/\0<q.els.length))/\Below w.heap.size w w'
theorem flats_take0 (l:List (El 0)) (m:Nat):flats 0 (l.take m)=(flats 0 l).take m:=by rw [flats_zero,flats_zero,List.map_take]
theorem flats_drop0 (l:List (El 0)) (m:Nat):flats 0 (l.drop m)=(flats 0 l).drop m:=by rw [flats_zero,flats_zero,List.map_drop]
theorem leaf_cut {l:List (El 0)} (hs:Srt (flats 0 l)) (k:Key):∃ j,(low k (flats 0 l)).length<=j/\j<=l.length/\j=(low k (flats 0 l)).length+(if hasL k (flats 0 l) then 1 else 0)/\flats 0 (l.take (low k (flats 0 l)).length)=low k (flats 0 l)/\flats 0 (l.drop j)=high k (flats 0 l):=by
 have hlen:=flats_zero_length l
 rcases hs.cut k with ⟨h1,h2,_⟩ | ⟨h1,h2,_⟩
 · refine ⟨(low k (flats 0 l)).length+1,by omega,?_,by rw [h1];rfl,?_,?_⟩
   · have:=congrArg List.length h2
     rw [List.length_append,List.length_cons] at this
     omega
   · rw [flats_take0]
     conv=>lhs;arg 2;rw [h2]
     exact List.take_left
   · rw [flats_drop0]
     conv=>lhs;arg 2;rw [h2]
     rw [show low k (flats 0 l)++(k,getT k (flats 0 l))::high k (flats 0 l)=(low k (flats 0 l)++[(k,getT k (flats 0 l))])++high k (flats 0 l) by simp]
     exact List.drop_left' (by simp)
 · refine ⟨(low k (flats 0 l)).length,Nat.le_refl _,?_,by rw [h1];rfl,?_,?_⟩
   · have:=congrArg List.length h2
     rw [List.length_append] at this
     omega
   · rw [flats_take0]
     conv=>lhs;arg 2;rw [h2]
     exact List.take_left
   · rw [flats_drop0]
     conv=>lhs;arg 2;rw [h2]
     exact List.drop_left
set_option maxHeartbeats 2000000 in
set_option maxRecDepth 100000 in
theorem withLeaf_any (w:World) (F:Nat->Prop) (hF:∀ b,F b->b<w.heap.size) (p:Pg 0) (x:El 0) (hp:EOk w F 1 p) (hs:Srt (flats 0 p.els)) (hx:EOk w F 0 x) (hn:p.els.length<=1000):
 Calls Tryz.prog 124 #[pval 0 p,.agg #[pv (epiece 0 x),pv (eval0 x)]] w (WithOut w F 0 (flats 0 p.els) p.els.length (epiece 0 x).2.1 (eval0 x).2.1):=by
 obtain ⟨f,A,els,c⟩:=p
 obtain ⟨n,hnn⟩:∃ n,n=els.length:=⟨_,rfl⟩
 have HPV:Hid (pval 0 ⟨f,A,els,c⟩= .agg #[.slice f.1 f.2.1.length f.2.2,.slice A n c,.slice none 0 0]):=by rw [hnn];rfl
 obtain ⟨Af,hAf⟩:∃ Af,Af=f.1:=⟨_,rfl⟩
 obtain ⟨nf,hnf⟩:∃ nf,nf=f.2.1.length:=⟨_,rfl⟩
 obtain ⟨cf,hcf⟩:∃ cf,cf=f.2.2:=⟨_,rfl⟩
 rw [<-hAf,<-hnf,<-hcf] at HPV
 obtain ⟨Ak,hAk⟩:∃ a,a=(epiece 0 x).1:=⟨_,rfl⟩
 obtain ⟨nk,hnk⟩:∃ a,a=(epiece 0 x).2.1.length:=⟨_,rfl⟩
 obtain ⟨ck,hck⟩:∃ a,a=(epiece 0 x).2.2:=⟨_,rfl⟩
 obtain ⟨Av,hAv⟩:∃ a,a=(eval0 x).1:=⟨_,rfl⟩
 obtain ⟨nv,hnv⟩:∃ a,a=(eval0 x).2.1.length:=⟨_,rfl⟩
 obtain ⟨cv,hcv⟩:∃ a,a=(eval0 x).2.2:=⟨_,rfl⟩
 have HXC:Hid (ecells 0 x=[.slice Ak nk ck,.slice Av nv cv]):=by rw [hAk,hnk,hck,hAv,hnv,hcv];rfl
 have HXV:Hid ((.agg #[pv (epiece 0 x),pv (eval0 x)]:Value)= .agg #[.slice Ak nk ck,.slice Av nv cv]):=by rw [hAk,hnk,hck,hAv,hnv,hcv];rfl
 obtain ⟨w2,hw2⟩:∃ w2,w2=((w.alloc (.cells #[.slice Af nf cf,.slice A n c,.slice none 0 0] 156)).alloc (.cells #[.slice Ak nk ck,.slice Av nv cv] 123)).alloc (.cells #[.slice none 0 0,.slice none 0 0,.slice none 0 0] 156):=⟨_,rfl⟩
 have HBW:Hid (Below w.heap.size w w2):=by rw [hw2];exact (((Below.refl _ _).alloc (Nat.le_refl _) _).alloc (by simp) _).alloc (by simp;omega) _
 have hp2:=EOk.wider hp HBW.out
 have hx2:=EOk.wider hx HBW.out
 have hF2:=Wider.lt hF HBW.out.size
 obtain ⟨F2,hF2e⟩:∃ F2,F2=Wider w w2 F:=⟨_,rfl⟩
 have HF2:=Lib.hid hF2e
 rw [<-hF2e] at hp2 hx2 hF2
 obtain ⟨k,hk⟩:∃ k,k=(epiece 0 x).2.1:=⟨_,rfl⟩
 obtain ⟨v,hv⟩:∃ v,v=(eval0 x).2.1:=⟨_,rfl⟩
 have hsk:Seen w2 Ak k:=by rw [hAk,hk];exact hx2.1.1.seen
 have hkl:k.length=nk:=by rw [hk,hnk]
 have HPL:Hid (∀ W,Below w2.heap.size w2 W->Calls Tryz.prog 129 #[.agg #[.slice Af nf cf,.slice A n c,.slice none 0 0],.slice Ak nk ck] W fun e w'=>e= .returned (.tuple #[.int .i64 ((low k (flats 0 els)).length:Nat),.bool (hasL k (flats 0 els))])/\Below W.heap.size W w'):=fun W hW=>by
  have:=place_any W F2 ⟨f,A,els,c⟩ Ak k nk ck (hp2.below hW) (by dsimp only at hn ⊢;omega) hs (hsk.below hW) hkl
  rw [HPV.out] at this
  exact this
 clear hF2e hF hp hx hAf hnf hcf hAk hnk hck hAv hnv hcv
 obtain ⟨_,h2,h3,h4⟩:=hp2
 dsimp only at h2 h3 h4 hn hs ⊢
 obtain ⟨j,hj1,hj2,hj3,ht1,ht2⟩:=leaf_cut hs k
 rw [<-hk,<-hv]
 have HKV:Hid (kv0 x=(k,v)):=by rw [hk,hv];rfl
 obtain ⟨i,hi⟩:∃ i,i=(low k (flats 0 els)).length:=⟨_,rfl⟩
 rw [<-hi] at hj1 hj3 ht1 HPL
 obtain ⟨L,hL⟩:∃ L,L=els.take i++[x]++els.drop j:=⟨_,rfl⟩
 obtain ⟨N,hN⟩:∃ N,L.length=N:=⟨_,rfl⟩
 obtain ⟨m2,hm2⟩:∃ m2,m2=n-j:=⟨_,rfl⟩
 have HFL:Hid (flats 0 L=putT k v (flats 0 els)):=by
  show _=_
  have e1:flats 0 [x]=[(k,v)]:=by rw [flats_single,eflat_zero,HKV.out]
  rw [hL,flats_append,flats_append,ht1,ht2,e1]
  unfold putT;simp
 have HLEN:Hid (n<=N/\N<=n+1/\0<N):=by
  show _/\_
  rw [<-hN,hL,List.length_append,List.length_append,List.length_take,List.length_drop,List.length_singleton]
  split at hj3<;>omega
 obtain ⟨i0,z0,R⟩:=rowP
 have hcut1:∀ W,(Instr.slice 63 (.slice A n c) none (some (.int .i64 (i:Int))) none).run Tryz.prog W= .ok (.slice A i c) W:=R.head A n c i (by omega)
 have hcut2:=R.tail A n c j (by omega)
 have hdr:=h2.drop j 2 c (by rw [rowCells_length];exact Nat.mul_le_mul_right _ h3)
 have htk:=h2.take (i*2)
 rw [show j*2=j*esize 0 from rfl] at hdr
 rw [show i*2=i*esize 0 from rfl] at htk
 rw [rowCells_drop] at hdr
 rw [rowCells_take] at htk
 rw [show (fun a:Addr=>a.add (j*esize 0))=(fun a:Addr=>a.add (j*2)) from rfl] at hdr
 rw [<-hm2] at hcut2
 generalize (if c=j then A else A.map fun a=>a.add (j*2))=A' at *
 have HCON:Hid (∀ W,Below w2.heap.size w2 W->Calls Tryz.prog 146 #[.slice (some ⟨W.heap.size+1,0,none⟩) 3 3] ((W.alloc (.cells #[.slice Ak nk ck,.slice Av nv cv] 123)).alloc (.cells #[.slice A i c,.slice (some ⟨W.heap.size,0,none⟩) 1 1,.slice A' m2 (c-j)] 63)).drew fun e w'=>
  (∃ A2 c2,e= .returned (.slice A2 N c2)/\Cells w' F2 A2 (rowCells 0 L)/\N<=c2)/\Below W.heap.size W w'):=fun W hW=>by
  have hal1:Below W.heap.size W (W.alloc (.cells #[.slice Ak nk ck,.slice Av nv cv] 123)):=(Below.refl _ _).alloc (Nat.le_refl _) _
  have hal2:Below (W.alloc (.cells #[.slice Ak nk ck,.slice Av nv cv] 123)).heap.size (W.alloc (.cells #[.slice Ak nk ck,.slice Av nv cv] 123)) ((W.alloc (.cells #[.slice Ak nk ck,.slice Av nv cv] 123)).alloc (.cells #[.slice A i c,.slice (some ⟨W.heap.size,0,none⟩) 1 1,.slice A' m2 (c-j)] 63)).drew:=((Below.refl _ _).alloc (Nat.le_refl _) _).drew
  have hal:=hop hal1 hal2
  have hB:=Blk.new (W.alloc (.cells #[.slice Ak nk ck,.slice Av nv cv] 123)) [.slice A i c,.slice (some ⟨W.heap.size,0,none⟩) 1 1,.slice A' m2 (c-j)] 63
  rw [show (W.alloc (.cells #[.slice Ak nk ck,.slice Av nv cv] 123)).heap.size=W.heap.size+1 by simp] at hB
  have hB:=hB.drew
  have hX:=cells_new W F2 [.slice Ak nk ck,.slice Av nv cv] 123 (fun hf=>by have:=hF2 _ hf;have:=hW.size;omega)
  have hlt:(els.take i).length=i:=by rw [List.length_take];omega
  have hld:(els.drop j).length=m2:=by rw [List.length_drop];omega
  have hL2:(([(A,els.take i,c),(some ⟨W.heap.size,0,none⟩,[x],1),(A',els.drop j,c-j)]:List (Option Addr × List (El 0) × Nat)).map fun r=>r.2.1).flatten=L:=by rw [hL];simp
  have:=joinP ((W.alloc (.cells #[.slice Ak nk ck,.slice Av nv cv] 123)).alloc (.cells #[.slice A i c,.slice (some ⟨W.heap.size,0,none⟩) 1 1,.slice A' m2 (c-j)] 63)).drew F2 (fun b hb=>by have:=hF2 b hb;have:=hW.size;simp;omega) (W.heap.size+1) 3 3 [(A,els.take i,c),(some ⟨W.heap.size,0,none⟩,[x],1),(A',els.drop j,c-j)] N rfl (by omega) (by simp) (fun t ht=>by
   rw [Nat.zero_add]
   match t,ht with
   | 0,_=>rw [hB.cell (i:=0) (by simp)];simp [hlt]
   | 1,_=>rw [hB.cell (i:=1) (by simp)];simp
   | 2,_=>rw [hB.cell (i:=2) (by simp)];simp [hld]) (fun r hr=>by
   rcases List.mem_cons.1 hr with rfl | hr
   · exact Cells.below (htk.below hW) hal
   · rcases List.mem_cons.1 hr with rfl | hr
     · dsimp only
       rw [rowCells_single,HXC.out]
       exact hX.below hal2
     · rw [List.mem_singleton.1 hr];exact Cells.below (hdr.below hW) hal) (by rw [hL2];exact hN) (by have:=HLEN.out;omega)
  rw [hL2] at this
  refine this.mono ?_
  rintro e w' ⟨h1,hb⟩
  exact ⟨h1,hop hal hb⟩
 have HABV:Hid (∀ W,Below w2.heap.size w2 W->∀ (A2:Option Addr) (c2:Nat),Cells W F2 A2 (rowCells 0 L)->N<=c2->Calls Tryz.prog 145 #[.slice A2 N c2] W fun e w'=>
  (∃ q:Pg 0,e= .returned (pval 0 q)/\IsPg W F2 0 L q)/\Below W.heap.size W w'):=fun W hW A2 c2 hc hm=>by
  have hok:AllOk W F2 0 L:=by
   rw [hL]
   exact AllOk.append (AllOk.append (AllOk.below (AllOk.take h4 i) hW) (fun y hy=>by rw [List.mem_singleton.1 hy];exact hx2.below hW)) (AllOk.below (AllOk.drop h4 j) hW)
  exact leaf_any W F2 A2 L N c2 hc hok hN hm
 have HNL:=Lib.hid hN
 rw [HPV.out,HXV.out]
 have HW:Hid (((w.alloc (.cells #[.slice Af nf cf,.slice A n c,.slice none 0 0] 156)).alloc (.cells #[.slice Ak nk ck,.slice Av nv cv] 123)).alloc (.cells #[.slice none 0 0,.slice none 0 0,.slice none 0 0] 156)=w2):=hw2.symm
 have HB0:Hid (Blk w2 w.heap.size [.slice Af nf cf,.slice A n c,.slice none 0 0] 156):=by rw [hw2];exact ((Blk.new w _ _).alloc _).alloc _
 have HB1:Hid (Blk w2 (w.heap.size+1) [.slice Ak nk ck,.slice Av nv cv] 123):=by
  have:=Blk.new (w.alloc (.cells #[.slice Af nf cf,.slice A n c,.slice none 0 0] 156)) [.slice Ak nk ck,.slice Av nv cv] 123
  rw [show (w.alloc (.cells #[.slice Af nf cf,.slice A n c,.slice none 0 0] 156)).heap.size=w.heap.size+1 by simp] at this
  rw [hw2];exact this.alloc _
 have HB2:Hid (Blk w2 (w.heap.size+1+1) [.slice none 0 0,.slice none 0 0,.slice none 0 0] 156):=by
  have:=Blk.new ((w.alloc (.cells #[.slice Af nf cf,.slice A n c,.slice none 0 0] 156)).alloc (.cells #[.slice Ak nk ck,.slice Av nv cv] 123)) [.slice none 0 0,.slice none 0 0,.slice none 0 0] 156
  rw [show ((w.alloc (.cells #[.slice Af nf cf,.slice A n c,.slice none 0 0] 156)).alloc (.cells #[.slice Ak nk ck,.slice Av nv cv] 123)).heap.size=w.heap.size+1+1 by simp] at this
  rw [hw2];exact this
 have HSZ:Hid (w2.heap.size=w.heap.size+1+1+1):=by rw [hw2];show _=_;simp
 have HK:Hid (∀ W,Below w2.heap.size w2 W->W.cell? ⟨w.heap.size,1,none⟩=some (.slice A n c)/\W.cell? ⟨w.heap.size+1,0,none⟩=some (.slice Ak nk ck)/\W.cell? ⟨w.heap.size+1,1,none⟩=some (.slice Av nv cv)):=fun W hW=>by
  have h0:=HB0.out.below hW HB0.out.lt
  have h1:=HB1.out.below hW HB1.out.lt
  exact ⟨h0.cell (i:=1) (by simp),h1.cell (i:=0) (by simp),h1.cell (i:=1) (by simp)⟩
 have HKS:Hid (∀ W,Below w2.heap.size w2 W->∀ u0 u1 u2:Value,(((W.setCell ⟨w.heap.size+1+1,0,none⟩ u0).setCell ⟨w.heap.size+1+1,1,none⟩ u1).setCell ⟨w.heap.size+1+1,2,none⟩ u2).cell? ⟨w.heap.size,1,none⟩=some (.slice A n c)/\(((W.setCell ⟨w.heap.size+1+1,0,none⟩ u0).setCell ⟨w.heap.size+1+1,1,none⟩ u1).setCell ⟨w.heap.size+1+1,2,none⟩ u2).cell? ⟨w.heap.size+1,0,none⟩=some (.slice Ak nk ck)/\
  (((W.setCell ⟨w.heap.size+1+1,0,none⟩ u0).setCell ⟨w.heap.size+1+1,1,none⟩ u1).setCell ⟨w.heap.size+1+1,2,none⟩ u2).cell? ⟨w.heap.size+1,1,none⟩=some (.slice Av nv cv)):=fun W hW u0 u1 u2=>by
  have h0:=(((HB0.out.below hW HB0.out.lt).other ⟨w.heap.size+1+1,0,none⟩ u0 (by simp;omega)).other ⟨w.heap.size+1+1,1,none⟩ u1 (by simp;omega)).other ⟨w.heap.size+1+1,2,none⟩ u2 (by simp;omega)
  have h1:=(((HB1.out.below hW HB1.out.lt).other ⟨w.heap.size+1+1,0,none⟩ u0 (by simp)).other ⟨w.heap.size+1+1,1,none⟩ u1 (by simp)).other ⟨w.heap.size+1+1,2,none⟩ u2 (by simp)
  exact ⟨h0.cell (i:=1) (by simp),h1.cell (i:=0) (by simp),h1.cell (i:=1) (by simp)⟩
 obtain ⟨FL,hFL⟩:∃ FL,FL=flats 0 els:=⟨_,rfl⟩
 rw [<-hFL] at HFL ⊢
 obtain ⟨b,hb⟩:∃ b,b=hasL k (flats 0 els):=⟨_,rfl⟩
 have hjb:j=i+(if b then 1 else 0):=by rw [hb];exact hj3
 rw [<-hb] at HPL
 rw [<-hnn]
 have hj2':j<=n:=by omega
 have hnm:n<=1000:=by omega
 have x0:=HB0.out.cell (i:=0) (by simp)
 have x1:=HB0.out.cell (i:=1) (by simp)
 have x2:=HB0.out.cell (i:=2) (by simp)
 simp only [List.getElem_cons_zero,List.getElem_cons_succ] at x0 x1 x2
 clear h2 h3 h4 htk hdr R hi hj3 ht1 ht2 hL hN hm2 hk hv hsk hkl hw2 hs HPV HXV hFL hnn hx2 hF2 hb hn hj2
 go_enter Tryz.func124,Tryz.ntmps124
 go_wp2_with fail
 rw [HW.out]
 with_reducible refine (isLeaf_yes _ Af A nf cf n c).mono ?_
 rintro e w3 ⟨rfl,hb3⟩
 have bd3:Below w2.heap.size w2 w3:=hb3
 clear x0 x1 x2 hb3
 have x0:=(HB0.out.below bd3 HB0.out.lt).cell (i:=0) (by simp)
 have x1:=(HB0.out.below bd3 HB0.out.lt).cell (i:=1) (by simp)
 have x2:=(HB0.out.below bd3 HB0.out.lt).cell (i:=2) (by simp)
 have y0:=(HB1.out.below bd3 HB1.out.lt).cell (i:=0) (by simp)
 simp only [List.getElem_cons_zero,List.getElem_cons_succ] at x0 x1 x2 y0
 go_wp2_with fail
 with_reducible refine (HPL.out _ bd3).mono ?_
 rintro e w5 ⟨rfl,hb5⟩
 have bd5:Below w2.heap.size w2 w5:=hop bd3 hb5
 clear x0 x1 x2 y0 hb5
 have bd:Below w2.heap.size w2 w5.drew:=bd5.drew
 have hi1:i<=1000:=by omega
 have HJB:=Lib.hid hjb
 clear hjb
 cases b
 · have hji:j=i:=HJB.out
   have hcut3:∀ W,(Instr.slice 63 (.slice A n c) (some (.int .i64 (i:Int))) none none).run Tryz.prog W= .ok (.slice A' m2 (c-j)) W:=by
    rw [<-hji];exact hcut2
   clear hcut2 hji
   go_wp2_with fail
   go_region_held_law (fun w'=>w'.cell? ⟨w.heap.size,1,none⟩=some (.slice A n c)/\w'.cell? ⟨w.heap.size+1,0,none⟩=some (.slice Ak nk ck)/\w'.cell? ⟨w.heap.size+1,1,none⟩=some (.slice Av nv cv))
    (first | exact HK.out _ bd | exact HK.out _ bd7 | exact HK.out _ bd8 | exact HS8.out _ _ _ | exact HK.out _ (bd.alloc bd.size _) | exact HK.out _ ((bd.alloc bd.size _).alloc (bd.alloc bd.size _).size _))
    (first
     | (go_at_call 146;(with_reducible refine (HCON.out _ bd5).mono ?_);rintro e w7 ⟨⟨A2,c2,rfl,hc7,hm7⟩,hb7⟩;have bd7:Below w2.heap.size w2 w7:=hop bd5 hb7;have C7:=Lib.hid hc7;have M7:=Lib.hid hm7;clear hb7 hc7 hm7)
     | (go_at_call 145;(with_reducible refine (HABV.out _ bd7 A2 c2 C7.out M7.out).mono ?_);rintro e w8 ⟨⟨q,rfl,hq⟩,hb8⟩;have bd8:Below w2.heap.size w2 w8:=hop bd7 hb8;have Q8:=Lib.hid (hq.below hb8);clear hb8 hq;obtain ⟨a0,m0,d0,a1,n1,d1,a2,m2',d2,hxf⟩:=page_form 0 q;have XF:=Lib.hid hxf;unfold pval;rw [hxf];clear hxf;have r0:=(HB2.out.below bd8 HB2.out.lt).cell (i:=0) (by simp);have r1:=(HB2.out.below bd8 HB2.out.lt).cell (i:=1) (by simp);have r2:=(HB2.out.below bd8 HB2.out.lt).cell (i:=2) (by simp);have f0:=(HB2.out.below bd8 HB2.out.lt).free 0;have f1:=(HB2.out.below bd8 HB2.out.lt).free 1;have f2:=(HB2.out.below bd8 HB2.out.lt).free 2;have HS8:=Lib.hid (HKS.out _ bd8)))
   have HBE:Hid (∀ u0 u1 u2:Value,Below w.heap.size w (((w8.setCell ⟨w.heap.size+1+1,0,none⟩ u0).setCell ⟨w.heap.size+1+1,1,none⟩ u1).setCell ⟨w.heap.size+1+1,2,none⟩ u2)):=fun u0 u1 u2=>(((hop HBW.out bd8).setCell (by simp;omega) _).setCell (by simp;omega) _).setCell (by simp;omega) _
   have HQE:Hid (∀ u0 u1 u2:Value,EOk (((w8.setCell ⟨w.heap.size+1+1,0,none⟩ u0).setCell ⟨w.heap.size+1+1,1,none⟩ u1).setCell ⟨w.heap.size+1+1,2,none⟩ u2) F 1 q):=fun u0 u1 u2=>by
    have:=Q8.out.ok
    rw [HF2.out] at this
    have hsz:=HSZ.out
    exact this.narrow ((((Spared.refl w8 _).setCell (by omega) _ _).setCell (by omega) _ _).setCell (by omega) _ _)
   have HQV:Hid (pval 0 q= .agg #[.slice a0 m0 d0,.slice a1 n1 d1,.slice a2 m2' d2]):=by show pval _ _=_;unfold pval;rw [XF.out]
   have HQF:Hid (flats 0 q.els=putT k v FL):=by show _=_;rw [Q8.out.els];exact HFL.out
   have HQN:Hid (n<=q.els.length/\q.els.length<=n+1/\0<q.els.length):=by show _/\_;rw [Q8.out.els,HNL.out];exact HLEN.out
   simp only [List.getElem_cons_zero,List.getElem_cons_succ] at r0 r1 r2
   go_wp2_with fail
   exact bodyPost_ret (v:=pval 0 q) (by rw [HQV.out];simp [results,Tryz.results124,go_sem,r0,r1,r2]) rfl ⟨⟨q,rfl,HQE.out _ _ _,Q8.out.inner,HQF.out,HQN.out⟩,HBE.out _ _ _⟩
 · have hji:j=i+1:=HJB.out
   have hcut3:∀ W,(Instr.slice 63 (.slice A n c) (some (.int .i64 ((i:Int)+1))) none none).run Tryz.prog W= .ok (.slice A' m2 (c-j)) W:=by
    rw [show (i:Int)+1=(j:Int) by omega];exact hcut2
   clear hcut2 hji
   go_wp2_with fail
   go_region_held_law (fun w'=>w'.cell? ⟨w.heap.size,1,none⟩=some (.slice A n c)/\w'.cell? ⟨w.heap.size+1,0,none⟩=some (.slice Ak nk ck)/\w'.cell? ⟨w.heap.size+1,1,none⟩=some (.slice Av nv cv))
    (first | exact HK.out _ bd | exact HK.out _ bd7 | exact HK.out _ bd8 | exact HS8.out _ _ _ | exact HK.out _ (bd.alloc bd.size _) | exact HK.out _ ((bd.alloc bd.size _).alloc (bd.alloc bd.size _).size _))
    (first
     | (go_at_call 146;(with_reducible refine (HCON.out _ bd5).mono ?_);rintro e w7 ⟨⟨A2,c2,rfl,hc7,hm7⟩,hb7⟩;have bd7:Below w2.heap.size w2 w7:=hop bd5 hb7;have C7:=Lib.hid hc7;have M7:=Lib.hid hm7;clear hb7 hc7 hm7)
     | (go_at_call 145;(with_reducible refine (HABV.out _ bd7 A2 c2 C7.out M7.out).mono ?_);rintro e w8 ⟨⟨q,rfl,hq⟩,hb8⟩;have bd8:Below w2.heap.size w2 w8:=hop bd7 hb8;have Q8:=Lib.hid (hq.below hb8);clear hb8 hq;obtain ⟨a0,m0,d0,a1,n1,d1,a2,m2',d2,hxf⟩:=page_form 0 q;have XF:=Lib.hid hxf;unfold pval;rw [hxf];clear hxf;have r0:=(HB2.out.below bd8 HB2.out.lt).cell (i:=0) (by simp);have r1:=(HB2.out.below bd8 HB2.out.lt).cell (i:=1) (by simp);have r2:=(HB2.out.below bd8 HB2.out.lt).cell (i:=2) (by simp);have f0:=(HB2.out.below bd8 HB2.out.lt).free 0;have f1:=(HB2.out.below bd8 HB2.out.lt).free 1;have f2:=(HB2.out.below bd8 HB2.out.lt).free 2;have HS8:=Lib.hid (HKS.out _ bd8)))
   have HBE:Hid (∀ u0 u1 u2:Value,Below w.heap.size w (((w8.setCell ⟨w.heap.size+1+1,0,none⟩ u0).setCell ⟨w.heap.size+1+1,1,none⟩ u1).setCell ⟨w.heap.size+1+1,2,none⟩ u2)):=fun u0 u1 u2=>(((hop HBW.out bd8).setCell (by simp;omega) _).setCell (by simp;omega) _).setCell (by simp;omega) _
   have HQE:Hid (∀ u0 u1 u2:Value,EOk (((w8.setCell ⟨w.heap.size+1+1,0,none⟩ u0).setCell ⟨w.heap.size+1+1,1,none⟩ u1).setCell ⟨w.heap.size+1+1,2,none⟩ u2) F 1 q):=fun u0 u1 u2=>by
    have:=Q8.out.ok
    rw [HF2.out] at this
    have hsz:=HSZ.out
    exact this.narrow ((((Spared.refl w8 _).setCell (by omega) _ _).setCell (by omega) _ _).setCell (by omega) _ _)
   have HQV:Hid (pval 0 q= .agg #[.slice a0 m0 d0,.slice a1 n1 d1,.slice a2 m2' d2]):=by show pval _ _=_;unfold pval;rw [XF.out]
   have HQF:Hid (flats 0 q.els=putT k v FL):=by show _=_;rw [Q8.out.els];exact HFL.out
   have HQN:Hid (n<=q.els.length/\q.els.length<=n+1/\0<q.els.length):=by show _/\_;rw [Q8.out.els,HNL.out];exact HLEN.out
   simp only [List.getElem_cons_zero,List.getElem_cons_succ] at r0 r1 r2
   go_wp2_with fail
   exact bodyPost_ret (v:=pval 0 q) (by rw [HQV.out];simp [results,Tryz.results124,go_sem,r0,r1,r2]) rfl ⟨⟨q,rfl,HQE.out _ _ _,Q8.out.inner,HQF.out,HQN.out⟩,HBE.out _ _ _⟩
end Go.Proofs.YtdaahapbpnjkfaaGreat
