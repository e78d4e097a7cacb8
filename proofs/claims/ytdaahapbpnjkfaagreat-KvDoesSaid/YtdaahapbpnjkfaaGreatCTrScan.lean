/-
Scan. Conditions: at most 100,000 pairs, of at most 1,000,000,000 bytes a key and a value.
-/
import Derived.Test.YtdaahapbpnjkfaaGreatCTrGet
import Derived.Test.YtdaahapbpnjkfaaGreatCTrSee
import Derived.Test.YtdaahapbpnjkfaaGreatCTrLess
namespace Go.Proofs.YtdaahapbpnjkfaaGreat
open Go.RowKit
def Mine (B0 bf b:Nat):Prop:=b=bf\/B0<=b
structure ScanEnv (B0 bt bf bm:Nat) (T:Option Addr) (to:Key) (m d:Nat) (mo:Int) (R:Option Addr) (fr:Key) (W:World):Prop where
 cellT:W.cell? ⟨bt,0,none⟩=some (.slice T m d)
 cellM:W.cell? ⟨bm,0,none⟩=some (.int .i64 mo)
 lt:bt<B0/\bm<B0/\bt≠bf/\bm≠bf
 to_:Away W (Mine B0 bf) T to
 from_:Away W (Mine B0 bf) R fr
 base:B0<=W.heap.size
section
variable {B0 bt bf bm:Nat} {T:Option Addr} {to:Key} {m d:Nat} {mo:Int} {R:Option Addr} {fr:Key} {W W':World}
theorem ScanEnv.moved (h:ScanEnv B0 bt bf bm T to m d mo R fr W) (hs:Spared W W' (Mine B0 bf)):ScanEnv B0 bt bf bm T to m d mo R fr W':=by
 have hc:∀ b,b<B0->b≠bf->W'.cell? ⟨b,0,none⟩=W.cell? ⟨b,0,none⟩:=fun b hb hne=>World.cell?_of_block (a:=⟨b,0,none⟩) (hs.block b (Nat.lt_of_lt_of_le hb h.base) (by rintro (e | e);exact hne e;omega))
 exact ⟨(hc bt h.lt.1 h.lt.2.2.1).trans h.cellT,(hc bm h.lt.2.1 h.lt.2.2.2).trans h.cellM,h.lt,h.to_.moved hs (fun _ h=> .inl h),h.from_.moved hs (fun _ h=> .inl h),Nat.le_trans h.base hs.size⟩
theorem ScanEnv.below (h:ScanEnv B0 bt bf bm T to m d mo R fr W) (hb:Below W.heap.size W W'):ScanEnv B0 bt bf bm T to m d mo R fr W':=h.moved (.of_below hb _)
end
theorem ScanMoved.mine {B0 bf:Nat} {W W':World} {acc:List (El 0)} {v v':Value} (h:ScanMoved bf W v W' v') (hs:ScanAt B0 bf W acc v):Spared W W' (Mine B0 bf):=
 h.spared.mono (fun b hb=>by
  rcases hb with hb | hb
  · exact .inl hb
  · exact .inr (hs.found.lt hb.symm).1)
def EachOut (B0 bf:Nat) (w:World) (acc:List (El 0)) (v:Value) (to:Key) (mo:Int) (l:List Kv) (e:Ending) (w':World):Prop:=
 ∃ (acc':List (El 0)) (v':Value),e= .returned (.bool (visit to mo (acc.map kv0) l).2)/\acc'.map kv0=(visit to mo (acc.map kv0) l).1/\ScanAt B0 bf w' acc' v'/\ScanMoved bf w v w' v'
theorem since_drop {l:List (El 0)} (hs:Srt (flats 0 l)) (k:Key):flats 0 (l.drop (low k (flats 0 l)).length)=since k (flats 0 l):=by
 rw [flats_drop0]
 rcases hs.cut k with ⟨_,h2,h3⟩ | ⟨_,h2,h3⟩
 · rw [h3]
   conv=>lhs;arg 2;rw [h2]
   exact List.drop_left
 · rw [h3]
   conv=>lhs;arg 2;rw [h2]
   exact List.drop_left
theorem pair_cells {w:World} {F:Nat->Prop} {A:Option Addr} {l:List (El 0)} (hc:Cells w F A (rowCells 0 l)) (t:Nat) (ht:t<l.length):∃ b off,A=some ⟨b,off,none⟩/\b<w.heap.size/\ ¬ F b/\w.cell? ⟨b,off+t*2,none⟩=some (pv (epiece 0 l[t]))/\w.cell? ⟨b,off+t*2+1,none⟩=some (pv (eval0 l[t])):=by
 obtain ⟨b,off,hA,hb,hF,hcell⟩:=hc.elem t ht
 exact ⟨b,off,hA,hb,hF,hcell 0 (by decide),hcell 1 (by decide)⟩
set_option maxHeartbeats 2000000 in
set_option maxRecDepth 100000 in
theorem eachLeaf_any (w:World) (B0 bt bf bm:Nat) (acc:List (El 0)) (v:Value) (T:Option Addr) (to:Key) (m d:Nat) (mo:Int) (R:Option Addr) (fr:Key) (r rc:Nat) (p:Pg 0) (hp:Good w (Mine B0 bf) 0 p) (hs:ScanAt B0 bf w acc v) (he:ScanEnv B0 bt bf bm T to m d mo R fr w) (htl:to.length=m) (hmm:m<=9223372036854775807) (hrl:fr.length=r) (hacc:acc.length+(flats 0 p.els).length<=999999):
 Calls Tryz.prog 96 #[pval 0 p,.slice R r rc,.func (.func 97) #[] #[.pointer (some ⟨bt,0,none⟩),.pointer (some ⟨bf,0,none⟩),.pointer (some ⟨bm,0,none⟩)]] w (EachOut B0 bf w acc v to mo (since fr (flats 0 p.els))):=by
 obtain ⟨f,A,els,c⟩:=p
 obtain ⟨n,hnn⟩:∃ n,n=els.length:=⟨_,rfl⟩
 have HPV:Hid (pval 0 ⟨f,A,els,c⟩= .agg #[.slice f.1 f.2.1.length f.2.2,.slice A n c,.slice none 0 0]):=by rw [hnn];rfl
 obtain ⟨Af,hAf⟩:∃ Af,Af=f.1:=⟨_,rfl⟩
 obtain ⟨nf,hnf⟩:∃ nf,nf=f.2.1.length:=⟨_,rfl⟩
 obtain ⟨cf,hcf⟩:∃ cf,cf=f.2.2:=⟨_,rfl⟩
 rw [<-hAf,<-hnf,<-hcf] at HPV
 have HPL:Hid (∀ W,Below w.heap.size w W->Calls Tryz.prog 129 #[.agg #[.slice Af nf cf,.slice A n c,.slice none 0 0],.slice R r rc] W fun e w'=>e= .returned (.tuple #[.int .i64 ((low fr (flats 0 els)).length:Nat),.bool (hasL fr (flats 0 els))])/\Below W.heap.size W w'):=fun W hW=>by
  have:=place_any W (Mine B0 bf) ⟨f,A,els,c⟩ R fr r rc (hp.ok.below hW) (by have:=hp.few;dsimp only at this ⊢;omega) hp.srt (he.from_.seen.below hW) hrl
  rw [HPV.out] at this
  exact this
 have hn:els.length<=1000:=hp.few
 have h3:els.length<=c:=hp.ok.2.2.1
 have h2:=hp.ok.2.1
 have h4:=hp.ok.2.2.2
 have hsd:=since_drop hp.srt fr
 have hil:=(low_length_lt fr hp.srt).1
 dsimp only at h2 h4 hsd hil hacc ⊢
 obtain ⟨i,hi⟩:∃ i,i=(low fr (flats 0 els)).length:=⟨_,rfl⟩
 obtain ⟨has,hhas⟩:∃ has,has=hasL fr (flats 0 els):=⟨_,rfl⟩
 rw [<-hi,<-hhas] at HPL
 rw [<-hi] at hsd hil
 obtain ⟨i0,z0,RT⟩:=rowP
 obtain ⟨m2,hm2⟩:∃ m2,m2=n-i:=⟨_,rfl⟩
 have hcut:=RT.tail A n c i (by omega)
 have hdr:=h2.drop i 2 c (by rw [rowCells_length];exact Nat.mul_le_mul_right _ h3)
 rw [show i*2=i*esize 0 from rfl,rowCells_drop] at hdr
 rw [show (fun a:Addr=>a.add (i*esize 0))=(fun a:Addr=>a.add (i*2)) from rfl] at hdr
 rw [<-hm2] at hcut
 generalize (if c=i then A else A.map fun a=>a.add (i*2))=A' at *
 obtain ⟨L,hL⟩:∃ L,L=els.drop i:=⟨_,rfl⟩
 rw [<-hL] at hsd hdr
 have hLl:L.length=m2:=by rw [hL,List.length_drop];omega
 have HLOK:Hid (AllOk w (Mine B0 bf) 0 L):=by rw [hL];exact AllOk.drop h4 i
 have HCL:=Lib.hid hdr
 have HLL:=Lib.hid hLl
 rw [<-hsd]
 have hLn:(flats 0 L).length=m2:=by rw [flats_zero_length];exact hLl
 have hbound:acc.length+m2<=999999:=by rw [flats_zero_length] at hacc;omega
 have hm21:m2<=1000:=by omega
 rw [HPV.out]
 obtain ⟨w1,hw1⟩:∃ w1,w1=w.alloc (.cells #[.slice Af nf cf,.slice A n c,.slice none 0 0] 156):=⟨_,rfl⟩
 have HW:Hid (w.alloc (.cells #[.slice Af nf cf,.slice A n c,.slice none 0 0] 156)=w1):=hw1.symm
 have HB1:Hid (Blk w1 w.heap.size [.slice Af nf cf,.slice A n c,.slice none 0 0] 156):=by rw [hw1];exact Blk.new w _ _
 have HBW:Hid (Below w.heap.size w w1):=by rw [hw1];exact (Below.refl _ _).alloc (Nat.le_refl _) _
 have HS:=Lib.hid hs
 have HE:=Lib.hid he
 have HTL:=Lib.hid htl
 have x0:=HB1.out.cell (i:=0) (by simp)
 have x1:=HB1.out.cell (i:=1) (by simp)
 have x2:=HB1.out.cell (i:=2) (by simp)
 simp only [List.getElem_cons_zero,List.getElem_cons_succ] at x0 x1 x2
 have hi1:i<=n:=by omega
 have hn1:n<=1000:=by omega
 clear hAf hnf hcf hw1 hp hs he htl hrl hacc hsd hil hhas hi hnn hm2 h2 h3 h4 hdr hL hLl hLn RT HPV hn
 go_enter Tryz.func96,Tryz.ntmps96
 go_wp2_with fail
 rw [HW.out]
 with_reducible refine (isLeaf_yes _ Af A nf cf n c).mono ?_
 rintro e w3 ⟨rfl,hb3⟩
 have bd3:Below w.heap.size w w3:=hop HBW.out hb3
 have hb31:Below w1.heap.size w1 w3:=hb3
 clear x0 x1 x2 hb3
 have x0:=(HB1.out.below hb31 HB1.out.lt).cell (i:=0) (by simp)
 have x1:=(HB1.out.below hb31 HB1.out.lt).cell (i:=1) (by simp)
 have x2:=(HB1.out.below hb31 HB1.out.lt).cell (i:=2) (by simp)
 simp only [List.getElem_cons_zero,List.getElem_cons_succ] at x0 x1 x2
 go_wp2_with fail
 with_reducible refine (HPL.out _ bd3).mono ?_
 rintro e w4 ⟨rfl,hb4⟩
 have bd4:Below w.heap.size w w4:=hop bd3 hb4
 clear x0 x1 x2
 have x1:=(HB1.out.below (hop hb31 hb4) HB1.out.lt).cell (i:=1) (by simp)
 simp only [List.getElem_cons_zero,List.getElem_cons_succ] at x1
 clear hb4 hb31
 go_wp2_with fail
 have HV0:Hid (visit to mo (acc.map kv0) ((flats 0 L).take 0)=(acc.map kv0,true)):=rfl
 have HS4:=Lib.hid (HS.out.below bd4)
 have HM4:Hid (ScanMoved bf w v w4 v):= .below v bd4
 clear x1 bd3 HPL HB1 hcut
 go_loopg [26] m2 (fun kx s wr=>∃ (k:Nat) (acc':List (El 0)) (v':Value),k+kx=m2/\s= .int .i64 (k:Int)/\visit to mo (acc.map kv0) ((flats 0 L).take k)=(acc'.map kv0,true)/\ScanAt B0 bf wr acc' v'/\ScanMoved bf w v wr v')
 case atStart=>exact ⟨0,acc,v,by omega,rfl,HV0.out,HS4.out,HM4.out⟩
 case round=>
  obtain ⟨k,acc',v',hk,rfl,hvis,hsa,hmo⟩:=hrel
  have HVIS:=Lib.hid hvis
  have HSA:=Lib.hid hsa
  have HMO:=Lib.hid hmo
  have HER:=Lib.hid (HE.out.moved (hmo.mine HS.out))
  have HFL:Hid ((flats 0 L).length=m2):=by show _=_;rw [flats_zero_length];exact HLL.out
  have hlen:acc'.length<=acc.length+k:=by
   have:=visit_length to mo ((flats 0 L).take k) (acc.map kv0)
   rw [hvis,List.length_map,List.length_map,List.length_take] at this
   omega
  have hlen':acc'.length<=999999-(m2-k):=by omega
  clear hvis hsa hmo HV0 HS4 HM4 hlen
  by_cases hlt:k<m2
  · have hkl:(k:Int)<(m2:Int):=by omega
    have hk0:(0:Int)<=(k:Int):=by omega
    have hkL:k<L.length:=by rw [HLL.out];exact hlt
    obtain ⟨bl,off,hA,hbl,hnF,hc0,hc1⟩:=pair_cells HCL.out k hkL
    subst hA
    have hmine:=HMO.out.mine HS.out
    have hcell:∀ o,wr.cell? ⟨bl,o,none⟩=w.cell? ⟨bl,o,none⟩:=fun o=>World.cell?_of_block (a:=⟨bl,o,none⟩) (hmine.block bl hbl hnF)
    have y0:=(hcell (off+k*2)).trans hc0
    have y1:=(hcell (off+k*2+1)).trans hc1
    have hx:=EOk.moved hmine (fun _ h=> .inl h) 0 _ (HLOK.out _ (List.getElem_mem hkL))
    have HTK:Hid ((flats 0 L).take (k+1)=(flats 0 L).take k++[kv0 L[k]]):=by
     show _=_
     rw [<-flats_take0,<-flats_take0,List.take_succ_eq_append_getElem hkL,flats_append,flats_single,eflat_zero]
    have HRE:Hid (flats 0 L=(flats 0 L).take k++kv0 L[k]::(flats 0 L).drop (k+1)):=by
     show _=_
     have:=HTK.out
     conv=>lhs;rw [<-List.take_append_drop (k+1) (flats 0 L),this]
     simp
    obtain ⟨x,hxe⟩:∃ x:El 0,x=L[k]:=⟨_,rfl⟩
    rw [<-hxe] at y0 y1 hx HTK HRE
    obtain ⟨Ak,hAk⟩:∃ a,a=(epiece 0 x).1:=⟨_,rfl⟩
    obtain ⟨nk,hnk⟩:∃ a,a=(epiece 0 x).2.1.length:=⟨_,rfl⟩
    obtain ⟨ck,hck⟩:∃ a,a=(epiece 0 x).2.2:=⟨_,rfl⟩
    obtain ⟨Av,hAv⟩:∃ a,a=(eval0 x).1:=⟨_,rfl⟩
    obtain ⟨nv,hnv⟩:∃ a,a=(eval0 x).2.1.length:=⟨_,rfl⟩
    obtain ⟨cv,hcv⟩:∃ a,a=(eval0 x).2.2:=⟨_,rfl⟩
    unfold pv at y0 y1
    rw [<-hAk,<-hnk,<-hck] at y0
    rw [<-hAv,<-hnv,<-hcv] at y1
    obtain ⟨w6,hw6⟩:∃ w6,w6=wr.alloc (.cells #[.slice Ak nk ck,.slice Av nv cv] 123):=⟨_,rfl⟩
    have HW6:Hid (wr.alloc (.cells #[.slice Ak nk ck,.slice Av nv cv] 123)=w6):=hw6.symm
    have hb6:Below wr.heap.size wr w6:=by rw [hw6];exact (Below.refl _ _).alloc (Nat.le_refl _) _
    have hx6:=hx.below hb6
    have hE6:=HER.out.below hb6
    have hS6:=HSA.out.below hb6
    have HSEE:Hid (Calls Tryz.prog 97 #[.agg #[.slice Ak nk ck,.slice Av nv cv],.pointer (some ⟨bt,0,none⟩),.pointer (some ⟨bf,0,none⟩),.pointer (some ⟨bm,0,none⟩)] w6 (SeeOut B0 bf w6 acc' v' to mo (kv0 x))):=by
     have hne:∀ b,b<B0->some b≠v'.ownBlock:=fun b hb e=>by have:=(hS6.found.lt e.symm).1;omega
     exact see_any w6 B0 bt bf bm acc' v' Ak Av T (epiece 0 x).2.1 (eval0 x).2.1 to nk ck nv cv m d mo hS6 hE6.cellT hE6.cellM (Nat.lt_of_lt_of_le hE6.lt.1 hE6.base) (Nat.lt_of_lt_of_le hE6.lt.2.1 hE6.base) hE6.lt.2.2.2 (hne _ hE6.lt.1) (hne _ hE6.lt.2.1) hE6.to_.seen HTL.out (by rw [hAk];exact hx6.1.1.seen) hnk.symm (by rw [hAv];exact hx6.2.1.seen) hnv.symm (by rw [hnk];exact hx6.1.2.2) (by rw [hnv];exact hx6.2.2.2) (by omega) hmm
    have HB6:=Lib.hid hb6
    have HMO6:Hid (ScanMoved bf w v w6 v'):=HMO.out.trans (.below v' hb6)
    clear hcell hmine hc0 hc1 hx hx6 hE6 hS6 hxe hAk hnk hck hAv hnv hcv hw6 hb6 hbl hnF hkL
    go_wp2_with fail
    rw [HW6.out]
    with_reducible refine HSEE.out.mono ?_
    rintro e w7 ⟨acc2,v2,rfl,ha2,hs2,hm2⟩
    have HA2:=Lib.hid ha2
    have HS2:=Lib.hid hs2
    have HM2:=Lib.hid hm2
    clear ha2 hs2 hm2
    obtain ⟨go,hgo⟩:∃ go,go=(see to mo (acc'.map kv0) (kv0 x)).2:=⟨_,rfl⟩
    rw [<-hgo]
    have HGO:=Lib.hid hgo
    clear hgo y0 y1
    cases go with
    | true=>
     go_wp2_with fail
     go_roundg (m2-(k+1))
     case measure=>omega
     case rel=>
      refine ⟨k+1,acc2,v2,by omega,by go_num,?_,HS2.out,HMO6.out.trans HM2.out⟩
      rw [HTK.out,visit_append,HVIS.out]
      simp only [if_true]
      rw [visit,<-HGO.out,HA2.out]
      rfl
    | false=>
     have HEND:Hid (visit to mo (acc.map kv0) (flats 0 L)=(acc2.map kv0,false)):=by
      show _=_
      rw [HRE.out,visit_append,HVIS.out]
      simp only [if_true]
      rw [visit,<-HGO.out,HA2.out]
      rfl
     go_wp2_with fail
     go_ret
     exact ⟨acc2,v2,by rw [HEND.out];rfl,by rw [HEND.out],HS2.out,HMO6.out.trans HM2.out⟩
  · obtain rfl:k=m2:=by omega
    have hkl: ¬ (k:Int)<(k:Int):=by omega
    have HEND:Hid (visit to mo (acc.map kv0) (flats 0 L)=(acc'.map kv0,true)):=by
     show _=_
     have:=HVIS.out
     rw [List.take_of_length_le (by rw [HFL.out];exact Nat.le_refl _)] at this
     exact this
    go_wp2_with fail
    go_ret
    exact ⟨acc',v',by rw [HEND.out];rfl,by rw [HEND.out],HSA.out,HMO.out⟩
theorem since_length (k:Key) (l:List Kv):(since k l).length<=l.length:=List.length_filter_le ..
set_option maxHeartbeats 2000000 in
set_option maxRecDepth 100000 in
theorem eachNode_any (lv B0 bt bf bm:Nat) (T:Option Addr) (to:Key) (m d:Nat) (mo:Int) (R:Option Addr) (fr:Key) (r rc:Nat)
 (ih:∀ (w:World) (acc:List (El 0)) (v:Value) (p:Pg lv) (_:Good w (Mine B0 bf) lv p) (_:ScanAt B0 bf w acc v) (_:ScanEnv B0 bt bf bm T to m d mo R fr w) (_:acc.length+(flats lv p.els).length<=999999),Calls Tryz.prog 96 #[pval lv p,.slice R r rc,.func (.func 97) #[] #[.pointer (some ⟨bt,0,none⟩),.pointer (some ⟨bf,0,none⟩),.pointer (some ⟨bm,0,none⟩)]] w (EachOut B0 bf w acc v to mo (since fr (flats lv p.els))))
 (w:World) (acc:List (El 0)) (v:Value) (p:Pg (lv+1)) (hp:Good w (Mine B0 bf) (lv+1) p) (hs:ScanAt B0 bf w acc v) (he:ScanEnv B0 bt bf bm T to m d mo R fr w) (hrl:fr.length=r) (hacc:acc.length+(flats (lv+1) p.els).length<=999999):
 Calls Tryz.prog 96 #[pval (lv+1) p,.slice R r rc,.func (.func 97) #[] #[.pointer (some ⟨bt,0,none⟩),.pointer (some ⟨bf,0,none⟩),.pointer (some ⟨bm,0,none⟩)]] w (EachOut B0 bf w acc v to mo (since fr (flats (lv+1) p.els))):=by
 obtain ⟨f,A,els,c⟩:=p
 obtain ⟨n,hnn⟩:∃ n,n=els.length:=⟨_,rfl⟩
 have HPV:Hid (pval (lv+1) ⟨f,A,els,c⟩= .agg #[.slice f.1 f.2.1.length f.2.2,.slice none 0 0,.slice A n c]):=by rw [hnn];rfl
 obtain ⟨Af,hAf⟩:∃ Af,Af=f.1:=⟨_,rfl⟩
 obtain ⟨nf,hnf⟩:∃ nf,nf=f.2.1.length:=⟨_,rfl⟩
 obtain ⟨cf,hcf⟩:∃ cf,cf=f.2.2:=⟨_,rfl⟩
 rw [<-hAf,<-hnf,<-hcf] at HPV
 have h0:0<els.length:=hp.some_ (by omega)
 obtain ⟨i,hi,hr,hlo,hhi⟩:=route lv fr els (fun x hx=>hp.inner.full hx) hp.srt h0
 have HU:Hid (∀ W,Below w.heap.size w W->Calls Tryz.prog 130 #[.agg #[.slice Af nf cf,.slice none 0 0,.slice A n c],.slice R r rc] W fun e w'=>e= .returned (.int .i64 i)/\Below W.heap.size W w'):=fun W hW=>by
  have:=under_good W (Mine B0 bf) lv ⟨f,A,els,c⟩ i R fr r rc (hp.below hW) hi hr (he.from_.seen.below hW) hrl
  rw [HPV.out] at this
  exact this
 have hn:els.length<=1000:=hp.few
 have h3:els.length<=c:=hp.ok.2.2.1
 have h2:=hp.ok.2.1
 dsimp only at h2 hacc ⊢
 obtain ⟨i0,z0,RT⟩:=rowK
 obtain ⟨m2,hm2⟩:∃ m2,m2=n-i:=⟨_,rfl⟩
 have hcut:=RT.tail A n c i (by omega)
 have hdr:=h2.drop i 3 c (by rw [rowCells_length];exact Nat.mul_le_mul_right _ h3)
 rw [show i*3=i*esize (lv+1) from rfl,rowCells_drop] at hdr
 rw [show (fun a:Addr=>a.add (i*esize (lv+1)))=(fun a:Addr=>a.add (i*3)) from rfl] at hdr
 rw [<-hm2] at hcut
 generalize (if c=i then A else A.map fun a=>a.add (i*3))=A' at *
 obtain ⟨L,hL⟩:∃ L,L=els.drop i:=⟨_,rfl⟩
 rw [<-hL] at hdr
 have hLl:L.length=m2:=by rw [hL,List.length_drop];omega
 have hsin:since fr (flats (lv+1) els)=since fr (flats (lv+1) L):=by
  conv=>lhs;rw [<-List.take_append_drop i els,flats_append,since_append,since_none hlo,List.nil_append]
  rw [hL]
 have hLn:(flats (lv+1) L).length<=(flats (lv+1) els).length:=by
  conv=>rhs;rw [<-List.take_append_drop i els,flats_append,List.length_append]
  rw [hL];omega
 have HKIDS:Hid (∀ t (ht:t<L.length),∃ kid:Pg lv,kid=L[t]/\Good w (Mine B0 bf) lv kid/\∃ K0 k0 e0 K1 k1 e1 K2 k2 e2,pval lv kid= .agg #[.slice K0 k0 e0,.slice K1 k1 e1,.slice K2 k2 e2]/\∃ b off,A'=some ⟨b,off,none⟩/\∀ W,Spared w W (Mine B0 bf)->W.cell? ⟨b,off+t*3,none⟩=some (.slice K0 k0 e0)/\W.cell? ⟨b,off+t*3+1,none⟩=some (.slice K1 k1 e1)/\W.cell? ⟨b,off+t*3+2,none⟩=some (.slice K2 k2 e2)):=fun t ht=>by
  obtain ⟨K0,k0,e0,K1,k1,e1,K2,k2,e2,hkv⟩:=page_form lv L[t]
  have hit:i+t<els.length:=by rw [hL,List.length_drop] at ht;omega
  have hLt:L[t]=els[i+t]:=by simp only [hL,List.getElem_drop]
  obtain ⟨b,off,hA,hb,hF,_⟩:=hdr.elem t ht
  subst hA
  refine ⟨L[t],rfl,?_,K0,k0,e0,K1,k1,e1,K2,k2,e2,by unfold pval;rw [hkv],b,off,rfl,fun W hW=> ?_⟩
  · have:=hp.kid (i+t) hit
    dsimp only at this
    rw [hLt]
    exact this
  · obtain ⟨hb',_,z0,z1,z2⟩:=kid_cells hdr t ht L[t] rfl hkv
    have hcell:∀ o,W.cell? ⟨b,o,none⟩=w.cell? ⟨b,o,none⟩:=fun o=>World.cell?_of_block (a:=⟨b,o,none⟩) (hW.block b hb hF)
    exact ⟨(hcell _).trans z0,(hcell _).trans z1,(hcell _).trans z2⟩
 have HLL:=Lib.hid hLl
 have HBD:Hid (acc.length+(flats (lv+1) L).length<=999999):=by show _<=_;omega
 rw [hsin,HPV.out]
 obtain ⟨w1,hw1⟩:∃ w1,w1=w.alloc (.cells #[.slice Af nf cf,.slice none 0 0,.slice A n c] 156):=⟨_,rfl⟩
 have HW:Hid (w.alloc (.cells #[.slice Af nf cf,.slice none 0 0,.slice A n c] 156)=w1):=hw1.symm
 have HB1:Hid (Blk w1 w.heap.size [.slice Af nf cf,.slice none 0 0,.slice A n c] 156):=by rw [hw1];exact Blk.new w _ _
 have HBW:Hid (Below w.heap.size w w1):=by rw [hw1];exact (Below.refl _ _).alloc (Nat.le_refl _) _
 have HS:=Lib.hid hs
 have HE:=Lib.hid he
 have HIH:=Lib.hid ih
 have x0:=HB1.out.cell (i:=0) (by simp)
 have x1:=HB1.out.cell (i:=1) (by simp)
 have x2:=HB1.out.cell (i:=2) (by simp)
 simp only [List.getElem_cons_zero,List.getElem_cons_succ] at x0 x1 x2
 have h00:0<n:=by omega
 have hi1:i<=n:=by omega
 have hn1:n<=1000:=by omega
 have hm21:m2<=1000:=by omega
 clear hAf hnf hcf hw1 hp hs he hrl hacc hsin hi hr hlo hhi hnn hm2 h2 h3 hdr hL hLl hLn RT HPV hn ih h0
 go_enter Tryz.func96,Tryz.ntmps96
 go_wp2_with fail
 rw [HW.out]
 with_reducible refine (isLeaf_no _ Af none A nf cf 0 0 n c h00).mono ?_
 rintro e w3 ⟨rfl,hb3⟩
 have bd3:Below w.heap.size w w3:=hop HBW.out hb3
 have hb31:Below w1.heap.size w1 w3:=hb3
 clear x0 x1 x2 hb3
 have HK:Hid (∀ W,Below w3.heap.size w3 W->W.cell? ⟨w.heap.size,0,none⟩=some (.slice Af nf cf)/\W.cell? ⟨w.heap.size,1,none⟩=some (.slice none 0 0)/\W.cell? ⟨w.heap.size,2,none⟩=some (.slice A n c)):=fun W hW=>by
  have:=HB1.out.below (hop hb31 hW) HB1.out.lt
  exact ⟨this.cell (i:=0) (by simp),this.cell (i:=1) (by simp),this.cell (i:=2) (by simp)⟩
 have bd:Below w3.heap.size w3 w3.drew:=(Below.refl _ _).drew
 clear hb31
 go_wp2_with fail
 go_region_held_law (fun W=>W.cell? ⟨w.heap.size,0,none⟩=some (.slice Af nf cf)/\W.cell? ⟨w.heap.size,1,none⟩=some (.slice none 0 0)/\W.cell? ⟨w.heap.size,2,none⟩=some (.slice A n c))
  (first | exact HK.out _ bd | exact HK.out _ bd4)
  (first
   | (go_at_call 130;(with_reducible refine (HU.out _ (hop bd3 bd)).mono ?_);rintro e w4 ⟨rfl,hb4⟩;have bd4:Below w3.heap.size w3 w4:=hop bd hb4;clear hb4))
 have bw4:Below w.heap.size w w4:=hop bd3 bd4
 have HV0:Hid (visit to mo (acc.map kv0) (since fr (flats (lv+1) (L.take 0)))=(acc.map kv0,true)):=rfl
 have HS4:=Lib.hid (HS.out.below bw4)
 have HM4:Hid (ScanMoved bf w v w4 v):= .below v bw4
 clear HU HB1 hcut bd bd3 bd4
 go_wp2_with fail
 go_loopg [42] m2 (fun kx s wr=>∃ (k:Nat) (acc':List (El 0)) (v':Value),k+kx=m2/\s= .int .i64 (k:Int)/\visit to mo (acc.map kv0) (since fr (flats (lv+1) (L.take k)))=(acc'.map kv0,true)/\ScanAt B0 bf wr acc' v'/\ScanMoved bf w v wr v')
 case atStart=>exact ⟨0,acc,v,by omega,rfl,HV0.out,HS4.out,HM4.out⟩
 case round=>
  obtain ⟨k,acc',v',hk,rfl,hvis,hsa,hmo⟩:=hrel
  have HVIS:=Lib.hid hvis
  have HSA:=Lib.hid hsa
  have HMO:=Lib.hid hmo
  have HER:=Lib.hid (HE.out.moved (hmo.mine HS.out))
  have HLEN:Hid (acc'.length<=acc.length+(flats (lv+1) (L.take k)).length):=by
   show _<=_
   have h1:=visit_length to mo (since fr (flats (lv+1) (L.take k))) (acc.map kv0)
   rw [hvis,List.length_map,List.length_map] at h1
   have h2:=since_length fr (flats (lv+1) (L.take k))
   omega
  clear hvis hsa hmo HV0 HS4 HM4
  by_cases hlt:k<m2
  · have hkl:(k:Int)<(m2:Int):=by omega
    have hk0:(0:Int)<=(k:Int):=by omega
    have hkL:k<L.length:=by rw [HLL.out];exact hlt
    obtain ⟨kid,hkid,hgood,K0,k0,e0,K1,k1,e1,K2,k2,e2,hkv,bl,off,hA,hcell⟩:=HKIDS.out k hkL
    subst hA
    have hmine:=HMO.out.mine HS.out
    obtain ⟨y0,y1,y2⟩:=hcell wr hmine
    have hgood2:Good wr (Mine B0 bf) lv kid:=⟨EOk.moved hmine (fun _ h=> .inl h) (lv+1) kid hgood.ok,hgood.inner,hgood.srt,hgood.few,hgood.some_⟩
    have HTK:Hid (since fr (flats (lv+1) (L.take (k+1)))=since fr (flats (lv+1) (L.take k))++since fr (flats lv kid.els)):=by
     show _=_
     rw [List.take_succ_eq_append_getElem hkL,flats_append,since_append,flats_single,<-hkid]
     rfl
    have hsum:(flats (lv+1) (L.take k)).length+(flats lv kid.els).length<=(flats (lv+1) L).length:=by
     have e:(flats (lv+1) L).length=(flats (lv+1) (L.take k)).length+((eflat (lv+1) L[k]).length+(flats (lv+1) (L.drop (k+1))).length):=by
      conv=>lhs;rw [flats_split (lv+1) L k hkL]
      rw [List.length_append,List.length_append];omega
     have e2:(eflat (lv+1) L[k]).length=(flats lv kid.els).length:=by rw [<-hkid];rfl
     omega
    have HRE:Hid (∃ rest,since fr (flats (lv+1) L)=since fr (flats (lv+1) (L.take k))++since fr (flats lv kid.els)++rest):=by
     refine ⟨since fr (flats (lv+1) (L.drop (k+1))),?_⟩
     have:=HTK.out
     rw [<-this,<-since_append,<-flats_append,List.take_append_drop]
    obtain ⟨w6,hw6⟩:∃ w6,w6=wr.alloc (.cells #[.slice K0 k0 e0,.slice K1 k1 e1,.slice K2 k2 e2] 156):=⟨_,rfl⟩
    have HW6:Hid (wr.alloc (.cells #[.slice K0 k0 e0,.slice K1 k1 e1,.slice K2 k2 e2] 156)=w6):=hw6.symm
    have hb6:Below wr.heap.size wr w6:=by rw [hw6];exact (Below.refl _ _).alloc (Nat.le_refl _) _
    have HEACH:=Lib.hid (HIH.out w6 acc' v' kid (hgood2.below hb6) (HSA.out.below hb6) (HER.out.below hb6) (by have:=HLEN.out;have:=HBD.out;omega))
    rw [hkv] at HEACH
    have HMO6:Hid (ScanMoved bf w v w6 v'):=HMO.out.trans (.below v' hb6)
    clear hcell hmine hgood hgood2 hkv hw6 hb6 hkL hkid hsum
    go_wp2_with fail
    rw [HW6.out]
    with_reducible refine HEACH.out.mono ?_
    rintro e w7 ⟨acc2,v2,rfl,ha2,hs2,hm2⟩
    have HA2:=Lib.hid ha2
    have HS2:=Lib.hid hs2
    have HM2:=Lib.hid hm2
    clear ha2 hs2 hm2
    obtain ⟨go,hgo⟩:∃ go,go=(visit to mo (acc'.map kv0) (since fr (flats lv kid.els))).2:=⟨_,rfl⟩
    rw [<-hgo]
    have HGO:=Lib.hid hgo
    clear hgo y0 y1 y2
    cases go with
    | true=>
     go_wp2_with fail
     go_roundg (m2-(k+1))
     case measure=>omega
     case rel=>
      refine ⟨k+1,acc2,v2,by omega,by go_num,?_,HS2.out,HMO6.out.trans HM2.out⟩
      rw [HTK.out,visit_append,HVIS.out]
      simp only [if_true]
      rw [HA2.out]
      conv=>rhs;rw [HGO.out]
    | false=>
     have HEND:Hid (visit to mo (acc.map kv0) (since fr (flats (lv+1) L))=(acc2.map kv0,false)):=by
      show _=_
      obtain ⟨rest,hrest⟩:=HRE.out
      rw [hrest,List.append_assoc,visit_append,HVIS.out]
      simp only [if_true]
      rw [visit_append,<-HGO.out,HA2.out]
      rfl
     go_wp2_with fail
     go_ret
     exact ⟨acc2,v2,by rw [HEND.out];rfl,by rw [HEND.out],HS2.out,HMO6.out.trans HM2.out⟩
  · obtain rfl:k=m2:=by omega
    have hkl: ¬ (k:Int)<(k:Int):=by omega
    have HEND:Hid (visit to mo (acc.map kv0) (since fr (flats (lv+1) L))=(acc'.map kv0,true)):=by
     show _=_
     have:=HVIS.out
     rw [List.take_of_length_le (by rw [HLL.out];exact Nat.le_refl _)] at this
     exact this
    go_wp2_with fail
    go_ret
    exact ⟨acc',v',by rw [HEND.out];rfl,by rw [HEND.out],HSA.out,HMO.out⟩
theorem each_any (B0 bt bf bm:Nat) (T:Option Addr) (to:Key) (m d:Nat) (mo:Int) (R:Option Addr) (fr:Key) (r rc:Nat) (htl:to.length=m) (hmm:m<=9223372036854775807) (hrl:fr.length=r):(lv:Nat)->
 ∀ (w:World) (acc:List (El 0)) (v:Value) (p:Pg lv) (_:Good w (Mine B0 bf) lv p) (_:ScanAt B0 bf w acc v) (_:ScanEnv B0 bt bf bm T to m d mo R fr w) (_:acc.length+(flats lv p.els).length<=999999),Calls Tryz.prog 96 #[pval lv p,.slice R r rc,.func (.func 97) #[] #[.pointer (some ⟨bt,0,none⟩),.pointer (some ⟨bf,0,none⟩),.pointer (some ⟨bm,0,none⟩)]] w (EachOut B0 bf w acc v to mo (since fr (flats lv p.els)))
 | 0=>fun w acc v p hp hs he hacc=>eachLeaf_any w B0 bt bf bm acc v T to m d mo R fr r rc p hp hs he htl hmm hrl hacc
 | lv+1=>fun w acc v p hp hs he hacc=>eachNode_any lv B0 bt bf bm T to m d mo R fr r rc (each_any B0 bt bf bm T to m d mo R fr r rc htl hmm hrl lv) w acc v p hp hs he hrl hacc
structure Root (w:World) (F:Nat->Prop) (h:Nat) (p:Pg h) (L:List Kv):Prop where
 ok:EOk w F (h+1) p
 inner:Inner (h+1) p
 flat:flats h p.els=L
 srt:Srt L
 top:p.els.length<=8
 two:h≠0->2<=p.els.length
theorem Root.good {w:World} {F:Nat->Prop} {h:Nat} {p:Pg h} {L:List Kv} (r:Root w F h p L):Good w F h p:=⟨r.ok,r.inner,by rw [r.flat];exact r.srt,by have:=r.top;omega,fun h=>by have:=r.two h;omega⟩
theorem Root.moved {w w':World} {F G:Nat->Prop} {h:Nat} {p:Pg h} {L:List Kv} (r:Root w F h p L) (hs:Spared w w' F) (hG:∀ i,G i->F i\/w.heap.size<=i):Root w' G h p L:=⟨EOk.moved hs hG (h+1) p r.ok,r.inner,r.flat,r.srt,r.top,r.two⟩
def Small (L:List Kv):Prop:=L.length<=100000/\∀ x ∈ L,x.1.length<=1000000000/\x.2.length<=1000000000
theorem Small.size {L:List Kv} (h:Small L):sizeT L<=200000000000000:=by
 have:∀ l:List Kv,(∀ x ∈ l,x.1.length<=1000000000/\x.2.length<=1000000000)->sizeT l<=l.length*2000000000:=by
  intro l
  induction l with
  | nil=>intro _;exact Nat.le_refl _
  | cons x l ih=>
   intro hl
   have h1:=ih (fun y hy=>hl y (List.mem_cons_of_mem _ hy))
   have h2:=hl x (List.mem_cons_self ..)
   rw [sizeL_cons,List.length_cons,Nat.succ_mul]
   omega
 have h1:=this L h.2
 have h2:=h.1
 omega
def treeCells (h:Nat) (p:Pg h) (room:Int) (L:List Kv):List Value:=ecells (h+1) p++[.int .i64 room,.int .i64 (L.length:Int),.int .i64 (sizeT L:Int)]
def TreeAt (w:World) (F:Nat->Prop) (g:Nat) (room:Int) (L:List Kv):Prop:=F g/\Small L/\∃ (h:Nat) (p:Pg h),Root w F h p L/\Blk w g (treeCells h p room L) 158
theorem TreeAt.moved {w w':World} {F G:Nat->Prop} {g:Nat} {room:Int} {L:List Kv} (t:TreeAt w F g room L) (hs:Spared w w' (fun b=>F b/\b≠g)) (hG:∀ i,G i->F i\/w.heap.size<=i) (hg:G g):TreeAt w' G g room L:=by
 obtain ⟨_,h1,h,p,hr,hb⟩:=t
 exact ⟨hg,h1,h,p,hr.moved (hs.mono (fun _ h=>h.1)) hG,hs.blk hb (fun h=>h.2 rfl)⟩
theorem TreeAt.below {w w':World} {F:Nat->Prop} {g:Nat} {room:Int} {L:List Kv} (t:TreeAt w F g room L) (hb:Below w.heap.size w w'):TreeAt w' F g room L:=t.moved (.of_below hb _) (fun _ h=> .inl h) t.1
theorem TreeAt.lt {w:World} {F:Nat->Prop} {g:Nat} {room:Int} {L:List Kv} (t:TreeAt w F g room L):g<w.heap.size:=by
 obtain ⟨_,_,_,_,_,hb⟩:=t
 exact hb.lt
theorem tree_open {w:World} {F:Nat->Prop} {g:Nat} {room:Int} {L:List Kv} (t:TreeAt w F g room L):∃ (h:Nat) (p:Pg h) (A0 A1 A2:Option Addr) (n0 c0 n1 c1 n2 c2:Nat),Root w F h p L/\pval h p= .agg #[.slice A0 n0 c0,.slice A1 n1 c1,.slice A2 n2 c2]/\ecells (h+1) p=[.slice A0 n0 c0,.slice A1 n1 c1,.slice A2 n2 c2]/\Blk w g [.slice A0 n0 c0,.slice A1 n1 c1,.slice A2 n2 c2,.int .i64 room,.int .i64 (L.length:Int),.int .i64 (sizeT L:Int)] 158:=by
 obtain ⟨_,_,h,p,hr,hb⟩:=t
 obtain ⟨A0,n0,c0,A1,n1,c1,A2,n2,c2,hv⟩:=page_form h p
 refine ⟨h,p,A0,A1,A2,n0,c0,n1,c1,n2,c2,hr,by unfold pval;rw [hv],hv,?_⟩
 unfold treeCells at hb
 rw [hv] at hb
 exact hb
set_option maxHeartbeats 400000 in
theorem tnew_any (w:World) (room:Int):
 Calls Tryz.prog 73 #[.int .i64 room] w fun e w'=>e= .returned (.pointer (some ⟨w.heap.size,0,none⟩))/\Below w.heap.size w w'/\w'.heap.size=w.heap.size+1/\∀ F:Nat->Prop,F w.heap.size->TreeAt w' F w.heap.size room []:=by
 go_enter Tryz.func73,Tryz.ntmps73
 go_wp2
 go_ret
 refine ⟨rfl,(Below.refl _ _).alloc (Nat.le_refl _) _,by simp,fun F hF=>⟨hF,⟨by decide,fun x hx=>by cases hx⟩,0,mkPg 0 none [] 0,⟨mkPg_ok 0 none [] 0 (.inl rfl) (fun x hx=>by cases hx) (Nat.le_refl _),mkPg_inner 0 none [] 0 (fun x hx=>by cases hx),rfl,Srt.nil,Nat.zero_le _,fun h=>absurd rfl h⟩,?_⟩⟩
 exact Blk.new w [.slice none 0 0,.slice none 0 0,.slice none 0 0,.int .i64 room,.int .i64 0,.int .i64 0] _
set_option maxHeartbeats 400000 in
theorem len_any (w:World) (F:Nat->Prop) (g:Nat) (room:Int) (L:List Kv) (t:TreeAt w F g room L):
 Calls Tryz.prog 71 #[.pointer (some ⟨g,0,none⟩)] w fun e w'=>e= .returned (.int .i64 (L.length:Int))/\w'=w:=by
 obtain ⟨h,p,A0,A1,A2,n0,c0,n1,c1,n2,c2,hr,hv,hc,hb⟩:=tree_open t
 have x4:=hb.cell (i:=4) (by simp)
 simp only [List.getElem_cons_zero,List.getElem_cons_succ] at x4
 clear hr hv hc hb t
 generalize (L.length:Int)=n at *
 go_enter Tryz.func71,Tryz.ntmps71
 go_wp2
 go_ret
 exact ⟨rfl,rfl⟩
def GetOut (w:World) (k:Key) (L:List Kv) (e:Ending) (w':World):Prop:=Below w.heap.size w w'/\
 ((hasL k L=true/\∃ q:Piece,e= .returned (.tuple #[pv q,.bool true])/\NewPiece w w' (getT k L) q)\/(hasL k L=false/\e= .returned (.tuple #[.slice none 0 0,.bool false])))
set_option maxHeartbeats 1000000 in
theorem tget_any (w:World) (F:Nat->Prop) (g:Nat) (room:Int) (L:List Kv) (B:Option Addr) (k:Key) (m d:Nat) (t:TreeAt w F g room L) (hk:Seen w B k) (hm:k.length=m):
 Calls Tryz.prog 70 #[.pointer (some ⟨g,0,none⟩),.slice B m d] w (GetOut w k L):=by
 obtain ⟨h,p,A0,A1,A2,n0,c0,n1,c1,n2,c2,hr,hv,hc,hb⟩:=tree_open t
 have x0:=hb.cell (i:=0) (by simp)
 have x1:=hb.cell (i:=1) (by simp)
 have x2:=hb.cell (i:=2) (by simp)
 simp only [List.getElem_cons_zero,List.getElem_cons_succ] at x0 x1 x2
 have HC:=Lib.hid (find_any w F h p B k m d hr.good hk hm)
 rw [hv,hr.flat] at HC
 clear hr hv hc hb t hk hm
 go_enter Tryz.func70,Tryz.ntmps70
 go_wp2_with fail
 with_reducible refine HC.out.mono ?_
 rintro e w3 ⟨hb3,hout⟩
 have B3:=Lib.hid hb3
 rcases hout with ⟨hh,q,rfl,hq,hkv⟩ | ⟨hh,rfl⟩
 · have HH:=Lib.hid hh
   have hsv:=hq.2.1.seen
   have hlv:=hq.2.2.2
   have HV:Hid ((eval0 q).2.1=getT k L):=congrArg Prod.snd hkv
   obtain ⟨w4,hw4⟩:∃ w4,w4=w3.alloc (.cells #[pv (epiece 0 q),pv (eval0 q)] 123):=⟨_,rfl⟩
   have hb4:Below w3.heap.size w3 w4:=by rw [hw4];exact (Below.refl _ _).alloc (Nat.le_refl _) _
   have HCP:=Lib.hid (copied_any w4 (eval0 q).1 (eval0 q).2.1 (eval0 q).2.1.length (eval0 q).2.2 rfl (by exact hlv) ((hsv.below hb3).below hb4))
   have HW4:Hid (w3.alloc (.cells #[pv (epiece 0 q),pv (eval0 q)] 123)=w4):=hw4.symm
   have HB4:=Lib.hid hb4
   clear hb3 hh hq hkv hsv hlv hw4 hb4
   unfold pv at HW4 ⊢
   go_wp2_with fail
   rw [HW4.out]
   with_reducible refine HCP.out.mono ?_
   rintro e w5 ⟨⟨r,rfl,hr1,hr2⟩,hb5⟩
   have B5:=Lib.hid (hop B3.out (hop HB4.out hb5))
   have R1:=Lib.hid hr1
   have R2:=Lib.hid (hr2.mono (G:=fun b=>b<w.heap.size) (fun b hb=>Nat.lt_of_lt_of_le hb (hop B3.out HB4.out).size))
   clear hr1 hr2 hb5
   unfold pv
   go_wp2_with fail
   go_ret2
   exact ⟨B5.out,.inl ⟨HH.out,r,rfl,by rw [R1.out,HV.out],R2.out⟩⟩
 · have HH:=Lib.hid hh
   clear hb3 hh
   go_wp2_with fail
   go_ret2
   exact ⟨B3.out.alloc B3.out.size _,.inr ⟨HH.out,rfl⟩⟩
def scanT (fr to:Key) (mo:Int) (L:List Kv):List Kv:=if mo<1 then [] else (visit to mo [] (since fr L)).1
def ScanOut (w:World) (l:List Kv) (e:Ending) (w':World):Prop:=
 Below w.heap.size w w'/\∃ (B0:Nat) (acc:List (El 0)) (v:Value),e= .returned v/\w.heap.size<=B0/\TFound B0 w' acc v/\acc.map kv0=l
set_option maxHeartbeats 1000000 in
theorem scan_any (w:World) (F:Nat->Prop) (g:Nat) (room:Int) (L:List Kv) (R T:Option Addr) (fr to:Key) (r rc m d:Nat) (mo:Int) (t:TreeAt w F g room L) (hr:Seen w R fr) (hrl:fr.length=r) (ht:Seen w T to) (htl:to.length=m) (hmm:m<=9223372036854775807):
 Calls Tryz.prog 68 #[.pointer (some ⟨g,0,none⟩),.slice R r rc,.slice T m d,.int .i64 mo] w (ScanOut w (scanT fr to mo L)):=by
 have hsm:=t.2.1.1
 obtain ⟨h,p,A0,A1,A2,n0,c0,n1,c1,n2,c2,hrt,hv,hc,hb⟩:=tree_open t
 have HB:=Lib.hid hb
 have x0:=hb.cell (i:=0) (by simp)
 have x1:=hb.cell (i:=1) (by simp)
 have x2:=hb.cell (i:=2) (by simp)
 simp only [List.getElem_cons_zero,List.getElem_cons_succ] at x0 x1 x2
 have hgood:=hrt.good
 have hflat:=hrt.flat
 have HE:Hid (∀ W,Below w.heap.size w W->W.heap.size=w.heap.size+3->W.cell? ⟨w.heap.size,0,none⟩=some (.slice T m d)->W.cell? ⟨w.heap.size+1,0,none⟩=some (.int .i64 mo)->Blk W (w.heap.size+2) [.slice none 0 0] 63->
  Calls Tryz.prog 96 #[.agg #[.slice A0 n0 c0,.slice A1 n1 c1,.slice A2 n2 c2],.slice R r rc,.func (.func 97) #[] #[.pointer (some ⟨w.heap.size,0,none⟩),.pointer (some ⟨w.heap.size+2,0,none⟩),.pointer (some ⟨w.heap.size+1,0,none⟩)]] W (EachOut (w.heap.size+3) (w.heap.size+2) W [] (.slice none 0 0) to mo (since fr L))):=fun W hW hs h1 h2 h3=>by
  have hF2:∀ b,Mine (w.heap.size+3) (w.heap.size+2) b->F b\/w.heap.size<=b:=fun b hb=> .inr (by rcases hb with hb | hb<;>omega)
  have hF3:∀ b,Mine (w.heap.size+3) (w.heap.size+2) b->w.heap.size<=b\/w.heap.size<=b:=fun b hb=> .inr (by rcases hb with hb | hb<;>omega)
  have hg2:Good W (Mine (w.heap.size+3) (w.heap.size+2)) h p:=⟨EOk.moved (.of_below hW F) hF2 (h+1) p hgood.ok,hgood.inner,hgood.srt,hgood.few,hgood.some_⟩
  have hse:ScanEnv (w.heap.size+3) w.heap.size (w.heap.size+2) (w.heap.size+1) T to m d mo R fr W:=⟨h1,h2,⟨by omega,by omega,by omega,by omega⟩,(Away.of_seen (F:=fun b=>w.heap.size<=b) ht (fun b _ _ hb h=>by omega)).moved (.of_below hW _) hF3,(Away.of_seen (F:=fun b=>w.heap.size<=b) hr (fun b _ _ hb h=>by omega)).moved (.of_below hW _) hF3,by omega⟩
  have hsa:ScanAt (w.heap.size+3) (w.heap.size+2) W [] (.slice none 0 0):=⟨by rw [<-hs];exact TFound.nil W,h3,by omega⟩
  have:=each_any (w.heap.size+3) w.heap.size (w.heap.size+2) (w.heap.size+1) T to m d mo R fr r rc htl hmm hrl h W [] (.slice none 0 0) p hg2 hsa hse (by rw [hflat];simp;omega)
  rw [hv,hflat] at this
  exact this
 clear hrt hv hc hb hgood hflat t hr ht
 go_enter Tryz.func68,Tryz.ntmps68
 by_cases hmo:mo<1
 · have hl:scanT fr to mo L=[]:=if_pos hmo
   rw [hl]
   go_wp2_with fail
   go_ret
   refine ⟨((Below.refl _ _).alloc (Nat.le_refl _) _).alloc (by simp) _,_,[],_,rfl,?_,TFound.nil _,rfl⟩
   simp;omega
 · have hl:scanT fr to mo L=(visit to mo [] (since fr L)).1:=if_neg hmo
   rw [hl]
   have hmo2:1<=mo:=by omega
   obtain ⟨w5,hw5⟩:∃ w5,w5=((w.alloc (.cells #[.slice T m d] 22)).alloc (.cells #[.int .i64 mo] 3)).alloc (.cells #[.slice none 0 0] 63):=⟨_,rfl⟩
   have B5:Hid (Below w.heap.size w w5):=by show _;rw [hw5];exact ((((Below.refl _ _).alloc (Nat.le_refl _) _).alloc (by simp) _).alloc (by simp;omega) _)
   have HW5:Hid (((w.alloc (.cells #[.slice T m d] 22)).alloc (.cells #[.int .i64 mo] 3)).alloc (.cells #[.slice none 0 0] 63)=w5):=hw5.symm
   have HE5:Hid (Calls Tryz.prog 96 #[.agg #[.slice A0 n0 c0,.slice A1 n1 c1,.slice A2 n2 c2],.slice R r rc,.func (.func 97) #[] #[.pointer (some ⟨w.heap.size,0,none⟩),.pointer (some ⟨w.heap.size+1+1,0,none⟩),.pointer (some ⟨w.heap.size+1,0,none⟩)]] w5 (EachOut (w.heap.size+3) (w.heap.size+2) w5 [] (.slice none 0 0) to mo (since fr L))):=by
    refine HE.out w5 B5.out (by rw [hw5];simp) ?_ ?_ ?_
    · rw [hw5]
      exact ((((Blk.new w [.slice T m d] 22).alloc _).alloc _).cell (i:=0) (by simp))
    · have:=(((Blk.new (w.alloc (.cells #[.slice T m d] 22)) [.int .i64 mo] 3).alloc (.cells #[.slice none 0 0] 63)).cell (i:=0) (by simp))
      rw [hw5]
      simpa using this
    · have:=Blk.new ((w.alloc (.cells #[.slice T m d] 22)).alloc (.cells #[.int .i64 mo] 3)) [.slice none 0 0] 63
      rw [hw5]
      simpa using this
   have HG:Hid (Blk w5 g [.slice A0 n0 c0,.slice A1 n1 c1,.slice A2 n2 c2,.int .i64 room,.int .i64 (L.length:Int),.int .i64 (sizeT L:Int)] 158):=HB.out.below B5.out HB.out.lt
   have hg3:Blk (((w.alloc (.cells #[.slice T m d] 22)).alloc (.cells #[.int .i64 mo] 3)).alloc (.cells #[.slice none 0 0] 63)) g [.slice A0 n0 c0,.slice A1 n1 c1,.slice A2 n2 c2,.int .i64 room,.int .i64 (L.length:Int),.int .i64 (sizeT L:Int)] 158:=by rw [HW5.out];exact HG.out
   have y0:=hg3.cell (i:=0) (by simp)
   have y1:=hg3.cell (i:=1) (by simp)
   have y2:=hg3.cell (i:=2) (by simp)
   simp only [List.getElem_cons_zero,List.getElem_cons_succ] at y0 y1 y2
   clear hg3 hw5 x0 x1 x2
   go_wp2_with fail
   rw [HW5.out]
   with_reducible refine HE5.out.mono ?_
   rintro e w6 ⟨acc,v,rfl,hacc,hsa,hsm⟩
   have hv:=hsa.var.cell (i:=0) (by simp)
   simp only [List.getElem_cons_zero] at hv
   have HSA:=Lib.hid hsa
   have HACC:=Lib.hid hacc
   have B6:Hid (Below w.heap.size w w6):=by
    exact hsm.spared.below (W:=w) B5.out (fun b hb=>by
     rcases hb with hb | hb
     · omega
     · cases hb)
   clear hacc hsa hsm
   go_wp2_with fail
   go_ret
   exact ⟨B6.out,_,acc,v,rfl,Nat.le_add_right _ _,HSA.out.found,HACC.out⟩
end Go.Proofs.YtdaahapbpnjkfaaGreat
