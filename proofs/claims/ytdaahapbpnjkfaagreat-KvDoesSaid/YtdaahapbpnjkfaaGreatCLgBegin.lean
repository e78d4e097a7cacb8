/-
Begin of a log: what it answers and what it leaves. Conditions: as it says.
-/
import Derived.Test.YtdaahapbpnjkfaaGreatCLgPut
import Derived.Test.YtdaahapbpnjkfaaGreatCCatch
import Derived.Test.YtdaahapbpnjkfaaGreatCFEnc
import Derived.Test.YtdaahapbpnjkfaaGreatCLgWrite
import Derived.StillTailTactics
import Derived.Deep.RegionHeldLaw
import Derived.Deep.Cut
import Derived.Test.YtdaahapbpnjkfaaGreatCKvA
namespace Go.Proofs.YtdaahapbpnjkfaaGreat
open Go.RowKit
section
variable {w w1 w':World} {r b:Nat} {G G':Nat->Prop} {s s':Dsk}
theorem RMoved.trans (hs:Spared w w1 G) (hG:∀ k,G' k->G k\/w.heap.size<=k) (h:RMoved w1 r G' s w'):RMoved w r G s w':=by
 obtain ⟨G2,h1,h2,h3⟩:=h
 exact ⟨G2,h1,hs.trans h2 hG,fun k hk=>(h3 k hk).elim (hG k) (fun h=> .inr (Nat.le_trans hs.size h))⟩
theorem RMoved.blk {L:List Value} {t:TypeId} (h:RMoved w r G s w') (hb:Blk w b L t) (hF: ¬ G b):Blk w' b L t:=by
 obtain ⟨_,_,hs,_⟩:=h
 exact hs.blk hb hF
theorem RMoved.before (h:RMoved w1 r G s w') (hb:Below w.heap.size w w1):RMoved w r G s w':=by
 obtain ⟨G',h1,h2,h3⟩:=h
 exact ⟨G',h1,(Spared.of_below hb G).trans h2 (fun _ h=> .inl h),fun k hk=>(h3 k hk).elim .inl (fun h=> .inr (Nat.le_trans hb.size h))⟩
theorem RMoved.away {A:Option Addr} {l:List UInt8} (h:RMoved w r G s w') (ha:Away w G A l):Seen w' A l:=by
 obtain ⟨G',_,h2,h3⟩:=h
 exact (ha.moved h2 h3).seen
end
def lrCells (r:Nat) (f N:Int) (gen seq fin:Int) (down:Bool):List Value:=[.pointer (some ⟨r,0,none⟩),.int .i64 f,.int .i64 N,.int .i64 gen,.int .i64 seq,.int .i64 fin,.bool down]
theorem lr_cells {w:World} {b r:Nat} {f N gen seq fin:Int} {down:Bool} {t:TypeId} (h:Blk w b (lrCells r f N gen seq fin down) t):w.cell? ⟨b,0,none⟩=some (.pointer (some ⟨r,0,none⟩))/\w.cell? ⟨b,1,none⟩=some (.int .i64 f)/\w.cell? ⟨b,2,none⟩=some (.int .i64 N)/\
 w.cell? ⟨b,3,none⟩=some (.int .i64 gen)/\w.cell? ⟨b,4,none⟩=some (.int .i64 seq)/\w.cell? ⟨b,5,none⟩=some (.int .i64 fin)/\w.cell? ⟨b,6,none⟩=some (.bool down):=
 ⟨h.cell (i:=0) (by simp [lrCells]),h.cell (i:=1) (by simp [lrCells]),h.cell (i:=2) (by simp [lrCells]),h.cell (i:=3) (by simp [lrCells]),h.cell (i:=4) (by simp [lrCells]),h.cell (i:=5) (by simp [lrCells]),h.cell (i:=6) (by simp [lrCells])⟩
theorem make_noughts (n:Nat) (h:n<=140737488351232) (W:World):(Instr.makeSlice 22 (.int .i64 (n:Int)) (.int .i64 (n:Int))).run Tryz.prog W= .ok (.slice (some ⟨W.heap.size,0,none⟩) n n) (W.alloc (.cells ((List.replicate n (0:UInt8)).map bv).toArray 5)):=by
 obtain ⟨i0,hi,hz0,hz1,hz2⟩:=info_parts info8p
 have hr:=run_make (P:=Tryz.prog) W 22 5 i0 (.int .u8 0) Tryz.underlying22 hi hz0 .i64 .i64 (n:Int) (n:Int) (by omega) (by omega) (by rw [hz2];omega) (by omega)
 have e:madeCells #[Value.int .u8 0] n=((List.replicate n (0:UInt8)).map bv).toArray:=by
  apply Array.ext
  · simp [madeCells]
  · intro i h1 h2
    simp [madeCells,bv,Nat.mod_one]
 rw [hr,hz1,show ((n:Nat):Int).toNat=n from rfl,Nat.mul_one]
 have e0:(Value.int .u8 0).cells= #[Value.int .u8 0]:=rfl
 rw [<-e]
 rfl
theorem made_of_blk {w0 w:World} {g n:Nat} {l:List UInt8} (h:Blk w g (l.map bv) 5) (hg:w0.heap.size<=g) (hb:Below w0.heap.size w0 w) (hl:l.length=n) (hn:n<=140737488351232):Made 5 w0 l (.slice (some ⟨g,0,none⟩) n n) w:=by
 subst hl
 refine ⟨⟨by simp,.inr ⟨g,l.length,_,rfl,hg,h,Nat.le_refl _,by unfold maxLen;omega,by simp,?_⟩⟩,hb⟩
 rw [Nat.mul_one,<-List.length_map (f:=bv),List.take_length]
theorem splice_all {α:Type} (L x:List α) (h:x.length=L.length):splice L 0 x=x:=by
 unfold splice
 rw [List.take_zero,List.nil_append,Nat.zero_add,h,List.drop_length,List.append_nil]
theorem madeN_start {w w1:World} (h:Below w.heap.size w w1):Hid (MadeN 5 w [] none 0 0 w1):=⟨rfl,World.ownsRow_nil _ _ _ _,h⟩
def lenOf7:Value->Nat
 | .slice _ n _=>n
 | _=>0
def padN (n:Nat):Nat:=(64-n%64)%64
theorem filled_pad {a:List UInt8} {room:Nat} (h:a.length<=room*64):filledL a room=(a++List.replicate (padN a.length) 0)++List.replicate (if a.length%64=0/\a.length/64<room then 64 else 0) 0:=by
 unfold filledL padN
 rw [List.append_assoc,List.replicate_append_replicate]
 congr 2
 split<;>omega
theorem chunk_piece (B:List UInt8) (j:Nat):((B.drop 64).drop (j*64)).take 64=(B.drop ((j+1)*64)).take 64:=by
 rw [List.drop_drop,show 64+j*64=(j+1)*64 by omega]
theorem lay_last {s:Dsk} {B:List UInt8} {i n:Nat} (hb:B.length=(n+1)*64):s.lay B i=((s.putAll (i+1) (rowsOf (B.drop 64))).pw i (B.take 64)).sput/\s.layErr B i=if ((s.putAll (i+1) (rowsOf (B.drop 64))).pw i (B.take 64)).off then 5 else 0:=by
 have h:rowsOf (B.take 64)=[B.take 64]:=rowsOf_one (by rw [List.length_take];omega)
 unfold Dsk.lay Dsk.layErr
 rw [h]
 exact ⟨rfl,rfl⟩
set_option maxRecDepth 100000 in
set_option maxHeartbeats 4000000 in
theorem refLay_any (w:World) (r b:Nat) (G:Nat->Prop) (s:Dsk) (f N pos:Nat) (gen seq fin:Int) (down:Bool) (A:Option Addr) (code:List UInt8) (n c q:Nat) (h:RefAt w r G s) (hlg:Blk w b (lrCells r f N gen seq fin down) 102) (hnb: ¬ G b) (ha:Seen w A code) (hl:code.length=n) (h0:0<n) (hn64:n<=70000) (hN:f+N<=s.K.length) (hfit:pos+n<=N*64) (hf:s.Few q) (hq:q+n/64<=800000):
 Calls Tryz.prog 113 #[.pointer (some ⟨b,0,none⟩),.slice A n c,.int .i64 (pos:Int)] w fun e w'=>e= .returned (.int .i64 (s.layErr (laidL s.view f N pos code) (f+pos/64)))/\RMoved w r G (s.lay (laidL s.view f N pos code) (f+pos/64)) w':=by
 have hK4:=h.ok.hi
 obtain ⟨m,hB1,hB2,hB3⟩:=laidL_rows (V:=s.view) (f:=f) (blocks:=N) (pos:=pos) (code:=code) (view_len h.ok) (by rw [view_length];exact hN) (by omega) (by omega)
 have HB1:=Lib.hid hB1
 have HLB:Hid (laidL s.view f N pos code=filledL (aheadL s.view f pos++code) (N-pos/64)):=rfl
 generalize laidL s.view f N pos code=B at HB1 HLB ⊢
 have HOFF:=Lib.hid (fun h=>Dsk.lay_off (s:=s) (b:=B) (i:=f+pos/64) (n:=m) h HB1.out)
 obtain ⟨k1,hk1⟩:∃ k,k=pos/64:=⟨_,rfl⟩
 obtain ⟨n1,hn1⟩:∃ n1,n1=pos%64:=⟨_,rfl⟩
 have H:=Lib.hid h
 have HNB:=Lib.hid hnb
 have HLG:=Lib.hid hlg
 have HA:=Lib.hid ha
 have HL:=Lib.hid hl
 have HF:=Lib.hid hf
 have OK:=Lib.hid h.ok
 have HAL:Hid ((aheadL s.view f pos).length=n1):=by
  show _=_
  rw [aheadL_length (view_len h.ok) (by rw [view_length];omega),hn1]
 have HAV:Hid (∀ x,s.view[f+k1]? =some x->aheadL s.view f pos=x.take n1):=fun x hx=>by
  unfold aheadL
  rw [<-hn1,<-hk1,List.getD_eq_getElem?_getD,hx];rfl
 obtain ⟨hd,hhd⟩:∃ hd,hd=aheadL s.view f pos:=⟨_,rfl⟩
 rw [<-hhd] at HLB HAL HAV
 rw [<-hk1] at HLB HOFF ⊢
 have hpk:pos=k1*64+n1:=by omega
 have hn164:n1<64:=by omega
 have hdiv:(pos:Int)/64=(k1:Int):=by omega
 have hsub:(pos:Int)-(k1:Int)*64=(n1:Int):=by omega
 have hkN:f+k1<s.K.length:=by omega
 have hp:(pos:Int)<=262144:=by omega
 have hfitb:n1+n<=(N-k1)*64:=by omega
 have hmk:=make_noughts n1 (by omega) w
 have HZ:Hid (Blk (w.alloc (.cells ((List.replicate n1 (0:UInt8)).map bv).toArray 5)) w.heap.size ((List.replicate n1 (0:UInt8)).map bv) 5):=Blk.new w _ _
 have HBW:=Lib.hid ((Below.refl w.heap.size w).alloc (Nat.le_refl _) (.cells ((List.replicate n1 (0:UInt8)).map bv).toArray 5))
 obtain ⟨w1,hw1⟩:∃ w1,w1=w.alloc (.cells ((List.replicate n1 (0:UInt8)).map bv).toArray 5):=⟨_,rfl⟩
 rw [<-hw1] at hmk HZ HBW
 have HLG1:=Lib.hid (hlg.below HBW.out hlg.lt)
 obtain ⟨c0,c1,c2,c3,c4,c5,c6⟩:=lr_cells HLG1.out
 have HRD:=Lib.hid (fun W (hb:Below w1.heap.size w1 W)=>refRead_any W r G s ((f+k1:Nat):Int) ((h.still HBW.out).still hb))
 have hwf:IntKind.i64.wrap ((f:Int)+(k1:Int))=(f:Int)+(k1:Int):=by rw [IntKind.wrap_i64];omega
 have HPK:=Lib.hid hpk
 have HK:Hid (∀ W,Below w1.heap.size w1 W->W.cell? ⟨b,0,none⟩=some (.pointer (some ⟨r,0,none⟩))/\W.cell? ⟨b,1,none⟩=some (.int .i64 (f:Int))):=fun W hb=>by
  have:=lr_cells (HLG1.out.below hb HLG1.out.lt)
  exact ⟨this.1,this.2.1⟩
 obtain ⟨i0,hi,hz0,hz1,hz2⟩:=info_parts info8p
 have bd:Below w1.heap.size w1 w1.drew:=(Below.refl _ _).drew
 have ecast:((f+k1:Nat):Int)=(f:Int)+(k1:Int):=by omega
 have ecast2:=ecast
 clear h hnb hlg ha hl hf hB1 hk1 hn1 hhd hw1 hpk
 by_cases hoff:n1≠0/\s.off=true
 · have hpos1:(0:Int)<(n1:Int):=by omega
   have HO:=Lib.hid hoff.2
   have HR5:Hid (Calls Tryz.prog 78 #[.pointer (some ⟨r,0,none⟩),.int .i64 ((f:Int)+(k1:Int))] w1.drew fun e w'=>e= .returned (.tuple #[.slice none 0 0,.int .i64 5])/\Below w1.heap.size w1 w'):=by
    have:=HRD.out _ bd
    rw [ecast] at this
    refine this.mono ?_
    rintro e w2 ⟨hb2,⟨hx,_⟩ | ⟨_,_,rfl⟩ | ⟨_,hx,_⟩⟩
    · exact absurd ⟨by omega,by omega⟩ hx
    · exact ⟨rfl,undrew hb2⟩
    · rw [hoff.2] at hx;cases hx
   have HE:=Lib.hid (HOFF.out hoff.2)
   clear hoff HRD ecast
   go_enter Tryz.func113,Tryz.ntmps113
   go_wp2
   go_region_held_law (fun w'=>w'.cell? ⟨b,0,none⟩=some (.pointer (some ⟨r,0,none⟩))/\w'.cell? ⟨b,1,none⟩=some (.int .i64 (f:Int)))
    (first | exact HK.out _ bd | assumption | (apply HK.out;assumption))
    (first
     | (go_at_call 78;refine HR5.out.mono ?_;rintro e w2 ⟨rfl,hb2⟩))
   have HM2:Hid (RMoved w r G s w2):=(RMoved.still (H.out.still (hop HBW.out hb2)) (Below.refl _ _)).before (hop HBW.out hb2)
   clear hb2 HR5
   all_goals go_wp2
   all_goals go_ret
   all_goals rw [HE.out.1,HE.out.2]
   all_goals exact ⟨rfl,HM2.out⟩
 -- what is ahead of the place
 have hon:n1=0\/s.off=false:=by
  rcases Nat.eq_zero_or_pos n1 with h | h
  · exact .inl h
  · cases hs:s.off
    · exact .inr rfl
    · exact absurd ⟨by omega,hs⟩ hoff
 have HON:=Lib.hid hon
 obtain ⟨x0,hx0⟩:∃ x,s.view[f+k1]? =some x:=⟨_,List.getElem?_eq_getElem (by rw [view_length];omega)⟩
 have HX64:Hid (x0.length=64):=view_len OK.out _ (List.mem_of_getElem? hx0)
 have HX0:Hid (hd=x0.take n1):=HAV.out x0 hx0
 have HXV:=Lib.hid hx0
 clear hoff hon hx0
 go_enter Tryz.func113,Tryz.ntmps113
 go_upto_if 31 with fail
 go_cut [] from 29 (fun wx=>MadeN 5 w hd (some ⟨w.heap.size,0,none⟩) n1 n1 wx)
 case first=>
  by_cases hz:n1=0
  · have hz': ¬ (0:Int)<(n1:Int):=by omega
    have HMD:Hid (MadeN 5 w hd (some ⟨w.heap.size,0,none⟩) n1 n1 w1):=by
     have e:hd=List.replicate n1 0:=by rw [List.eq_nil_of_length_eq_zero (HAL.out.trans hz),hz];rfl
     refine ⟨HAL.out,?_⟩
     rw [e]
     exact made_of_blk HZ.out (Nat.le_refl _) HBW.out (by simp) (by omega)
    clear hz HRD ecast
    go_wp2
    go_meet
    exact HMD.out
  · have hz':(0:Int)<(n1:Int):=by omega
    have HO:Hid (s.off=false):=HON.out.resolve_left hz
    have HR0:Hid (Calls Tryz.prog 78 #[.pointer (some ⟨r,0,none⟩),.int .i64 ((f:Int)+(k1:Int))] w1.drew fun e w'=>∃ A0 c0,e= .returned (.tuple #[.slice A0 64 c0,.int .i64 0])/\Seen w' A0 x0/\Below w1.heap.size w1 w'):=by
     have:=HRD.out _ bd
     rw [ecast] at this
     refine this.mono ?_
     rintro e w2 ⟨hb2,⟨hx,_⟩ | ⟨_,hx,_⟩ | ⟨_,_,x,A0,c0,hx,hs,rfl⟩⟩
     · exact absurd ⟨by omega,by omega⟩ hx
     · rw [HO.out] at hx;cases hx
     · have e1:((f:Int)+(k1:Int)).toNat=f+k1:=by omega
       rw [e1] at hx
       have hv:=last_view OK.out hx
       rw [HXV.out] at hv
       injection hv with hv
       subst hv
       exact ⟨A0,c0,rfl,hs,undrew hb2⟩
    clear hz HRD ecast
    go_wp2
    go_region_held_law (fun w'=>w'.cell? ⟨b,0,none⟩=some (.pointer (some ⟨r,0,none⟩))/\w'.cell? ⟨b,1,none⟩=some (.int .i64 (f:Int)))
     (first | exact HK.out _ bd | assumption | (apply HK.out;assumption))
     (first
      | (go_at_call 78;refine HR0.out.mono ?_;rintro e w21 ⟨A0,cc0,rfl,hs21,hb21⟩))
    have HS21:=Lib.hid hs21
    have HB21:=Lib.hid hb21
    have HZ21:=Lib.hid (HZ.out.below hb21 HZ.out.lt)
    clear hs21 hb21 HR0
    go_wp2_with (refine wpList_copy_into rfl (.tmp 49) (.tmp 50) 22 rfl 5 Tryz.underlying22 size8 w.heap.size 0 n1 n1 A0 x0 64 cc0 rfl rfl HX64.out ((List.replicate n1 (0:UInt8)).map bv) 5 HZ21.out HS21.out (by decide) n1 (by omega) (by simp) ?_)
    intro w22 hb22 hg22
    have HMD:Hid (MadeN 5 w hd (some ⟨w.heap.size,0,none⟩) n1 n1 w22):=by
     refine ⟨HAL.out,?_⟩
     have h1:=hb22.out
     rw [splice_all _ _ (by simp [HX64.out];omega)] at h1
     try rw [<-List.map_take] at h1
     rw [<-HX0.out] at h1
     exact made_of_blk h1 (Nat.le_refl _) ((hop HBW.out HB21.out).grown hg22.out (hop HBW.out HB21.out).size (fun k hk=>by injection hk with hk;omega)) HAL.out (by omega)
    clear hb22 hg22 HS21 HB21 HZ21
    go_wp2
    go_meet
    exact HMD.out
 case rest=>
 have HMD:=Lib.hid hcut
 clear hcut HZ HK hmk HRD ecast bd HON c0 c1 c2 c3 c4 c5 c6
 go_wp2_with (at_builtin;refine wpList_append_to _ rfl (.const (.slice none 0 0)) (.tmp 52) 22 rfl 5 i0 (.int .u8 0) Tryz.underlying22 hi hz0 hz1 hz2 rfl w none 0 0 [] (some ⟨w.heap.size,0,none⟩) n1 n1 hd hd n1 rfl rfl (madeN_start HMD.out.2.2) (Lib.hid HMD.out.seen) (Lib.hid HAL.out) (Lib.hid rfl) (Lib.hid (Nat.zero_add n1).symm) (by omega) ?_)
 intro A2 c2' w2 hm2 hb2
 obtain ⟨D2,hD2⟩:∃ D2,D2=hd++code:=⟨_,rfl⟩
 obtain ⟨n2,hn2⟩:∃ n2,n2=n1+n:=⟨_,rfl⟩
 have HD2:=Lib.hid hD2
 have HN2:=Lib.hid hn2
 have hn2b:n2<=(N-k1)*64:=by rw [hn2];exact hfitb
 have hn2c:n2<=262144:=by omega
 have hend:(pos:Int)+(n:Int)=(k1:Int)*64+(n2:Int):=by have:=HPK.out;omega
 clear hD2 hn2 HMD
 go_wp2_with (at_builtin;refine wpList_append_to _ rfl (.tmp 54) (.tmp 55) 22 rfl 5 i0 (.int .u8 0) Tryz.underlying22 hi hz0 hz1 hz2 rfl w A2 n1 c2' hd A n c code D2 n2 rfl rfl hm2 (Lib.hid (HA.out.below hm2.out.2.2)) HL HD2 HN2 (by omega) ?_)
 intro A3 c3' w3 hm3 hb3
 have HM3:Hid (MadeN 5 w (D2++List.replicate 0 0) A3 n2 c3' w3):=by have:=hm3.out;exact ⟨by rw [List.replicate_zero,List.append_nil];exact this.1,by rw [List.replicate_zero,List.append_nil];exact this.2⟩
 obtain ⟨z,hz⟩:∃ z,z=padN n2:=⟨_,rfl⟩
 have HZN:=Lib.hid hz
 have hz64:z<64:=by rw [hz];unfold padN;omega
 have HZM:Hid ((n2+z)%64=0):=by show _=_;rw [hz];unfold padN;omega
 have HZJ:Hid (∀ j,j<z->(n2+j)%64≠0):=fun j hj=>by rw [hz] at hj;unfold padN at hj;omega
 clear hm3 hb3 hm2 hb2 hz
 go_wp2
 go_loopw [12] (fun v wr=>∃ j nj A' c',nj=n2+j/\j<=z/\v= .slice A' nj c'/\MadeN 5 w (D2++List.replicate j 0) A' nj c' wr) (fun v _=>n2+z-lenOf7 v)
 case atStart=>exact ⟨0,n2,A3,c3',rfl,Nat.zero_le _,rfl,HM3.out⟩
 case round=>
 clear HM3
 obtain ⟨j,nj,A4,c4',hnj,hjz,rfl,hm4⟩:=hrel
 have HM4:=Lib.hid hm4
 have HNJ:=Lib.hid hnj
 clear hm4
 by_cases hlt:j<z
 · have hne: ¬ (nj:Int)%64=0:=by have:=HZJ.out j hlt;omega
   have hne':((nj:Int)%64==0)=false:=by rw [beq_eq_false_iff_ne];exact hne
   have HDJ:Hid (D2++List.replicate (j+1) (0:UInt8)=(D2++List.replicate j 0)++[0]):=by show _=_;rw [List.replicate_succ',List.append_assoc]
   have HNJ1:Hid (nj+1=nj+1):=rfl
   have L0:Hid (([0]:List UInt8).length=1):=rfl
   have hnjb:nj+1<=140737488355328:=by omega
   clear hnj hend
   go_wp2_with (at_builtin;refine wpList_append_new wr rfl (.tmp 61) (.tmp 62) 22 rfl 5 i0 (.int .u8 0) Tryz.underlying22 hi hz0 hz1 hz2 rfl w A4 nj c4' (D2++List.replicate j 0) 1 _ [0] (D2++List.replicate (j+1) 0) (nj+1) rfl _ rfl rfl HM4 rfl L0 HDJ HNJ1 hnjb ?_)
   intro A5 c5' w5 hm5 hb5
   go_wp2
   go_roundw
   case rel=>exact ⟨j+1,nj+1,A5,c5',by have:=HNJ.out;omega,by omega,rfl,hm5.out⟩
   case measure=>have:=HNJ.out;simp [lenOf7];omega
 obtain rfl:j=z:=by omega
 have heq:(nj:Int)%64=0:=by have:=HZM.out;omega
 have hnjb:nj<=262208:=by omega
 clear HZJ hlt hjz HZM hnj HNJ
 go_upto_region 13 with fail
 have hr2:((k1:Int)*64+(n2:Int))%64=(n2:Int)%64:=by omega
 have hq2:((k1:Int)*64+(n2:Int))/64=(k1:Int)+(n2:Int)/64:=by omega
 have HLOG2:Hid (wr.cell? ⟨b,2,none⟩=some (.int .i64 (N:Int))):=(lr_cells (HLG.out.below HM4.out.2.2 HLG.out.lt)).2.2.1
 obtain ⟨full,hfb⟩:∃ b:Bool,b=decide (n2%64=0/\n2/64<N-k1):=⟨_,rfl⟩
 have HFB:=Lib.hid hfb
 clear hfb
 go_cut [75] from 57 (fun v wx=>v= .bool full/\wx=wr)
 case first=>
  have c2:=HLOG2.out
  by_cases hm0:n2%64=0
  · have hz0':((k1:Int)*64+(n2:Int))%64=0:=by omega
    by_cases hlt2:n2/64<N-k1
    · have hl2:((k1:Int)*64+(n2:Int))/64<(N:Int):=by omega
      have HE:=Lib.hid (HFB.out.trans (decide_eq_true (p:=n2%64=0/\n2/64<N-k1) ⟨hm0,hlt2⟩))
      clear hr2 hq2 hend heq
      go_wp2
      go_meet
      exact ⟨congrArg Value.bool HE.out.symm,rfl⟩
    · have hl2: ¬ ((k1:Int)*64+(n2:Int))/64<(N:Int):=by omega
      have HE:=Lib.hid (HFB.out.trans (decide_eq_false (p:=n2%64=0/\n2/64<N-k1) (fun h=>hlt2 h.2)))
      clear hr2 hq2 hend heq
      go_wp2
      go_meet
      exact ⟨congrArg Value.bool HE.out.symm,rfl⟩
  · have hz0': ¬ ((k1:Int)*64+(n2:Int))%64=0:=by omega
    have hz0'':(((k1:Int)*64+(n2:Int))%64==0)=false:=by rw [beq_eq_false_iff_ne];exact hz0'
    have HE:=Lib.hid (HFB.out.trans (decide_eq_false (p:=n2%64=0/\n2/64<N-k1) (fun h=>hm0 h.1)))
    clear hr2 hq2 hend heq
    go_wp2
    go_meet
    exact ⟨congrArg Value.bool HE.out.symm,rfl⟩
 case rest=>
 obtain ⟨rfl,rfl⟩:=hcut
 clear hr2 hq2 hend heq HLOG2
 have HPAD:Hid (B=(D2++List.replicate j 0)++List.replicate (if n2%64=0/\n2/64<N-k1 then 64 else 0) 0):=by
  have e:D2.length=n2:=by rw [HD2.out,List.length_append,HAL.out,HL.out,HN2.out]
  have:=filled_pad (a:=D2) (room:=N-k1) (by rw [e];exact hn2b)
  show _=_
  rw [HLB.out,<-HD2.out,this,e,<-HZN.out]
 obtain ⟨D3,hD3⟩:∃ D,D=D2++List.replicate j (0:UInt8):=⟨_,rfl⟩
 rw [<-hD3] at HM4 HPAD
 clear hD3
 go_upto_if 75 with fail
 go_cut [12] from 57 (fun v wx=>∃ A' c',v= .slice A' ((m+1)*64) c'/\MadeN 5 w B A' ((m+1)*64) c' wx)
 case first=>
  by_cases hfull:n2%64=0/\n2/64<N-k1
  · rw [if_pos hfull] at HPAD
    have hbt:full=true:=HFB.out.trans (decide_eq_true hfull)
    subst hbt
    obtain ⟨q64,hq64⟩:∃ q:Nat,q=64:=⟨_,rfl⟩
    have HPAD':Hid (B=D3++List.replicate q64 0):=by show _=_;rw [hq64];exact HPAD.out
    have HB4:Hid (D3.length+q64<=140737488355328):=by show _<=_;rw [HM4.out.1];omega
    have HQ:Hid ((Value.int .i64 64:Value)= .int .i64 (q64:Int)):=by show _=_;rw [hq64];rfl
    clear hq64
    clear hfull
    go_wp2_with (at_builtin;refine wpList_append_zeros _ rfl (.tmp 76) (.const (.int .i64 64)) 22 3 rfl 5 i0 Tryz.underlying22 Tryz.underlying3 hi hz0 hz1 hz2 w (.slice A4 nj c4') D3 q64 rfl HQ.out HM4.out.2 HB4.out ?_);intro v' w' hm'
    rw [<-HPAD'.out] at hm'
    obtain ⟨A',n',c',rfl,hm2⟩:=hm'.named
    have e:n'=(m+1)*64:=by rw [<-hm2.1];exact HB1.out
    have HM':=Lib.hid hm2
    clear hm' hm2
    go_wp2
    go_meet
    exact ⟨A',c',by rw [e],by rw [<-e];exact HM'.out⟩
  · rw [if_neg hfull] at HPAD
    have hbt:full=false:=HFB.out.trans (decide_eq_false hfull)
    subst hbt
    have e0:B=D3:=by rw [HPAD.out,List.replicate_zero,List.append_nil]
    have e:nj=(m+1)*64:=by rw [<-HM4.out.1,<-e0];exact HB1.out
    have HM':Hid (MadeN 5 w B A4 ((m+1)*64) c4' wc):=by show MadeN _ _ _ _ _ _ _;rw [e0,<-e];exact HM4.out
    clear hfull
    go_wp2
    go_meet
    exact ⟨A4,c4',by rw [e],HM'.out⟩
 case rest=>
 obtain ⟨A5,c5,rfl,hm5⟩:=hcut
 have HBL:=Lib.hid hm5.2.2
 have hc5:(m+1)*64<=c5:=by have:=cap_of hm5.2;rw [hm5.1] at this;exact this
 have HAW:Hid (Away wc G A5 B):=(Made.past hm5.2).mono (fun x hx=>H.out.lt x hx)
 have D5:=Lib.hid (H.out.still HBL.out)
 have HLC:=Lib.hid (HLG.out.below HBL.out HLG.out.lt)
 have HLT:Hid (b<wc.heap.size):=HLC.out.lt
 clear hm5 HPAD HM4 hnjb HFB HLG1 HBW HX64 HX0 HXV
 have HR:Hid ((rowsOf (B.drop 64)).length=m):=by show _=_;rw [rowsOf_length,List.length_drop,HB1.out];omega
 have HRG:Hid (∀ k (h:k<(rowsOf (B.drop 64)).length),(rowsOf (B.drop 64))[k]=(B.drop ((k+1)*64)).take 64):=fun k h=>by rw [rowsOf_get h];exact chunk_piece B k
 have HFIRST:=Lib.hid (fun h=>Dsk.lay_first (s:=s) (b:=B) (i:=f+k1) (n:=m) HB1.out h)
 have HLAST:=Lib.hid (lay_last (s:=s) (B:=B) (i:=f+k1) (n:=m) HB1.out)
 have hlen5:((m:Int)+1)*64/64=(m:Int)+1:=by omega
 have hfk:f+k1+(m+1)<=s.K.length:=by omega
 have hm4:m<=4096:=by omega
 have hqm:q+m<=800001:=by have:=HL.out;omega
 generalize rowsOf (B.drop 64)=R at HR HRG HFIRST HLAST
 clear hB2 hB3 hfit hfitb hn2b hn2c hp hq hn64
 go_wp2
 go_loopw [14] (fun a wr=>∃ k:Nat,k<=m/\a= .int .i64 ((k:Int)+1)/\RMoved wc r G (s.puts (f+k1+1) (R.take k)) wr/\(s.puts (f+k1+1) (R.take k)).Few (q+k)) (fun a _=>m+1-(intOf a).toNat)
 case atStart=>exact ⟨0,Nat.zero_le _,rfl,.still D5.out (Below.refl _ _),HF.out⟩
 case round=>
 obtain ⟨k,hk,rfl,hmv,hfew⟩:=hrel
 have HM:=Lib.hid hmv
 have HFW:=Lib.hid hfew
 obtain ⟨c0,c1,c2,_⟩:=lr_cells (hmv.blk HLC.out HNB.out)
 clear hmv hfew c2
 by_cases hlt:k<m
 · have hkl:(k:Int)+1<(m:Int)+1:=by omega
   have hkR:k<R.length:=by rw [HR.out];exact hlt
   obtain ⟨A',c',hcut,hs',hl'⟩:=(HM.out.away HAW.out).mid_cut ((m+1)*64) c5 ((k+1)*64) ((k+1)*64+64) 64 (((k:Int)+1)*64) (((k:Int)+1)*64+64) (by omega) (by omega) (by omega) HB1.out (by omega) (by omega) hc5
   have HPW:=Lib.hid (Dsk.wput_pw (s:=s.puts (f+k1+1) (R.take k)) (i:=f+k1+1+k) (l:=(B.drop ((k+1)*64)).take 64) (by rw [Dsk.puts_K];omega) hl')
   have HST:=Lib.hid (Dsk.puts_step (s:=s) (i:=f+k1+1) hkR)
   rw [HRG.out k hkR] at HST
   have HSTOP:=Lib.hid (fun h=>Dsk.puts_stop (s:=s) (i:=f+k1+1) (R:=R) (k:=k) h)
   have HFP:=Lib.hid (HFW.out.pw (f+k1+1+k) ((B.drop ((k+1)*64)).take 64))
   have HNE:Hid (¬ R=[]):=fun e=>by rw [e] at hkR;simp at hkR
   generalize hst:s.puts (f+k1+1) (R.take k)=st at *
   have HL':=Lib.hid hl'
   have HS':=Lib.hid hs'
   generalize (B.drop ((k+1)*64)).take 64=x at *
   have HW:Hid (Calls Tryz.prog 140 #[.pointer (some ⟨r,0,none⟩),.int .i64 ((f:Int)+(k1:Int)+((k:Int)+1)),.slice A' 64 c'] wr.drew fun e w'=>e= .returned (.int .i64 (if st.off then 5 else 0))/\RMoved wc r G (st.pw (f+k1+1+k) x) w'):=by
    obtain ⟨F',hd,hs2,hf2⟩:=HM.out
    have hbd:Below wr.heap.size wr wr.drew:=(Below.refl _ _).drew
    have:=refWrite_all wr.drew r F' st ((f+k1+1+k:Nat):Int) A' x 64 c' (hd.still hbd) HL'.out (by decide) (HS'.out.below hbd) (HFW.out.mono (by omega))
    rw [HPW.out.1,HPW.out.2,show ((f+k1+1+k:Nat):Int)=(f:Int)+(k1:Int)+((k:Int)+1) by omega] at this
    exact this.mono fun e w' ⟨he,hmv⟩=>⟨he,.trans hs2 hf2 (hmv.before hbd)⟩
   have hw1:IntKind.i64.wrap ((f:Int)+(k1:Int)+((k:Int)+1))=(f:Int)+(k1:Int)+((k:Int)+1):=by rw [IntKind.wrap_i64];omega
   have hw2:IntKind.i64.wrap (((k:Int)+1)*64)=((k:Int)+1)*64:=by rw [IntKind.wrap_i64];omega
   have hw3:IntKind.i64.wrap (((k:Int)+1)*64+64)=((k:Int)+1)*64+64:=by rw [IntKind.wrap_i64];omega
   clear hst hl' hs' HPW HL' HS' hkR
   by_cases ho:st.off=true
   · have HE:Hid (s.layErr B (f+k1)=5/\s.lay B (f+k1)=st):=by
      have e:=HSTOP.out ho
      have h5:s.putErr (f+k1+1) R=5/\s.putAll (f+k1+1) R=st:=by
       unfold Dsk.putErr Dsk.putAll
       rw [if_neg HNE.out,if_neg HNE.out,e,if_pos ho]
       exact ⟨rfl,by unfold Dsk.sput;rw [if_pos ho]⟩
      have:=HFIRST.out (by rw [h5.1];decide)
      rw [h5.2] at this
      exact ⟨this.2.2,this.2.1⟩
     have HPO:Hid (st.pw (f+k1+1+k) x=st):=Dsk.pw_off ho _ _
     rw [HPO.out,if_pos ho] at HW
     clear ho HSTOP HST HFP HPO HFIRST
     go_wp2_with fail
     go_still_tail 19,(by kernel_rfl)
     go_wp2_with (go_at_call 140;refine HW.out.mono ?_;rintro e w6 ⟨rfl,hp6⟩;have P6:=Lib.hid hp6;clear hp6)
     go_ret
     rw [HE.out.1,HE.out.2]
     exact ⟨rfl,P6.out.before HBL.out⟩
   · have ho':st.off=false:=by cases hs:st.off<;>simp_all
     rw [ho'] at HW
     have HW':Hid (Calls Tryz.prog 140 #[.pointer (some ⟨r,0,none⟩),.int .i64 ((f:Int)+(k1:Int)+((k:Int)+1)),.slice A' 64 c'] wr.drew fun e w'=>e= .returned (.int .i64 0)/\RMoved wc r G (st.pw (f+k1+1+k) x) w'):=HW.out
     clear ho ho' HSTOP HW HFIRST
     go_wp2_with fail
     go_still_tail 19,(by kernel_rfl)
     go_wp2_with (go_at_call 140;refine HW'.out.mono ?_;rintro e w6 ⟨rfl,hp6⟩;have P6:=Lib.hid hp6;clear hp6)
     go_roundw
     case rel=>exact ⟨k+1,by omega,by go_num,by rw [HST.out];exact P6.out,by rw [HST.out];exact HFP.out⟩
     case measure=>simp [intOf];omega
 obtain rfl:k=m:=by omega
 have hkl: ¬ (k:Int)+1<(k:Int)+1:=by omega
 have ht:R.take k=R:=List.take_of_length_le (by rw [HR.out];exact Nat.le_refl _)
 rw [ht] at HM HFW
 clear ht
 have HFEW1:Hid ((s.putAll (f+k1+1) R).Few (q+k+1)):=by
  have:=HF.out.putAll (f+k1+1) R
  rw [HR.out] at this
  exact this
 have HKL:Hid ((s.putAll (f+k1+1) R).K.length=s.K.length):=Dsk.klen_putAll _ _ _
 have HZERO:Hid (k=0->s.puts (f+k1+1) R=s.putAll (f+k1+1) R):=fun h0=>by
  have:R=[]:=List.eq_nil_of_length_eq_zero (by rw [HR.out];exact h0)
  rw [this];rfl
 have HMORE:Hid (k≠0->s.putErr (f+k1+1) R=(if (s.puts (f+k1+1) R).off then 5 else 0)/\s.putAll (f+k1+1) R=(s.puts (f+k1+1) R).sput):=fun h0=>by
  have: ¬ R=[]:=fun e=>h0 (by have:=HR.out;rw [e] at this;simpa using this.symm)
  unfold Dsk.putErr Dsk.putAll
  rw [if_neg this,if_neg this]
  exact ⟨rfl,rfl⟩
 generalize s.putErr (f+k1+1) R=E1 at HFIRST HMORE
 generalize s.putAll (f+k1+1) R=s1 at *
 generalize s.puts (f+k1+1) R=st at *
 have HLC2:Hid (∀ W,RMoved wc r G s1 W->Blk W b (lrCells r (f:Int) (N:Int) gen seq fin down) 102):=fun W h=>h.blk HLC.out HNB.out
 go_upto_if 110 with fail
 go_cut [] from 57 (fun wx=>RMoved wc r G s1 wx)
 case first=>
  by_cases hk0:k=0
  · have hk0': ¬ (k:Int)+1>1:=by omega
    have HE:Hid (RMoved wc r G s1 wr):=by show RMoved _ _ _ _ _;rw [<-HZERO.out hk0];exact HM.out
    clear hk0
    go_wp2
    go_meet
    exact HE.out
  · have hk0':(k:Int)+1>1:=by omega
    have HMO:=Lib.hid (HMORE.out hk0)
    have HS:Hid (Calls Tryz.prog 141 #[.pointer (some ⟨r,0,none⟩)] wr fun e w'=>e= .returned (.int .i64 (if st.off then 5 else 0))/\RMoved wc r G s1 w'):=by
     obtain ⟨F',hd,hs2,hf2⟩:=HM.out
     rw [HMO.out.2]
     exact (refSync_all wr r F' st hd (HFW.out.mono (by omega))).mono fun e w' ⟨he,hmv⟩=>⟨he,.trans hs2 hf2 hmv⟩
    by_cases ho:st.off=true
    · have HE:=Lib.hid (HFIRST.out (by rw [HMO.out.1,if_pos ho];decide))
      rw [if_pos ho] at HS
      clear ho hk0 HMO HMORE HFIRST
      go_wp2_with (go_at_call 141;refine HS.out.mono ?_;rintro e w6 ⟨rfl,hp6⟩;have P6:=Lib.hid hp6;clear hp6)
      go_ret
      rw [HE.out.2.1,HE.out.2.2]
      exact ⟨rfl,P6.out.before HBL.out⟩
    · rw [if_neg ho] at HS
      clear ho hk0 HMO HMORE HFIRST
      go_wp2_with (go_at_call 141;refine HS.out.mono ?_;rintro e w6 ⟨rfl,hp6⟩;have P6:=Lib.hid hp6;clear hp6)
      go_meet
      exact P6.out
 case rest=>
 have P6:=Lib.hid hcut
 obtain ⟨c0,c1,_⟩:=lr_cells (HLC2.out _ hcut)
 clear hcut HMORE HZERO HFIRST HFW HM
 have hhead:∀ W,(Instr.slice 22 (.slice A5 ((k+1)*64) c5) none (some (.int .i64 (64:Int))) none).run Tryz.prog W= .ok (.slice A5 64 c5) W:=cut_head A5 ((k+1)*64) c5 64 (by omega)
 have hTL:(B.take 64).length=64:=by rw [List.length_take,HB1.out];omega
 have HPW:=Lib.hid (Dsk.wput_pw (s:=s1) (i:=f+k1) (l:=B.take 64) (by rw [HKL.out];omega) hTL)
 have HPO:=Lib.hid (fun h=>Dsk.pw_off (s:=s1) h (f+k1) (B.take 64))
 have HFP:=Lib.hid (HFEW1.out.pw (f+k1) (B.take 64))
 have HTL:=Lib.hid hTL
 clear hTL
 have HW:Hid (Calls Tryz.prog 140 #[.pointer (some ⟨r,0,none⟩),.int .i64 ((f:Int)+(k1:Int)),.slice A5 64 c5] wc.drew fun e w'=>e= .returned (.int .i64 (if s1.off then 5 else 0))/\RMoved w r G (s1.pw (f+k1) (B.take 64)) w'):=by
  obtain ⟨F',hd,hs2,hf2⟩:=P6.out
  have hbd:Below wc.heap.size wc wc.drew:=(Below.refl _ _).drew
  have:=refWrite_all wc.drew r F' s1 ((f+k1:Nat):Int) A5 (B.take 64) 64 c5 (hd.still hbd) HTL.out (by decide) (((HAW.out.take 64).moved hs2 hf2).seen.below hbd) (HFEW1.out.mono (by omega))
  rw [HPW.out.1,HPW.out.2,ecast2] at this
  exact this.mono fun e w' ⟨he,hmv⟩=>⟨he,.before (.trans hs2 hf2 (hmv.before hbd)) HBL.out⟩
 generalize s1.pw (f+k1) (B.take 64)=s2 at *
 by_cases ho:s1.off=true
 · have HE:Hid (s.layErr B (f+k1)=5/\s.lay B (f+k1)=s2):=by
    have e:=HPO.out ho
    rw [HLAST.out.1,HLAST.out.2,e,if_pos ho]
    exact ⟨rfl,by unfold Dsk.sput;rw [if_pos ho]⟩
   rw [if_pos ho] at HW
   clear ho HPO HLAST
   go_wp2_with fail
   go_still_tail 12,(by kernel_rfl)
   go_wp2_with (go_at_call 140;refine HW.out.mono ?_;rintro e w7 ⟨rfl,hp7⟩;have P7:=Lib.hid hp7;clear hp7)
   go_ret
   rw [HE.out.1,HE.out.2]
   exact ⟨rfl,P7.out⟩
 · rw [if_neg ho] at HW
   obtain ⟨E2,hE2⟩:∃ E2:Int,E2=if s2.off then 5 else 0:=⟨_,rfl⟩
   have HE2:=Lib.hid hE2
   clear ho HPO hE2
   have HLC3:Hid (∀ W,RMoved w r G s2 W->Blk W b (lrCells r (f:Int) (N:Int) gen seq fin down) 102):=fun W h=>h.blk HLG.out HNB.out
   go_wp2_with fail
   go_still_tail 12,(by kernel_rfl)
   go_wp2_with (go_at_call 140;refine HW.out.mono ?_;rintro e w7 ⟨rfl,hp7⟩;have P7:=Lib.hid hp7;obtain ⟨c0',c1',_⟩:=lr_cells (HLC3.out _ hp7);clear hp7)
   have HS:Hid (Calls Tryz.prog 141 #[.pointer (some ⟨r,0,none⟩)] w7 fun e w'=>e= .returned (.int .i64 E2)/\RMoved w r G s2.sput w'):=by
    obtain ⟨F',hd,hs2,hf2⟩:=P7.out
    rw [HE2.out]
    exact (refSync_all w7 r F' s2 hd (HFP.out.mono (by omega))).mono fun e w' ⟨he,hmv⟩=>⟨he,.trans hs2 hf2 hmv⟩
   go_wp2_with (go_at_call 141;refine HS.out.mono ?_;rintro e w8 ⟨rfl,hp8⟩;have P8:=Lib.hid hp8;clear hp8)
   go_ret
   rw [HLAST.out.1,HLAST.out.2,<-HE2.out]
   exact ⟨rfl,P8.out⟩
def OnDisk (s:Dsk) (f N:Int):Prop:=0<=f/\1<=N/\N<=(s.K.length:Int)-f
def LNew (w:World) (g b:Nat) (F:Nat->Prop) (s:Dsk) (l:Lg) (w':World):Prop:=
 w.heap.size<=b/\∃ F',DiskAt w' g F' s/\Blk w' b (lgCells g l) 145/\ ¬ F' b/\Spared w w' F/\∀ k,F' k->F k\/w.heap.size<=k
def BeginOut (w:World) (g:Nat) (F:Nat->Prop) (s:Dsk) (f N gen:Int) (d:List UInt8) (e:Ending) (w':World):Prop:=
 (¬ (OnDisk s f N/\1<=gen/\gen<=1152921504606846976)/\e= .returned (.tuple #[.pointer none,.int .i64 1])/\Below w.heap.size w w')\/
 ((OnDisk s f N/\1<=gen/\gen<=1152921504606846976)/\(Lg.new f.toNat N.toNat gen).err s d≠0/\e= .returned (.tuple #[.pointer none,.int .i64 ((Lg.new f.toNat N.toNat gen).err s d)])/\Moved w g F ((Lg.new f.toNat N.toNat gen).dsk s d) w')\/
 ((OnDisk s f N/\1<=gen/\gen<=1152921504606846976)/\(Lg.new f.toNat N.toNat gen).err s d=0/\∃ b,e= .returned (.tuple #[.pointer (some ⟨b,0,none⟩),.int .i64 0])/\LNew w g b F ((Lg.new f.toNat N.toNat gen).dsk s d) ((Lg.new f.toNat N.toNat gen).next s d) w')
theorem new_fits {s:Dsk} {f N gen:Int} (h:OnDisk s f N/\1<=gen/\gen<=1152921504606846976):(Lg.new f.toNat N.toNat gen).Fits s:=by
 obtain ⟨⟨h1,h2,h3⟩,h4,h5⟩:=h
 exact ⟨by show 1<=N.toNat;omega,by show f.toNat+N.toNat<=_;omega,Nat.zero_le _,Nat.le_refl _,h4,h5⟩
set_option maxRecDepth 100000 in
set_option maxHeartbeats 2000000 in
theorem begin_any (w:World) (g:Nat) (F:Nat->Prop) (s:Dsk) (f N gen:Int) (A:Option Addr) (d:List UInt8) (n c q:Nat) (h:DiskAt w g F s) (ha:Seen w A d) (hn:d.length=n) (hl:n<=9223372036854775807) (hf:s.Few q) (hq:q<=700000) (f0: -9223372036854775808<=f) (f1:f<=9223372036854775807):
 Calls Tryz.prog 75 #[.pointer (some ⟨g,0,none⟩),.int .i64 f,.int .i64 N,.int .i64 gen,.slice A n c] w (BeginOut w g F s f N gen d):=by
 have hK4:=h.ok.hi
 have HB:=Lib.hid (boxA_below w g f N)
 have H1:=Lib.hid (h.still HB.out)
 have HV:=Lib.hid (area_valid (boxA w g f N) g F s f N H1.out f0 f1)
 obtain ⟨c0,c1,c2⟩:=area_cells (boxA_blk w g f N)
 have HX1:=Lib.hid (boxA_blk w g f N)
 obtain ⟨v,hv⟩:∃ v,v=decide (0<=f/\1<=N/\N<=(s.K.length:Int)-f):=⟨_,rfl⟩
 rw [<-hv] at HV
 have HVD:=Lib.hid hv
 clear hv
 obtain ⟨w1,hw1⟩:∃ w1,w1=boxA w g f N:=⟨_,rfl⟩
 have HW':Hid (w.alloc (.cells #[.pointer (some ⟨g,0,none⟩),.int .i64 f,.int .i64 N] 143)=w1):=hw1.symm
 rw [<-hw1] at HB H1 HV HX1
 clear c0 c1 c2 hw1 h
 by_cases hgood:OnDisk s f N/\1<=gen/\gen<=1152921504606846976
 · have hv':v=true:=by rw [HVD.out];exact decide_eq_true hgood.1
   subst hv'
   have hg1: ¬ gen<1:=by omega
   have hg2: ¬ 1152921504606846976<gen:=by omega
   have HG:=Lib.hid hgood
   have hff:f=((f.toNat:Nat):Int):=by have:=hgood.1.1;omega
   have hNN:N=((N.toNat:Nat):Int):=by have:=hgood.1.2.1;omega
   have HFIT:=Lib.hid (new_fits hgood)
   have HFF:=Lib.hid hff
   have HNN:=Lib.hid hNN
   clear hgood hff hNN HVD
   go_enter Tryz.func75,Tryz.ntmps75
   go_wp2_with fail
   rw [HW'.out]
   refine HV.out.mono ?_
   rintro e w2 ⟨rfl,hb2⟩
   have HB2:=Lib.hid (hop HB.out hb2)
   have H2:=Lib.hid (H1.out.still hb2)
   obtain ⟨c0,c1,c2⟩:=area_cells (HX1.out.below hb2 HX1.out.lt)
   have HLB:=Lib.hid ((Below.refl w2.heap.size w2).alloc (Nat.le_refl _) (.cells #[.pointer (some ⟨g,0,none⟩),.int .i64 f,.int .i64 N,.int .i64 gen,.int .i64 0,.int .i64 0,.bool false] 145))
   have HL:Hid (LogOn (w2.alloc (.cells #[.pointer (some ⟨g,0,none⟩),.int .i64 f,.int .i64 N,.int .i64 gen,.int .i64 0,.int .i64 0,.bool false] 145)) g w2.heap.size F s (Lg.new f.toNat N.toNat gen)):=by
    refine ⟨H2.out.still HLB.out,?_,fun hF=>by have:=H2.out.lt _ hF;omega,HFIT.out⟩
    have:=Blk.new w2 (lgCells g (Lg.new f.toNat N.toNat gen)) 145
    have e:lgCells g (Lg.new f.toNat N.toNat gen)=[.pointer (some ⟨g,0,none⟩),.int .i64 f,.int .i64 N,.int .i64 gen,.int .i64 0,.int .i64 0,.bool false]:=by
     simp only [lgCells,Lg.new]
     rw [<-HFF.out,<-HNN.out]
     rfl
    rw [e] at this ⊢
    exact this
   have HAP:=Lib.hid (append_any _ g w2.heap.size F s (Lg.new f.toNat N.toNat gen) A d n c q HL.out (ha.below (hop HB2.out HLB.out)) hn hl hf hq)
   obtain ⟨w3,hw3⟩:∃ w3,w3=w2.alloc (.cells #[.pointer (some ⟨g,0,none⟩),.int .i64 f,.int .i64 N,.int .i64 gen,.int .i64 0,.int .i64 0,.bool false] 145):=⟨_,rfl⟩
   have HSZ:Hid (w3.heap.size=w2.heap.size+1):=by show _=_;rw [hw3];simp
   rw [<-hw3] at HAP HLB HL
   have HW3:Hid (w2.alloc (.cells #[.pointer (some ⟨g,0,none⟩),.int .i64 f,.int .i64 N,.int .i64 gen,.int .i64 0,.int .i64 0,.bool false] 145)=w3):=hw3.symm
   clear hb2 hw3
   go_wp2_with fail
   rw [HW3.out]
   obtain ⟨E,hE⟩:∃ E,E=(Lg.new f.toNat N.toNat gen).err s d:=⟨_,rfl⟩
   rw [<-hE] at HAP
   have HE:=Lib.hid hE
   clear hE c0 c1 c2 ha hn hf hg1 hg2
   refine HAP.out.mono ?_
   rintro e w4 ⟨rfl,F4,h41,h42,h43,h44,h45⟩
   have HNF2: ¬ F w2.heap.size:=fun hF=>by have:=H2.out.lt _ hF;omega
   have HS4:Hid (Spared w w4 F):=by
    have h1:Spared w w3 F:= .of_below (hop HB2.out HLB.out) F
    exact h1.trans h44 (fun k hk=>hk.elim .inl (fun e=> .inr (by rw [e];exact HB2.out.size)))
   have HF4:Hid (∀ k,F4 k->F k\/w.heap.size<=k):=fun k hk=>(h45 k hk).elim .inl (fun h=> .inr (by have:=HB2.out.size;rw [HSZ.out] at h;omega))
   have H41:=Lib.hid h41
   have H42:=Lib.hid h42
   have H43:=Lib.hid h43
   clear h41 h42 h43 h44 h45 HNF2 HAP
   by_cases he:E=0
   · have HE0:Hid ((Lg.new f.toNat N.toNat gen).err s d=0):=by show _=_;rw [<-HE.out];exact he
     subst he
     go_wp2
     go_ret2
     exact .inr (.inr ⟨HG.out,HE0.out,_,rfl,HB2.out.size,F4,H41.out,H42.out,H43.out,HS4.out,HF4.out⟩)
   · have hne:(E==0)=false:=by rw [beq_eq_false_iff_ne];exact he
     have HE0:Hid ((Lg.new f.toNat N.toNat gen).err s d≠0):=by show _≠_;rw [<-HE.out];exact he
     go_wp2
     go_ret2
     exact .inr (.inl ⟨HG.out,HE0.out,by rw [<-HE.out];rfl,F4,H41.out,HS4.out,HF4.out⟩)
 · have HG:=Lib.hid hgood
   by_cases hv':v=true
   · subst hv'
     have hod:0<=f/\1<=N/\N<=(s.K.length:Int)-f:=of_decide_eq_true HVD.out.symm
     by_cases hg1:gen<1
     · have d1:decide (gen<1)=true:=decide_eq_true hg1
       clear hgood hod
       go_enter Tryz.func75,Tryz.ntmps75
       go_wp2_with fail
       rw [HW'.out]
       refine HV.out.mono ?_
       rintro e w2 ⟨rfl,hb2⟩
       have HB2:=Lib.hid (hop HB.out hb2)
       clear hb2
       go_wp2
       go_ret2
       exact .inl ⟨HG.out,rfl,HB2.out⟩
     · have hg2:1152921504606846976<gen:=by
        rcases Int.lt_or_le 1152921504606846976 gen with h | h
        · exact h
        · exact absurd ⟨hod,by omega,h⟩ hgood
       have d1:decide (gen<1)=false:=decide_eq_false hg1
       have d2:decide (1152921504606846976<gen)=true:=decide_eq_true hg2
       clear hgood hod
       go_enter Tryz.func75,Tryz.ntmps75
       go_wp2_with fail
       rw [HW'.out]
       refine HV.out.mono ?_
       rintro e w2 ⟨rfl,hb2⟩
       have HB2:=Lib.hid (hop HB.out hb2)
       clear hb2
       go_wp2
       go_ret2
       exact .inl ⟨HG.out,rfl,HB2.out⟩
   · have hv':v=false:=by simpa using hv'
     subst hv'
     clear hgood
     go_enter Tryz.func75,Tryz.ntmps75
     go_wp2_with fail
     rw [HW'.out]
     refine HV.out.mono ?_
     rintro e w2 ⟨rfl,hb2⟩
     have HB2:=Lib.hid (hop HB.out hb2)
     clear hb2
     go_wp2
     go_ret2
     exact .inl ⟨HG.out,rfl,HB2.out⟩
end Go.Proofs.YtdaahapbpnjkfaaGreat
