/-
An area's write: the bytes of a frame are laid at a place, the block of the place last. Conditions: the frame fits into the area; as it says.
-/
import Derived.Test.YtdaahapbpnjkfaaGreatCLgPut
import Derived.ArgAppend
import Derived.Test.YtdaahapbpnjkfaaGreatCFEnc
import Derived.Test.YtdaahapbpnjkfaaGreatCGet
import Derived.Test.YtdaahapbpnjkfaaGreatCKvRows
import Derived.Test.YtdaahapbpnjkfaaGreatCOnly
import Derived.Deep.RegionHeldLaw
import Derived.Deep.RegionLawGrows
namespace Go.Proofs.YtdaahapbpnjkfaaGreat
open Go.RowKit
set_option maxRecDepth 100000 in
set_option maxHeartbeats 1000000 in
theorem area_valid (w:World) (g:Nat) (F:Nat->Prop) (s:Dsk) (f N:Int) (h:DiskAt w g F s) (f0: -9223372036854775808<=f) (f1:f<=9223372036854775807):
 Calls Tryz.prog 102 #[.agg #[.pointer (some ⟨g,0,none⟩),.int .i64 f,.int .i64 N]] w fun e w'=>e= .returned (.bool (decide (0<=f/\1<=N/\N<=(s.K.length:Int)-f)))/\Below w.heap.size w w':=by
 have hK4:=h.ok.hi
 have HB:=Lib.hid (boxA_below w g f N)
 have H1:=Lib.hid (h.still HB.out)
 obtain ⟨c0,c1,c2⟩:=area_cells (boxA_blk w g f N)
 obtain ⟨w1,hw1⟩:∃ w1,w1=boxA w g f N:=⟨_,rfl⟩
 have HW:=Lib.hid hw1
 rw [<-hw1] at HB H1 c0 c1 c2
 clear h hw1
 by_cases h0:0<=f
 · by_cases h1:1<=N
   · have d0:decide ((0:Int)<=f)=true:=decide_eq_true h0
     have d1:decide ((1:Int)<=N)=true:=decide_eq_true h1
     have e:decide (0<=f/\1<=N/\N<=(s.K.length:Int)-f)=decide (N<=(s.K.length:Int)-f):=by simp only [h0,h1,true_and]
     rw [e]
     have hw64:IntKind.i64.wrap ((s.K.length:Int)-f)=(s.K.length:Int)-f:=by rw [IntKind.wrap_i64];omega
     clear e
     go_enter Tryz.func102,Tryz.ntmps102
     go_wp2
     rw [show w.alloc (.cells #[.pointer (some ⟨g,0,none⟩),.int .i64 f,.int .i64 N] 143)=w1 from HW.out.symm]
     go_quiet (first | (go_at_call 63;refine Calls.quiet_of_same (blocks_any (H1.out.still (below_drewN (Below.refl _ _) _)))))
     go_wp2
     go_ret
     exact ⟨rfl,below_drewN HB.out _⟩
   · have d0:decide ((0:Int)<=f)=true:=decide_eq_true h0
     have d1:decide ((1:Int)<=N)=false:=decide_eq_false h1
     have e:decide (0<=f/\1<=N/\N<=(s.K.length:Int)-f)=false:=decide_eq_false (fun h=>h1 h.2.1)
     rw [e]
     go_enter Tryz.func102,Tryz.ntmps102
     go_wp2
     rw [show w.alloc (.cells #[.pointer (some ⟨g,0,none⟩),.int .i64 f,.int .i64 N] 143)=w1 from HW.out.symm]
     go_quiet (fail)
     go_wp2
     go_ret
     exact ⟨rfl,below_drewN HB.out _⟩
 · have d0:decide ((0:Int)<=f)=false:=decide_eq_false h0
   have e:decide (0<=f/\1<=N/\N<=(s.K.length:Int)-f)=false:=decide_eq_false (fun h=>h0 h.1)
   rw [e]
   go_enter Tryz.func102,Tryz.ntmps102
   go_wp2
   rw [show w.alloc (.cells #[.pointer (some ⟨g,0,none⟩),.int .i64 f,.int .i64 N] 143)=w1 from HW.out.symm]
   go_quiet (fail)
   go_wp2
   go_ret
   exact ⟨rfl,below_drewN HB.out _⟩
theorem cut_cap (A:Option Addr) (n c m:Nat) (hm:m<=c) (W:World):(Instr.slice 22 (.slice A n c) none (some (.int .i64 (m:Int))) (some (.int .i64 (m:Int)))).run Tryz.prog W= .ok (.slice A m m) W:=by
 have e2:Tryz.prog.elem 22=5:=by kernel_rfl
 obtain ⟨i,hi,hz⟩:=Option.map_eq_some_iff.1 info8p
 simp only [Prod.mk.injEq] at hz
 rw [run_slice_hm W 22 A n c (by kernel_rfl) .i64 .i64 (m:Int) (m:Int) (by omega) (by omega) (by omega),e2]
 simp [sizeOf,typeInfo,hi,hz.2.1,sliced]
 intro _
 cases A with
 | none=>rfl
 | some a=>
  show some (a.add 0)=some a
  rw [Addr.add_zero']
def BeforeOut (w:World) (s:Dsk) (f pos n:Nat) (e:Ending) (w':World):Prop:=
 Below w.heap.size w w'/\((s.off=true/\n≠0/\e= .returned (.tuple #[.slice none 0 0,.int .i64 5]))\/
  (¬ (s.off=true/\n≠0)/\∃ A,e= .returned (.tuple #[.slice A n n,.int .i64 0])/\(A=none->n=0)/\Seen w' A (aheadL s.view f pos)/\(aheadL s.view f pos).length=n))
set_option maxRecDepth 100000 in
set_option maxHeartbeats 1000000 in
theorem area_before (w:World) (g:Nat) (F:Nat->Prop) (s:Dsk) (f N pos n k:Nat) (h:DiskAt w g F s) (hn:pos%64=n) (hk:pos/64=k) (hi:f+k<s.K.length):
 Calls Tryz.prog 119 #[.agg #[.pointer (some ⟨g,0,none⟩),.int .i64 (f:Int),.int .i64 (N:Int)],.int .i64 (pos:Int)] w (BeforeOut w s f pos n):=by
 have hK4:=h.ok.hi
 have HB:=Lib.hid (boxA_below w g f N)
 have H:=Lib.hid (h.still HB.out)
 have OK:=Lib.hid h.ok
 have HAL:Hid ((aheadL s.view f pos).length=n):=by
  show _=_
  rw [aheadL_length (view_len h.ok) (by rw [view_length,hk];exact hi),hn]
 obtain ⟨c0,c1,c2⟩:=area_cells (boxA_blk w g f N)
 obtain ⟨w1,hw1⟩:∃ w1,w1=boxA w g f N:=⟨_,rfl⟩
 have HW:=Lib.hid hw1
 have hmod:(pos:Int)%64=(n:Int):=by omega
 have hdiv:(pos:Int)/64=(k:Int):=by omega
 have hn64:n<64:=by omega
 have hp:(pos:Int)<=262144:=by omega
 have HM:=Lib.hid hn
 have HD:=Lib.hid hk
 rw [<-hw1] at HB H c0 c1 c2
 rw [hw1] at c0 c1
 clear h hw1 hn hk c2
 have c0':(w.alloc (.cells #[.pointer (some ⟨g,0,none⟩),.int .i64 (f:Int),.int .i64 (N:Int)] 143)).cell? ⟨w.heap.size,0,none⟩=some (.pointer (some ⟨g,0,none⟩)):=c0
 have c1':(w.alloc (.cells #[.pointer (some ⟨g,0,none⟩),.int .i64 (f:Int),.int .i64 (N:Int)] 143)).cell? ⟨w.heap.size,1,none⟩=some (.int .i64 (f:Int)):=c1
 have HW':Hid (w.alloc (.cells #[.pointer (some ⟨g,0,none⟩),.int .i64 (f:Int),.int .i64 (N:Int)] 143)=w1):=HW.out.symm
 clear c0 c1 HW
 by_cases h0:n=0
 · subst h0
   have HL0:Hid (aheadL s.view f pos=[]):=List.eq_nil_of_length_eq_zero HAL.out
   have hmod0:(pos:Int)%64=0:=hmod
   clear hmod
   go_enter Tryz.func119,Tryz.ntmps119
   go_wp2
   go_ret2
   rw [HW'.out]
   exact ⟨HB.out,.inr ⟨fun h=>h.2 rfl,none,rfl,fun _=>rfl,.inl HL0.out,HAL.out⟩⟩
 have hn0: ¬ (n:Int)=0:=by omega
 have hn0':((n:Int)==0)=false:=by rw [beq_eq_false_iff_ne];exact hn0
 have HN0:=Lib.hid h0
 clear h0
 have HRD:=Lib.hid (read_any w1 g F s ((f+k:Nat):Int) H.out)
 rw [show ((f+k:Nat):Int)=(f:Int)+(k:Int) by omega] at HRD
 by_cases ho:s.off=true
 · have HO:=Lib.hid ho
   clear ho
   go_enter Tryz.func119,Tryz.ntmps119
   go_wp2_with fail
   rw [HW'.out]
   refine HRD.out.mono ?_
   rintro e w2 ⟨hb2,⟨hx,_⟩ | ⟨_,_,rfl⟩ | ⟨_,hx,_⟩⟩
   · exact absurd ⟨by omega,by omega⟩ hx
   · have B2:=Lib.hid (hop HB.out hb2)
     clear hb2 HRD
     go_wp2
     go_ret2
     exact ⟨B2.out,.inl ⟨HO.out,HN0.out,rfl⟩⟩
   · rw [HO.out] at hx;cases hx
 · have HO:=Lib.hid ho
   clear ho
   have hcut:=fun A=>cut_cap A 64 64 n (by omega)
   go_enter Tryz.func119,Tryz.ntmps119
   go_wp2_with fail
   rw [HW'.out]
   refine HRD.out.mono ?_
   rintro e w2 ⟨hb2,⟨hx,_⟩ | ⟨_,hx,_⟩ | ⟨_,_,x,gb,hx,_,hk2,rfl⟩⟩
   · exact absurd ⟨by omega,by omega⟩ hx
   · exact absurd hx HO.out
   · have B2:=Lib.hid (hop HB.out hb2)
     have e1:((f:Int)+(k:Int)).toNat=f+k:=by omega
     rw [e1] at hx
     have hv:=last_view OK.out hx
     have HA:Hid (aheadL s.view f pos=x.take n):=by
      show aheadL s.view f pos=x.take n
      unfold aheadL
      rw [HD.out,HM.out,List.getD_eq_getElem?_getD,hv];rfl
     have HS:Hid (Seen w2 (some ⟨gb,0,none⟩) (x.take n)):=by
      have:w2.rangeAt gb 0 (x.map bv):=fun j v hv=>by
       obtain ⟨hj,hju⟩:=List.getElem?_eq_some_iff.1 hv
       rw [Nat.zero_add,hk2.cell hj,hju]
      exact (range_seen this).take n
     clear hb2 HRD hx hv hk2 e1
     go_wp2
     go_ret2
     exact ⟨B2.out,.inr ⟨fun h=>HO.out h.1,_,rfl,(fun h=>by cases h),by rw [HA.out];exact HS.out,HAL.out⟩⟩
set_option maxRecDepth 100000 in
set_option maxHeartbeats 1000000 in
theorem area_filled (w W0:World) (g:Nat) (f:Nat) (N first:Nat) (a:List UInt8) (A:Option Addr) (n c:Nat) (hm:MadeN 5 W0 a A n c w) (h1:first<N) (hN:N<=4096) (hfit:n<=(N-first)*64):
 Calls Tryz.prog 120 #[.agg #[.pointer (some ⟨g,0,none⟩),.int .i64 (f:Int),.int .i64 (N:Int)],.int .i64 (first:Int),.slice A n c] w fun e w'=>∃ A' n' c',e= .returned (.slice A' n' c')/\MadeN 5 W0 (filledL a (N-first)) A' n' c' w':=by
 obtain ⟨i0,hi,hz0,hz1,hz2⟩:=info_parts info8p
 have HB:=Lib.hid (boxA_below w g f N)
 have HM1:=Lib.hid (hm.2.below HB.out)
 have HL:=Lib.hid hm.1
 obtain ⟨k,hk⟩:∃ k,k=min (n/64+1) (N-first):=⟨_,rfl⟩
 obtain ⟨z,hz⟩:∃ z,z=k*64-n:=⟨_,rfl⟩
 have HF:Hid (filledL a (N-first)=a++List.replicate z 0):=by
  show filledL a (N-first)=_
  unfold filledL
  rw [hm.1,hz,hk]
 have hk4:k<=4096:=by omega
 have hn4:n<=262144:=by omega
 have hz4:z<=262144:=by omega
 have HB4:Hid (a.length+z<=140737488355328):=by show _<=_;rw [hm.1];omega
 by_cases hlt:(N:Int)-(first:Int)<(n:Int)/64+1
 · have hzz:((N:Int)-(first:Int))*64-(n:Int)=(z:Int):=by omega
   clear hm hk hz hfit h1
   go_enter Tryz.func120,Tryz.ntmps120
   go_wp2_with (at_builtin;refine wpList_append_zeros _ rfl (.tmp 17) (.tmp 22) 22 3 rfl 5 i0 Tryz.underlying22 Tryz.underlying3 hi hz0 hz1 hz2 W0 (.slice A n c) a z rfl (by simp [Act.eval]) HM1.out HB4.out ?_);intro v' w' hm'
   have HM':=Lib.hid hm'
   clear hm'
   go_wp2
   go_ret
   obtain ⟨A',n',c',rfl,hm'⟩:=HM'.out.named
   exact ⟨A',n',c',rfl,by rw [HF.out];exact hm'⟩
 · have hzz:((n:Int)/64+1)*64-(n:Int)=(z:Int):=by omega
   clear hm hk hz hfit h1
   go_enter Tryz.func120,Tryz.ntmps120
   go_wp2_with (at_builtin;refine wpList_append_zeros _ rfl (.tmp 17) (.tmp 22) 22 3 rfl 5 i0 Tryz.underlying22 Tryz.underlying3 hi hz0 hz1 hz2 W0 (.slice A n c) a z rfl (by simp [Act.eval]) HM1.out HB4.out ?_);intro v' w' hm'
   have HM':=Lib.hid hm'
   clear hm'
   go_wp2
   go_ret
   obtain ⟨A',n',c',rfl,hm'⟩:=HM'.out.named
   exact ⟨A',n',c',rfl,by rw [HF.out];exact hm'⟩
def RdAt (w:World) (p:Nat) (F:Nat->Prop) (l:List UInt8):Prop:=F p/\∃ A c,Blk w p [.slice A l.length c] 168/\Away w F A l/\l.length<=c
abbrev wrong:Ending:= .panicked [{ v:= .iface 27 (.int .i64 3),recovered:=false }]
theorem take_no (w:World) (p:Nat) (F:Nat->Prop) (l:List UInt8) (n:Nat) (N:Int) (hN:(n:Int)=N) (h:RdAt w p F l) (hlt:l.length<n):
 Calls Tryz.prog 159 #[.pointer (some ⟨p,0,none⟩),.int .i64 N] w fun e w'=>e=wrong/\w=w':=by
 subst hN
 obtain ⟨_,A,c,hb,_,_⟩:=h
 have hc:=hb.cell (i:=0) (by simp)
 have hf:=hb.free 0
 simp only [List.getElem_cons_zero] at hc
 clear hb
 go_enter Tryz.func159,Tryz.ntmps159
 go_wp2
 exact ⟨rfl,rfl,rfl⟩
def Taken (w:World) (p:Nat) (F:Nat->Prop) (l:List UInt8) (n:Nat) (e:Ending) (w':World):Prop:=
 ∃ A c,e= .returned (.slice A n c)/\Away w' F A (l.take n)/\n<=c/\RdAt w' p F (l.drop n)/\w.grownBy w' (some p)
theorem take_ok (w:World) (p:Nat) (F:Nat->Prop) (l:List UInt8) (n:Nat) (N:Int) (hN:(n:Int)=N) (h:RdAt w p F l) (hlt:n<=l.length):
 Calls Tryz.prog 159 #[.pointer (some ⟨p,0,none⟩),.int .i64 N] w (Taken w p F l n):=by
 subst hN
 obtain ⟨hF,A,c,hb,ha,hcap⟩:=h
 have hc:=hb.cell (i:=0) (by simp)
 have hf:=hb.free 0
 simp only [List.getElem_cons_zero] at hc
 have HT:=cut_tail A l.length c n hlt
 have HH:=cut_head A l.length c n (by omega)
 have B1:=Lib.hid hb
 have A1:=Lib.hid ha
 clear hb ha
 obtain ⟨A2,hA2⟩:∃ A2,A2=(if c=n then A else A.map (·.add (n*1))):=⟨_,rfl⟩
 rw [<-hA2] at HT
 have E2:=Lib.hid hA2
 clear hA2
 go_enter Tryz.func159,Tryz.ntmps159
 go_wp2
 go_ret
 have hs:Spared w (w.setCell ⟨p,0,none⟩ (.slice A2 (l.length-n) (c-n))) F:=(Spared.refl w F).setCell (g:=p) hF 0 _
 refine ⟨A,c,rfl,(A1.out.take n).moved hs (fun _ h=> .inl h),by omega,⟨hF,A2,c-n,?_,?_,by rw [List.length_drop];omega⟩,only_setCell (World.grownBy.refl w _) 0 _⟩
 · have:=B1.out.set 0 (.slice A2 (l.length-n) (c-n))
   rw [List.length_drop]
   exact this
 · have h2:=A1.out.drop n c hcap
   rw [<-E2.out] at h2
   exact h2.moved hs (fun _ h=> .inl h)
theorem RdAt.open {w:World} {p:Nat} {F:Nat->Prop} {l:List UInt8} (h:RdAt w p F l):∃ A c,w.cell? ⟨p,0,none⟩=some (.slice A l.length c)/\Seen w A l/\l.length<=c:=by
 obtain ⟨hF,A,c,hb,ha,hcap⟩:=h
 have hc:=hb.cell (i:=0) (by simp)
 simp only [List.getElem_cons_zero] at hc
 exact ⟨A,c,hc,ha.seen,hcap⟩
theorem number_no (w:World) (p:Nat) (F:Nat->Prop) (l:List UInt8) (h:RdAt w p F l) (hl:l.length<=9223372036854775807) (hk:(getL l 0 0).2=0):
 Calls Tryz.prog 136 #[.pointer (some ⟨p,0,none⟩)] w fun e w'=>e=wrong/\w=w':=by
 obtain ⟨A,c,hc,hs,_⟩:=h.open
 have HS:=Lib.hid hs
 have HK:=Lib.hid hk
 clear h hs hk
 go_enter Tryz.func136,Tryz.ntmps136
 go_wp2_with fail
 refine (get_any A l c _ hl HS.out).mono ?_
 rintro e w1 ⟨rfl,rfl⟩
 rw [HK.out]
 go_wp2_with fail
 exact ⟨rfl,rfl,rfl⟩
theorem number_ok (w:World) (p:Nat) (F:Nat->Prop) (l:List UInt8) (h:RdAt w p F l) (hl:l.length<=9223372036854775807) (hk:(getL l 0 0).2≠0):
 Calls Tryz.prog 136 #[.pointer (some ⟨p,0,none⟩)] w fun e w'=>e= .returned (.int .i64 ((getL l 0 0).1:Nat))/\RdAt w' p F (l.drop (getL l 0 0).2)/\w.grownBy w' (some p):=by
 obtain ⟨A,c,hc,hs,_⟩:=h.open
 have HS:=Lib.hid hs
 have HR:=Lib.hid h
 have hf:=(get_fits (l:=l)).1
 have HG:=Lib.hid (get_any A l c w hl hs)
 generalize (getL l 0 0).2=k at *
 generalize (getL l 0 0).1=n at *
 have ht:((k:Int)==0)=false:=by rw [beq_eq_false_iff_ne];omega
 clear h hs hk
 go_enter Tryz.func136,Tryz.ntmps136
 go_wp2_with fail
 refine HG.out.mono ?_
 rintro e w1 ⟨rfl,rfl⟩
 go_wp2_with fail
 refine (take_ok w p F l k _ rfl HR.out hf).mono ?_
 rintro e w2 ⟨A2,c2,rfl,_,_,hr2,hg2⟩
 have HR2:=Lib.hid hr2
 have HG2:=Lib.hid hg2
 clear hr2 hg2
 go_wp2_with fail
 go_ret
 exact ⟨rfl,HR2.out,HG2.out⟩
theorem narrow_made (A:Option Addr) (l:List UInt8) (c:Nat) (w:World) (hl:l.length=8) (hs:Seen w A l):
 Calls Tryz.prog 167 #[.slice A 8 c] w fun e w'=>e= .returned (.tuple #[.int .i64 (narI l),.int .i64 0])/\w=w':=by
 have:=narrow_any A l c w hl hs
 rw [hl] at this
 exact this
theorem wide_no (w:World) (p:Nat) (F:Nat->Prop) (l:List UInt8) (h:RdAt w p F l) (hl:l.length<8):
 Calls Tryz.prog 160 #[.pointer (some ⟨p,0,none⟩)] w fun e w'=>e=wrong/\w=w':=by
 have HR:=Lib.hid h
 clear h
 go_enter Tryz.func160,Tryz.ntmps160
 go_wp2_with fail
 refine (take_no w p F l 8 8 rfl HR.out hl).mono ?_
 rintro e w1 ⟨rfl,rfl⟩
 go_wp2_with fail
 exact ⟨rfl,rfl,rfl⟩
theorem wide_ok (w:World) (p:Nat) (F:Nat->Prop) (l:List UInt8) (h:RdAt w p F l) (hl:8<=l.length):
 Calls Tryz.prog 160 #[.pointer (some ⟨p,0,none⟩)] w fun e w'=>e= .returned (.int .i64 (narI (l.take 8)))/\RdAt w' p F (l.drop 8)/\w.grownBy w' (some p):=by
 have HR:=Lib.hid h
 have HL:Hid ((l.take 8).length=8):=by show _=_;rw [List.length_take];omega
 clear h
 go_enter Tryz.func160,Tryz.ntmps160
 go_wp2_with fail
 refine (take_ok w p F l 8 8 rfl HR.out hl).mono ?_
 rintro e w2 ⟨A2,c2,rfl,ha2,_,hr2,hg2⟩
 have HA2:=Lib.hid ha2.seen
 have HR2:=Lib.hid hr2
 have HG2:=Lib.hid hg2
 clear hr2 hg2 ha2
 go_wp2_with fail
 refine (narrow_made A2 _ c2 _ HL.out HA2.out).mono ?_
 rintro e w3 ⟨rfl,rfl⟩
 go_wp2_with fail
 go_ret
 exact ⟨rfl,HR2.out,HG2.out⟩
def Parted (w:World) (p:Nat) (F:Nat->Prop) (t u:List UInt8) (e:Ending) (w':World):Prop:=
 ∃ A n c,e= .returned (.slice A n c)/\t.length=n/\n<=c/\Away w' (fun b=>b<w.heap.size) A t/\RdAt w' p F u/\w.grownBy w' (some p)
theorem RdAt.below {w w':World} {p:Nat} {F:Nat->Prop} {l:List UInt8} (h:RdAt w p F l) (hb:Below w.heap.size w w'):RdAt w' p F l:=by
 obtain ⟨h0,A,c,h1,h2,h3⟩:=h
 exact ⟨h0,A,c,h1.below hb h1.lt,h2.moved (Spared.of_below hb F) (fun _ h=> .inl h),h3⟩
theorem RdAt.mono {w:World} {p:Nat} {F G:Nat->Prop} {l:List UInt8} (h:RdAt w p F l) (hp:G p) (hG:∀ b,G b->F b\/w.heap.size<=b):RdAt w p G l:=by
 obtain ⟨_,A,c,h1,h2,h3⟩:=h
 exact ⟨hp,A,c,h1,h2.moved (Spared.refl w F) hG,h3⟩
theorem RdAt.lt {w:World} {p:Nat} {F:Nat->Prop} {l:List UInt8} (h:RdAt w p F l):p<w.heap.size:=by
 obtain ⟨_,A,c,h,_⟩:=h
 exact h.lt
theorem Blk.only {w w':World} {g p:Nat} {L:List Value} {t:TypeId} (h:Blk w g L t) (hg:w.grownBy w' (some p)) (hne:g≠p):Blk w' g L t:=
 (hg.block g h.lt (fun e=>hne (by injection e))).trans h
theorem World.size_alloc (w:World) (o:Obj):(w.alloc o).heap.size=w.heap.size+1:=by simp
theorem Made.past {e:TypeId} {w0 w:World} {l:List UInt8} {A:Option Addr} {n c:Nat} (h:Made e w0 l (.slice A n c) w):Away w (fun b=>b<w0.heap.size) A l:=by
 rcases h.1.2 with ⟨_,h0⟩ | ⟨g,cap,cur,hv,hB,_⟩
 · exact .inl (List.eq_nil_of_length_eq_zero h0)
 · injection hv with hA _ _
   subst hA
   exact Away.of_seen h.at_len.2 (fun b off e hlt hF=>by injection e with e;injection e with e1 _ _;omega)
set_option maxRecDepth 100000 in
set_option maxHeartbeats 2000000 in
theorem area_write (w:World) (g:Nat) (F:Nat->Prop) (s:Dsk) (f N pos:Nat) (A:Option Addr) (code:List UInt8) (n c q:Nat) (h:DiskAt w g F s) (ha:Away w F A code) (hl:code.length=n) (h0:0<n) (hN:f+N<=s.K.length) (hfit:pos+n<=N*64) (hf:s.Few q) (hq:q+n/64<=800000):
 Calls Tryz.prog 86 #[.agg #[.pointer (some ⟨g,0,none⟩),.int .i64 (f:Int),.int .i64 (N:Int)],.int .i64 (pos:Int),.slice A n c] w fun e w'=>e= .returned (.int .i64 (s.layErr (laidL s.view f N pos code) (f+pos/64)))/\Moved w g F (s.lay (laidL s.view f N pos code) (f+pos/64)) w':=by
 have hK4:=h.ok.hi
 obtain ⟨m,hB1,hB2,hB3⟩:=laidL_rows (V:=s.view) (f:=f) (blocks:=N) (pos:=pos) (code:=code) (view_len h.ok) (by rw [view_length];exact hN) (by omega) (by omega)
 have HB1:=Lib.hid hB1
 have HLB:Hid (laidL s.view f N pos code=filledL (aheadL s.view f pos++code) (N-pos/64)):=rfl
 generalize laidL s.view f N pos code=B at HB1 HLB ⊢
 have HOFF:=Lib.hid (fun h=>Dsk.lay_off (s:=s) (b:=B) (i:=f+pos/64) (n:=m) h HB1.out)
 obtain ⟨k,hk⟩:∃ k,k=pos/64:=⟨_,rfl⟩
 obtain ⟨n1,hn1⟩:∃ n1,n1=pos%64:=⟨_,rfl⟩
 have HBB:=Lib.hid (boxA_below w g f N)
 have HBX:=Lib.hid (boxA_blk w g f N)
 have HNF:Hid (¬ F w.heap.size):=fun hF=>by have:=h.lt _ hF;omega
 have H1:=Lib.hid (h.still HBB.out)
 have HA1:Hid (Away (boxA w g f N) F A code):=ha.moved (.of_below HBB.out F) (fun _ h=> .inl h)
 have HBEF:=Lib.hid (area_before (boxA w g f N) g F s f N pos n1 k H1.out hn1.symm hk.symm (by omega))
 have hdiv:(pos:Int)/64=(k:Int):=by omega
 have HL:=Lib.hid hl
 have HF:=Lib.hid hf
 have OK:=Lib.hid h.ok
 have hfit':n1+n<=(N-k)*64:=by omega
 have hkN:k<N:=by omega
 have hp:(pos:Int)<=262144:=by omega
 rw [<-hk] at HLB HOFF ⊢
 have HFR:Hid (F=F):=rfl
 clear h ha hl hf hB1 hk hn1
 obtain ⟨w1,hw1⟩:∃ w1,w1=boxA w g f N:=⟨_,rfl⟩
 rw [<-hw1] at HBB HBX H1 HA1 HBEF
 have HW':Hid (w.alloc (.cells #[.pointer (some ⟨g,0,none⟩),.int .i64 (f:Int),.int .i64 (N:Int)] 143)=w1):=hw1.symm
 clear hw1
 go_enter Tryz.func86,Tryz.ntmps86
 go_wp2_with fail
 rw [HW'.out]
 refine HBEF.out.mono ?_
 rintro e w2 ⟨hb2,⟨ho,_,rfl⟩ | ⟨_,Ak,rfl,hnone,hsk,hlk⟩⟩
 · have HM2:Hid (Moved w g F s w2):= .before (.still H1.out hb2) HBB.out
   have HE:=Lib.hid (HOFF.out ho)
   clear hb2 ho
   go_wp2
   go_ret
   rw [HE.out.1,HE.out.2]
   exact ⟨rfl,HM2.out⟩
 · have B2:=Lib.hid hb2
   have HX2:=Lib.hid (HBX.out.below hb2 HBX.out.lt)
   obtain ⟨c0,c1,c2⟩:=area_cells HX2.out
   have HSK:=Lib.hid hsk
   have HLK:=Lib.hid hlk
   have HNO:=Lib.hid hnone
   clear hb2 hsk hlk hnone
   generalize aheadL s.view f pos=hd at *
   have HA2:=Lib.hid (HA1.out.moved (.of_below B2.out F) (G:=F) (fun _ h=> .inl h))
   have HC2:Hid (∀ W,Below w2.heap.size w2 W->Blk W w.heap.size (areaCells g (f:Int) (N:Int)) 143):=fun W hb=>HX2.out.below hb HX2.out.lt
   have HK:Hid (∀ W,Below w2.heap.size w2 W->Below w2.heap.size w2 W/\W.cell? ⟨w.heap.size,0,none⟩=some (.pointer (some ⟨g,0,none⟩))/\W.cell? ⟨w.heap.size,1,none⟩=some (.int .i64 (f:Int))/\W.cell? ⟨w.heap.size,2,none⟩=some (.int .i64 (N:Int))):=fun W hb=>⟨hb,area_cells (HC2.out W hb)⟩
   obtain ⟨ab,ao,rfl,hcc⟩:∃ b off,A=some ⟨b,off,none⟩/\∀ j (h:j<code.length),w2.cell? ⟨b,off+j,none⟩=some (.int .u8 (code[j].toNat:Int)):=by
    rcases HA2.out with h | ⟨b,off,e,_,_,hc⟩
    · have:=HL.out;rw [h] at this;simp at this;omega
    · exact ⟨b,off,e,hc⟩
   have HNEWS:Hid (∀ j u,(code.map bv)[j]? =some u->w2.drew.cell? ((⟨ab,ao,none⟩:Addr).add j)=some u):=fun j u hu=>by
    obtain ⟨hj,hju⟩:=List.getElem?_eq_some_iff.1 hu
    rw [List.length_map] at hj
    rw [add_plain,<-hju,List.getElem_map]
    exact hcc j hj
   have HOLDS:Hid (∀ b,Ak=some b->∀ j u,(hd.map bv)[j]? =some u->w2.drew.cell? (b.add j)=some u):=fun b hb j u hu=>by
    obtain ⟨hj,hju⟩:=List.getElem?_eq_some_iff.1 hu
    rw [List.length_map] at hj
    rcases HSK.out with h | ⟨b',off,e,_,hc⟩
    · rw [h] at hj;simp at hj
    · rw [e] at hb
      injection hb with hb
      rw [<-hb,add_plain,<-hju,List.getElem_map]
      exact hc j hj
   have HNO2:Hid (Ak=none->n1=0/\n1=0):=fun h=>⟨HNO.out h,HNO.out h⟩
   have bd:Below w2.heap.size w2 w2.drew:=(Below.refl _ _).drew
   obtain ⟨i0,hi,hz0,hz1,hz2⟩:=info_parts info8p
   have hl1:Hid ((hd.map bv).length=n1*1):=by show _=_;rw [List.length_map,HLK.out,Nat.mul_one]
   have hl2:Hid ((code.map bv).length=n*1):=by show _=_;rw [List.length_map,HL.out,Nat.mul_one]
   have hdl:Hid ((hd++code).length=n1+n):=by show _=_;rw [List.length_append,HLK.out,HL.out]
   have hN4:N<=4096:=by omega
   clear hcc c0 c1 c2
   go_wp2_with fail
   go_region_held_law (fun w'=>Below w2.heap.size w2 w'/\w'.cell? ⟨w.heap.size,0,none⟩=some (.pointer (some ⟨g,0,none⟩))/\w'.cell? ⟨w.heap.size,1,none⟩=some (.int .i64 (f:Int))/\w'.cell? ⟨w.heap.size,2,none⟩=some (.int .i64 (N:Int)))
    (first | exact HK.out _ bd | assumption | (exact HK.out _ (by assumption)))
    (first
     | (
      refine step_append_grows rfl (.tmp 25) (.tmp 26) 22 rfl 5 i0 (.int .u8 0) 1 1 Tryz.underlying22 hi hz0 hz1 hz2 rfl (by decide) Ak n1 n1 (hd.map bv) (by simp [Act.eval]) HNO2.out hl1.out HOLDS.out ⟨ab,ao,none⟩ n c (code.map bv) (by simp [Act.eval]) hl2.out HNEWS.out (bytes_one code) (by omega) (by unfold maxLen;omega) (by omega) ?_
      intro v4 w4 hown4 hgr4
      have hb4:Below w2.heap.size w2 w4:=undrew ⟨hgr4.os,hgr4.tape,hgr4.output,hgr4.size,fun k hk=>hgr4.block k hk (by simp)⟩
      have hmade:Made 5 w2 (hd++code) v4 w4:=⟨by rw [hdl.out,List.map_append];exact hown4,hb4⟩
      obtain ⟨A4,n4,c4,rfl,hm4⟩:=hmade.named
      have hf4:n4<=(N-k)*64:=Nat.le_trans (Nat.le_of_eq (hm4.1.symm.trans hdl.out)) hfit'
      have HF4:=Lib.hid hf4
      have HM4:=Lib.hid hm4
      clear hown4 hgr4 hmade hm4 hf4)
     | (go_at_call 120;refine (area_filled w4 w2 g f N k (hd++code) A4 n4 c4 HM4.out hkN hN4 HF4.out).mono ?_;rintro e w5 ⟨A5,n5,c5,rfl,hm5⟩;have HM5:=Lib.hid hm5;have hb5:Below w2.heap.size w2 w5:=hm5.2.2;clear hm5))
   have HM5':Hid (MadeN 5 w2 B A5 n5 c5 w5):=by show MadeN _ _ _ _ _ _ _;rw [HLB.out];exact HM5.out
   have hn5:n5=(m+1)*64:=by rw [<-HM5'.out.1];exact HB1.out
   have hc5:n5<=c5:=by have:=cap_of HM5'.out.2;rw [HM5'.out.1] at this;exact this
   have haw:Away w5 F A5 B:=(Made.past HM5'.out.2).mono (fun b hb=>Nat.lt_of_lt_of_le (H1.out.lt b hb) B2.out.size)
   have hcut:∀ W,(Instr.slice 22 (.slice A5 n5 c5) (some (.int .i64 (64:Int))) none none).run Tryz.prog W= .ok (.slice (if c5=64 then A5 else A5.map (·.add (64*1))) (n5-64) (c5-64)) W:=cut_tail A5 n5 c5 64 (by omega)
   have hhead:∀ W,(Instr.slice 22 (.slice A5 n5 c5) none (some (.int .i64 (64:Int))) none).run Tryz.prog W= .ok (.slice A5 64 c5) W:=cut_head A5 n5 c5 64 (by omega)
   have hdr:=haw.drop 64 c5 (by rw [HB1.out];omega)
   generalize (if c5=64 then A5 else A5.map (·.add (64*1)))=AT at hcut hdr
   rw [show n5-64=m*64 by omega] at hcut
   have HAW5:=Lib.hid (haw.take 64)
   have HBL:Hid (Below w2.heap.size w2 w5):=hb5
   have D5:=Lib.hid (H1.out.still (hop B2.out hb5))
   have HP1:Hid (Calls Tryz.prog 121 #[.agg #[.pointer (some ⟨g,0,none⟩),.int .i64 (f:Int),.int .i64 (N:Int)],.int .i64 ((k:Int)+1),.slice AT (m*64) (c5-64)] w5.drew fun e w'=>e= .returned (.int .i64 (s.putErr (f+k+1) (rowsOf (B.drop 64))))/\Moved w5 g F (s.putAll (f+k+1) (rowsOf (B.drop 64))) w'):=by
    have:=area_put w5.drew g F s f (k+1) N AT (B.drop 64) (c5-64) m q (D5.out.still (Below.refl _ _).drew) (hdr.moved (Spared.drew (Spared.refl w5 F)) (fun _ h=> .inl h)) (by rw [List.length_drop,HB1.out];omega) (by omega) (by omega) HF.out (by omega)
    rw [show ((k+1:Nat):Int)=(k:Int)+1 by omega,show f+(k+1)=f+k+1 by omega] at this
    exact this.mono fun e w' ⟨he,hm⟩=>⟨he,hm.before ⟨rfl,rfl,rfl,Nat.le_refl _,fun _ _=>rfl⟩⟩
   have HFIRST:=Lib.hid (fun h=>Dsk.lay_first (s:=s) (b:=B) (i:=f+k) (n:=m) HB1.out h)
   have HLAY:Hid (s.lay B (f+k)=(s.putAll (f+k+1) (rowsOf (B.drop 64))).putAll (f+k) (rowsOf (B.take 64))/\s.layErr B (f+k)=(s.putAll (f+k+1) (rowsOf (B.drop 64))).putErr (f+k) (rowsOf (B.take 64))):=⟨rfl,rfl⟩
   have HFEW1:Hid ((s.putAll (f+k+1) (rowsOf (B.drop 64))).Few (q+m+1)):=by
    have:=HF.out.putAll (f+k+1) (rowsOf (B.drop 64))
    rw [rowsOf_length,List.length_drop,HB1.out] at this
    exact this.mono (by omega)
   have HKL:Hid ((s.putAll (f+k+1) (rowsOf (B.drop 64))).K.length=s.K.length):=Dsk.klen_putAll _ _ _
   have HTL:Hid ((B.take 64).length=1*64):=by show _=_;rw [List.length_take,HB1.out];omega
   generalize s.putErr (f+k+1) (rowsOf (B.drop 64))=E1 at HP1 HFIRST
   generalize s.putAll (f+k+1) (rowsOf (B.drop 64))=s1 at *
   obtain ⟨c0,c1,c2⟩:=area_cells (HC2.out w5 hb5)
   clear hdr haw hb5 HM5' HM5 bd hi hz0 hz1 hz2 HNEWS HOLDS
   have HHEAD:=Lib.hid hhead
   have HC5:Hid (1*64<=c5):=by show _<=_;omega
   have hw:IntKind.i64.wrap ((k:Int)+1)=(k:Int)+1:=by rw [IntKind.wrap_i64];omega
   clear hn5 hc5 hhead hdiv
   go_wp2
   go_still_tail 5,(by kernel_rfl)
   go_wp2_with fail
   refine HP1.out.mono ?_
   rintro e w6 ⟨rfl,hp6⟩
   have P6:=Lib.hid hp6
   have HX6:=Lib.hid (hp6.blk (HC2.out w5 HBL.out) HNF.out)
   obtain ⟨c0,c1,c2⟩:=area_cells HX6.out
   clear hp6 HP1 hcut hw
   by_cases he:E1=0
   · subst he
     have HP2:Hid (Calls Tryz.prog 121 #[.agg #[.pointer (some ⟨g,0,none⟩),.int .i64 (f:Int),.int .i64 (N:Int)],.int .i64 (k:Int),.slice A5 64 c5] w6.drew fun e w'=>e= .returned (.int .i64 (s1.putErr (f+k) (rowsOf (B.take 64))))/\Moved w5 g F (s1.putAll (f+k) (rowsOf (B.take 64))) w'):=by
      obtain ⟨F6,hd6,hs6,hf6⟩:=P6.out
      have:=area_put w6.drew g F6 s1 f k N A5 (B.take 64) c5 1 (q+m+1) (hd6.still (Below.refl _ _).drew) ((HAW5.out.moved hs6 hf6).moved (Spared.drew (Spared.refl w6 F6)) (fun _ h=> .inl h)) HTL.out HC5.out (by rw [HKL.out];omega) HFEW1.out (by omega)
      exact this.mono fun e w' ⟨he,hm⟩=>⟨he,.trans hs6 hf6 (hm.before ⟨rfl,rfl,rfl,Nat.le_refl _,fun _ _=>rfl⟩)⟩
     have hhead:=HHEAD.out
     rw [<-HLAY.out.1,<-HLAY.out.2] at HP2
     obtain ⟨E2,hE2⟩:∃ E2,E2=s.layErr B (f+k):=⟨_,rfl⟩
     rw [<-hE2] at HP2
     have HE2:=Lib.hid hE2
     clear hE2
     go_wp2
     go_still_tail 4,(by kernel_rfl)
     go_wp2_with fail
     refine HP2.out.mono ?_
     rintro e w7 ⟨rfl,hp7⟩
     have P7:=Lib.hid (hp7.before (hop HBB.out (hop B2.out HBL.out)))
     clear hp7 HP2 hhead
     go_wp2
     go_ret
     exact ⟨by rw [<-HE2.out];rfl,P7.out⟩
   · have hne:(E1==0)=false:=by rw [beq_eq_false_iff_ne];exact he
     have HE:=Lib.hid (HFIRST.out he)
     have HE1:Hid (E1=s.layErr B (f+k)):=by show E1=_;rw [HE.out.1,HE.out.2.2]
     have HP7:Hid (Moved w g F (s.lay B (f+k)) w6):=by show Moved _ _ _ _ _;rw [HE.out.2.1];exact P6.out.before (hop HBB.out (hop B2.out HBL.out))
     clear HHEAD
     go_wp2
     go_ret
     exact ⟨by rw [<-HE1.out];rfl,HP7.out⟩
end Go.Proofs.YtdaahapbpnjkfaaGreat
