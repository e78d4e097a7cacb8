/-
Of a disk, Write. Conditions: as each says.
-/
import Derived.Test.YtdaahapbpnjkfaaGreatCDkImage
import Derived.StillTailTactics
import Derived.Deep.AppendLies
import Derived.Deep.RegionHeld3
import Derived.Great.BuildSlice
import Derived.Deep.DrawnRows
namespace Go.Proofs.YtdaahapbpnjkfaaGreat
open Go.RowKit
theorem wpStill_load_mid {P:Program} {ops:Array Oper} {w:World} {Q:Act->Prop} {rest:List Oper} {op:Oper} {a:Act} (hgd:op.guard=none) (ty:TypeId) (x:Operand) (ho:op.op= .load ty x)
 (b o:Nat) (hx:a.eval x= .pointer (some ⟨b,o,none⟩)) (cs:List Value) (d:TypeDesc) (hc:w.rangeAt b o cs)
 (hu:P.underlying ty=some d) (hd:d.isRow=true) (hi:(P.info? ty).map (·.size)=some cs.length)
 (h:wpStill P ops w Q rest (a.put op.dst (.agg cs.toArray))):wpStill P ops w Q (op::rest) a:=by
 have hw:Region.wanted op (yielded ops a.tmps)=true:=by simp [Region.wanted,hgd]
 unfold wpStill
 rw [if_pos hw]
 unfold Oper.still execOp
 simp only [ho,hx,Instr.loadAt,Instr.sureAddr,Sem.run_bind,Sem.run_pure,Result.andThen_ok,run_loadVar_mid w b o ty cs d hc hu hd hi,Oper.stillUpon_value]
 exact h
theorem zero62 (w:World):(zeroValue 115).run Tryz.prog w= .ok (.agg (dcell (0,List.replicate 64 (0:UInt8))).toArray) w:=by kernel_rfl
theorem dcell_one (p:Nat × List UInt8):(dcell p).toArray.all (·.oneCell')=true:=all_oneCell_toArray fun v hv=>by
 rcases List.mem_cons.1 hv with rfl | h
 · rfl
 · exact bytes_one _ v h
theorem dcell_length {p:Nat × List UInt8} (h:p.2.length=64):(dcell p).length=65:=by simp [dcell,h]
theorem dcell_cells {w:World} {b:Nat} {p:Nat × List UInt8} {t:TypeId} (h:Blk w b (dcell p) t):w.cell? ⟨b,0,none⟩=some (.int .i64 (p.1:Int))/\w.rangeAt b 1 (p.2.map bv):=by
 refine ⟨h.cell (i:=0) (by simp [dcell]),fun j v hv=> ?_⟩
 obtain ⟨hj,hju⟩:=List.getElem?_eq_some_iff.1 hv
 rw [h.cell (by simp [dcell];simp at hj;omega),<-hju]
 simp only [dcell,Nat.add_comm 1 j,List.getElem_cons_succ]
set_option maxRecDepth 100000 in
set_option maxHeartbeats 400000 in
theorem sync_any (w:World) (g:Nat) (F:Nat->Prop) (s:Dsk) (h:DiskAt w g F s) (hcl:s.calls+1<9223372036854775808) (hlf:s.left<9223372036854775808) (hon:s.off=false):
 Calls Tryz.prog 144 #[.pointer (some ⟨g,0,none⟩)] w fun e w'=>e= .returned (.int .i64 0)/\Moved w g F s.sync w':=by
 have hat:=Lib.hid h
 obtain ⟨gd,v,h⟩:=h
 obtain ⟨A,c,rfl,hc,hcm,hA⟩:=own_form65 h.2.2.1
 have hM:s.M.length<=9223372036854775807:=by unfold maxLen at hcm;omega
 have ho:(!s.off)=true:=by rw [hon];rfl
 have hK4:=h.2.2.2.2.2.2.2.2.hi
 have z:=zero62
 have HZ:Hid ((dcell (0,List.replicate 64 (0:UInt8))).length=65):=by show _=_;rw [dcell_length];simp
 generalize dcell (0,List.replicate 64 (0:UInt8))=Z at z HZ
 obtain ⟨c0,c1,_⟩:=h.cells
 have H:=Lib.hid h
 clear h hon
 go_enter Tryz.func144,Tryz.ntmps144
 go_wp2_with (go_at_call 59;refine (on_any hat.out).mono ?_;rintro e w' ⟨rfl,hw'⟩;obtain rfl:=hw'.symm;rw [ho])
 go_loopw [13] (fun a wr=>∃ k:Nat,a= .int .i64 k/\k<=s.M.length/\DiskIn wr g gd (.slice A s.M.length c) F { s with K:=kept (fun _=>true) s.M s.K k }/\Spared w wr F) (fun a _=>s.M.length-(intOf a).toNat)
 case atStart=>exact ⟨0,rfl,Nat.zero_le _,H.out,.refl _ _⟩
 case round=>
  obtain ⟨k,rfl,hk,hd,hsp⟩:=hrel
  have HD:=Lib.hid hd
  have HS:=Lib.hid hsp
  clear hd hsp c0 c1
  by_cases hlt:k<s.M.length
  · have hkl:(k:Int)<(s.M.length:Int):=by omega
    obtain ⟨gc,rfl⟩:=hA (by omega)
    clear hA
    have HR:=Lib.hid (HD.out.cache k hlt).1
    have hmem:=HD.out.2.2.2.2.2.2.2.2.mem _ (List.getElem_mem hlt)
    have hnum:=HD.out.2.2.2.2.2.2.2.2.num _ (List.getElem_mem hlt)
    have HK:=Lib.hid (kept_step (pick:=fun _=>true) (K:=s.K) hlt)
    generalize hp:s.M[k]=p at *
    have HX:Hid ((dcell p).length=65):=dcell_length hmem
    have HO:=Lib.hid (dcell_one p)
    have HN:=Lib.hid (dcell_cells (setRow_heap (wr.alloc (.cells Z.toArray 115)) wr.heap.size _ (dcell p).toArray _ _ (heap_alloc_new wr _)))
    have HB:=Lib.hid (below_setRow ((Below.refl wr.heap.size wr).alloc (Nat.le_refl _) (.cells Z.toArray 115)) (Nat.le_refl _) (dcell p).toArray)
    generalize hX:dcell p=X at *
    clear hX hp
    go_wp2_with (first
     | (refine wpList_load_mid rfl 115 (.tmp 15) rfl gc (k*65) rfl X _ HR.out Tryz.underlying115 rfl (by rw [info62,HX.out]) ?_)
     | (refine wpList_store_row rfl 115 (.tmp 4) (.tmp 16) rfl wr.heap.size X.toArray rfl rfl 115 _ (heap_alloc_new wr _) (by rw [info62];simp [HX.out]) (by simp [HX.out,HZ.out]) HO.out ?_))
    have HB2:=Lib.hid (HD.out.still HB.out)
    have HS2:Hid (Spared w ((wr.alloc (.cells Z.toArray 115)).setRow wr.heap.size X.toArray) F):=HS.out.trans (.of_below HB.out F) (fun _ h=> .inl h)
    generalize (wr.alloc (.cells Z.toArray 115)).setRow wr.heap.size X.toArray=w2 at *
    obtain ⟨d0,_⟩:=HB2.out.cells
    obtain ⟨n0,n1⟩:=HN.out
    rw [kept_length] at d0
    have N1:=Lib.hid n1
    clear n1
    have hpl:((p.1:Nat):Int)<(s.K.length:Int):=by have:=hnum;rw [kept_length] at this;omega
    go_still_tail 9,(by kernel_rfl)
    refine wpStill_load_mid rfl 81 (.tmp 23) rfl wr.heap.size 1 rfl (p.2.map bv) _ (fun j v hv=>N1.out j v hv) Tryz.underlying81 rfl (by rw [info59,List.length_map,hmem]) ?_
    repeat still_step
    refine wpStill_nil ?_
    have hnum':p.1<(kept (fun _=>true) s.M s.K k).length:=hnum
    have HT:=Lib.hid (HB2.out.durable p.1 hnum').2
    refine wpList_store_mid rfl 81 (.tmp 25) (.tmp 24) rfl gd (p.1*64) (p.2.map bv).toArray rfl rfl (by rw [List.size_toArray,List.length_map,hmem];exact HT.out) (by rw [info59,List.size_toArray,List.length_map,hmem]) (map_bv_one _) ?_
    have HF:=Lib.hid ((HB2.out.still (Below.refl _ _).drew).store p.1 hnum' p.2 hmem)
    have HSF:Hid (Spared w (w2.drew.setCells gd (p.1*64) (p.2.map bv)) F):=Spared.setCells HB2.out.2.2.2.2.1 _ _ _ HS2.out.drew
    change wpList _ _ _ _ _ (w2.drew.setCells gd (p.1*64) (p.2.map bv))
    generalize w2.drew.setCells gd (p.1*64) (p.2.map bv)=w3 at *
    go_wp2
    go_roundw
    case rel=>exact ⟨k+1,by go_num,by omega,by rw [HK.out];exact HF.out,HSF.out⟩
    case measure=>simp [intOf];omega
  · obtain rfl:k=s.M.length:=by omega
    have d1:=HD.out.cells.2.1
    have f1:=HD.out.free 1
    have HP:=Lib.hid (HD.out.put 1 (.slice none 0 0) (s':= { s with K:=kept (fun _=>true) s.M s.K s.M.length,M:=[] }) (v':= .slice none 0 0) rfl rfl (.inr ⟨rfl,rfl⟩))
    have HSP:=Lib.hid (HS.out.setCell (HD.out.2.2.2.1) 1 (.slice none 0 0))
    clear hA
    go_wp2_with (go_at_call 164;refine (performed_any _ g gd _ F _ HP.out hcl hlf).mono ?_;rintro e w4 ⟨rfl,hp,hs⟩)
    go_ret
    exact ⟨rfl,F,⟨_,_,hp⟩,HSP.out.trans hs (fun _ h=> .inl h),fun _ h=> .inl h⟩
theorem sync_off (w:World) (g:Nat) (F:Nat->Prop) (s:Dsk) (h:DiskAt w g F s) (hon:s.off=true):
 Calls Tryz.prog 144 #[.pointer (some ⟨g,0,none⟩)] w fun e w'=>e= .returned (.int .i64 5)/\w'=w:=by
 have H:=Lib.hid h
 have ho:(!s.off)=false:=by rw [hon];rfl
 clear h hon
 go_enter Tryz.func144,Tryz.ntmps144
 go_wp2_with (go_at_call 59;refine (on_any H.out).mono ?_;rintro e w' ⟨rfl,hw'⟩;obtain rfl:=hw'.symm;rw [ho])
 go_ret
 exact ⟨rfl,rfl⟩
def Dsk.new (n:Nat):Dsk:=⟨List.replicate n (List.replicate 64 0),[],false,0,0⟩
theorem Dsk.new_ok {n:Nat} (h:n<=4096):(Dsk.new n).Ok:=
 ⟨fun r hr=>by rw [List.eq_of_mem_replicate hr];simp,fun p hp=>by simp [Dsk.new] at hp,fun p hp=>by simp [Dsk.new] at hp,by simpa [Dsk.new] using h⟩
theorem info59z:(Tryz.prog.info? 81).map (fun i=>(i.zero,i.size,i.bytes))=some (some (.agg (List.replicate 64 (bv 0)).toArray),64,64):=by kernel_rfl
theorem made_same (z:Value) (m k:Nat) (hm:0<m):(madeCells (List.replicate m z).toArray k).toList=List.replicate k z:=by
 refine List.eq_replicate_iff.2 ⟨by simp [madeCells],fun b hb=> ?_⟩
 simp only [madeCells,Array.toList_map,List.mem_map] at hb
 obtain ⟨i,_,rfl⟩:=hb
 have hlt:i%m<m:=Nat.mod_lt _ hm
 simp [hlt]
theorem made_zero (n:Nat):(madeCells (List.replicate 64 (bv 0)).toArray (n*64)).toList=(krows (List.replicate n (List.replicate 64 0))).flatten:=by
 have e1:(madeCells (List.replicate 64 (bv 0)).toArray (n*64)).toList=List.replicate (n*64) (bv 0):=made_same _ _ _ (by decide)
 have e2:(krows (List.replicate n (List.replicate 64 (0:UInt8)))).flatten=List.replicate (n*64) (bv 0):=by
  refine List.eq_replicate_iff.2 ⟨?_,fun b hb=> ?_⟩
  · rw [flat_length (m:=64)]
    · simp [krows]
    · exact krows_len (fun r hr=>by rw [List.eq_of_mem_replicate hr];simp)
  · obtain ⟨r,hr,hb⟩:=List.mem_flatten.1 hb
    obtain ⟨x,hx,rfl⟩:=List.mem_map.1 hr
    rw [List.eq_of_mem_replicate hx] at hb
    obtain ⟨y,hy,rfl⟩:=List.mem_map.1 hb
    rw [List.eq_of_mem_replicate hy]
 rw [e1,e2]
theorem make_blocks (n:Nat) (h:n<=4096) (W:World):(Instr.makeSlice 76 (.int .i64 (n:Int)) (.int .i64 (n:Int))).run Tryz.prog W= .ok (.slice (some ⟨W.heap.size,0,none⟩) n n) (W.alloc (.cells (krows (List.replicate n (List.replicate 64 0))).flatten.toArray 81)):=by
 obtain ⟨i0,hi,hz0,hz1,hz2⟩:=info_parts info59z
 have hr:=run_make (P:=Tryz.prog) W 76 81 i0 _ Tryz.underlying76 hi hz0 .i64 .i64 (n:Int) (n:Int) (by omega) (by omega) (by rw [hz2];omega) (by omega)
 rw [hr,hz1,show ((n:Nat):Int).toNat=n from rfl]
 have e:=made_zero n
 rw [<-e]
 rfl
def Fresh (w:World) (s:Dsk) (e:Ending) (w':World):Prop:=
 ∃ g F,e= .returned (.tuple #[.pointer (some ⟨g,0,none⟩),.int .i64 0])/\DiskAt w' g F s/\(∀ k,F k->w.heap.size<=k)/\Below w.heap.size w w'
set_option maxRecDepth 100000 in
theorem new_any (w:World) (n:Nat) (h1:1<=n) (h2:n<=4096):Calls Tryz.prog 26 #[.int .i64 (n:Int)] w (Fresh w (Dsk.new n)):=by
 have hmk:=make_blocks n h2 w
 have HK:Hid (krows (Dsk.new n).K=krows (List.replicate n (List.replicate 64 0))):=rfl
 generalize krows (List.replicate n (List.replicate 64 0))=R at hmk HK
 go_enter Tryz.func26,Tryz.ntmps26
 go_wp2
 go_ret2
 have hb:Below w.heap.size w ((w.alloc (Obj.cells R.flatten.toArray 81)).alloc (Obj.cells (dkCells w.heap.size n (.slice none 0 0) false 0 0).toArray 79)):=((Below.refl _ _).alloc (Nat.le_refl _) _).alloc (by simp) _
 refine ⟨w.heap.size+1,fun k=>k=w.heap.size\/k=w.heap.size+1,rfl,⟨w.heap.size,.slice none 0 0,?_,?_,World.ownsRow_nil _ _ _ _,.inr rfl,.inl rfl,(fun k hk=>by cases hk),(by omega),(fun k hk=> ?_),Dsk.new_ok h2⟩,(fun k hk=>by omega),hb⟩
 · have hn:=Blk.new (w.alloc (Obj.cells R.flatten.toArray 81)) (dkCells w.heap.size n (.slice none 0 0) false 0 0) 79
   simpa [Dsk.new,dkCells] using hn
 · rw [HK.out]
   exact (Blk.new w R.flatten _).alloc _
 · show k<_
   have:k=w.heap.size\/k=w.heap.size+1:=hk
   simp
   omega
def chunk (l:List UInt8) (k:Nat):List UInt8:=(l.drop (k*64)).take 64
theorem chunk_length {l:List UInt8} {n k:Nat} (hn:l.length=n*64) (hk:k<n):(chunk l k).length=64:=by
 unfold chunk;rw [List.length_take,List.length_drop];omega
theorem chunks_flat:∀ (n:Nat) (l:List UInt8) (K:List (List UInt8)),l.length=n*64->K.length=n->(∀ i,i<n->K[i]? =some (chunk l i))->K.flatten=l
 | 0,l,K,hl,hK,_=>by
  obtain rfl:l=[]:=List.eq_nil_of_length_eq_zero (by omega)
  obtain rfl:K=[]:=List.eq_nil_of_length_eq_zero hK
  rfl
 | n+1,l,[],_,hK,_=>by simp at hK
 | n+1,l,x::K,hl,hK,h=>by
  have h0:=h 0 (by omega)
  have hx:x=l.take 64:=by simpa [chunk] using h0
  have ih:=chunks_flat n (l.drop 64) K (by rw [List.length_drop];omega) (by simpa using hK) (fun i hi=>by
   have:=h (i+1) (by omega)
   rw [List.getElem?_cons_succ] at this
   rw [this]
   unfold chunk
   rw [List.drop_drop,Nat.succ_mul,Nat.add_comm])
  rw [List.flatten_cons,ih,hx,List.take_append_drop]
theorem size8:(Tryz.prog.info? 5).map (·.size)=some 1:=by kernel_rfl
theorem cut_rest (A:Option Addr) (n c m:Nat) (hm:m<=n) (W:World):(Instr.slice 22 (.slice A n c) (some (.int .i64 (m:Int))) none none).run Tryz.prog W= .ok (.slice (if c=m then A else A.map (·.add (m*1))) (n-m) (c-m)) W:=by
 have e2:Tryz.prog.elem 22=5:=by kernel_rfl
 obtain ⟨i,hi,hz⟩:=Option.map_eq_some_iff.1 info8d
 simp only [Prod.mk.injEq] at hz
 rw [run_slice_l W 22 A n c (by kernel_rfl) .i64 (m:Int) (by omega) (by omega),e2]
 simp [sizeOf,typeInfo,hi,hz.2.1,sliced]
def OfAt (l:List UInt8) (n k:Nat) (s:Dsk):Prop:=s.K.length=n/\s.M=[]/\s.off=false/\s.left=0/\s.calls=0/\∀ i,i<k->s.K[i]? =some (chunk l i)
set_option maxRecDepth 100000 in
set_option maxHeartbeats 400000 in
theorem of_any (w:World) (A:Option Addr) (l:List UInt8) (c n:Nat) (hn:l.length=n*64) (hlc:l.length<=c) (hs:Seen w A l) (h1:1<=n) (h2:n<=4096):
 Calls Tryz.prog 11 #[.slice A l.length c] w fun e w'=>∃ s,OfAt l n n s/\Fresh w s e w':=by
 have hc:n*64<=c:=by omega
 rw [hn]
 have HN:=Lib.hid hn
 have HS:=Lib.hid hs
 clear hs hn hlc
 go_enter Tryz.func11,Tryz.ntmps11
 go_wp2_with (go_at_call 26;refine (new_any _ n h1 h2).mono ?_;rintro e w1 ⟨g,F,rfl,hd,hF,hb⟩;obtain ⟨gd,v,hd⟩:=hd;obtain ⟨c0,_⟩:=hd.cells;have hlK:(Dsk.new n).K.length=n:=(by simp [Dsk.new]);rw [hlK] at c0;have HD:=Lib.hid hd;have HF:=Lib.hid hF;have HB:=Lib.hid hb;clear hd hF hb hlK)
 go_loopw [26] (fun a wr=>∃ k:Nat,a= .int .i64 k/\k<=n/\∃ s,OfAt l n k s/\DiskIn wr g gd v F s/\Spared w1 wr F) (fun a _=>n-(intOf a).toNat)
 case atStart=>exact ⟨0,rfl,Nat.zero_le _,Dsk.new n,⟨by simp [Dsk.new],rfl,rfl,rfl,rfl,fun i hi=>by omega⟩,HD.out,.refl _ _⟩
 case round=>
  obtain ⟨k,rfl,hk,s,hof,hd,hsp⟩:=hrel
  have HO:=Lib.hid hof
  have H1:=Lib.hid hd
  have HSP:=Lib.hid hsp
  obtain ⟨d0,_⟩:=hd.cells
  rw [hof.1] at d0
  clear hof hd hsp c0
  by_cases hlt:k<n
  · have hkl:(k:Int)<(n:Int):=by omega
    have hs1:=HS.out.keep (w':=wr) (Nat.le_trans HB.out.size HSP.out.size) (fun b o hb=>by
     rw [World.cell?_of_block (a:=⟨b,o,none⟩) (HSP.out.block b (Nat.lt_of_lt_of_le hb HB.out.size) (fun hf=>by have:=HF.out b hf;omega)),World.cell?_of_block (a:=⟨b,o,none⟩) (HB.out.block b hb)])
    have hct:=cut_rest A (n*64) c (k*64) (by omega)
    have HDR:=Lib.hid (hs1.drop (k*64) c (by rw [HN.out];exact hc))
    generalize (if c=k*64 then A else A.map (·.add (k*64*1)))=A2 at hct HDR
    clear hs1
    have e1:((k:Int)*64)=((k*64:Nat):Int):=by omega
    rw [<-e1] at hct
    have h64:(k:Int)*64<=(n:Int)*64:=by omega
    clear e1
    have hw:IntKind.i64.wrap ((k:Int)*64)=(k:Int)*64:=by rw [IntKind.wrap_i64];omega
    go_wp2
    go_still_tail 11,(by kernel_rfl)
    have HX:Hid ((chunk l k).length=64):=chunk_length HN.out hlt
    refine wpList_copy_into (w:=wr.drew) rfl (.tmp 35) (.tmp 39) 22 rfl 5 Tryz.underlying22 size8 gd (k*64) 64 64 A2 (l.drop (k*64)) (n*64-k*64) (c-k*64) rfl rfl (by rw [List.length_drop,HN.out]) (krows s.K).flatten 81 H1.out.2.1.drew (HDR.out.below (Below.refl _ _).drew) (by omega) 64 (by omega) (by rw [flat_length (m:=64) _ (krows_len H1.out.2.2.2.2.2.2.2.2.len)];simp only [krows,List.length_map];rw [HO.out.1];omega) ?_
    intro w2 hb2 hg2
    have HD2:=Lib.hid ((H1.out.still (Below.refl _ _).drew).laid k (by rw [HO.out.1];exact hlt) (chunk l k) HX.out hb2.out hg2.out)
    have HSP2:=Lib.hid (HSP.out.trans (Spared.drew (Spared.refl wr F)) (fun _ h=> .inl h) |>.trans (.of_grown hg2.out (F:=F) (fun q e _=>by injection e with e;rw [<-e];exact H1.out.2.2.2.2.1)) (fun _ h=> .inl h))
    clear hb2 hg2
    go_wp2
    go_roundw
    case rel=>
     refine ⟨k+1,by go_num,by omega, { s with K:=s.K.set k (chunk l k) },⟨by show (s.K.set k _).length=n;rw [List.length_set];exact HO.out.1,HO.out.2.1,HO.out.2.2.1,HO.out.2.2.2.1,HO.out.2.2.2.2.1,fun i hi=> ?_⟩,HD2.out,HSP2.out⟩
     show (s.K.set k _)[i]? =_
     by_cases hik:i=k
     · subst hik
       rw [List.getElem?_set_self (by rw [HO.out.1];exact hlt)]
     · rw [List.getElem?_set_ne (by omega)]
       exact HO.out.2.2.2.2.2 i (by omega)
    case measure=>simp [intOf];omega
  · obtain rfl:k=n:=by omega
    go_wp2
    go_ret2
    exact ⟨s,HO.out,g,F,rfl,H1.out.at_,HF.out,HSP.out.below HB.out HF.out⟩
theorem write_arg (w:World) (g:Nat) (F:Nat->Prop) (s:Dsk) (i:Int) (A:Option Addr) (n c:Nat) (h:DiskAt w g F s) (_:n<=9223372036854775807) (hbad: ¬ ((0<=i/\i<s.K.length)/\n=64)):
 Calls Tryz.prog 143 #[.pointer (some ⟨g,0,none⟩),.int .i64 i,.slice A n c] w fun e w'=>e= .returned (.int .i64 1)/\w'=w:=by
 have H:=Lib.hid h
 clear h
 by_cases h0:0<=i/\i<s.K.length
 · have hd:decide (0<=i/\i<(s.K.length:Int))=true:=decide_eq_true h0
   have h64: ¬ (n:Int)=64:=by omega
   clear h0 hbad
   go_enter Tryz.func143,Tryz.ntmps143
   go_wp2_with (go_at_call 157;refine (has_any H.out i).mono ?_;rintro e w' ⟨rfl,hw'⟩;obtain rfl:=hw'.symm;rw [hd])
   go_ret
   exact ⟨rfl,rfl⟩
 · have hd:decide (0<=i/\i<(s.K.length:Int))=false:=decide_eq_false h0
   clear h0 hbad
   go_enter Tryz.func143,Tryz.ntmps143
   go_wp2_with (go_at_call 157;refine (has_any H.out i).mono ?_;rintro e w' ⟨rfl,hw'⟩;obtain rfl:=hw'.symm;rw [hd])
   go_ret
   exact ⟨rfl,rfl⟩
theorem write_off (w:World) (g:Nat) (F:Nat->Prop) (s:Dsk) (i:Int) (A:Option Addr) (c:Nat) (h:DiskAt w g F s) (h0:0<=i/\i<s.K.length) (hoff:s.off=true):
 Calls Tryz.prog 143 #[.pointer (some ⟨g,0,none⟩),.int .i64 i,.slice A 64 c] w fun e w'=>e= .returned (.int .i64 5)/\w'=w:=by
 have H:=Lib.hid h
 have hd:decide (0<=i/\i<(s.K.length:Int))=true:=decide_eq_true h0
 have ho:(!s.off)=false:=by rw [hoff];rfl
 clear h h0 hoff
 go_enter Tryz.func143,Tryz.ntmps143
 go_wp2_with (first
  | (go_at_call 157;refine (has_any H.out i).mono ?_;rintro e w' ⟨rfl,hw'⟩;obtain rfl:=hw'.symm;rw [hd])
  | (go_at_call 59;refine (on_any H.out).mono ?_;rintro e w' ⟨rfl,hw'⟩;obtain rfl:=hw'.symm;rw [ho]))
 go_ret
 exact ⟨rfl,rfl⟩
theorem info62z:(Tryz.prog.info? 115).map (fun i=>(i.zero,i.size,i.bytes))=some (some (.agg (dcell (0,List.replicate 64 0)).toArray),65,72):=by kernel_rfl
theorem build_one {o:Oper} {a:Act} {w:World} {K:Act->World->Prop} {Q:Exit->Act->World->Prop} (x:Operand) (ho:o.op= .buildSlice 77 1 #[(0,x)])
 (C:List Value) (hC:C.length=65) (hx:a.eval x= .agg C.toArray)
 (h:K (a.put o.dst (.slice (some ⟨w.heap.size,0,none⟩) 1 1)) (w.alloc (.cells C.toArray 115))):o.wp Tryz.prog a w K Q:=by
 obtain ⟨ie,hi,hz0,hz1,hz2⟩:=info_parts info62z
 refine wp_buildSlice 77 115 1 #[(0,x)] ho C.toArray ie _ Tryz.underlying77 hi hz0 (by rw [hz1];decide) (by rw [hz1];decide) ?_ h
 rw [hz1]
 have:=Great.fill_whole (s:=65) (by decide) [Value.agg C.toArray] ((Array.range (1*65)).map ((Value.agg (dcell (0,List.replicate 64 0)).toArray).cells[· %(Value.agg (dcell (0,List.replicate 64 0)).toArray).cells.size]!)) (by intro v hv;rw [List.mem_singleton.1 hv];simpa [Value.cells] using hC) (by simp)
 simp only [List.map_toArray,List.map_cons,List.map_nil,hx]
 simpa [Value.cells] using this
theorem dcell_put (i:Nat) (l x:List UInt8) (hx:x.length=64) (hl:l.length=64):splice (dcell (i,x)) 1 (l.map bv)=dcell (i,l):=by
 unfold splice dcell
 simp [hl,hx]
theorem below_grown1 {W w w':World} {g:Nat} (h:Below W.heap.size W w) (hg:w.grownBy w' (some g)) (hle:W.heap.size<=g):Below W.heap.size W w':=
 ⟨hg.os.trans h.os,hg.tape.trans h.tape,hg.output.trans h.output,Nat.le_trans h.size hg.size,fun k hk=>(hg.block k (Nat.lt_of_lt_of_le hk h.size) (fun e=>by injection e with e;omega)).trans (h.block k hk)⟩
theorem disk_appended {w w1 w5:World} {g gd gc' cap':Nat} {v:Value} {F:Nat->Prop} {s:Dsk} (h:DiskIn w g gd v F s) (hb:Below w.heap.size w w1) (hgr:w1.grownBy w5 v.ownBlock) (i:Nat) (l:List UInt8) (hi:i<s.K.length) (hl:l.length=64)
 (hown:w5.ownsRow 0 115 65 (.slice (some ⟨gc',0,none⟩) (s.M.length+1) cap') (s.M.length+1) ((s.M.map dcell).flatten++dcell (i,l))) (hat:v.ownBlock=some gc'\/gc'=w1.heap.size) (hlt:gc'<w5.heap.size):
 DiskIn (w5.setCell ⟨g,1,none⟩ (.slice (some ⟨gc',0,none⟩) (s.M.length+1) cap')) g gd (.slice (some ⟨gc',0,none⟩) (s.M.length+1) cap') (fun k=>F k\/k=gc') { s with M:=s.M++[(i,l)] }/\
 Spared w (w5.setCell ⟨g,1,none⟩ (.slice (some ⟨gc',0,none⟩) (s.M.length+1) cap')) F/\(∀ k,(F k\/k=gc')->F k\/w.heap.size<=k)/\
 w5.cell? ⟨g,1,none⟩=some v/\w5.frozen? ⟨g,1,none⟩=false:=by
 obtain ⟨h1,h2,h3,h4,h5,h6,h7,h8,h9⟩:=h
 have hg1:Blk w1 g _ _:=h1.below hb h1.lt
 have hd1:Blk w1 gd _ _:=h2.below hb h2.lt
 have hg5:Blk w5 g (dkCells gd s.K.length v s.off s.left s.calls) 79:=(hgr.block g hg1.lt (fun e=>(h6 g e.symm).2.1 rfl)).trans hg1
 have hd5:Blk w5 gd (krows s.K).flatten 81:=(hgr.block gd hd1.lt (fun e=>(h6 gd e.symm).2.2 rfl)).trans hd1
 have hne:gc'≠g/\gc'≠gd:=by
  rcases hat with h | h
  · exact (h6 gc' h).2
  · have:=hg1.lt;have:=hd1.lt;omega
 have hs1:Spared w w5 F:=(Spared.of_below hb F).trans (.of_grown hgr (F:=F) (fun k e _=>(h6 k e).1)) (fun _ h=> .inl h)
 refine ⟨⟨?_,?_,?_,.inl h4,.inl h5,?_,h7,?_,?_⟩,hs1.setCell h4 _ _,?_,hg5.cell (i:=1) (by simp [dkCells]),hg5.free 1⟩
 · exact hg5.set 1 _
 · exact hd5.other _ _ (fun e=>h7 e.symm)
 · have e:(s.M++[(i,l)]).length=s.M.length+1:=by simp
   show World.ownsRow _ _ _ _ _ (s.M++[(i,l)]).length ((s.M++[(i,l)]).map dcell).flatten
   rw [e,List.map_append,List.flatten_append]
   simp only [List.map_cons,List.map_nil,List.flatten_cons,List.flatten_nil,List.append_nil]
   exact own_kept hown (fun k hk _=>heap_setCell_other w5 ⟨g,1,none⟩ k _ (fun e=>by injection hk with hk;rw [<-hk] at e;exact hne.1 e))
 · intro k hk
   injection hk with hk
   subst hk
   exact ⟨.inr rfl,hne⟩
 · intro k hk
   show k<(World.setCell _ _ _).heap.size
   have:k<w5.heap.size:=by
    rcases hk with hk | rfl
    · exact Nat.lt_of_lt_of_le (h8 k hk) hs1.size
    · exact hlt
   simpa [World.setCell] using this
 · refine ⟨h9.len,fun p hp=> ?_,fun p hp=> ?_,h9.hi⟩
   · rcases List.mem_append.1 hp with h | h
     · exact h9.num p h
     · rw [List.mem_singleton.1 h];exact hi
   · rcases List.mem_append.1 hp with h | h
     · exact h9.mem p h
     · rw [List.mem_singleton.1 h];exact hl
 · rintro k (hk | rfl)
   · exact .inl hk
   · rcases hat with h | h
     · exact .inl (h6 k h).1
     · exact .inr (by rw [h];exact hb.size)
set_option maxRecDepth 100000 in
set_option maxHeartbeats 400000 in
theorem write_any (w:World) (g:Nat) (F:Nat->Prop) (s:Dsk) (i:Nat) (A:Option Addr) (l:List UInt8) (c:Nat) (h:DiskAt w g F s) (h0:i<s.K.length) (hon:s.off=false) (hl:l.length=64) (hs:Seen w A l)
 (hcl:s.calls+1<9223372036854775808) (hlf:s.left<9223372036854775808) (hm:s.M.length<=1000000):
 Calls Tryz.prog 143 #[.pointer (some ⟨g,0,none⟩),.int .i64 i,.slice A 64 c] w fun e w'=>e= .returned (.int .i64 0)/\Moved w g F (s.write i l) w':=by
 have H:=Lib.hid h
 have hd:decide (0<=(i:Int)/\(i:Int)<(s.K.length:Int))=true:=decide_eq_true (by omega)
 have ho:(!s.off)=true:=by rw [hon];rfl
 have z:∀ w:World,(zeroValue 115).run Tryz.prog w= .ok (.agg (Value.int .i64 0::(List.replicate 64 (0:UInt8)).map bv).toArray) w:=zero62
 have HZ:Hid (((List.replicate 64 (0:UInt8)).map bv).length=64):=by show _=_;simp
 have HX2:Hid ((Value.int .i64 (i:Int)::(List.replicate 64 (0:UInt8)).map bv).toArray.all (·.oneCell')=true):=dcell_one (i,List.replicate 64 (0:UInt8))
 have HX3:Hid (splice (Value.int .i64 (i:Int)::(List.replicate 64 (0:UInt8)).map bv) 1 ((l.take 64).map bv)=dcell (i,l)):=by
  have e:l.take 64=l:=by rw [<-hl,List.take_length]
  show _=_
  rw [e]
  exact dcell_put i l _ (by simp) hl
 generalize (List.replicate 64 (0:UInt8)).map bv=T at z HZ HX2 HX3
 have HS:=Lib.hid hs
 have HL:=Lib.hid hl
 have HW:=Lib.hid (setRow_heap (w.alloc (.cells (Value.int .i64 0::T).toArray 115)) w.heap.size _ (Value.int .i64 (i:Int)::T).toArray _ _ (heap_alloc_new w _))
 have HWB:=Lib.hid (below_setRow ((Below.refl w.heap.size w).alloc (Nat.le_refl _) (.cells (Value.int .i64 0::T).toArray 115)) (Nat.le_refl _) (Value.int .i64 (i:Int)::T).toArray)
 clear hs hl h hon
 go_enter Tryz.func143,Tryz.ntmps143
 go_wp2_with (first
  | (go_at_call 157;refine (has_any H.out i).mono ?_;rintro e w' ⟨rfl,hw'⟩;obtain rfl:=hw'.symm;rw [hd])
  | (go_at_call 59;refine (on_any H.out).mono ?_;rintro e w' ⟨rfl,hw'⟩;obtain rfl:=hw'.symm;rw [ho])
  | (refine wpList_store_row rfl 115 (.tmp 7) (.tmp 21) rfl w.heap.size (Value.int .i64 (i:Int)::T).toArray rfl rfl 115 _ (heap_alloc_new w _) (by rw [info62];simp [HZ.out]) (by simp [HZ.out]) HX2.out ?_)
  | (refine wpList_copy_into rfl (.tmp 23) (.tmp 24) 22 rfl 5 Tryz.underlying22 size8 w.heap.size 1 64 64 A l 64 c rfl rfl HL.out (Value.int .i64 (i:Int)::T) 115 HW.out (HS.out.below HWB.out) (by omega) 64 (by omega) (by rw [List.length_cons,HZ.out];decide) ?_;intro w3 hb3 hg3;have hbb3:=Lib.hid (below_grown1 HWB.out hg3.out (Nat.le_refl _));rw [HX3.out] at hb3;clear hg3))
 have hin:=H.out.still hbb3.out
 obtain ⟨gd,v,hin⟩:=hin
 obtain ⟨_,d1,_⟩:=hin.cells
 have f1:=hin.free 1
 have hgl:=hin.1.lt
 have HIN:=Lib.hid hin
 have hbl:=hb3.out.lt
 have hgb:g≠w.heap.size:=by have:=H.out.lt g (by obtain ⟨_,_,h⟩:=H.out;exact h.2.2.2.1);omega
 have hvb:some w.heap.size≠v.ownBlock:=fun e=>by
  obtain ⟨gd0,v0,h0⟩:=H.out
  have:=(hin.2.2.2.2.2.1 _ e.symm).1
  have:=H.out.lt _ this
  omega
 have hR:w3.drew.rangeAt w.heap.size 0 (dcell (i,l)):=fun j v hv=>by
  obtain ⟨hj,hju⟩:=List.getElem?_eq_some_iff.1 hv
  rw [Nat.zero_add,hb3.out.drew.cell hj,hju]
 have HWL:=Lib.hid (dcell_length (p:=(i,l)) HL.out)
 have HW1:=Lib.hid (dcell_one (i,l))
 obtain ⟨i62,hi,hz0,hz1,hz2⟩:=info_parts info62z
 generalize hC:dcell (i,l)=C at *
 have HC:=Lib.hid hC
 clear hin hC
 have ui:=Tryz.underlying115
 have ii:(Tryz.prog.info? 115).map (·.size)=some C.length:=by rw [info62,HWL.out]
 have hRA:=World.rangeAt_alloc hR (.cells C.toArray 115)
 refine wp_region_held_drew (S:=fun w'=>w'.rangeAt w.heap.size 0 C) (by kernel_rfl) hR (fun _=> ?_)
 refine wpAnyH_take (i:=5) rfl (by kernel_rfl) (by kernel_rfl) (by kernel_rfl) (fun _ _ _ h=>h) (yieldsIf_load_mid (by rfl) 115 (.tmp 7) rfl w.heap.size 0 rfl C _ (fun _ h=>h) ui rfl ii) hR ?_
 simp only [Act.put]
 refine wpAnyH_take (i:=0) (v:= .pointer (some ⟨g,0,none⟩)) rfl (by kernel_rfl) (by kernel_rfl) (by kernel_rfl) (fun _ _ _ h=>h) (Or.inl ⟨by rfl,fun w _=>by go_simp⟩) hR ?_
 simp only [Act.put]
 refine wpAnyH_take (i:=1) (v:= .pointer (some ⟨g,0,none⟩)) rfl (by kernel_rfl) (by kernel_rfl) (by kernel_rfl) (fun _ _ _ h=>h) (Or.inl ⟨by rfl,fun w _=>by go_simp⟩) hR ?_
 simp only [Act.put]
 refine wpAnyH_take (i:=2) (v:= .pointer (some ⟨g,0,none⟩)) rfl (by kernel_rfl) (by kernel_rfl) (by kernel_rfl) (fun _ _ _ h=>h) (Or.inl ⟨by rfl,fun w _=>by go_simp⟩) hR ?_
 simp only [Act.put]
 refine wpAnyH_take (i:=3) (v:= .pointer (some ⟨g,1,none⟩)) rfl (by kernel_rfl) (by kernel_rfl) (by kernel_rfl) (fun _ _ _ h=>h) (Or.inl ⟨by rfl,fun w _=>by go_simp⟩) hR ?_
 simp only [Act.put,List.setIfInBounds_toArray,List.set_cons_zero,List.set_cons_succ]
 clear ui ii
 refine wpAnyH_ready (rs:=[4,6]) (by kernel_rfl) (by simp) (AllReadyH.cons rfl (fun K hK=> ?_) (AllReadyH.cons rfl (fun K hK=> ?_) AllReadyH.nil))
 · go_simp
   refine hK.out _ _ hR (fun _=> ?_)
   clear hK K
   refine wpAnyH_ready (rs:=[6]) (by kernel_rfl) (by simp) (AllReadyH.cons rfl (fun K hK=> ?_) AllReadyH.nil)
   rw [if_pos (by rfl)]
   refine build_one (.tmp 31) rfl C HWL.out rfl ?_
   simp only [Act.put,List.setIfInBounds_toArray]
   refine hK.out _ _ hRA (fun _=> ?_)
   clear hK K
   refine wpAnyH_ready (rs:=[7]) (by kernel_rfl) (by simp) (AllReadyH.cons rfl (fun K hK=> ?_) AllReadyH.nil)
   refine step_append_lies (w3.drew.alloc (.cells C.toArray 115)) rfl (.tmp 30) (.tmp 32) 77 rfl 0 115 i62 _ 65 72 Tryz.underlying77 hi hz0 hz1 hz2 (by rw [<-dcell_length (p:=(0,List.replicate 64 0)) (by simp)];simp [Value.cells]) (by decide) v s.M.length (s.M.map dcell).flatten (by simp [Act.eval]) (HIN.out.2.2.1.drew.alloc _) ⟨w3.heap.size,0,none⟩ 1 1 C (by simp [Act.eval]) (by rw [HWL.out]) (World.news_of_block (heap_alloc_new _ _)) (fun u hu=>(Array.all_eq_true_iff_forall_mem.1 HW1.out) u (by simpa using hu)) (by decide) (by unfold maxLen;omega) (by omega) (Nat.zero_le _) _ rfl ?_
   intro gc' cap' w5 hown5 hgrow5 hat5 hlt5
   have R5:=range_grown hRA hgrow5 hvb
   rw [<-HC.out] at hown5
   obtain ⟨D1,D2,D3,c5,f5⟩:=disk_appended HIN.out ((Below.refl _ _).drew.alloc (Nat.le_refl _) _) hgrow5 i l (by have:=h0;omega) HL.out hown5 hat5 hlt5
   have HD1:=Lib.hid D1
   have HD2:=Lib.hid D2
   have HD3:=Lib.hid D3
   clear D1 D2 D3 hown5 hgrow5 hat5 hlt5
   simp only [Act.put]
   refine hK.out _ _ R5 (fun _=> ?_)
   clear hK K
   refine wpAnyH_ready (rs:=[8]) (by kernel_rfl) (by simp) (AllReadyH.cons rfl (fun K hK=> ?_) AllReadyH.nil)
   go_simp
   refine hK.out _ _ R5 (fun _=> ?_)
   clear hK K
   refine wpAnyH_ready (rs:=[9]) (by kernel_rfl) (by simp) (AllReadyH.cons rfl (fun K hK=> ?_) AllReadyH.nil)
   go_simp
   refine hK.out _ _ R5 (fun _=> ?_)
   clear hK K
   refine wpAnyH_ready (rs:=[10]) (by kernel_rfl) (by simp) (AllReadyH.cons rfl (fun K hK=> ?_) AllReadyH.nil)
   go_simp
   refine hK.out _ _ (range_setCell R5 hgb) (fun _=> ?_)
   clear hK K
   refine wpAnyH_done (by kernel_rfl) ?_ _
   go_wp2_with (go_at_call 164;refine (performed_any _ g gd _ _ _ HD1.out hcl hlf).mono ?_;rintro e w7 ⟨rfl,hp7,hs7⟩)
   go_ret
   exact ⟨rfl,_,⟨_,_,hp7⟩,(Spared.of_below hbb3.out F).trans (HD2.out.trans hs7 HD3.out) (fun _ h=> .inl h),fun k hk=>(HD3.out k hk).elim .inl (fun h=> .inr (Nat.le_trans hbb3.out.size h))⟩
 · rw [if_pos (by rfl)]
   refine build_one (.tmp 31) rfl C HWL.out rfl ?_
   simp only [Act.put]
   refine hK.out _ _ hRA (fun _=> ?_)
   clear hK K
   refine wpAnyH_ready (rs:=[4]) (by kernel_rfl) (by simp) (AllReadyH.cons rfl (fun K hK=> ?_) AllReadyH.nil)
   go_simp
   refine hK.out _ _ hRA (fun _=> ?_)
   clear hK K
   refine wpAnyH_ready (rs:=[7]) (by kernel_rfl) (by simp) (AllReadyH.cons rfl (fun K hK=> ?_) AllReadyH.nil)
   refine step_append_lies (w3.drew.alloc (.cells C.toArray 115)) rfl (.tmp 30) (.tmp 32) 77 rfl 0 115 i62 _ 65 72 Tryz.underlying77 hi hz0 hz1 hz2 (by rw [<-dcell_length (p:=(0,List.replicate 64 0)) (by simp)];simp [Value.cells]) (by decide) v s.M.length (s.M.map dcell).flatten (by simp [Act.eval]) (HIN.out.2.2.1.drew.alloc _) ⟨w3.heap.size,0,none⟩ 1 1 C (by simp [Act.eval]) (by rw [HWL.out]) (World.news_of_block (heap_alloc_new _ _)) (fun u hu=>(Array.all_eq_true_iff_forall_mem.1 HW1.out) u (by simpa using hu)) (by decide) (by unfold maxLen;omega) (by omega) (Nat.zero_le _) _ rfl ?_
   intro gc' cap' w5 hown5 hgrow5 hat5 hlt5
   have R5:=range_grown hRA hgrow5 hvb
   rw [<-HC.out] at hown5
   obtain ⟨D1,D2,D3,c5,f5⟩:=disk_appended HIN.out ((Below.refl _ _).drew.alloc (Nat.le_refl _) _) hgrow5 i l (by have:=h0;omega) HL.out hown5 hat5 hlt5
   have HD1:=Lib.hid D1
   have HD2:=Lib.hid D2
   have HD3:=Lib.hid D3
   clear D1 D2 D3 hown5 hgrow5 hat5 hlt5
   simp only [Act.put]
   refine hK.out _ _ R5 (fun _=> ?_)
   clear hK K
   refine wpAnyH_ready (rs:=[8]) (by kernel_rfl) (by simp) (AllReadyH.cons rfl (fun K hK=> ?_) AllReadyH.nil)
   go_simp
   refine hK.out _ _ R5 (fun _=> ?_)
   clear hK K
   refine wpAnyH_ready (rs:=[9]) (by kernel_rfl) (by simp) (AllReadyH.cons rfl (fun K hK=> ?_) AllReadyH.nil)
   go_simp
   refine hK.out _ _ R5 (fun _=> ?_)
   clear hK K
   refine wpAnyH_ready (rs:=[10]) (by kernel_rfl) (by simp) (AllReadyH.cons rfl (fun K hK=> ?_) AllReadyH.nil)
   go_simp
   refine hK.out _ _ (range_setCell R5 hgb) (fun _=> ?_)
   clear hK K
   refine wpAnyH_done (by kernel_rfl) ?_ _
   go_wp2_with (go_at_call 164;refine (performed_any _ g gd _ _ _ HD1.out hcl hlf).mono ?_;rintro e w7 ⟨rfl,hp7,hs7⟩)
   go_ret
   exact ⟨rfl,_,⟨_,_,hp7⟩,(Spared.of_below hbb3.out F).trans (HD2.out.trans hs7 HD3.out) (fun _ h=> .inl h),fun k hk=>(HD3.out k hk).elim .inl (fun h=> .inr (Nat.le_trans hbb3.out.size h))⟩
end Go.Proofs.YtdaahapbpnjkfaaGreat
