/-
Plain mathematics of layer 7, the disk's side: what writes leave of a disk, row by row; what laying bytes leaves, and what is there behind a crash. No program is run here. No conditions.
-/
import Derived.Test.YtdaahapbpnjkfaaGreatCDkWrite
import Derived.Test.YtdaahapbpnjkfaaGreatCGet
import Derived.Test.YtdaahapbpnjkfaaGreatCKvRows
import Derived.Deep.Slices
namespace Go.Proofs.YtdaahapbpnjkfaaGreat
open Go.RowKit
set_option maxRecDepth 100000 in
set_option maxHeartbeats 400000 in
theorem crash_any (w:World) (g:Nat) (F:Nat->Prop) (s:Dsk) (h:DiskAt w g F s) (B:Option Addr) (l:List Int) (cl:Nat) (hl:IntsAway w F B l) (hb:∀ x ∈ l, -9223372036854775808<=x/\x<=9223372036854775807) (hll:l.length<=9223372036854775807):
 Calls Tryz.prog 19 #[.pointer (some ⟨g,0,none⟩),.slice B l.length cl] w fun e w'=>e= .returned (.tuple #[])/\Moved w g F (s.crash (pickOf l)) w':=by
 obtain ⟨gd,v,h⟩:=h
 obtain ⟨A,c,rfl,hc,hcm,hA⟩:=own_form65 h.2.2.1
 have hM:s.M.length<=9223372036854775807:=by unfold maxLen at hcm;omega
 have hK4:=h.2.2.2.2.2.2.2.2.hi
 have z:=zero62
 have HZ:Hid ((dcell (0,List.replicate 64 (0:UInt8))).length=65):=by show _=_;rw [dcell_length];simp
 generalize dcell (0,List.replicate 64 (0:UInt8))=Z at z HZ
 obtain ⟨c0,c1,_⟩:=h.cells
 have H:=Lib.hid h
 have HI:=Lib.hid hl
 have HBD:=Lib.hid hb
 clear h hl hb
 go_enter Tryz.func19,Tryz.ntmps19
 go_wp2
 go_loopw [13] (fun a wr=>∃ k:Nat,a= .int .i64 k/\k<=s.M.length/\DiskIn wr g gd (.slice A s.M.length c) F { s with K:=kept (pickOf l) s.M s.K k }/\Spared w wr F) (fun a _=>s.M.length-(intOf a).toNat)
 case atStart=>exact ⟨0,rfl,Nat.zero_le _,H.out,.refl _ _⟩
 case round=>
  obtain ⟨k,rfl,hk,hd,hsp⟩:=hrel
  have HD:=Lib.hid hd
  have HS:=Lib.hid hsp
  clear hd hsp c0 c1
  by_cases hlt:k<s.M.length
  · have hkl:(k:Int)<(s.M.length:Int):=by omega
    obtain ⟨gc,rfl⟩:=hA (by omega)
    clear hA
    have HR:=Lib.hid (HD.out.cache k hlt).1
    have hmem:=HD.out.2.2.2.2.2.2.2.2.mem _ (List.getElem_mem hlt)
    have hnum:=HD.out.2.2.2.2.2.2.2.2.num _ (List.getElem_mem hlt)
    have HK:=Lib.hid (kept_step (pick:=pickOf l) (K:=s.K) hlt)
    generalize hp:s.M[k]=p at *
    have HX:Hid ((dcell p).length=65):=dcell_length hmem
    have HO:=Lib.hid (dcell_one p)
    have HN:=Lib.hid (dcell_cells (setRow_heap (wr.alloc (.cells Z.toArray 115)) wr.heap.size _ (dcell p).toArray _ _ (heap_alloc_new wr _)))
    have HB:=Lib.hid (below_setRow ((Below.refl wr.heap.size wr).alloc (Nat.le_refl _) (.cells Z.toArray 115)) (Nat.le_refl _) (dcell p).toArray)
    generalize hX:dcell p=X at *
    clear hX hp
    have HB2:=Lib.hid (HD.out.still HB.out)
    have HS2:Hid (Spared w ((wr.alloc (.cells Z.toArray 115)).setRow wr.heap.size X.toArray) F):=HS.out.trans (.of_below HB.out F) (fun _ h=> .inl h)
    have HI2:=Lib.hid (HI.out.moved (G:=F) HS2.out (fun _ h=> .inl h))
    obtain ⟨w2,hw2⟩:∃ w2,w2=(wr.alloc (.cells Z.toArray 115)).setRow wr.heap.size X.toArray:=⟨_,rfl⟩
    rw [<-hw2] at HN HB HB2 HS2 HI2
    have HW2:=Lib.hid hw2
    clear hw2
    by_cases h0:0<l.length
    · have hlp:(0:Int)<(l.length:Int):=by omega
      have hj:k%l.length<l.length:=Nat.mod_lt _ h0
      obtain ⟨bb,off,rfl,hcc⟩:=HI2.out.at_ (k%l.length) hj
      have hbd:=HBD.out _ (List.getElem_mem hj)
      have hpk:pickOf l k=decide (l[k%l.length].tmod 2≠0):=by
       unfold pickOf
       rw [List.getD_eq_getElem?_getD,List.getElem?_eq_getElem hj]
       simp [h0]
      generalize l[k%l.length]=y at *
      have e1:Int.tmod (k:Int) (l.length:Int)=((k%l.length:Nat):Int):=by rw [Int.tmod_eq_emod_of_nonneg (by omega)];rfl
      generalize k%l.length=m at *
      rw [HW2.out] at hcc
      go_wp2_with (first
       | (refine wpList_load_mid rfl 115 (.tmp 16) rfl gc (k*65) rfl X _ HR.out Tryz.underlying115 rfl (by rw [info62,HX.out]) ?_)
       | (refine wpList_store_row rfl 115 (.tmp 5) (.tmp 17) rfl wr.heap.size X.toArray rfl rfl 115 _ (heap_alloc_new wr _) (by rw [info62];simp [HX.out]) (by simp [HX.out,HZ.out]) HO.out ?_))
      · rename_i hy
        have hpk':pickOf l k=true:=by rw [hpk];simpa using hy
        rw [<-HW2.out]
        obtain ⟨d0,_⟩:=HB2.out.cells
        obtain ⟨n0,n1⟩:=HN.out
        rw [kept_length] at d0
        have N1:=Lib.hid n1
        have HNUM:=Lib.hid hnum
        clear n1 hcc hpk hnum
        have hpl:((p.1:Nat):Int)<(s.K.length:Int):=by have:=HNUM.out;rw [kept_length] at this;omega
        go_still_tail 9,(by kernel_rfl)
        refine wpStill_load_mid rfl 81 (.tmp 38) rfl wr.heap.size 1 rfl (p.2.map bv) _ (fun j v hv=>N1.out j v hv) Tryz.underlying81 rfl (by rw [info59,List.length_map,hmem]) ?_
        repeat still_step
        refine wpStill_nil ?_
        have HT:=Lib.hid (HB2.out.durable p.1 HNUM.out).2
        refine wpList_store_mid rfl 81 (.tmp 40) (.tmp 39) rfl gd (p.1*64) (p.2.map bv).toArray rfl rfl (by rw [List.size_toArray,List.length_map,hmem];exact HT.out) (by rw [info59,List.size_toArray,List.length_map,hmem]) (map_bv_one _) ?_
        have HF:=Lib.hid ((HB2.out.still (Below.refl _ _).drew).store p.1 HNUM.out p.2 hmem)
        have HSF:Hid (Spared w (w2.drew.setCells gd (p.1*64) (p.2.map bv)) F):=Spared.setCells HB2.out.2.2.2.2.1 _ _ _ HS2.out.drew
        change wpList _ _ _ _ _ (w2.drew.setCells gd (p.1*64) (p.2.map bv))
        generalize w2.drew.setCells gd (p.1*64) (p.2.map bv)=w3 at *
        go_wp2
        go_roundw
        case rel=>exact ⟨k+1,by go_num,by omega,by rw [HK.out,if_pos hpk'];exact HF.out,HSF.out⟩
        case measure=>simp [intOf];omega
      · rename_i hy
        have hpk':pickOf l k=false:=by rw [hpk];simpa using hy
        rw [<-HW2.out]
        go_roundw
        case rel=>exact ⟨k+1,by go_num,by omega,by rw [HK.out,if_neg (by rw [hpk'];decide)];exact HB2.out,HS2.out⟩
        case measure=>simp [intOf];omega
    · have hl0:l.length=0:=by omega
      have hpk':pickOf l k=false:=by simp [pickOf,h0]
      rw [hl0]
      clear hll h0
      go_wp2_with (first
       | (refine wpList_load_mid rfl 115 (.tmp 16) rfl gc (k*65) rfl X _ HR.out Tryz.underlying115 rfl (by rw [info62,HX.out]) ?_)
       | (refine wpList_store_row rfl 115 (.tmp 5) (.tmp 17) rfl wr.heap.size X.toArray rfl rfl 115 _ (heap_alloc_new wr _) (by rw [info62];simp [HX.out]) (by simp [HX.out,HZ.out]) HO.out ?_))
      rw [<-HW2.out]
      go_roundw
      case rel=>exact ⟨k+1,by go_num,by omega,by rw [HK.out,if_neg (by rw [hpk'];decide)];exact HB2.out,HS2.out⟩
      case measure=>simp [intOf];omega
  · obtain rfl:k=s.M.length:=by omega
    obtain ⟨_,d1,d2,d3,_⟩:=HD.out.cells
    have f1:=HD.out.free 1
    have f2:=HD.out.free 2
    have f3:=HD.out.free 3
    have HP:=Lib.hid (((HD.out.put 1 (.slice none 0 0) (s':= { s with K:=kept (pickOf l) s.M s.K s.M.length,M:=[] }) (v':= .slice none 0 0) rfl rfl (.inr ⟨rfl,rfl⟩)).put 2 (.bool false) (s':= { s with K:=kept (pickOf l) s.M s.K s.M.length,M:=[],off:=false }) (v':= .slice none 0 0) rfl rfl (.inl ⟨rfl,rfl⟩)).put 3 (.int .i64 0) (s':=s.crash (pickOf l)) (v':= .slice none 0 0) rfl rfl (.inl ⟨rfl,rfl⟩))
    have HSP:=Lib.hid (((HS.out.setCell (HD.out.2.2.2.1) 1 (.slice none 0 0)).setCell (HD.out.2.2.2.1) 2 (.bool false)).setCell (HD.out.2.2.2.1) 3 (.int .i64 0))
    clear hA
    go_wp2
    go_end0
    exact ⟨rfl,F,⟨_,_,HP.out⟩,HSP.out,fun _ h=> .inl h⟩
namespace Dsk
def werr (s:Dsk) (i:Int) (n:Nat):Int:=if (0<=i/\i<s.K.length)/\n=64 then (if s.off then 5 else 0) else 1
def wput (s:Dsk) (i:Int) (l:List UInt8):Dsk:=if s.werr i l.length=0 then s.write i.toNat l else s
def sput (s:Dsk):Dsk:=if s.off then s else s.sync
def Few (s:Dsk) (n:Nat):Prop:=s.calls<=n/\s.M.length<=n/\s.left<9223372036854775808
theorem Few.sput {s:Dsk} {n:Nat} (h:s.Few n):s.sput.Few (n+1):=by
 unfold Dsk.sput
 split
 · exact ⟨Nat.le_succ_of_le h.1,Nat.le_succ_of_le h.2.1,h.2.2⟩
 · exact ⟨Nat.succ_le_succ h.1,Nat.zero_le _,by show s.left-1<_;have:=h.2.2;omega⟩
theorem Few.crash {s:Dsk} {n:Nat} (h:s.Few n) (p:Nat->Bool):(s.crash p).Few n:=⟨h.1,Nat.zero_le _,by show 0<_;decide⟩
theorem Few.arm {s:Dsk} {n:Nat} (h:s.Few n) (z:Int) (hz:z<=9223372036854775807):(s.arm z).Few n:=by
 unfold Dsk.arm
 split
 · exact h
 · exact ⟨h.1,h.2.1,by show z.toNat<_;omega⟩
theorem Few.mono {s:Dsk} {n m:Nat} (h:s.Few n) (hm:n<=m):s.Few m:=⟨Nat.le_trans h.1 hm,Nat.le_trans h.2.1 hm,h.2.2⟩
theorem Few.new (k:Nat):(Dsk.new k).Few 0:=⟨Nat.le_refl _,Nat.le_refl _,by show 0<_;decide⟩
theorem klen_sput (s:Dsk):s.sput.K.length=s.K.length:=by
 unfold sput
 split
 · rfl
 · exact kept_length _ _ _ _
end Dsk
theorem write_all (w:World) (g:Nat) (F:Nat->Prop) (s:Dsk) (i:Int) (A:Option Addr) (l:List UInt8) (n c:Nat) (h:DiskAt w g F s) (hl:l.length=n) (hn:n<=9223372036854775807) (hs:Seen w A l) (hf:s.Few 1000000):
 Calls Tryz.prog 143 #[.pointer (some ⟨g,0,none⟩),.int .i64 i,.slice A n c] w fun e w'=>e= .returned (.int .i64 (s.werr i n))/\Moved w g F (s.wput i l) w':=by
 by_cases h0:(0<=i/\i<s.K.length)/\n=64
 · obtain ⟨h0,rfl⟩:=h0
   by_cases ho:s.off=true
   · have e1:s.werr i 64=5:=by unfold Dsk.werr;rw [if_pos ⟨h0,rfl⟩,if_pos ho]
     have e2:s.wput i l=s:=by unfold Dsk.wput;rw [hl,e1];rfl
     rw [e1,e2]
     refine (write_off w g F s i A c h h0 ho).mono ?_
     rintro e w' ⟨rfl,rfl⟩
     exact ⟨rfl,.still h (Below.refl _ _)⟩
   · have ho':s.off=false:=by cases hs:s.off<;>simp_all
     have e1:s.werr i 64=0:=by unfold Dsk.werr;rw [if_pos ⟨h0,rfl⟩,if_neg ho]
     have e2:s.wput i l=s.write i.toNat l:=by unfold Dsk.wput;rw [hl,e1];rfl
     rw [e1,e2]
     obtain ⟨k,rfl⟩:∃ k:Nat,i=(k:Int):=⟨i.toNat,by omega⟩
     exact write_any w g F s k A l c h (by omega) ho' hl hs (by have:=hf.1;omega) hf.2.2 hf.2.1
 · have e1:s.werr i n=1:=by unfold Dsk.werr;rw [if_neg h0]
   have e2:s.wput i l=s:=by unfold Dsk.wput;rw [hl,e1];rfl
   rw [e1,e2]
   refine (write_arg w g F s i A n c h hn h0).mono ?_
   rintro e w' ⟨rfl,rfl⟩
   exact ⟨rfl,.still h (Below.refl _ _)⟩
theorem sync_all (w:World) (g:Nat) (F:Nat->Prop) (s:Dsk) (h:DiskAt w g F s) (hf:s.Few 1000000):
 Calls Tryz.prog 144 #[.pointer (some ⟨g,0,none⟩)] w fun e w'=>e= .returned (.int .i64 (if s.off then 5 else 0))/\Moved w g F s.sput w':=by
 unfold Dsk.sput
 by_cases ho:s.off=true
 · rw [if_pos ho,if_pos ho]
   refine (sync_off w g F s h ho).mono ?_
   rintro e w' ⟨rfl,rfl⟩
   exact ⟨rfl,.still h (Below.refl _ _)⟩
 · rw [if_neg ho,if_neg ho]
   exact sync_any w g F s h (by have:=hf.1;omega) hf.2.2 (by cases hs:s.off<;>simp_all)
def IntOk (i:Int):Prop:= -9223372036854775808<=i/\i<=9223372036854775807
abbrev KOp:=Int × PRow × Piece × Piece × Int × (Option Addr × List Int × Nat)
def KOk (w:World) (o:KOp):Prop:=
 (IntOk o.1/\IntOk o.2.2.2.2.1)/\
 (PutsSeen w o.2.1.1 o.2.1.2.1/\o.2.1.2.1.length<=o.2.1.2.2/\o.2.1.2.1.length<=9223372036854775807)/\
 (Seen w o.2.2.1.1 o.2.2.1.2.1/\o.2.2.1.2.1.length<=o.2.2.1.2.2/\o.2.2.1.2.1.length<=9223372036854775807)/\
 (Seen w o.2.2.2.1.1 o.2.2.2.1.2.1/\o.2.2.2.1.2.1.length<=9223372036854775807)/\
 (Ints w o.2.2.2.2.2.1 o.2.2.2.2.2.2.1/\o.2.2.2.2.2.2.1.length<=9223372036854775807/\∀ x ∈ o.2.2.2.2.2.2.1,IntOk x)
def kcells (o:KOp):List Value:=[.int .i64 o.1,.slice o.2.1.1 o.2.1.2.1.length o.2.1.2.2,pv o.2.2.1,pv o.2.2.2.1,.int .i64 o.2.2.2.2.1,.slice o.2.2.2.2.2.1 o.2.2.2.2.2.2.1.length o.2.2.2.2.2.2.2]
def KsSeen (w:World) (A:Option Addr) (l:List KOp):Prop:=
 l=[]\/∃ b off,A=some ⟨b,off,none⟩/\b<w.heap.size/\∀ j (h:j<l.length),(∀ i,i<6->w.cell? ⟨b,off+j*6+i,none⟩=(kcells l[j])[i]?)/\KOk w l[j]
theorem KsSeen.at_ {w:World} {A:Option Addr} {l:List KOp} (h:KsSeen w A l) (k:Nat) (hk:k<l.length):∃ b off,A=some ⟨b,off,none⟩/\KOk w l[k]/\∀ w',Below w.heap.size w w'->w'.cell? ⟨b,off+k*6,none⟩=some (.int .i64 l[k].1)/\w'.cell? ⟨b,off+k*6+1,none⟩=some (.slice l[k].2.1.1 l[k].2.1.2.1.length l[k].2.1.2.2)/\
 w'.cell? ⟨b,off+k*6+2,none⟩=some (.slice l[k].2.2.1.1 l[k].2.2.1.2.1.length l[k].2.2.1.2.2)/\w'.cell? ⟨b,off+k*6+3,none⟩=some (.slice l[k].2.2.2.1.1 l[k].2.2.2.1.2.1.length l[k].2.2.2.1.2.2)/\w'.cell? ⟨b,off+k*6+4,none⟩=some (.int .i64 l[k].2.2.2.2.1)/\
 w'.cell? ⟨b,off+k*6+5,none⟩=some (.slice l[k].2.2.2.2.2.1 l[k].2.2.2.2.2.2.1.length l[k].2.2.2.2.2.2.2):=by
 rcases h with rfl | ⟨b,off,rfl,hb,hc⟩
 · simp at hk
 · obtain ⟨h1,h5⟩:=hc k hk
   refine ⟨b,off,rfl,h5,fun w' hbl=> ?_⟩
   have e:∀ o,w'.cell? ⟨b,o,none⟩=w.cell? ⟨b,o,none⟩:=fun o=>hbl.cell (p:=⟨b,o,none⟩) hb
   exact ⟨(e _).trans (h1 0 (by decide)),(e _).trans (h1 1 (by decide)),(e _).trans (h1 2 (by decide)),(e _).trans (h1 3 (by decide)),(e _).trans (h1 4 (by decide)),(e _).trans (h1 5 (by decide))⟩
def kfewOne (o:KOp):Bool:=pfewB o.2.1.2.1&&decide (o.2.2.1.2.1.length<=1000)&&decide (o.2.2.2.1.2.1.length<=1000)
def kfewB (l:List KOp):Bool:=decide (l.length<=60)&&l.all kfewOne
theorem kfewB_true {l:List KOp} (h:kfewB l=true):l.length<=60/\∀ (k:Nat) (hk:k<l.length),(l[k].2.1.2.1.length<=60/\∀ q ∈ l[k].2.1.2.1,q.1.2.1.length<=500/\q.2.1.2.1.length<=500)/\l[k].2.2.1.2.1.length<=1000/\l[k].2.2.2.1.2.1.length<=1000:=by
 unfold kfewB at h
 rw [Bool.and_eq_true,decide_eq_true_eq,List.all_eq_true] at h
 refine ⟨h.1,fun k hk=> ?_⟩
 have h2:=h.2 _ (List.getElem_mem hk)
 unfold kfewOne at h2
 rw [Bool.and_eq_true,Bool.and_eq_true,decide_eq_true_eq,decide_eq_true_eq] at h2
 exact ⟨pfewB_true h2.1.1,h2.1.2,h2.2⟩
set_option maxRecDepth 100000 in
set_option maxHeartbeats 1000000 in
theorem kfew_any (A:Option Addr) (l:List KOp) (n c:Nat) (w:World) (hn:l.length=n) (hs:KsSeen w A l):
 Calls Tryz.prog 10 #[.slice A n c] w fun e w'=>e= .returned (.bool (kfewB l))/\w=w':=by
 have HS:=Lib.hid hs
 have HN:=Lib.hid hn
 obtain ⟨v,hv⟩:∃ v,v=kfewB l:=⟨_,rfl⟩
 rw [<-hv]
 by_cases h60:60<n
 · have HV:Hid (false=v):=by show _=_;rw [hv,kfewB,decide_eq_false (by omega)];rfl
   clear hs hn hv
   go_enter Tryz.func10,Tryz.ntmps10
   go_wp2_with fail
   go_ret
   exact ⟨ret_bool HV.out,rfl⟩
 · have HV:Hid (l.all kfewOne=v):=by show _=_;rw [hv,kfewB,decide_eq_true (by omega)];rfl
   clear hs hn hv
   go_enter Tryz.func10,Tryz.ntmps10
   go_wp2_with fail
   go_loopg [3] n (fun kx s wr=>∃ k:Nat,k+kx=n/\s= .int .i64 (k:Int)/\w=wr/\Hid ((l.drop k).all kfewOne=v))
   case atStart=>exact ⟨0,by omega,rfl,rfl,HV.out⟩
   case round=>
    obtain ⟨k,hk,rfl,rfl,hall⟩:=hrel
    have HK:=Lib.hid hk
    clear hk
    by_cases hlt:k<n
    · have hkl:(k:Int)<(n:Int):=by omega
      have hkn:k<l.length:=by have:=HN.out;omega
      obtain ⟨b,off,rfl,hok,hc⟩:=HS.out.at_ k hkn
      obtain ⟨z1,o1,o2,o3,z2,z3⟩:=hc w (Below.refl _ _)
      have hdr:(l.drop k).all kfewOne=(kfewOne l[k]&&(l.drop (k+1)).all kfewOne):=by rw [List.drop_eq_getElem_cons hkn,List.all_cons]
      obtain ⟨q,hq⟩:∃ q,q=l[k]:=⟨_,rfl⟩
      rw [<-hq] at o1 o2 o3 hok hdr
      obtain ⟨kd,⟨B,ps,cp⟩,⟨C,y,cy⟩,⟨D,x,cx⟩,rest⟩:=q
      obtain ⟨m,hm⟩:∃ m,ps.length=m:=⟨_,rfl⟩
      obtain ⟨ny,hny⟩:∃ ny,y.length=ny:=⟨_,rfl⟩
      obtain ⟨nx,hnx⟩:∃ nx,x.length=nx:=⟨_,rfl⟩
      have hps':PutsSeen w B ps:=hok.2.1.1
      have hl':ps.length<=9223372036854775807:=hok.2.1.2.2
      have hy9:y.length<=9223372036854775807:=hok.2.2.1.2.2
      have hx9:x.length<=9223372036854775807:=hok.2.2.2.1.2
      have HF:=Lib.hid (pfew_any B ps m cp w hm (by omega) hps')
      have p1:w.cell? ⟨b,off+k*6+1,none⟩=some (.slice B m cp):=by rw [<-hm];exact o1
      have p2:w.cell? ⟨b,off+k*6+2,none⟩=some (.slice C ny cy):=by rw [<-hny];exact o2
      have p3:w.cell? ⟨b,off+k*6+3,none⟩=some (.slice D nx cx):=by rw [<-hnx];exact o3
      have HDR:Hid ((l.drop k).all kfewOne=(pfewB ps&&decide (ny<=1000)&&decide (nx<=1000)&&(l.drop (k+1)).all kfewOne)):=by
       show _=_
       rw [hdr,<-hny,<-hnx];rfl
      rw [hny] at hy9
      rw [hnx] at hx9
      obtain ⟨u,hu⟩:∃ u,u=pfewB ps:=⟨_,rfl⟩
      rw [<-hu] at HF HDR
      have hwi:IntKind.i64.wrap ((k:Int)+1)=((k+1:Nat):Int):=by rw [IntKind.wrap_i64];omega
      clear z1 z2 z3 hok hc hdr hq hm hps' hl' o1 o2 o3 hu hkn hny hnx
      go_wp2_with fail
      with_reducible refine HF.out.mono ?_
      rintro e w1 ⟨rfl,rfl⟩
      cases u
      · have HV2:Hid (false=v):=by show _=_;rw [<-hall.out,HDR.out];rfl
        clear hall
        go_wp2_with fail
        go_ret
        exact ⟨ret_bool HV2.out,rfl⟩
      · by_cases hy:1000<ny
        · have HV2:Hid (false=v):=by show _=_;rw [<-hall.out,HDR.out,decide_eq_false (p:=ny<=1000) (by omega)];rfl
          clear hall
          go_wp2_with fail
          go_ret
          exact ⟨ret_bool HV2.out,rfl⟩
        · by_cases hx:1000<nx
          · have HV2:Hid (false=v):=by show _=_;rw [<-hall.out,HDR.out,decide_eq_false (p:=nx<=1000) (by omega),Bool.and_false];rfl
            clear hall
            go_wp2_with fail
            go_ret
            exact ⟨ret_bool HV2.out,rfl⟩
          · have HV2:Hid ((l.drop (k+1)).all kfewOne=v):=by show _=_;rw [<-hall.out,HDR.out,decide_eq_true (p:=ny<=1000) (by omega),decide_eq_true (p:=nx<=1000) (by omega)];rfl
            clear hall
            go_wp2_with fail
            go_roundg (n-(k+1))
            case measure=>have:=HK.out;omega
            case rel=>exact ⟨k+1,by have:=HK.out;omega,rfl,rfl,HV2⟩
    · obtain rfl:k=n:=by have:=HK.out;omega
      have hkl: ¬ (k:Int)<(k:Int):=by omega
      have HF:Hid (true=v):=by
       show _=_
       rw [<-hall.out,List.drop_of_length_le (by have:=HN.out;omega)];rfl
      clear hall
      go_wp2_with fail
      go_ret
      exact ⟨ret_bool HF.out,rfl⟩
def Dsk.view (s:Dsk):List (List UInt8):=kept (fun _=>true) s.M s.K s.M.length
theorem view_length (s:Dsk):s.view.length=s.K.length:=kept_length _ _ _ _
theorem view_len {s:Dsk} (h:s.Ok):∀ r ∈ s.view,r.length=64:=kept_len h.mem h.len _
theorem view_calm {s:Dsk} (h:s.M=[]):s.view=s.K:=by unfold Dsk.view;rw [h];rfl
theorem kept_untouched {pick:Nat->Bool} {M:List (Nat × List UInt8)} {K:List (List UInt8)} {i:Nat}:∀ n,n<=M.length->(∀ j (hj:j<M.length),j<n->M[j].1≠i)->(kept pick M K n)[i]? =K[i]?
 | 0,_,_=>rfl
 | n+1,hn,h=>by
  have ih:=kept_untouched (pick:=pick) (K:=K) n (by omega) (fun j hj hlt=>h j hj (by omega))
  rw [kept_step (by omega)]
  split
  · rw [List.getElem?_set_ne (h n (by omega) (by omega))];exact ih
  · exact ih
theorem last_view {s:Dsk} (ok:s.Ok) {i:Nat} {x:List UInt8} (h:s.Last i x):s.view[i]? =some x:=by
 rcases h with ⟨k,hk,h1,h2,h3⟩ | ⟨h1,h2⟩
 · have key:∀ n,k<n->n<=s.M.length->(kept (fun _=>true) s.M s.K n)[i]? =some x:=by
    intro n
    induction n with
    | zero=>intro h;omega
    | succ n ih=>
     intro hkn hn
     rw [kept_step (by omega),if_pos rfl]
     by_cases e:k=n
     · subst e
       rw [h1,h2]
       exact List.getElem?_set_self (by rw [kept_length,<-h1];exact ok.num _ (List.getElem_mem hk))
     · rw [List.getElem?_set_ne (h3 n (by omega) (by omega))]
       exact ih (by omega) (by omega)
   exact key _ hk (Nat.le_refl _)
 · rw [<-h2];exact kept_untouched _ (Nat.le_refl _) (fun j hj _=>h1 j hj)
def Dsk.bytes (s:Dsk) (f n:Nat):List UInt8:=((s.view.drop f).take n).flatten
namespace Dsk
def pw (s:Dsk) (i:Nat) (r:List UInt8):Dsk:=if s.off then s else s.write i r
def puts:Dsk->Nat->List (List UInt8)->Dsk
 | s,_,[]=>s
 | s,i,r::R=>puts (s.pw i r) (i+1) R
def putAll (s:Dsk) (i:Nat) (R:List (List UInt8)):Dsk:=if R=[] then s else (s.puts i R).sput
def putErr (s:Dsk) (i:Nat) (R:List (List UInt8)):Int:=if R=[] then 0 else if (s.puts i R).off then 5 else 0
theorem pw_off {s:Dsk} (h:s.off=true) (i:Nat) (r:List UInt8):s.pw i r=s:=if_pos h
theorem puts_off:∀ (R:List (List UInt8)) (s:Dsk) (i:Nat),s.off=true->s.puts i R=s
 | [],_,_,_=>rfl
 | r::R,s,i,h=>by rw [puts,pw_off h];exact puts_off R s (i+1) h
theorem puts_append:∀ (R S:List (List UInt8)) (s:Dsk) (i:Nat),s.puts i (R++S)=(s.puts i R).puts (i+R.length) S
 | [],_,_,_=>rfl
 | r::R,S,s,i=>by
  rw [List.cons_append,puts,puts,puts_append R S,List.length_cons,Nat.add_assoc,Nat.add_comm 1]
theorem puts_step {s:Dsk} {i:Nat} {R:List (List UInt8)} {k:Nat} (h:k<R.length):s.puts i (R.take (k+1))=(s.puts i (R.take k)).pw (i+k) R[k]:=by
 rw [List.take_succ_eq_append_getElem h,puts_append,List.length_take,Nat.min_eq_left (by omega)]
 rfl
theorem puts_stop {s:Dsk} {i:Nat} {R:List (List UInt8)} {k:Nat} (h:(s.puts i (R.take k)).off=true):s.puts i R=s.puts i (R.take k):=by
 have e:=puts_append (R.take k) (R.drop k) s i
 rw [List.take_append_drop] at e
 rw [e]
 exact puts_off _ _ _ h
theorem pw_K (s:Dsk) (i:Nat) (r:List UInt8):(s.pw i r).K=s.K:=by unfold pw;split<;>rfl
theorem puts_K:∀ (R:List (List UInt8)) (s:Dsk) (i:Nat),(s.puts i R).K=s.K
 | [],_,_=>rfl
 | r::R,s,i=>by rw [puts,puts_K R];exact pw_K s i r
theorem Ok.pw {s:Dsk} (h:s.Ok) {i:Nat} {r:List UInt8} (hi:i<s.K.length) (hr:r.length=64):(s.pw i r).Ok:=by
 unfold Dsk.pw
 split
 · exact h
 · exact h.write hi hr
theorem Ok.puts:∀ {R:List (List UInt8)} {s:Dsk} {i:Nat},s.Ok->i+R.length<=s.K.length->(∀ r ∈ R,r.length=64)->(s.puts i R).Ok
 | [],_,_,h,_,_=>h
 | r::R,s,i,h,hi,hr=>by
  rw [List.length_cons] at hi
  rw [Dsk.puts]
  exact Ok.puts (h.pw (by omega) (hr r (by simp))) (by rw [pw_K];omega) (fun x hx=>hr x (by simp [hx]))
theorem Ok.sput {s:Dsk} (h:s.Ok):s.sput.Ok:=by
 unfold Dsk.sput
 split
 · exact h
 · exact h.sync
theorem Ok.putAll {s:Dsk} (h:s.Ok) {i:Nat} {R:List (List UInt8)} (hi:i+R.length<=s.K.length) (hr:∀ r ∈ R,r.length=64):(s.putAll i R).Ok:=by
 unfold Dsk.putAll
 split
 · exact h
 · exact (h.puts hi hr).sput
theorem klen_putAll (s:Dsk) (i:Nat) (R:List (List UInt8)):(s.putAll i R).K.length=s.K.length:=by
 unfold putAll
 split
 · rfl
 · rw [klen_sput,puts_K]
theorem Few.pw {s:Dsk} {n:Nat} (h:s.Few n) (i:Nat) (r:List UInt8):(s.pw i r).Few (n+1):=by
 unfold Dsk.pw
 split
 · exact h.mono (Nat.le_succ n)
 · refine ⟨Nat.succ_le_succ h.1,?_,?_⟩
   · show (s.M++[_]).length<=_;rw [List.length_append];exact Nat.succ_le_succ h.2.1
   · show s.left-1<_;have:=h.2.2;omega
theorem Few.puts:∀ {R:List (List UInt8)} {s:Dsk} {i n:Nat},s.Few n->(s.puts i R).Few (n+R.length)
 | [],_,_,_,h=>h
 | r::R,s,i,n,h=>by
  rw [Dsk.puts,List.length_cons]
  have:=(h.pw i r).puts (R:=R) (i:=i+1)
  rwa [show n+1+R.length=n+(R.length+1) by omega] at this
theorem Few.putAll {s:Dsk} {n:Nat} (h:s.Few n) (i:Nat) (R:List (List UInt8)):(s.putAll i R).Few (n+R.length+1):=by
 unfold Dsk.putAll
 split
 · exact h.mono (by omega)
 · exact h.puts.sput
theorem wput_pw {s:Dsk} {i:Nat} {l:List UInt8} (h:i<s.K.length) (hl:l.length=64):s.wput (i:Int) l=s.pw i l/\s.werr (i:Int) 64=(if s.off then 5 else 0):=by
 have e:s.werr (i:Int) 64=(if s.off then 5 else 0):=by unfold werr;rw [if_pos ⟨⟨by omega,by omega⟩,rfl⟩]
 refine ⟨?_,e⟩
 unfold wput pw
 rw [hl,e]
 cases s.off
 · rfl
 · rfl
def Quiet (s:Dsk):Prop:=s.off=false/\s.left=0
theorem Quiet.pw {s:Dsk} (h:s.Quiet) (i:Nat) (r:List UInt8):(s.pw i r).Quiet:=by
 unfold Dsk.pw
 rw [h.1]
 refine ⟨?_,?_⟩
 · show (if 0<s.left then _ else s.off)=false
   rw [h.2];exact h.1
 · show s.left-1=0
   rw [h.2]
theorem Quiet.puts:∀ {R:List (List UInt8)} {s:Dsk} {i:Nat},s.Quiet->(s.puts i R).Quiet
 | [],_,_,h=>h
 | r::R,s,i,h=>by rw [Dsk.puts];exact (h.pw i r).puts
theorem Quiet.sput {s:Dsk} (h:s.Quiet):s.sput.Quiet:=by
 unfold Dsk.sput
 rw [h.1]
 refine ⟨?_,?_⟩
 · show (if 0<s.left then _ else s.off)=false
   rw [h.2];exact h.1
 · show s.left-1=0
   rw [h.2]
theorem Quiet.putAll {s:Dsk} (h:s.Quiet) (i:Nat) (R:List (List UInt8)):(s.putAll i R).Quiet:=by
 unfold Dsk.putAll
 split
 · exact h
 · exact h.puts.sput
theorem calls_pw (s:Dsk) (i:Nat) (r:List UInt8):s.calls<=(s.pw i r).calls:=by
 unfold Dsk.pw
 split
 · exact Nat.le_refl _
 · exact Nat.le_succ _
theorem calls_puts:∀ (R:List (List UInt8)) (s:Dsk) (i:Nat),s.calls<=(s.puts i R).calls
 | [],_,_=>Nat.le_refl _
 | r::R,s,i=>by rw [Dsk.puts];exact Nat.le_trans (calls_pw s i r) (calls_puts R _ _)
theorem calls_sput (s:Dsk):s.calls<=s.sput.calls/\(s.off=false->s.calls<s.sput.calls):=by
 unfold Dsk.sput
 cases h:s.off
 · exact ⟨Nat.le_succ _,fun _=>Nat.lt_succ_self _⟩
 · exact ⟨Nat.le_refl _,fun h=>by cases h⟩
theorem calls_putAll (s:Dsk) (i:Nat) (R:List (List UInt8)):s.calls<=(s.putAll i R).calls:=by
 unfold Dsk.putAll
 split
 · exact Nat.le_refl _
 · exact Nat.le_trans (calls_puts R s i) (calls_sput _).1
end Dsk
def rowsM:Nat->List (List UInt8)->List (Nat × List UInt8)
 | _,[]=>[]
 | i,r::R=>(i,r)::rowsM (i+1) R
theorem rowsM_le:∀ (R:List (List UInt8)) (i:Nat),∀ p ∈ rowsM i R,i<=p.1
 | [],_,p,hp=>by cases hp
 | r::R,i,p,hp=>by
  rcases List.mem_cons.1 hp with rfl | hp
  · exact Nat.le_refl _
  · exact Nat.le_of_succ_le (rowsM_le R (i+1) p hp)
theorem puts_M:∀ (R:List (List UInt8)) (s:Dsk) (i:Nat),∃ n,n<=R.length/\(s.puts i R).M=s.M++rowsM i (R.take n)/\((s.puts i R).off=false->n=R.length)
 | [],s,i=>⟨0,Nat.le_refl _,by simp [Dsk.puts,rowsM],fun _=>rfl⟩
 | r::R,s,i=>by
  by_cases ho:s.off=true
  · rw [Dsk.puts_off _ _ _ ho]
    exact ⟨0,Nat.zero_le _,by simp [rowsM],fun h=>by rw [ho] at h;cases h⟩
  · have e:s.pw i r=s.write i r:=if_neg ho
    obtain ⟨n,h1,h2,h3⟩:=puts_M R (s.write i r) (i+1)
    rw [Dsk.puts,e]
    refine ⟨n+1,Nat.succ_le_succ h1,?_,fun h=>by rw [h3 h];rfl⟩
    rw [h2,List.take_succ_cons,rowsM]
    show (s.M++[(i,r)])++_=_
    rw [List.append_assoc];rfl
theorem kept_cons {p:Nat × List UInt8} {M:List (Nat × List UInt8)} {K:List (List UInt8)}:∀ n,kept (fun _=>true) (p::M) K (n+1)=kept (fun _=>true) M (K.set p.1 p.2) n
 | 0=>rfl
 | n+1=>by
  have ih:=kept_cons (p:=p) (M:=M) (K:=K) n
  rw [kept,ih]
  simp only [List.getElem?_cons_succ]
  rfl
theorem kept_rows:∀ (R:List (List UInt8)) (i:Nat) (K:List (List UInt8)),i+R.length<=K.length->kept (fun _=>true) (rowsM i R) K (rowsM i R).length=splice K i R
 | [],i,K,_=>by simp [rowsM,kept,splice]
 | r::R,i,K,h=>by
  rw [List.length_cons] at h
  rw [rowsM,List.length_cons,kept_cons,kept_rows R (i+1) _ (by rw [List.length_set];omega)]
  exact splice_one K i r R h
theorem splice_nil {α:Type} (K:List α) (i:Nat):splice K i []=K:=by simp [splice]
theorem splice_length' {α:Type} (K:List α) (i:Nat) (R:List α) (h:i+R.length<=K.length):(splice K i R).length=K.length:=by
 unfold splice
 simp only [List.length_append,List.length_take,List.length_drop]
 omega
theorem splice_two {α:Type} (K:List α) (i:Nat) (r:α) (R:List α) (h:i+1+R.length<=K.length):splice (splice K (i+1) R) i [r]=splice K i (r::R):=by
 unfold splice
 have l1:(K.take (i+1)).length=i+1:=by rw [List.length_take];omega
 have e1:(K.take (i+1)++(R++K.drop (i+1+R.length))).take i=K.take i:=by
  rw [List.take_append_of_le_length (by omega),List.take_take,Nat.min_eq_left (by omega)]
 have e2:(K.take (i+1)++(R++K.drop (i+1+R.length))).drop (i+[r].length)=R++K.drop (i+1+R.length):=
  List.drop_left' l1
 rw [e1,e2,List.length_cons]
 simp only [List.cons_append,List.nil_append]
 rw [show i+(R.length+1)=i+1+R.length by omega]
namespace Dsk
theorem putAll_done {s:Dsk} {i:Nat} {R:List (List UInt8)} (hM:s.M=[]) (hi:i+R.length<=s.K.length) (he:s.putErr i R=0):(s.putAll i R).M=[]/\(s.putAll i R).K=splice s.K i R:=by
 unfold putErr at he
 unfold putAll
 by_cases hR:R=[]
 · subst hR;rw [if_pos rfl];exact ⟨hM,(splice_nil _ _).symm⟩
 · rw [if_neg hR] at he ⊢
   obtain ⟨n,h1,h2,h3⟩:=puts_M R s i
   have hoff:(s.puts i R).off=false:=by cases h:(s.puts i R).off<;>simp_all
   rw [h3 hoff,List.take_length,hM,List.nil_append] at h2
   have hs:(s.puts i R).sput=(s.puts i R).sync:=by unfold sput;rw [hoff];rfl
   rw [hs]
   refine ⟨rfl,?_⟩
   show kept _ (s.puts i R).M (s.puts i R).K (s.puts i R).M.length=_
   rw [h2,puts_K]
   exact kept_rows R i s.K hi
theorem putAll_not {s:Dsk} {i:Nat} {R:List (List UInt8)} (hM:s.M=[]) (he:s.putErr i R≠0):s.putErr i R=5/\(s.putAll i R).off=true/\(s.putAll i R).K=s.K/\∃ n,n<=R.length/\(s.putAll i R).M=rowsM i (R.take n):=by
 unfold putErr at he ⊢
 unfold putAll
 by_cases hR:R=[]
 · rw [if_pos hR] at he;exact absurd rfl he
 · rw [if_neg hR] at he ⊢
   rw [if_neg hR]
   obtain ⟨n,h1,h2,h3⟩:=puts_M R s i
   have hoff:(s.puts i R).off=true:=by cases h:(s.puts i R).off<;>simp_all
   rw [hM,List.nil_append] at h2
   have hs:(s.puts i R).sput=s.puts i R:=if_pos hoff
   rw [hs]
   exact ⟨if_pos hoff,hoff,puts_K R s i,n,h1,h2⟩
end Dsk
def rowsOf (b:List UInt8):List (List UInt8):=(List.range (b.length/64)).map (chunk b)
theorem rowsOf_length (b:List UInt8):(rowsOf b).length=b.length/64:=by simp [rowsOf]
theorem rowsOf_len (b:List UInt8):∀ r ∈ rowsOf b,r.length=64:=fun r hr=>by
 obtain ⟨k,hk,rfl⟩:=List.mem_map.1 hr
 have:=List.mem_range.1 hk
 unfold chunk
 rw [List.length_take,List.length_drop]
 omega
theorem rowsOf_get {b:List UInt8} {k:Nat} (h:k<(rowsOf b).length):(rowsOf b)[k]=chunk b k:=by simp [rowsOf]
theorem rowsOf_flat {b:List UInt8} {n:Nat} (h:b.length=n*64):(rowsOf b).flatten=b:=
 chunks_flat n b (rowsOf b) h (by rw [rowsOf_length];omega) (fun i hi=>by
  rw [List.getElem?_eq_getElem (by rw [rowsOf_length];omega),rowsOf_get])
theorem rowsOf_cons {b:List UInt8} {n:Nat} (h:b.length=(n+1)*64):rowsOf b=b.take 64::rowsOf (b.drop 64):=by
 unfold rowsOf
 rw [show b.length/64=n+1 by omega,List.range_succ_eq_map,List.map_cons,List.map_map,List.length_drop,show (b.length-64)/64=n by omega]
 congr 1
 apply List.map_congr_left
 intro k _
 show chunk b (k+1)=chunk (b.drop 64) k
 unfold chunk
 rw [List.drop_drop,show (k+1)*64=64+k*64 by omega]
theorem rowsOf_one {b:List UInt8} (h:b.length=64):rowsOf b=[b]:=by
 have e:=rowsOf_cons (n:=0) (b:=b) (by omega)
 rw [e,List.take_of_length_le (by omega)]
 have:b.drop 64=[]:=List.drop_eq_nil_of_le (by omega)
 rw [this];rfl
namespace Dsk
def lay (s:Dsk) (b:List UInt8) (i:Nat):Dsk:=(s.putAll (i+1) (rowsOf (b.drop 64))).putAll i (rowsOf (b.take 64))
def layErr (s:Dsk) (b:List UInt8) (i:Nat):Int:=(s.putAll (i+1) (rowsOf (b.drop 64))).putErr i (rowsOf (b.take 64))
theorem lay_off {s:Dsk} {b:List UInt8} {i n:Nat} (h:s.off=true) (hb:b.length=(n+1)*64):s.lay b i=s/\s.layErr b i=5:=by
 have h1:∀ (s:Dsk) (R:List (List UInt8)) (i:Nat),s.off=true->s.putAll i R=s:=fun s R i h=>by
  unfold putAll
  split
  · rfl
  · rw [puts_off R s i h];exact if_pos h
 unfold lay layErr
 rw [h1 s _ _ h,h1 s _ _ h]
 refine ⟨rfl,?_⟩
 unfold putErr
 rw [rowsOf_one (by rw [List.length_take];omega),if_neg (by simp),puts_off _ _ _ h,if_pos h]
theorem lay_first {s:Dsk} {b:List UInt8} {i n:Nat} (hb:b.length=(n+1)*64) (h:s.putErr (i+1) (rowsOf (b.drop 64))≠0):
 s.putErr (i+1) (rowsOf (b.drop 64))=5/\s.lay b i=s.putAll (i+1) (rowsOf (b.drop 64))/\s.layErr b i=5:=by
 have h5:s.putErr (i+1) (rowsOf (b.drop 64))=5/\(s.putAll (i+1) (rowsOf (b.drop 64))).off=true:=by
  unfold putErr at h ⊢
  unfold putAll
  by_cases hR:rowsOf (b.drop 64)=[]
  · rw [if_pos hR] at h;exact absurd rfl h
  · rw [if_neg hR] at h ⊢
    rw [if_neg hR]
    have hoff:(s.puts (i+1) (rowsOf (b.drop 64))).off=true:=by cases h:(s.puts (i+1) (rowsOf (b.drop 64))).off<;>simp_all
    refine ⟨if_pos hoff,?_⟩
    unfold sput
    rw [if_pos hoff];exact hoff
 refine ⟨h5.1,?_⟩
 have h1:∀ (s:Dsk) (R:List (List UInt8)) (i:Nat),s.off=true->s.putAll i R=s:=fun s R i h=>by
  unfold putAll
  split
  · rfl
  · rw [puts_off R s i h];exact if_pos h
 refine ⟨h1 _ _ _ h5.2,?_⟩
 unfold layErr putErr
 rw [rowsOf_one (by rw [List.length_take];omega),if_neg (by simp),puts_off _ _ _ h5.2,if_pos h5.2]
theorem lay_done {s:Dsk} {b:List UInt8} {i n:Nat} (hM:s.M=[]) (hb:b.length=(n+1)*64) (hi:i+(n+1)<=s.K.length) (he:s.layErr b i=0):(s.lay b i).M=[]/\(s.lay b i).K=splice s.K i (rowsOf b):=by
 have hr:(rowsOf (b.drop 64)).length=n:=by rw [rowsOf_length,List.length_drop];omega
 have h0:s.putErr (i+1) (rowsOf (b.drop 64))=0:=by
  by_cases h:s.putErr (i+1) (rowsOf (b.drop 64))=0
  · exact h
  · have:=(lay_first hb h).2.2;omega
 obtain ⟨m1,k1⟩:=putAll_done hM (by rw [hr];omega) h0
 have e1:=rowsOf_one (b:=b.take 64) (by rw [List.length_take];omega)
 unfold layErr at he
 obtain ⟨m2,k2⟩:=putAll_done m1 (by rw [e1,klen_putAll];simp;omega) he
 refine ⟨m2,?_⟩
 unfold lay
 rw [k2,k1,e1,rowsOf_cons hb]
 exact splice_two s.K i _ _ (by rw [hr];omega)
theorem lay_not {s:Dsk} {b:List UInt8} {i n:Nat} (hM:s.M=[]) (hb:b.length=(n+1)*64) (hi:i+(n+1)<=s.K.length) (he:s.layErr b i≠0):
 s.layErr b i=5/\(s.lay b i).off=true/\∀ pick,((s.lay b i).crash pick).K=splice s.K i (rowsOf b)\/(((s.lay b i).crash pick).K.length=s.K.length/\((s.lay b i).crash pick).K.take (i+1)=s.K.take (i+1)):=by
 have hr:(rowsOf (b.drop 64)).length=n:=by rw [rowsOf_length,List.length_drop];omega
 have same:∀ (t:Dsk) (pick:Nat->Bool),t.K=s.K->(∀ p ∈ t.M,i+1<=p.1)->(t.crash pick).K.length=s.K.length/\(t.crash pick).K.take (i+1)=s.K.take (i+1):=fun t pick hK hm=>by
  have hl:(t.crash pick).K.length=s.K.length:=by show (kept _ _ _ _).length=_;rw [kept_length,hK]
  refine ⟨hl,List.ext_getElem? fun j=> ?_⟩
  by_cases hj:j<i+1
  · rw [List.getElem?_take_of_lt hj,List.getElem?_take_of_lt hj]
    show (kept _ t.M t.K t.M.length)[j]? =_
    rw [kept_untouched _ (Nat.le_refl _) (fun q hq _=>by have:=hm _ (List.getElem_mem hq);omega),hK]
  · rw [List.getElem?_eq_none (by rw [List.length_take];omega),List.getElem?_eq_none (by rw [List.length_take];omega)]
 by_cases h0:s.putErr (i+1) (rowsOf (b.drop 64))=0
 · obtain ⟨m1,k1⟩:=putAll_done hM (by rw [hr];omega) h0
   have e1:=rowsOf_one (b:=b.take 64) (by rw [List.length_take];omega)
   unfold layErr at he ⊢
   unfold lay
   generalize s.putAll (i+1) (rowsOf (b.drop 64))=s1 at *
   obtain ⟨h5,hoff,hK,q,hq,hm⟩:=putAll_not m1 he
   refine ⟨h5,hoff,fun pick=> ?_⟩
   rw [e1] at hm hK ⊢
   have htk:s1.K.take (i+1)=s.K.take (i+1):=by
    rw [k1];unfold splice
    try simp only [List.append_assoc]
    rw [List.take_append_of_le_length (by rw [List.length_take];omega),List.take_take,Nat.min_self]
   have hlen:s1.K.length=s.K.length:=by rw [k1];exact splice_length' _ _ _ (by rw [hr];omega)
   rw [e1] at hq
   simp only [List.length_cons,List.length_nil] at hq
   rcases Nat.eq_zero_or_pos q with hq0 | hq0
   · right
     subst hq0
     have:((s1.putAll i [b.take 64]).crash pick).K=s1.K:=by
      show kept _ (s1.putAll i [b.take 64]).M (s1.putAll i [b.take 64]).K (s1.putAll i [b.take 64]).M.length=_
      rw [hm,hK];rfl
     rw [this];exact ⟨hlen,htk⟩
   · obtain rfl:q=1:=by omega
     have:((s1.putAll i [b.take 64]).crash pick).K=if pick 0 then s1.K.set i (b.take 64) else s1.K:=by
      show kept _ (s1.putAll i [b.take 64]).M (s1.putAll i [b.take 64]).K (s1.putAll i [b.take 64]).M.length=_
      rw [hm,hK]
      show kept pick [(i,b.take 64)] s1.K 1=_
      rfl
     rw [this]
     cases pick 0
     · right;exact ⟨hlen,htk⟩
     · left
       show s1.K.set i (b.take 64)=_
       rw [rowsOf_cons hb,<-splice_two s.K i _ _ (by rw [hr];omega),<-k1]
       have:=splice_one s1.K i (b.take 64) [] (by simp;omega)
       rw [<-this,splice_nil]
 · obtain ⟨h5,e,e5⟩:=lay_first hb h0
   obtain ⟨_,hoff,hK,q,hq,hm⟩:=putAll_not hM h0
   rw [e,e5]
   refine ⟨rfl,hoff,fun pick=> .inr (same _ pick hK (fun p hp=> ?_))⟩
   rw [hm] at hp
   exact rowsM_le _ _ p hp
theorem Ok.lay {s:Dsk} {b:List UInt8} {i n:Nat} (h:s.Ok) (hb:b.length=(n+1)*64) (hi:i+(n+1)<=s.K.length):(s.lay b i).Ok:=by
 have hr:(rowsOf (b.drop 64)).length=n:=by rw [rowsOf_length,List.length_drop];omega
 have hr1:(rowsOf (b.take 64)).length=1:=by rw [rowsOf_length,List.length_take];omega
 exact (h.putAll (by rw [hr];omega) (rowsOf_len _)).putAll (by rw [hr1,klen_putAll];omega) (rowsOf_len _)
theorem klen_lay (s:Dsk) (b:List UInt8) (i:Nat):(s.lay b i).K.length=s.K.length:=by unfold lay;rw [klen_putAll,klen_putAll]
theorem Few.lay {s:Dsk} {b:List UInt8} {i n m:Nat} (h:s.Few m) (hb:b.length=(n+1)*64):(s.lay b i).Few (m+n+3):=by
 have hr:(rowsOf (b.drop 64)).length=n:=by rw [rowsOf_length,List.length_drop];omega
 have hr1:(rowsOf (b.take 64)).length=1:=by rw [rowsOf_length,List.length_take];omega
 have:=(h.putAll (i+1) (rowsOf (b.drop 64))).putAll i (rowsOf (b.take 64))
 rw [hr,hr1] at this
 exact this.mono (by omega)
theorem Quiet.lay {s:Dsk} (h:s.Quiet) {b:List UInt8} {i n:Nat} (hb:b.length=(n+1)*64):(s.lay b i).Quiet/\s.layErr b i=0/\s.calls<(s.lay b i).calls:=by
 have q1:=h.putAll (i+1) (rowsOf (b.drop 64))
 have q2:((s.putAll (i+1) (rowsOf (b.drop 64))).puts i (rowsOf (b.take 64))).Quiet:=q1.puts
 have e1:=rowsOf_one (b:=b.take 64) (by rw [List.length_take];omega)
 refine ⟨q1.putAll _ _,?_,?_⟩
 · unfold Dsk.layErr Dsk.putErr
   rw [q2.1]
   simp
 · unfold Dsk.lay
   have h1:=calls_putAll s (i+1) (rowsOf (b.drop 64))
   generalize s.putAll (i+1) (rowsOf (b.drop 64))=s1 at *
   have h2:=calls_puts (rowsOf (b.take 64)) s1 i
   have h3:=(calls_sput (s1.puts i (rowsOf (b.take 64)))).2 q2.1
   have e:s1.putAll i (rowsOf (b.take 64))=(s1.puts i (rowsOf (b.take 64))).sput:=if_neg (by rw [e1];simp)
   rw [e]
   omega
end Dsk
end Go.Proofs.YtdaahapbpnjkfaaGreat
