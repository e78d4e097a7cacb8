/-
Plain mathematics of layer 9: an area of a disk that holds a log; what Append and Begin make of it, with and without a crash, and that the rest of the disk stays. No program is run here. No conditions.
-/
import Derived.Test.YtdaahapbpnjkfaaGreatCLgWrite
import Derived.Test.YtdaahapbpnjkfaaGreatCKvRows
namespace Go.Proofs.YtdaahapbpnjkfaaGreat
open Go.RowKit
def lgCells (g:Nat) (l:Lg):List Value:=[.pointer (some ⟨g,0,none⟩),.int .i64 (l.f:Int),.int .i64 (l.blocks:Int),.int .i64 l.gen,.int .i64 (l.seq:Int),.int .i64 (l.fin:Int),.bool l.down]
theorem lg_cells {w:World} {b g:Nat} {l:Lg} {t:TypeId} (h:Blk w b (lgCells g l) t):w.cell? ⟨b,0,none⟩=some (.pointer (some ⟨g,0,none⟩))/\w.cell? ⟨b,1,none⟩=some (.int .i64 (l.f:Int))/\w.cell? ⟨b,2,none⟩=some (.int .i64 (l.blocks:Int))/\
 w.cell? ⟨b,3,none⟩=some (.int .i64 l.gen)/\w.cell? ⟨b,4,none⟩=some (.int .i64 (l.seq:Int))/\w.cell? ⟨b,5,none⟩=some (.int .i64 (l.fin:Int))/\w.cell? ⟨b,6,none⟩=some (.bool l.down):=
 ⟨h.cell (i:=0) (by simp [lgCells]),h.cell (i:=1) (by simp [lgCells]),h.cell (i:=2) (by simp [lgCells]),h.cell (i:=3) (by simp [lgCells]),h.cell (i:=4) (by simp [lgCells]),h.cell (i:=5) (by simp [lgCells]),h.cell (i:=6) (by simp [lgCells])⟩
def LMoved (w:World) (g b:Nat) (F:Nat->Prop) (s:Dsk) (l:Lg) (w':World):Prop:=
 ∃ F',DiskAt w' g F' s/\Blk w' b (lgCells g l) 145/\ ¬ F' b/\Spared w w' (fun k=>F k\/k=b)/\∀ k,F' k->F k\/w.heap.size<=k
structure LogOn (w:World) (g b:Nat) (F:Nat->Prop) (s:Dsk) (l:Lg):Prop where
 disk:DiskAt w g F s
 blk:Blk w b (lgCells g l) 145
 not: ¬ F b
 fits:l.Fits s
section
variable {w:World} {g b:Nat} {F:Nat->Prop} {s:Dsk} {l:Lg}
theorem LogOn.still {w':World} (h:LogOn w g b F s l) (hb:Below w.heap.size w w'):LogOn w' g b F s l:=⟨h.disk.still hb,h.blk.below hb h.blk.lt,h.not,h.fits⟩
theorem gen_any (h:Blk w b (lgCells g l) 145):Calls Tryz.prog 67 #[.pointer (some ⟨b,0,none⟩)] w fun e w'=>e= .returned (.int .i64 l.gen)/\w'=w:=by
 obtain ⟨_,_,_,c3,_⟩:=lg_cells h
 clear h
 go_enter Tryz.func67,Tryz.ntmps67
 go_wp2
 go_ret
 exact ⟨rfl,rfl⟩
theorem room_any (h:Blk w b (lgCells g l) 145) (hf:l.fin<=l.blocks*64) (hb:l.blocks<=4096):Calls Tryz.prog 85 #[.pointer (some ⟨b,0,none⟩)] w fun e w'=>e= .returned (.int .i64 (l.room:Int))/\∃ m,w'=w.drewN m:=by
 obtain ⟨_,_,c2,_,_,c5,_⟩:=lg_cells h
 have HR:Hid ((l.room:Int)=(l.blocks:Int)*64-(l.fin:Int)):=by show (l.room:Int)=_;unfold Lg.room;omega
 obtain ⟨r,hr⟩:∃ r:Int,r=(l.room:Int):=⟨_,rfl⟩
 rw [<-hr] at HR ⊢
 clear hr
 have hw1:IntKind.i64.wrap ((l.blocks:Int)*64)=(l.blocks:Int)*64:=by rw [IntKind.wrap_i64];omega
 have hw2:IntKind.i64.wrap ((l.blocks:Int)*64-(l.fin:Int))=(l.blocks:Int)*64-(l.fin:Int):=by rw [IntKind.wrap_i64];omega
 clear h
 go_enter Tryz.func85,Tryz.ntmps85
 go_wp2
 go_quiet (fail)
 go_wp2
 go_ret
 exact ⟨by rw [HR.out];rfl,_,rfl⟩
end
theorem gen_nil (w:World):Calls Tryz.prog 67 #[.pointer none] w fun e w'=>e= .returned (.int .i64 0)/\w'=w:=by
 go_enter Tryz.func67,Tryz.ntmps67
 go_wp2
 go_ret
 exact ⟨rfl,rfl⟩
theorem putErr_cases (s:Dsk) (i:Nat) (R:List (List UInt8)):s.putErr i R=0\/s.putErr i R=5:=by
 unfold Dsk.putErr
 split
 · exact .inl rfl
 · split
   · exact .inr rfl
   · exact .inl rfl
theorem layErr_cases (s:Dsk) (b:List UInt8) (i:Nat):s.layErr b i=0\/s.layErr b i=5:=putErr_cases _ _ _
set_option maxRecDepth 100000 in
set_option maxHeartbeats 2000000 in
theorem append_any (w:World) (g b:Nat) (F:Nat->Prop) (s:Dsk) (l:Lg) (A:Option Addr) (d:List UInt8) (n c q:Nat) (h:LogOn w g b F s l) (ha:Seen w A d) (hn:d.length=n) (hl:n<=9223372036854775807) (hf:s.Few q) (hq:q<=700000):
 Calls Tryz.prog 51 #[.pointer (some ⟨b,0,none⟩),.slice A n c] w fun e w'=>e= .returned (.int .i64 (l.err s d))/\LMoved w g b F (l.dsk s d) (l.next s d) w':=by
 have HSTAY:Hid (∀ w',Below w.heap.size w w'->LMoved w g b F s l w'):=fun w' hb=>⟨F,h.disk.still hb,h.blk.below hb h.blk.lt,h.not,.of_below hb _,fun _ h=> .inl h⟩
 have H:=Lib.hid h
 have hK4:=h.disk.ok.hi
 have hfin:=h.fits.fin
 have hbl:=h.fits.area
 have hsq:=h.fits.seq
 have hg1:=h.fits.gen1
 have hg2:=h.fits.gen2
 obtain ⟨c0,c1,c2,c3,c4,c5,c6⟩:=lg_cells h.blk
 have f4:=h.blk.free 4
 have f5:=h.blk.free 5
 have f6:=h.blk.free 6
 have HA:=Lib.hid ha
 have HN:=Lib.hid hn
 have HF:=Lib.hid hf
 clear h ha hn hf
 by_cases hd:l.down=true
 · have HE:Hid (l.err s d=5/\l.dsk s d=s/\l.next s d=l):=by
    unfold Lg.err Lg.dsk Lg.next
    rw [hd]
    exact ⟨rfl,rfl,rfl⟩
   rw [hd] at c6
   clear hd
   go_enter Tryz.func51,Tryz.ntmps51
   go_wp2
   go_ret
   rw [HE.out.1,HE.out.2.1,HE.out.2.2]
   exact ⟨rfl,HSTAY.out _ (Below.refl _ _)⟩
 have hd':l.down=false:=by cases h:l.down<;>simp_all
 have HD:=Lib.hid hd'
 rw [hd'] at c6
 clear hd hd'
 have HENC:=Lib.hid (encode_any l.gen (l.seq:Int) A d n c w.drew (HA.out.below (Below.refl _ _).drew) HN.out hl (by omega) (by omega) (by omega) (by omega))
 have HCODE:Hid (l.code d=encF l.gen (l.seq:Int) d):=rfl
 rw [<-HCODE.out] at HENC
 have hcf:=l.code_fits d
 go_enter Tryz.func51,Tryz.ntmps51
 go_wp2
 go_still_tail 10,(by kernel_rfl)
 go_wp2_with fail
 refine HENC.out.mono ?_
 rintro e w1 ⟨A1,n1,c1',rfl,hm1⟩
 have HM1:=Lib.hid hm1
 have HB1:Hid (Below w.heap.size w w1):=undrew hm1.2.2
 have H1:=Lib.hid (H.out.still HB1.out)
 obtain ⟨c0,c1,c2,c3,c4,c5,c6⟩:=lg_cells H1.out.blk
 have f4:=H1.out.blk.free 4
 have f5:=H1.out.blk.free 5
 have f6:=H1.out.blk.free 6
 have hn1:n1<=65560:=by rw [<-hm1.1];exact hcf
 have HL1:=Lib.hid hm1.1
 have HROOM:Hid (Calls Tryz.prog 85 #[.pointer (some ⟨b,0,none⟩)] w1 fun e w'=>e= .returned (.int .i64 (l.room:Int))/\Below w1.heap.size w1 w'):=(room_any (w:=w1) H1.out.blk hfin (by omega)).mono fun e w' ⟨he,m,hm⟩=>⟨he,by rw [hm];exact below_drewN (Below.refl _ _) m⟩
 clear hm1 HENC
 by_cases hfull:l.full d=true
 · have HE:Hid (l.err s d=4/\l.dsk s d=s/\l.next s d=l):=by
    unfold Lg.err Lg.dsk Lg.next
    rw [HD.out,hfull]
    exact ⟨rfl,rfl,rfl⟩
   have hfl:n1=0\/l.room<n1:=by
    unfold Lg.full at hfull
    rw [Bool.or_eq_true,decide_eq_true_iff,decide_eq_true_iff,HL1.out] at hfull
    exact hfull
   clear hfull
   by_cases h0:n1=0
   · have hz:((n1:Int)==0)=true:=by rw [h0];rfl
     have hz':(n1:Int)=0:=by omega
     clear h0 hfl
     go_wp2
     go_ret
     rw [HE.out.1,HE.out.2.1,HE.out.2.2]
     exact ⟨rfl,HSTAY.out _ HB1.out⟩
   · have hz:((n1:Int)==0)=false:=by rw [beq_eq_false_iff_ne];omega
     have hz': ¬ (n1:Int)=0:=by omega
     have hr:(l.room:Int)<(n1:Int):=by omega
     clear h0 hfl
     go_wp2_with (go_at_call 85;refine HROOM.out.mono ?_;rintro e w2 ⟨rfl,hb2⟩;have HB2:=Lib.hid hb2;clear hb2)
     go_ret
     rw [HE.out.1,HE.out.2.1,HE.out.2.2]
     exact ⟨rfl,HSTAY.out _ (hop HB1.out HB2.out)⟩
 have hfull':l.full d=false:=by simpa using hfull
 obtain ⟨p1,p2,p3,p4⟩:=Lg.full_false hfull'
 obtain ⟨m,r1,r2,r3⟩:=Lg.rows (s:=s) H.out.fits H.out.disk.ok hfull'
 rw [HL1.out] at p1 p2 r3
 have hz:((n1:Int)==0)=false:=by rw [beq_eq_false_iff_ne];omega
 have hz': ¬ (n1:Int)=0:=by omega
 have hr: ¬ (l.room:Int)<(n1:Int):=by omega
 have hroom:l.room=l.blocks*64-l.fin:=rfl
 have HERR:Hid (l.err s d=s.layErr (l.laid s d) (l.f+l.fin/64)/\l.dsk s d=s.lay (l.laid s d) (l.f+l.fin/64)):=by
  unfold Lg.err Lg.dsk
  rw [HD.out,hfull']
  exact ⟨rfl,rfl⟩
 have HNX:Hid (l.next s d=if l.err s d=0 then l.put d else { l with down:=true }):=by
  show l.next s d=_
  unfold Lg.next
  rw [HD.out,hfull']
  rfl
 have haw:Away w1 F A1 (l.code d):=(Made.past HM1.out.2).mono (fun b hb=>H.out.disk.lt b hb)
 have HWR:=Lib.hid (fun w2 (hb2:Below w1.heap.size w1 w2)=>area_write w2.drew g F s l.f l.blocks l.fin A1 (l.code d) n1 c1' q (H1.out.disk.still hb2.drew) (haw.moved (.of_below hb2.drew F) (fun _ h=> .inl h)) HL1.out p1 hbl (by omega) HF.out (by omega))
 have HLD:Hid (l.laid s d=laidL s.view l.f l.blocks l.fin (l.code d)):=rfl
 rw [<-HLD.out,<-HERR.out.1,<-HERR.out.2] at HWR
 have hcs:l.err s d=0\/l.err s d=5:=by rw [HERR.out.1];exact layErr_cases _ _ _
 obtain ⟨E,hE⟩:∃ E,E=l.err s d:=⟨_,rfl⟩
 rw [<-hE] at hcs HNX HWR
 have HE:=Lib.hid hE
 have HFL:=Lib.hid p2
 clear hfull hfull' p1 p2 p3 p4 r1 r2 r3 haw hE hcf hroom
 go_wp2_with (go_at_call 85;refine HROOM.out.mono ?_;rintro e w2 ⟨rfl,hb2⟩;have HB2:=Lib.hid hb2;clear hb2)
 obtain ⟨c0,c1,c2,c3,c4,c5,c6⟩:=lg_cells (H1.out.still HB2.out).blk
 go_still_tail 9,(by kernel_rfl)
 go_wp2_with fail
 refine (HWR.out _ HB2.out).mono ?_
 rintro e w3 ⟨rfl,hp3⟩
 have P3:Hid (Moved w g F (l.dsk s d) w3):=hp3.before (hop HB1.out HB2.out).drew
 have HX3:=Lib.hid (P3.out.blk H.out.blk H.out.not)
 obtain ⟨_,_,_,_,d4,d5,_⟩:=lg_cells HX3.out
 have f4':=HX3.out.free 4
 have f5':=HX3.out.free 5
 have f6':=HX3.out.free 6
 clear hp3 HWR hz hz' hr c0 c1 c2 c3 c4 c5 c6 f4 f5 f6
 rcases hcs with h0 | h5
 · subst h0
   have hw1:IntKind.i64.wrap ((l.fin:Int)+(n1:Int))=(l.fin:Int)+(n1:Int):=by rw [IntKind.wrap_i64];omega
   have hw2:IntKind.i64.wrap ((l.seq:Int)+1)=(l.seq:Int)+1:=by rw [IntKind.wrap_i64];omega
   have HB3:Hid (Blk ((w3.setCell ⟨b,5,none⟩ (.int .i64 ((l.fin:Int)+(n1:Int)))).setCell ⟨b,4,none⟩ (.int .i64 ((l.seq:Int)+1))) b (lgCells g (l.put d)) 145):=by
    have:=(HX3.out.set 5 (.int .i64 ((l.fin:Int)+(n1:Int)))).set 4 (.int .i64 ((l.seq:Int)+1))
    have e:lgCells g (l.put d)=((lgCells g l).set 5 (.int .i64 ((l.fin:Int)+(n1:Int)))).set 4 (.int .i64 ((l.seq:Int)+1)):=by
     have e1:(((l.fin+n1:Nat)):Int)=(l.fin:Int)+(n1:Int):=by omega
     have e2:(((l.seq+1:Nat)):Int)=(l.seq:Int)+1:=by omega
     simp only [lgCells,Lg.put,HL1.out,e1,e2,List.set_cons_succ,List.set_cons_zero]
    show Blk _ b (lgCells g (l.put d)) _
    rw [e];exact this
   go_wp2
   go_ret
   obtain ⟨F3,h31,h32,h33⟩:=P3.out
   have hbw:=H.out.blk.lt
   have hnF3: ¬ F3 b:=fun hf=>(h33 b hf).elim H.out.not (fun h=>by omega)
   have hs5:Spared w3 ((w3.setCell ⟨b,5,none⟩ (.int .i64 ((l.fin:Int)+(n1:Int)))).setCell ⟨b,4,none⟩ (.int .i64 ((l.seq:Int)+1))) (· =b):=((Spared.refl w3 (· =b)).setCell rfl 5 _).setCell rfl 4 _
   refine ⟨by rw [<-HE.out];rfl,F3,h31.apart hs5 (fun k hk e=>hnF3 (by rw [<-e];exact hk)),?_,hnF3,?_,h33⟩
   · rw [HNX.out];exact HB3.out
   · exact (h32.mono (fun _ h=> .inl h)).trans (hs5.mono (G:=fun k=>F k\/k=b) (fun _ h=> .inr h)) (fun _ h=> .inl h)
 · subst h5
   have HB3:Hid (Blk (w3.setCell ⟨b,6,none⟩ (.bool true)) b (lgCells g { l with down:=true }) 145):=HX3.out.set 6 (.bool true)
   go_wp2
   go_ret
   obtain ⟨F3,h31,h32,h33⟩:=P3.out
   have hbw:=H.out.blk.lt
   have hnF3: ¬ F3 b:=fun hf=>(h33 b hf).elim H.out.not (fun h=>by omega)
   have hs5:Spared w3 (w3.setCell ⟨b,6,none⟩ (.bool true)) (· =b):=(Spared.refl w3 (· =b)).setCell rfl 6 _
   refine ⟨by rw [<-HE.out];rfl,F3,h31.apart hs5 (fun k hk e=>hnF3 (by rw [<-e];exact hk)),?_,hnF3,?_,h33⟩
   · rw [HNX.out];exact HB3.out
   · exact (h32.mono (fun _ h=> .inl h)).trans (hs5.mono (G:=fun k=>F k\/k=b) (fun _ h=> .inr h)) (fun _ h=> .inl h)
theorem splice_take {α:Type} {K R:List α} {n i:Nat} (h:i+R.length<=n) (hn:n<=K.length):(splice K i R).take n=splice (K.take n) i R:=by
 unfold splice
 have l1:(K.take i).length=i:=by rw [List.length_take];omega
 rw [List.take_append,l1,List.take_append,List.take_of_length_le (by rw [l1];omega:(K.take i).length<=n),List.take_of_length_le (by omega:R.length<=n-i),List.take_take,Nat.min_eq_left (by omega),List.drop_take,Nat.sub_sub]
def LaidAt (K K':List (List UInt8)) (pos:Nat) (code:List UInt8):Prop:=∃ t,K'.flatten=K.flatten.take pos++(code++t)/\(t=[]\/t.head? =Option.some 0)
def SameUpTo (K K':List (List UInt8)) (pos:Nat):Prop:=K'.length=K.length/\K'.flatten.take (64*(pos/64+1))=K.flatten.take (64*(pos/64+1))/\∃ t,K'.flatten=K.flatten.take pos++t/\t.head? =(K.flatten.drop pos).head?
theorem next_down {l:Lg} {s:Dsk} {d:List UInt8} (h:l.down=true):l.err s d=5/\l.dsk s d=s/\l.next s d=l:=by
 unfold Lg.err Lg.dsk Lg.next
 rw [h]
 exact ⟨rfl,rfl,rfl⟩
theorem next_full {l:Lg} {s:Dsk} {d:List UInt8} (hd:l.down=false) (h:l.full d=true):l.err s d=4/\l.dsk s d=s/\l.next s d=l:=by
 unfold Lg.err Lg.dsk Lg.next
 rw [hd,h]
 exact ⟨rfl,rfl,rfl⟩
theorem crash_len (s:Dsk) (p:Nat->Bool):(s.crash p).K.length=s.K.length:=kept_length _ _ _ _
def areaOf (K:List (List UInt8)) (f n:Nat):List (List UInt8):=(K.drop f).take n
theorem areaOf_length {K:List (List UInt8)} {f n:Nat} (h:f+n<=K.length):(areaOf K f n).length=n:=by
 unfold areaOf;rw [List.length_take,List.length_drop];omega
theorem areaOf_rows {K:List (List UInt8)} {f n:Nat} (h:∀ r ∈ K,r.length=64):∀ r ∈ areaOf K f n,r.length=64:=fun r hr=>h r (List.mem_of_mem_drop (List.mem_of_mem_take hr))
theorem areaOf_get {K:List (List UInt8)} {f n j:Nat} (h:j<n):(areaOf K f n)[j]? =K[f+j]? :=by
 unfold areaOf;rw [List.getElem?_take_of_lt h,List.getElem?_drop]
theorem areaOf_ext {K K':List (List UInt8)} {f n:Nat} (h:∀ j,f<=j->j<f+n->K'[j]? =K[j]?):areaOf K' f n=areaOf K f n:=by
 refine List.ext_getElem? fun j=> ?_
 by_cases hj:j<n
 · rw [areaOf_get hj,areaOf_get hj];exact h _ (by omega) (by omega)
 · unfold areaOf
   rw [List.getElem?_eq_none (by rw [List.length_take];omega),List.getElem?_eq_none (by rw [List.length_take];omega)]
theorem splice_area {K R:List (List UInt8)} {f n i:Nat} (h:i+R.length<=n) (hn:f+n<=K.length):areaOf (splice K (f+i) R) f n=splice (areaOf K f n) i R:=by
 have e:(splice K (f+i) R).drop f=splice (K.drop f) i R:=by
  unfold splice
  rw [List.drop_append_of_le_length (by rw [List.length_take];omega),List.drop_drop,<-Nat.add_assoc]
  congr 1
  rw [List.drop_take,Nat.add_sub_cancel_left]
 unfold areaOf
 rw [e]
 exact splice_take h (by rw [List.length_drop];omega)
theorem ahead_area {K:List (List UInt8)} {f n pos:Nat} (h:pos/64<n):aheadL (areaOf K f n) 0 pos=aheadL K f pos:=by
 unfold aheadL
 rw [Nat.zero_add,List.getD_eq_getElem?_getD,List.getD_eq_getElem?_getD,areaOf_get h]
theorem bytes_area {s:Dsk} {f n:Nat} (hM:s.M=[]):s.bytes f n=(areaOf s.K f n).flatten:=by
 unfold Dsk.bytes areaOf
 rw [view_calm hM]
structure Within (lo hi:Nat) (K:List (List UInt8)) (s:Dsk):Prop where
 out:∀ j,(j<lo\/hi<=j)->s.K[j]? =K[j]?
 mem:∀ p ∈ s.M,lo<=p.1/\p.1<hi
section
variable {lo hi:Nat} {K:List (List UInt8)} {s:Dsk}
theorem kept_within (pick:Nat->Bool) (h:Within lo hi K s):∀ n,n<=s.M.length->∀ j,(j<lo\/hi<=j)->(kept pick s.M s.K n)[j]? =K[j]? :=fun n hn j hj=>by
 rw [kept_untouched n hn (fun q hq _=>by have:=h.mem _ (List.getElem_mem hq);omega)]
 exact h.out j hj
theorem Within.pw (h:Within lo hi K s) {i:Nat} (r:List UInt8) (h1:lo<=i) (h2:i<hi):Within lo hi K (s.pw i r):=by
 unfold Dsk.pw
 split
 · exact h
 · refine ⟨h.out,fun p hp=> ?_⟩
   rcases List.mem_append.1 (show p ∈ s.M++[(i,r)] from hp) with hp | hp
   · exact h.mem p hp
   · rw [List.mem_singleton.1 hp];exact ⟨h1,h2⟩
theorem Within.puts:∀ {R:List (List UInt8)} {s:Dsk} {i:Nat},Within lo hi K s->lo<=i->i+R.length<=hi->Within lo hi K (s.puts i R)
 | [],_,_,h,_,_=>h
 | r::R,s,i,h,h1,h2=>by
  rw [List.length_cons] at h2
  exact Within.puts (R:=R) (s:=s.pw i r) (i:=i+1) (h.pw r h1 (by omega)) (by omega) (by omega)
theorem Within.sput (h:Within lo hi K s):Within lo hi K s.sput:=by
 unfold Dsk.sput
 split
 · exact h
 · exact ⟨kept_within _ h _ (Nat.le_refl _),fun p hp=>by cases hp⟩
theorem Within.putAll (h:Within lo hi K s) {i:Nat} {R:List (List UInt8)} (h1:lo<=i) (h2:i+R.length<=hi):Within lo hi K (s.putAll i R):=by
 unfold Dsk.putAll
 split
 · exact h
 · exact (h.puts h1 h2).sput
theorem Within.lay (h:Within lo hi K s) {b:List UInt8} {i n:Nat} (hb:b.length=(n+1)*64) (h1:lo<=i) (h2:i+(n+1)<=hi):Within lo hi K (s.lay b i):=by
 have hr:(rowsOf (b.drop 64)).length=n:=by rw [rowsOf_length,List.length_drop];omega
 have hr1:(rowsOf (b.take 64)).length=1:=by rw [rowsOf_length,List.length_take];omega
 exact (h.putAll (by omega) (by rw [hr];omega)).putAll h1 (by rw [hr1];omega)
theorem Within.crash (h:Within lo hi K s) (pick:Nat->Bool):Within lo hi K (s.crash pick):=⟨kept_within _ h _ (Nat.le_refl _),fun p hp=>by cases hp⟩
theorem Within.refl {s:Dsk} (hM:s.M=[]):Within lo hi s.K s:=⟨fun _ _=>rfl,fun p hp=>by rw [hM] at hp;cases hp⟩
end
theorem Lg.within {l:Lg} {s:Dsk} (ok:s.Ok) (hM:s.M=[]) (hf:l.Fits s) (d:List UInt8):Within l.f (l.f+l.blocks) s.K (l.dsk s d):=by
 unfold Lg.dsk
 split
 · exact .refl hM
 · rename_i h
   rw [Bool.or_eq_true,not_or] at h
   have hfull:l.full d=false:=by simpa using h.2
   obtain ⟨n,h1,h2,_⟩:=Lg.rows hf ok hfull
   exact (Within.refl hM).lay h1 (by omega) (by omega)
structure AreaHas (s:Dsk) (f n:Nat) (g:Int) (ds:List (List UInt8)):Prop where
 ok:s.Ok
 len:f+n<=s.K.length
 calm:s.M=[]
 at_:LogAt g 0 ds (areaOf s.K f n).flatten
 some:ds≠[]
 g1:1<=g
 g2:g<=1152921504606846976
theorem next_area {l:Lg} {s:Dsk} {d:List UInt8} (ok:s.Ok) (hM:s.M=[]) (hfit:l.Fits s) (hd:l.down=false) (h:l.full d=false):
 (l.err s d=0->(l.dsk s d).M=[]/\LaidAt (areaOf s.K l.f l.blocks) (areaOf (l.dsk s d).K l.f l.blocks) l.fin (l.code d)/\l.next s d=l.put d)/\
 (l.err s d≠0->l.err s d=5/\(l.next s d).down=true/\∀ pick,LaidAt (areaOf s.K l.f l.blocks) (areaOf ((l.dsk s d).crash pick).K l.f l.blocks) l.fin (l.code d)\/SameUpTo (areaOf s.K l.f l.blocks) (areaOf ((l.dsk s d).crash pick).K l.f l.blocks) l.fin)/\
 (s.Quiet->l.err s d=0/\(l.dsk s d).Quiet/\s.calls<(l.dsk s d).calls):=by
 obtain ⟨p1,p2,p3,p4⟩:=Lg.full_false h
 obtain ⟨m,r1,r2,_⟩:=Lg.rows hfit ok h
 have e1:l.err s d=s.layErr (l.laid s d) (l.f+l.fin/64):=by unfold Lg.err;rw [hd,h];rfl
 have e2:l.dsk s d=s.lay (l.laid s d) (l.f+l.fin/64):=by unfold Lg.dsk;rw [hd,h];rfl
 have e3:l.next s d=if l.err s d=0 then l.put d else { l with down:=true }:=by
  unfold Lg.next
  rw [hd,h];rfl
 have hroom:l.room=l.blocks*64-l.fin:=rfl
 have hfin:=hfit.fin
 have harea:=hfit.area
 have hpos:l.f+l.fin/64+(m+1)<=s.K.length:=by omega
 have htl:=areaOf_length harea
 have hB:l.laid s d=laidL (areaOf s.K l.f l.blocks) 0 (areaOf s.K l.f l.blocks).length l.fin (l.code d):=by
  unfold Lg.laid laidL
  rw [view_calm hM,htl,ahead_area (by omega)]
 have hrl:(rowsOf (l.laid s d)).length=m+1:=by rw [rowsOf_length,r1];omega
 have hlaid:LaidAt (areaOf s.K l.f l.blocks) (areaOf (splice s.K (l.f+l.fin/64) (rowsOf (l.laid s d))) l.f l.blocks) l.fin (l.code d):=by
  rw [splice_area (by rw [hrl];omega) harea,hB]
  exact laid_bytes (areaOf_rows ok.len) p1 (by rw [htl];omega)
 have okl:(s.lay (l.laid s d) (l.f+l.fin/64)).Ok:=ok.lay r1 hpos
 rw [e3,e1,e2]
 refine ⟨fun he=> ?_,fun he=> ?_,fun hq=> ?_⟩
 · obtain ⟨h1,h2⟩:=Dsk.lay_done hM r1 hpos he
   rw [h2,if_pos he]
   exact ⟨h1,hlaid,rfl⟩
 · obtain ⟨h1,_,h3⟩:=Dsk.lay_not hM r1 hpos he
   refine ⟨h1,by rw [if_neg he],fun pick=> ?_⟩
   rcases h3 pick with h4 | ⟨h4,h5⟩
   · rw [h4];exact .inl hlaid
   · have hl4:(areaOf ((s.lay (l.laid s d) (l.f+l.fin/64)).crash pick).K l.f l.blocks).length=(areaOf s.K l.f l.blocks).length:=by rw [areaOf_length (by rw [h4];exact harea),htl]
     have hk:=same_bytes (K:=areaOf s.K l.f l.blocks) (K':=areaOf ((s.lay (l.laid s d) (l.f+l.fin/64)).crash pick).K l.f l.blocks) (pos:=l.fin) (areaOf_rows ok.len) (areaOf_rows (okl.crash pick).len) hl4 (by rw [htl];omega)
      (by
       have h6:=congrArg (List.drop l.f) h5
       rw [List.drop_take,List.drop_take,show l.f+l.fin/64+1-l.f=l.fin/64+1 by omega] at h6
       unfold areaOf
       rw [List.take_take,List.take_take,Nat.min_eq_left (by omega)]
       exact h6)
     exact .inr ⟨hl4,hk⟩
 · obtain ⟨h1,h2,h3⟩:=hq.lay (i:=l.f+l.fin/64) r1
   exact ⟨h2,h1,h3⟩
section
variable {s:Dsk} {f n:Nat} {g:Int} {ds:List (List UInt8)} {d:List UInt8}
theorem AreaHas.bytes (h:AreaHas s f n g ds):(areaOf s.K f n).flatten.length=n*64:=by
 rw [flat_length (m:=64) _ (areaOf_rows h.ok.len),areaOf_length h.len]
theorem AreaHas.fits (h:AreaHas s f n g ds) (hn:1<=n):(Lg.found f n g ds).Fits s:=by
 have hl:=h.bytes
 have ht:=(logAt_take h.at_).2.1
 have hlen:=h.len
 exact ⟨hn,hlen,by show (framesL g 0 ds).length<=n*64;rw [hl] at ht;exact ht,framesL_seq g ds 0,h.g1,h.g2⟩
theorem found_area_put (h:(Lg.found f n g ds).code d=frameL g (ds.length:Int) d):(Lg.found f n g ds).put d=Lg.found f n g (ds++[d]):=by
 unfold Lg.put
 rw [h]
 unfold Lg.found
 rw [framesL_append,Nat.zero_add,List.length_append,List.length_append]
 simp only [framesL,List.append_nil,List.length_cons,List.length_nil]
theorem laid_area {K':List (List UInt8)} (h:AreaHas s f n g ds) (hm:mayB g (ds.length:Int) d.length=true) (hl:LaidAt (areaOf s.K f n) K' (framesL g 0 ds).length (frameL g (ds.length:Int) d)):LogAt g 0 (ds++[d]) K'.flatten:=by
 obtain ⟨t,e,ht⟩:=hl
 rw [(logAt_take h.at_).1] at e
 rw [e]
 refine logAt_swap h.at_ ?_
 rw [Nat.zero_add]
 exact ⟨hm,t,rfl,ht⟩
theorem same_area {K':List (List UInt8)} (h:AreaHas s f n g ds) (hp:(framesL g 0 ds).length<(areaOf s.K f n).flatten.length) (hl:SameUpTo (areaOf s.K f n) K' (framesL g 0 ds).length):LogAt g 0 ds K'.flatten:=by
 obtain ⟨_,_,t,e,ht⟩:=hl
 obtain ⟨h1,h2,h3⟩:=logAt_take h.at_
 rw [h1] at e
 have:=logAt_swap (es:=[]) (t:=t) h.at_ (by
  right
  rw [ht]
  rcases h3 with h3 | h3
  · have:=congrArg List.length h3
    rw [List.length_drop,List.length_nil] at this
    omega
  · exact h3)
 rw [List.append_nil] at this
 rw [e];exact this
theorem AreaHas.append (h:AreaHas s f n g ds) (hn:1<=n) (d:List UInt8):
 ((Lg.found f n g ds).err s d=4/\(Lg.found f n g ds).dsk s d=s/\(Lg.found f n g ds).next s d=Lg.found f n g ds/\(Lg.found f n g ds).full d=true)\/
 ((Lg.found f n g ds).err s d=0/\AreaHas ((Lg.found f n g ds).dsk s d) f n g (ds++[d])/\(Lg.found f n g ds).next s d=Lg.found f n g (ds++[d])/\(s.Quiet->((Lg.found f n g ds).dsk s d).Quiet/\s.calls<((Lg.found f n g ds).dsk s d).calls)/\(Lg.found f n g ds).full d=false)\/
 ((Lg.found f n g ds).err s d=5/\((Lg.found f n g ds).next s d).down=true/\ ¬ s.Quiet/\∀ pick,AreaHas (((Lg.found f n g ds).dsk s d).crash pick) f n g ds\/AreaHas (((Lg.found f n g ds).dsk s d).crash pick) f n g (ds++[d])):=by
 have hfit:=h.fits hn
 have hnx:=hfit.next (d:=d)
 by_cases hfull:(Lg.found f n g ds).full d=true
 · exact .inl ⟨(next_full rfl hfull).1,(next_full rfl hfull).2.1,(next_full rfl hfull).2.2,hfull⟩
 have hfull:(Lg.found f n g ds).full d=false:=by simpa using hfull
 obtain ⟨p1,p2,p3,p4⟩:=Lg.full_false hfull
 obtain ⟨h1,h2,h3⟩:=next_area h.ok h.calm hfit rfl hfull
 have hc:(Lg.found f n g ds).code d=frameL g (ds.length:Int) d:=p4
 have hpos:(framesL g 0 ds).length<(areaOf s.K f n).flatten.length:=by
  have:=hfit.fin
  have e1:(Lg.found f n g ds).room=n*64-(framesL g 0 ds).length:=rfl
  rw [h.bytes]
  omega
 have hne:ds++[d]≠[]:=by simp
 by_cases he:(Lg.found f n g ds).err s d=0
 · obtain ⟨q1,q2,q3⟩:=h1 he
   rw [hc] at q2
   exact .inr (.inl ⟨he,⟨hnx.2.1 h.ok,by rw [hnx.2.2];exact h.len,q1,laid_area h p3 q2,hne,h.g1,h.g2⟩,by rw [q3,found_area_put hc],fun hq=>(h3 hq).2,hfull⟩)
 · obtain ⟨q1,q2,q3⟩:=h2 he
   refine .inr (.inr ⟨q1,q2,fun hq=>he (h3 hq).1,fun pick=> ?_⟩)
   have okc:=(hnx.2.1 h.ok).crash pick
   have lenc:f+n<=(((Lg.found f n g ds).dsk s d).crash pick).K.length:=by rw [crash_len,hnx.2.2];exact h.len
   rcases q3 pick with q | q
   · rw [hc] at q
     exact .inr ⟨okc,lenc,rfl,laid_area h p3 q,hne,h.g1,h.g2⟩
   · exact .inl ⟨okc,lenc,rfl,same_area h hpos q,h.some,h.g1,h.g2⟩
theorem begin_area (ok:s.Ok) (hM:s.M=[]) (hK:f+n<=s.K.length) (hn:1<=n) (g1:1<=g) (g2:g<=1152921504606846976) (d:List UInt8):
 ((Lg.new f n g).err s d=4/\(Lg.new f n g).dsk s d=s/\(Lg.new f n g).full d=true)\/
 ((Lg.new f n g).err s d=0/\AreaHas ((Lg.new f n g).dsk s d) f n g [d]/\(Lg.new f n g).next s d=Lg.found f n g [d]/\(s.Quiet->((Lg.new f n g).dsk s d).Quiet)/\(Lg.new f n g).full d=false)\/
 ((Lg.new f n g).err s d=5/\ ¬ s.Quiet/\∀ pick,AreaHas (((Lg.new f n g).dsk s d).crash pick) f n g [d]\/SameUpTo (areaOf s.K f n) (areaOf (((Lg.new f n g).dsk s d).crash pick).K f n) 0):=by
 have hfit:(Lg.new f n g).Fits s:=⟨hn,hK,Nat.zero_le _,Nat.le_refl _,g1,g2⟩
 have hnx:=hfit.next (d:=d)
 by_cases hfull:(Lg.new f n g).full d=true
 · exact .inl ⟨(next_full rfl hfull).1,(next_full rfl hfull).2.1,hfull⟩
 have hfull:(Lg.new f n g).full d=false:=by simpa using hfull
 obtain ⟨p1,p2,p3,p4⟩:=Lg.full_false hfull
 obtain ⟨h1,h2,h3⟩:=next_area ok hM hfit rfl hfull
 have hc:(Lg.new f n g).code d=frameL g ((0:Nat):Int) d:=p4
 have hlog:∀ K',LaidAt (areaOf s.K f n) K' 0 (frameL g ((0:Nat):Int) d)->LogAt g 0 [d] K'.flatten:=fun K' ⟨t,e,ht⟩=>by
  rw [List.take_zero,List.nil_append] at e
  exact ⟨p3,t,e,ht⟩
 have hput:(Lg.new f n g).put d=Lg.found f n g [d]:=by
  unfold Lg.put
  rw [hc]
  simp [Lg.new,Lg.found,framesL]
 have hfin0:(Lg.new f n g).fin=0:=rfl
 rw [hfin0] at h1 h2
 by_cases he:(Lg.new f n g).err s d=0
 · obtain ⟨q1,q2,q3⟩:=h1 he
   rw [hc] at q2
   exact .inr (.inl ⟨he,⟨hnx.2.1 ok,by rw [hnx.2.2];exact hK,q1,hlog _ q2,by simp,g1,g2⟩,by rw [q3,hput],fun hq=>(h3 hq).2.1,hfull⟩)
 · obtain ⟨q1,q2,q3⟩:=h2 he
   refine .inr (.inr ⟨q1,fun hq=>he (h3 hq).1,fun pick=> ?_⟩)
   have okc:=(hnx.2.1 ok).crash pick
   have lenc:f+n<=(((Lg.new f n g).dsk s d).crash pick).K.length:=by rw [crash_len,hnx.2.2];exact hK
   rcases q3 pick with q | q
   · rw [hc] at q
     exact .inl ⟨okc,lenc,rfl,hlog _ q,by simp,g1,g2⟩
   · exact .inr q
theorem AreaHas.found (h:AreaHas s f n g ds):openL (s.bytes f n)=Option.some (g,ds):=by
 rw [bytes_area h.calm]
 have hat:=h.at_
 have hs:=h.some
 cases ds with
 | nil=>exact absurd rfl hs
 | cons d ds=>exact open_at hat h.g1
theorem AreaHas.same {s':Dsk} (h:AreaHas s f n g ds) (ok:s'.Ok) (hM:s'.M=[]) (hl:s'.K.length=s.K.length) (he:areaOf s'.K f n=areaOf s.K f n):AreaHas s' f n g ds:=⟨ok,by rw [hl];exact h.len,hM,by rw [he];exact h.at_,h.some,h.g1,h.g2⟩
end
end Go.Proofs.YtdaahapbpnjkfaaGreat
