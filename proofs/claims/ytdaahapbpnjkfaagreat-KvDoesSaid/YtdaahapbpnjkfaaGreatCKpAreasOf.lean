/-
The areas of a disk with the logs in them, as the program finds them (areasOf). Conditions: as log's Open.
-/
import Derived.Test.YtdaahapbpnjkfaaGreatCKpAreas
namespace Go.Proofs.YtdaahapbpnjkfaaGreat
open Go.RowKit
def noArea2:List Value:=[.int .i64 0,.pointer none,.slice none 0 0,.int .i64 0,.pointer none,.slice none 0 0]
def KOpen (w:World) (g:Nat) (f:Nat) (E:Int) (lo:Option Lg) (ds:List (List UInt8)) (e:Ending) (w':World):Prop:=
 ∃ (b:Nat) (P A:Option Addr) (n c:Nat),e= .returned (.tuple #[.pointer P,.slice A n c,.int .i64 E])/\lp lo b= .pointer P/\AreaAt w' w.heap.size g (f,lo,b,A,n,c) ds/\Below w.heap.size w w'
theorem kopen_ptr {w:World} {g f:Nat} {F:Nat->Prop} {s:Dsk} {N E:Int} {lo:Option Lg} {ds:List (List UInt8)} (h:DiskAt w g F s) (hb:OpTo s (f:Int) N E lo ds) (hf:f<=1000000):
 Calls Tryz.prog 72 #[.pointer (some ⟨g,0,none⟩),.int .i64 (f:Int),.int .i64 N] w (KOpen w g f E lo ds):=by
 refine (kopen_to h hb ⟨by omega,by omega⟩).mono ?_
 rintro e w' ⟨b,A,ps,n,c,rfl,h1,h2,h3,h4,h5,h6⟩
 exact ⟨b,_,A,n,c,rfl,rfl,⟨⟨ps,h1,h2,h3⟩,h4,h5⟩,h6⟩
theorem AreaAt.lower {w:World} {B B' g:Nat} {x:AreaV} {ds:List (List UInt8)} (h:AreaAt w B g x ds) (hb:B'<=B):AreaAt w B' g x ds:=by
 obtain ⟨⟨ps,h1,h2,h3⟩,h4,h5⟩:=h
 exact ⟨⟨ps,h1,h2,h3.mono (fun k (hk:k<B')=>by show k<B;omega)⟩,h4,by omega⟩
theorem sp_two (W:World) {B i j:Nat} (hB:B<B+1) (u v:Value):Spared W ((W.setCell ⟨B,i,none⟩ u).setCell ⟨B,j,none⟩ v) (fun k=>k<B+1):=((Spared.refl W (fun k=>k<B+1)).setCell hB _ _).setCell hB _ _
set_option maxRecDepth 100000 in
set_option maxHeartbeats 4000000 in
theorem areasOf_on (w:World) (g:Nat) (F:Nat->Prop) (s:Dsk) (h:Nat) (hd:DiskAt w g F s) (hh:h=s.K.length/2) (E0 E1:Int) (lo0 lo1:Option Lg) (ds0 ds1:List (List UInt8)) (h0:OpTo s ((0:Nat):Int) (h:Int) E0 lo0 ds0) (h1:OpTo s (h:Int) (h:Int) E1 lo1 ds1) (he0:E0=0\/E0=13) (he1:E1=0\/E1=13):
 Calls Tryz.prog 41 #[.pointer (some ⟨g,0,none⟩)] w fun e w'=>∃ (b0:Nat) (P0 A0:Option Addr) (n0 c0 b1:Nat) (P1 A1:Option Addr) (n1 c1:Nat),e= .returned (.tuple #[.agg #[.int .i64 0,.pointer P0,.slice A0 n0 c0,.int .i64 (h:Int),.pointer P1,.slice A1 n1 c1],.int .i64 0])/\lp lo0 b0= .pointer P0/\lp lo1 b1= .pointer P1/\AreaAt w' w.heap.size g (0,lo0,b0,A0,n0,c0) ds0/\AreaAt w' w.heap.size g (h,lo1,b1,A1,n1,c1) ds1/\Below w.heap.size w w':=by
 have hK:=hd.ok.hi
 have hh4:h<=2048:=by omega
 have HHALF:Hid (∀ W,Below w.heap.size w W->Calls Tryz.prog 40 #[.pointer (some ⟨g,0,none⟩)] W fun e w'=>e= .returned (.int .i64 (h:Int))/\w'=W):=fun W hW=>half_any (hd.still hW) hh
 have HO0:Hid (∀ W,Below w.heap.size w W->Calls Tryz.prog 72 #[.pointer (some ⟨g,0,none⟩),.int .i64 0,.int .i64 (h:Int)] W (KOpen W g 0 E0 lo0 ds0)):=fun W hW=>kopen_ptr (f:=0) (hd.still hW) h0 (Nat.zero_le _)
 have HO1:Hid (∀ W,Below w.heap.size w W->Calls Tryz.prog 72 #[.pointer (some ⟨g,0,none⟩),.int .i64 (h:Int),.int .i64 (h:Int)] W (KOpen W g h E1 lo1 ds1)):=fun W hW=>kopen_ptr (hd.still hW) h1 (by omega)
 have hix0:=fun (a0 a1 a2 a3 a4 a5:Value) (W:World)=>(index_two a0 a1 a2 a3 a4 a5 W).1
 have hix1:=fun (a0 a1 a2 a3 a4 a5:Value) (W:World)=>(index_two a0 a1 a2 a3 a4 a5 W).2
 have HE0:=Lib.hid he0
 have HE1:=Lib.hid he1
 clear hd hh h0 h1 he0 he1 hK
 go_enter Tryz.func41,Tryz.ntmps41
 go_wp2_with fail
 with_reducible refine (HHALF.out _ ((Below.refl _ _).alloc (Nat.le_refl _) _)).mono ?_
 rintro e w1 ⟨rfl,rfl⟩
 go_wp2_with fail
 go_loopg [16] 2 (fun kx s16 wr=>∃ (i:Nat) (L:List Value),i+kx=2/\s16= .int .i64 (i:Int)/\Below w.heap.size w wr/\Blk wr (w.heap.size+1) L 86/\Blk wr w.heap.size noArea2 86/\
  ((i=0/\L=[.int .i64 0,.pointer none,.slice none 0 0,.int .i64 (h:Int),.pointer none,.slice none 0 0])\/
   (i=1/\∃ (b0:Nat) (P0 A0:Option Addr) (n0 c0:Nat),L=[.int .i64 0,.pointer P0,.slice A0 n0 c0,.int .i64 (h:Int),.pointer none,.slice none 0 0]/\lp lo0 b0= .pointer P0/\AreaAt wr (w.heap.size+2) g (0,lo0,b0,A0,n0,c0) ds0)\/
   (i=2/\∃ (b0:Nat) (P0 A0:Option Addr) (n0 c0 b1:Nat) (P1 A1:Option Addr) (n1 c1:Nat),L=[.int .i64 0,.pointer P0,.slice A0 n0 c0,.int .i64 (h:Int),.pointer P1,.slice A1 n1 c1]/\lp lo0 b0= .pointer P0/\lp lo1 b1= .pointer P1/\AreaAt wr (w.heap.size+2) g (0,lo0,b0,A0,n0,c0) ds0/\AreaAt wr (w.heap.size+2) g (h,lo1,b1,A1,n1,c1) ds1)))
 case atStart=>
  refine ⟨0,_,by omega,rfl,?_,?_,?_,.inl ⟨rfl,rfl⟩⟩
  · exact ((Below.refl _ _).alloc (Nat.le_refl _) _).alloc (by simp) _
  · have:=Blk.new (w.alloc (.cells noArea2.toArray 86)) [.int .i64 0,.pointer none,.slice none 0 0,.int .i64 (h:Int),.pointer none,.slice none 0 0] 86
    simp only [World.size_alloc] at this
    exact this
  · exact (Blk.new w noArea2 86).alloc _
 case round=>
  obtain ⟨i,L,hi,rfl,hbr,hbq,hbz,hc⟩:=hrel
  have BR:=Lib.hid hbr
  have BZ:=Lib.hid hbz
  have hlt:=hbq.lt
  rcases hc with ⟨rfl,rfl⟩ | ⟨rfl,b0,P0,A0,n0,c0,rfl,hp0,ha0⟩ | ⟨rfl,b0,P0,A0,n0,c0,b1,P1,A1,n1,c1,rfl,hp0,hp1,ha0,ha1⟩
  · have BQ:=Lib.hid hbq
    obtain rfl:gk=2:=by omega
    obtain ⟨w5,hw5⟩:∃ w5,w5=wr.alloc (.cells #[.int .i64 0,.pointer none,.slice none 0 0] 85):=⟨_,rfl⟩
    have hb5:Below wr.heap.size wr w5:=by rw [hw5];exact (Below.refl _ _).alloc (Nat.le_refl _) _
    have B5:Hid (Below w.heap.size w w5):=hop BR.out hb5
    have hx5:Blk w5 wr.heap.size [.int .i64 0,.pointer none,.slice none 0 0] 85:=by rw [hw5];exact Blk.new _ _ _
    have HX5:=Lib.hid hx5
    have HB5:=Lib.hid hb5
    have HW5:Hid (wr.alloc (.cells #[.int .i64 0,.pointer none,.slice none 0 0] 85)=w5):=hw5.symm
    have v0:=hx5.cell (i:=0) (by simp)
    simp only [List.getElem_cons_zero] at v0
    have HHD:=Lib.hid (HHALF.out w5.drew B5.out.drew)
    have HOD:=Lib.hid (HO0.out w5.drew B5.out.drew)
    have HSZ:Hid (w.heap.size+2<=w5.drew.heap.size):=by have h1:=HB5.out.size;show _<=w5.heap.size;omega
    have HSC:Hid (∀ W,Below w5.heap.size w5 W->W.cell? ⟨wr.heap.size,0,none⟩=some (.int .i64 0)):=fun W hW=>(HX5.out.below hW HX5.out.lt).cell (i:=0) (by simp)
    clear hi hbr hbq hbz hw5 hb5 hx5
    go_wp2_with fail
    rw [HW5.out]
    go_region_held_law (fun W=>W.cell? ⟨wr.heap.size,0,none⟩=some (.int .i64 0))
     (first | exact v0 | exact S9)
     (first
      | (go_at_call 40;(with_reducible refine HHD.out.mono ?_);rintro e w9 ⟨rfl,rfl⟩)
      | (go_at_call 72;(with_reducible refine HOD.out.mono ?_);rintro e w9 ⟨b9,P9,A9,n9,c9,rfl,hp9,ha9,hb9⟩;have hb59:Below w5.heap.size w5 w9:=hop (Below.refl _ _).drew hb9;have S9:=HSC.out w9 hb59;have B59:=Lib.hid hb59;have HP9:=Lib.hid hp9;have HA9:=Lib.hid ha9;clear hp9 ha9 hb9 hb59))
    have hbq9:=(BQ.out.below HB5.out hlt).below B59.out (Nat.lt_of_lt_of_le hlt HB5.out.size)
    have y1:=hbq9.cell (i:=1) (by simp)
    have y2:=hbq9.cell (i:=2) (by simp)
    simp only [List.getElem_cons_zero,List.getElem_cons_succ] at y1 y2
    have f1:=hbq9.free 1
    have f2:=hbq9.free 2
    have BQ9:=Lib.hid hbq9
    have BEND:Hid (Below w.heap.size w ((w9.setCell ⟨w.heap.size+1,1,none⟩ (.pointer P9)).setCell ⟨w.heap.size+1,2,none⟩ (.slice A9 n9 c9))):=((hop B5.out B59.out).setCell (by simp) _).setCell (by simp) _
    clear hbq9
    rcases HE0.out with rfl | rfl
    all_goals
     go_wp2_with fail
     go_roundg 1
     case measure=>omega
     case rel=>
      have BZ9:=(BZ.out.below HB5.out BZ.out.lt).below B59.out (Nat.lt_of_lt_of_le BZ.out.lt HB5.out.size)
      exact ⟨1,_,by omega,rfl,BEND.out,(BQ9.out.set 1 (.pointer P9)).set 2 (.slice A9 n9 c9),(BZ9.other _ _ (by simp)).other _ _ (by simp),.inr (.inl ⟨rfl,b9,P9,A9,n9,c9,rfl,HP9.out,(HA9.out.lower HSZ.out).spared (sp_two w9 (Nat.lt_succ_self _) _ _)⟩)⟩
  · have BQ:=Lib.hid hbq
    obtain rfl:gk=1:=by omega
    obtain ⟨w5,hw5⟩:∃ w5,w5=wr.alloc (.cells #[.int .i64 (h:Int),.pointer none,.slice none 0 0] 85):=⟨_,rfl⟩
    have hb5:Below wr.heap.size wr w5:=by rw [hw5];exact (Below.refl _ _).alloc (Nat.le_refl _) _
    have B5:Hid (Below w.heap.size w w5):=hop BR.out hb5
    have hx5:Blk w5 wr.heap.size [.int .i64 (h:Int),.pointer none,.slice none 0 0] 85:=by rw [hw5];exact Blk.new _ _ _
    have HX5:=Lib.hid hx5
    have HB5:=Lib.hid hb5
    have HW5:Hid (wr.alloc (.cells #[.int .i64 (h:Int),.pointer none,.slice none 0 0] 85)=w5):=hw5.symm
    have v0:=hx5.cell (i:=0) (by simp)
    simp only [List.getElem_cons_zero] at v0
    have HHD:=Lib.hid (HHALF.out w5.drew B5.out.drew)
    have HOD:=Lib.hid (HO1.out w5.drew B5.out.drew)
    have HSC:Hid (∀ W,Below w5.heap.size w5 W->W.cell? ⟨wr.heap.size,0,none⟩=some (.int .i64 (h:Int))):=fun W hW=>(HX5.out.below hW HX5.out.lt).cell (i:=0) (by simp)
    have HSZ:Hid (w.heap.size+2<=w5.drew.heap.size):=by have h1:=HB5.out.size;show _<=w5.heap.size;omega
    have HP0:=Lib.hid hp0
    have HA0:=Lib.hid ha0
    clear hi hbr hbq hbz hw5 hb5 hx5 hp0 ha0
    go_wp2_with fail
    rw [HW5.out]
    go_region_held_law (fun W=>W.cell? ⟨wr.heap.size,0,none⟩=some (.int .i64 (h:Int)))
     (first | exact v0 | exact S9)
     (first
      | (go_at_call 40;(with_reducible refine HHD.out.mono ?_);rintro e w9 ⟨rfl,rfl⟩)
      | (go_at_call 72;(with_reducible refine HOD.out.mono ?_);rintro e w9 ⟨b9,P9,A9,n9,c9,rfl,hp9,ha9,hb9⟩;have hb59:Below w5.heap.size w5 w9:=hop (Below.refl _ _).drew hb9;have S9:=HSC.out w9 hb59;have B59:=Lib.hid hb59;have HP9:=Lib.hid hp9;have HA9:=Lib.hid ha9;clear hp9 ha9 hb9 hb59))
    have hbq9:=(BQ.out.below HB5.out hlt).below B59.out (Nat.lt_of_lt_of_le hlt HB5.out.size)
    have y4:=hbq9.cell (i:=4) (by simp)
    have y5:=hbq9.cell (i:=5) (by simp)
    simp only [List.getElem_cons_zero,List.getElem_cons_succ] at y4 y5
    have f4:=hbq9.free 4
    have f5:=hbq9.free 5
    have BQ9:=Lib.hid hbq9
    have BEND:Hid (Below w.heap.size w ((w9.setCell ⟨w.heap.size+1,4,none⟩ (.pointer P9)).setCell ⟨w.heap.size+1,5,none⟩ (.slice A9 n9 c9))):=((hop B5.out B59.out).setCell (by simp) _).setCell (by simp) _
    clear hbq9
    rcases HE1.out with rfl | rfl
    all_goals
     go_wp2_with fail
     go_roundg 0
     case measure=>omega
     case rel=>
      have BZ9:=(BZ.out.below HB5.out BZ.out.lt).below B59.out (Nat.lt_of_lt_of_le BZ.out.lt HB5.out.size)
      exact ⟨2,_,by omega,rfl,BEND.out,(BQ9.out.set 4 (.pointer P9)).set 5 (.slice A9 n9 c9),(BZ9.other _ _ (by simp)).other _ _ (by simp),.inr (.inr ⟨rfl,b0,P0,A0,n0,c0,b9,P9,A9,n9,c9,rfl,HP0.out,HP9.out,(HA0.out.spared (.of_below (hop HB5.out B59.out) _)).spared (sp_two w9 (Nat.lt_succ_self _) _ _),(HA9.out.lower HSZ.out).spared (sp_two w9 (Nat.lt_succ_self _) _ _)⟩)⟩
  · have x0:=hbq.cell (i:=0) (by simp)
    have x1:=hbq.cell (i:=1) (by simp)
    have x2:=hbq.cell (i:=2) (by simp)
    have x3:=hbq.cell (i:=3) (by simp)
    have x4:=hbq.cell (i:=4) (by simp)
    have x5:=hbq.cell (i:=5) (by simp)
    simp only [List.getElem_cons_zero,List.getElem_cons_succ] at x0 x1 x2 x3 x4 x5
    have z0:=hbz.cell (i:=0) (by simp [noArea2])
    have z1:=hbz.cell (i:=1) (by simp [noArea2])
    have z2:=hbz.cell (i:=2) (by simp [noArea2])
    have z3:=hbz.cell (i:=3) (by simp [noArea2])
    have z4:=hbz.cell (i:=4) (by simp [noArea2])
    have z5:=hbz.cell (i:=5) (by simp [noArea2])
    simp only [noArea2,List.getElem_cons_zero,List.getElem_cons_succ] at z0 z1 z2 z3 z4 z5
    have q0:=hbz.free 0
    have q1:=hbz.free 1
    have q2:=hbz.free 2
    have q3:=hbz.free 3
    have q4:=hbz.free 4
    have q5:=hbz.free 5
    have HP0:=Lib.hid hp0
    have HP1:=Lib.hid hp1
    have HA0:=Lib.hid ha0
    have HA1:=Lib.hid ha1
    clear hi hbr hbq hbz hp0 hp1 ha0 ha1
    have hB:w.heap.size<w.heap.size+2:=by omega
    have SP:Hid (Spared wr ((((((wr.setCell ⟨w.heap.size,0,none⟩ (.int .i64 0)).setCell ⟨w.heap.size,1,none⟩ (.pointer P0)).setCell ⟨w.heap.size,2,none⟩ (.slice A0 n0 c0)).setCell ⟨w.heap.size,3,none⟩ (.int .i64 (h:Int))).setCell ⟨w.heap.size,4,none⟩ (.pointer P1)).setCell ⟨w.heap.size,5,none⟩ (.slice A1 n1 c1)) (fun k=>k<w.heap.size+2)):=((((((Spared.refl wr (fun k=>k<w.heap.size+2)).setCell hB _ _).setCell hB _ _).setCell hB _ _).setCell hB _ _).setCell hB _ _).setCell hB _ _
    have BE:Hid (Below w.heap.size w ((((((wr.setCell ⟨w.heap.size,0,none⟩ (.int .i64 0)).setCell ⟨w.heap.size,1,none⟩ (.pointer P0)).setCell ⟨w.heap.size,2,none⟩ (.slice A0 n0 c0)).setCell ⟨w.heap.size,3,none⟩ (.int .i64 (h:Int))).setCell ⟨w.heap.size,4,none⟩ (.pointer P1)).setCell ⟨w.heap.size,5,none⟩ (.slice A1 n1 c1))):=(((((BR.out.setCell (by simp) _).setCell (by simp) _).setCell (by simp) _).setCell (by simp) _).setCell (by simp) _).setCell (by simp) _
    clear hB
    go_wp2_with fail
    exact bodyPost_ret (v:= .tuple #[.agg #[.int .i64 0,.pointer P0,.slice A0 n0 c0,.int .i64 (h:Int),.pointer P1,.slice A1 n1 c1],.int .i64 0]) (by simp [results,Tryz.results41,go_sem,z0,z1,z2,z3,z4,z5]) rfl ⟨b0,P0,A0,n0,c0,b1,P1,A1,n1,c1,rfl,HP0.out,HP1.out,(HA0.out.spared SP.out).lower (by omega),(HA1.out.spared SP.out).lower (by omega),BE.out⟩
set_option maxRecDepth 100000 in
set_option maxHeartbeats 4000000 in
theorem areasOf_off (w:World) (g:Nat) (F:Nat->Prop) (s:Dsk) (h:Nat) (hd:DiskAt w g F s) (hh:h=s.K.length/2) (h0:OpTo s ((0:Nat):Int) (h:Int) 5 none []):
 Calls Tryz.prog 41 #[.pointer (some ⟨g,0,none⟩)] w fun e w'=>e= .returned (.tuple #[.agg noArea2.toArray,.int .i64 5])/\Below w.heap.size w w':=by
 have hK:=hd.ok.hi
 have hh4:h<=2048:=by omega
 have HHALF:Hid (∀ W,Below w.heap.size w W->Calls Tryz.prog 40 #[.pointer (some ⟨g,0,none⟩)] W fun e w'=>e= .returned (.int .i64 (h:Int))/\w'=W):=fun W hW=>half_any (hd.still hW) hh
 have HO0:Hid (∀ W,Below w.heap.size w W->Calls Tryz.prog 72 #[.pointer (some ⟨g,0,none⟩),.int .i64 0,.int .i64 (h:Int)] W (KOpen W g 0 5 none [])):=fun W hW=>kopen_ptr (f:=0) (hd.still hW) h0 (Nat.zero_le _)
 have hix0:=fun (a0 a1 a2 a3 a4 a5:Value) (W:World)=>(index_two a0 a1 a2 a3 a4 a5 W).1
 clear hd hh h0 hK
 go_enter Tryz.func41,Tryz.ntmps41
 go_wp2_with fail
 with_reducible refine (HHALF.out _ ((Below.refl _ _).alloc (Nat.le_refl _) _)).mono ?_
 rintro e w1 ⟨rfl,rfl⟩
 go_wp2_with fail
 go_loopg [16] 2 (fun kx s16 wr=>kx=2/\s16= .int .i64 0/\Below w.heap.size w wr/\Blk wr w.heap.size noArea2 86)
 case atStart=>exact ⟨rfl,rfl,((Below.refl _ _).alloc (Nat.le_refl _) _).alloc (by simp) _,(Blk.new w noArea2 86).alloc _⟩
 case round=>
  obtain ⟨rfl,rfl,hbr,hbz⟩:=hrel
  have BR:=Lib.hid hbr
  have BZ:=Lib.hid hbz
  obtain ⟨w5,hw5⟩:∃ w5,w5=wr.alloc (.cells #[.int .i64 0,.pointer none,.slice none 0 0] 85):=⟨_,rfl⟩
  have hb5:Below wr.heap.size wr w5:=by rw [hw5];exact (Below.refl _ _).alloc (Nat.le_refl _) _
  have B5:Hid (Below w.heap.size w w5):=hop BR.out hb5
  have hx5:Blk w5 wr.heap.size [.int .i64 0,.pointer none,.slice none 0 0] 85:=by rw [hw5];exact Blk.new _ _ _
  have HX5:=Lib.hid hx5
  have HB5:=Lib.hid hb5
  have HW5:Hid (wr.alloc (.cells #[.int .i64 0,.pointer none,.slice none 0 0] 85)=w5):=hw5.symm
  have v0:=hx5.cell (i:=0) (by simp)
  simp only [List.getElem_cons_zero] at v0
  have HHD:=Lib.hid (HHALF.out w5.drew B5.out.drew)
  have HOD:=Lib.hid (HO0.out w5.drew B5.out.drew)
  have HSC:Hid (∀ W,Below w5.heap.size w5 W->W.cell? ⟨wr.heap.size,0,none⟩=some (.int .i64 0)):=fun W hW=>(HX5.out.below hW HX5.out.lt).cell (i:=0) (by simp)
  clear hbr hbz hw5 hb5 hx5
  go_wp2_with fail
  rw [HW5.out]
  go_region_held_law (fun W=>W.cell? ⟨wr.heap.size,0,none⟩=some (.int .i64 0))
   (first | exact v0 | exact S9)
   (first
    | (go_at_call 40;(with_reducible refine HHD.out.mono ?_);rintro e w9 ⟨rfl,rfl⟩)
    | (go_at_call 72;(with_reducible refine HOD.out.mono ?_);rintro e w9 ⟨b9,P9,A9,n9,c9,rfl,hp9,ha9,hb9⟩;have hb59:Below w5.heap.size w5 w9:=hop (Below.refl _ _).drew hb9;have S9:=HSC.out w9 hb59;have B59:=Lib.hid hb59;clear hp9 ha9 hb9 hb59))
  have hbz9:=(BZ.out.below HB5.out BZ.out.lt).below B59.out (Nat.lt_of_lt_of_le BZ.out.lt HB5.out.size)
  have z0:=hbz9.cell (i:=0) (by simp [noArea2])
  have z1:=hbz9.cell (i:=1) (by simp [noArea2])
  have z2:=hbz9.cell (i:=2) (by simp [noArea2])
  have z3:=hbz9.cell (i:=3) (by simp [noArea2])
  have z4:=hbz9.cell (i:=4) (by simp [noArea2])
  have z5:=hbz9.cell (i:=5) (by simp [noArea2])
  simp only [noArea2,List.getElem_cons_zero,List.getElem_cons_succ] at z0 z1 z2 z3 z4 z5
  have q0:=hbz9.free 0
  have q1:=hbz9.free 1
  have q2:=hbz9.free 2
  have q3:=hbz9.free 3
  have q4:=hbz9.free 4
  have q5:=hbz9.free 5
  have BE:Hid (Below w.heap.size w ((((((w9.setCell ⟨w.heap.size,0,none⟩ (.int .i64 0)).setCell ⟨w.heap.size,1,none⟩ (.pointer none)).setCell ⟨w.heap.size,2,none⟩ (.slice none 0 0)).setCell ⟨w.heap.size,3,none⟩ (.int .i64 0)).setCell ⟨w.heap.size,4,none⟩ (.pointer none)).setCell ⟨w.heap.size,5,none⟩ (.slice none 0 0))):=((((((hop B5.out B59.out).setCell (by simp) _).setCell (by simp) _).setCell (by simp) _).setCell (by simp) _).setCell (by simp) _).setCell (by simp) _
  clear hbz9
  go_wp2_with fail
  exact bodyPost_ret (v:= .tuple #[.agg noArea2.toArray,.int .i64 5]) (by simp [results,Tryz.results41,go_sem,noArea2,z0,z1,z2,z3,z4,z5]) rfl ⟨rfl,BE.out⟩
end Go.Proofs.YtdaahapbpnjkfaaGreat
