/-
An area's read: the bytes of its blocks. Condition: the area lies on the disk.
-/
import Derived.Test.YtdaahapbpnjkfaaGreatCKvRows
import Derived.Test.YtdaahapbpnjkfaaGreatCLgBegin
namespace Go.Proofs.YtdaahapbpnjkfaaGreat
open Go.RowKit
theorem refPut_made (A:Option Addr) (l:List UInt8) (n c m:Nat) (w:World) (hn:l.length=n) (hl:n<=140737488351232) (hm:m<=9223372036854775807) (hs:Seen w A l):
 Calls Tryz.prog 92 #[.slice A n c,.int .i64 (m:Int)] w fun e w'=>∃ A' k c',e= .returned (.slice A' k c')/\MadeN 5 w (l++putL m) A' k c' w':=by
 subst hn
 refine (refPut_any A l c m w hl hm hs).mono ?_
 rintro e w' ⟨v,rfl,hm⟩
 exact hm.named.elim fun A ⟨m,c,h1,h2⟩=>⟨A,m,c,by rw [h1],h2⟩
theorem refCrc_made (A:Option Addr) (l:List UInt8) (n c:Nat) (w:World) (hn:l.length=n) (hl:n<=9223372036854775807) (hs:Seen w A l):
 Calls Tryz.prog 138 #[.slice A n c] w fun e w'=>e= .returned (.int .u32 (crcOf l:Nat))/\w=w':=by
 subst hn
 exact refCrc_any A l c w hl hs
theorem refSize_any (n:Int) (w:World) (h0: -9223372036854775808<=n) (h1:n<=9223372036854775807):
 Calls Tryz.prog 108 #[.int .i64 n] w fun e w'=>e= .returned (.int .i64 (sizeL n))/\Below w.heap.size w w':=by
 by_cases hn:n<0
 · have HE:Hid (sizeL n=0):=if_pos (.inl hn)
   go_enter Tryz.func108,Tryz.ntmps108
   go_wp2_with fail
   go_ret
   exact ⟨ret_int HE.out.symm,Below.refl _ _⟩
 · by_cases hb:65536<n
   · have HE:Hid (sizeL n=0):=if_pos (.inr hb)
     have hn':0<=n:=by omega
     clear hn
     go_enter Tryz.func108,Tryz.ntmps108
     go_wp2_with fail
     go_ret
     exact ⟨ret_int HE.out.symm,Below.refl _ _⟩
   · obtain ⟨m,rfl⟩:=Int.eq_ofNat_of_zero_le (show 0<=n by omega)
     have HE:Hid (sizeL (m:Int)=((putL m).length:Int)+m+21):=by show _=_;rw [sizeL,if_neg (by omega)];rfl
     have hm:m<=65536:=by omega
     have h3:=putL3 hm
     have HL:Hid ((putL m).length<=3):=h3
     clear hn hb h3
     go_enter Tryz.func108,Tryz.ntmps108
     go_wp2_with fail
     refine (refPut_made none [] 0 0 m _ rfl (by omega) (by omega) (.inl rfl)).mono ?_
     rintro e w1 ⟨A,k,c,rfl,hk⟩
     have HK:Hid ((putL m).length=k):=hk.1
     have HB:=Lib.hid hk.2.2
     have hk3:k<=3:=by have:=HL.out;have:=HK.out;omega
     clear hk
     go_wp2_with fail
     go_ret
     refine ⟨ret_int ?_,HB.out⟩
     rw [HE.out,HK.out]
set_option maxHeartbeats 400000 in
theorem refMay_any (g s:Int) (A:Option Addr) (n c:Nat) (w:World) (hl:n<=9223372036854775807) (g0: -9223372036854775808<=g) (g1:g<=9223372036854775807) (s0: -9223372036854775808<=s) (s1:s<=9223372036854775807):
 Calls Tryz.prog 111 #[.agg #[.int .i64 g,.int .i64 s,.slice A n c]] w fun e w'=>e= .returned (.bool (mayB g s n))/\Below w.heap.size w w':=by
 by_cases h1:0<=g
 · by_cases h2:g<=1152921504606846976
   · by_cases h3:0<=s
     · by_cases h4:s<=1152921504606846976
       · by_cases h5:n<=65536
         · have HE:Hid (mayB g s n=true):=decide_eq_true ⟨h1,h2,h3,h4,h5⟩
           go_enter Tryz.func111,Tryz.ntmps111
           go_wp2_with fail
           go_ret
           exact ⟨ret_bool (show decide ((n:Int)<=65536)=mayB g s n from by rw [HE.out];exact decide_eq_true (by omega)),(Below.refl _ _).alloc (Nat.le_refl _) _⟩
         · have HE:Hid (mayB g s n=false):=decide_eq_false (by omega)
           go_enter Tryz.func111,Tryz.ntmps111
           go_wp2_with fail
           go_ret
           exact ⟨ret_bool (show decide ((n:Int)<=65536)=mayB g s n from by rw [HE.out];exact decide_eq_false (by omega)),(Below.refl _ _).alloc (Nat.le_refl _) _⟩
       · have HE:Hid (mayB g s n=false):=decide_eq_false (by omega)
         go_enter Tryz.func111,Tryz.ntmps111
         go_wp2_with fail
         go_ret
         exact ⟨ret_bool HE.out.symm,(Below.refl _ _).alloc (Nat.le_refl _) _⟩
     · have HE:Hid (mayB g s n=false):=decide_eq_false (by omega)
       go_enter Tryz.func111,Tryz.ntmps111
       go_wp2_with fail
       go_ret
       exact ⟨ret_bool HE.out.symm,(Below.refl _ _).alloc (Nat.le_refl _) _⟩
   · have HE:Hid (mayB g s n=false):=decide_eq_false (by omega)
     go_enter Tryz.func111,Tryz.ntmps111
     go_wp2_with fail
     go_ret
     exact ⟨ret_bool HE.out.symm,(Below.refl _ _).alloc (Nat.le_refl _) _⟩
 · have HE:Hid (mayB g s n=false):=decide_eq_false (by omega)
   go_enter Tryz.func111,Tryz.ntmps111
   go_wp2_with fail
   go_ret
   exact ⟨ret_bool HE.out.symm,(Below.refl _ _).alloc (Nat.le_refl _) _⟩
set_option maxHeartbeats 400000 in
theorem refSum_any (A:Option Addr) (l:List UInt8) (n c:Nat) (w:World) (hn:l.length=n) (hl:n<=9223372036854775807) (hs:Seen w A l):
 Calls Tryz.prog 110 #[.slice A n c] w fun e w'=>∃ A',e= .returned (.slice A' 4 4)/\Seen w' A' (sumOf l)/\Below w.heap.size w w':=by
 have HN:=Lib.hid hn
 have HS:=Lib.hid hs
 clear hn hs
 go_enter Tryz.func110,Tryz.ntmps110
 go_wp2_with fail
 refine (refCrc_made A l n c _ HN.out hl HS.out).mono ?_
 rintro e w1 ⟨rfl,rfl⟩
 have hxl:=crcOf_lt l
 have HX:=Lib.hid (sum4_cells (crcOf l) hxl)
 have HE:Hid (sumOf l=sum4 (crcOf l)):=rfl
 generalize crcOf l=X at *
 go_wp2_with fail
 go_ret
 refine ⟨_,rfl,?_,(Below.refl _ _).alloc (Nat.le_refl _) _⟩
 rw [HE.out,<-HX.out]
 exact seen_mark _ _ _ (0,0)
set_option maxRecDepth 100000 in
set_option maxHeartbeats 2000000 in
theorem refEncode_any (g s:Int) (A:Option Addr) (d:List UInt8) (n c:Nat) (w:World) (hs:Seen w A d) (hn:d.length=n) (hl:n<=9223372036854775807) (g0: -9223372036854775808<=g) (g1:g<=9223372036854775807) (s0: -9223372036854775808<=s) (s1:s<=9223372036854775807):
 Calls Tryz.prog 112 #[.agg #[.int .i64 g,.int .i64 s,.slice A n c]] w fun e w'=>∃ A' n' c',e= .returned (.slice A' n' c')/\MadeN 5 w (encF g s d) A' n' c' w':=by
 obtain ⟨i0,hi,hz0,hz1,hz2⟩:=info_parts info8p
 have HN:=Lib.hid hn
 have HS:=Lib.hid (hs.below (boxed_below w g s (.slice A n c)))
 have HBX:=Lib.hid (boxed_below w g s (.slice A n c))
 have HCELL:Hid (∀ W,Below (boxed w g s (.slice A n c)).heap.size (boxed w g s (.slice A n c)) W->W.cell? ⟨w.heap.size,0,none⟩=some (.int .i64 g)/\W.cell? ⟨w.heap.size,1,none⟩=some (.int .i64 s)/\W.cell? ⟨w.heap.size,2,none⟩=some (.slice A n c)):=fun W hb=>boxed_cells hb
 obtain ⟨W0,hW0⟩:∃ W0,W0=boxed w g s (.slice A n c):=⟨_,rfl⟩
 rw [<-hW0] at HS HBX HCELL
 have HW0:Hid (W0=w.alloc (.cells #[.int .i64 g,.int .i64 s,.slice A n c] 134)):=hW0
 have HMAY:=Lib.hid (fun W=>refMay_any g s A n c W hl g0 g1 s0 s1)
 clear hs hW0
 by_cases hm:mayB g s d.length=true
 · have HE:=Lib.hid (encF_may hm)
   rw [<-HN.out] at HMAY
   rw [hm] at HMAY
   rw [HN.out] at HMAY
   have n1:=(mayB_true hm).2.2.2.2
   have hn65:n<=65536:=by omega
   clear hm hn
   go_enter Tryz.func112,Tryz.ntmps112
   go_wp2_with fail
   rw [<-HW0.out]
   refine (HMAY.out W0).mono ?_
   rintro e w1 ⟨rfl,hb1⟩
   have HB1:=Lib.hid hb1
   have HS245:Hid (Seen (w1.alloc (.cells #[.int .u8 245] 5)) (some ⟨w1.heap.size,0,none⟩) [245]):=seen_mark w1 5 [245] (0,0)
   have HB1':Hid (Below W0.heap.size W0 (w1.alloc (.cells #[.int .u8 245] 5))):=hb1.alloc hb1.size _
   obtain ⟨p0,p1,p2⟩:=HCELL.out _ HB1'.out
   clear hb1
   go_wp2_with fail
   refine (refPut_made (some ⟨w1.heap.size,0,none⟩) [245] 1 1 n _ rfl (by omega) (by omega) HS245.out).mono ?_
   rintro e w3 ⟨A3,N3,c3,rfl,hm3⟩
   have HM3:Hid (MadeN 5 W0 ([245]++putL n) A3 N3 c3 w3):=⟨hm3.1,hm3.2.since HB1'.out⟩
   have hN3:N3<=4:=by
    have h1:=hm3.1
    have h2:=putL3 hn65
    rw [List.length_append] at h1
    simp only [List.length_cons,List.length_nil] at h1
    omega
   obtain ⟨q0,q1,q2⟩:=HCELL.out w3 HM3.out.2.2
   clear hm3 p0 p1 p2
   go_wp2_with fail
   refine (refWide_any g w3).mono ?_
   rintro e w4 ⟨A4,rfl,hs4,hb4⟩
   have HS4:Hid (Seen w4 A4 (wideI g)):=hs4
   have HM4:=Lib.hid (HM3.out.below hb4)
   have L8:Hid ((wideI g).length=8):=wideI_length g
   clear hs4 hb4 q0 q1 q2 HM3
   obtain ⟨D3,hD3⟩:∃ D:List UInt8,D=[245]++putL n:=⟨_,rfl⟩
   rw [<-hD3] at HM4
   obtain ⟨D5,hD5⟩:∃ D:List UInt8,D=D3++wideI g:=⟨_,rfl⟩
   obtain ⟨N5,hN5⟩:∃ N:Nat,N=N3+8:=⟨_,rfl⟩
   have ED3:=Lib.hid hD3
   have ED5:=Lib.hid hD5
   have EN5:=Lib.hid hN5
   clear hD3 hD5 hN5
   go_wp2_with (at_builtin;refine wpList_append_to w4 rfl (.tmp 15) (.tmp 18) 22 rfl 5 i0 (.int .u8 0) Tryz.underlying22 hi hz0 hz1 hz2 rfl W0 A3 N3 c3 D3 A4 8 8 (wideI g) D5 N5 rfl rfl HM4 HS4 L8 ED5 EN5 (by omega) ?_)
   intro A5 c5 w5 HM5 _
   obtain ⟨p0,p1,p2⟩:=HCELL.out w5 HM5.out.2.2
   clear HM4 HS4
   go_wp2_with fail
   refine (refWide_any s w5).mono ?_
   rintro e w6 ⟨A6,rfl,hs6,hb6⟩
   have HS6:Hid (Seen w6 A6 (wideI s)):=hs6
   have HM6:=Lib.hid (HM5.out.below hb6)
   have L8':Hid ((wideI s).length=8):=wideI_length s
   clear hs6 hb6 p0 p1 p2 HM5
   obtain ⟨D7,hD7⟩:∃ D:List UInt8,D=D5++wideI s:=⟨_,rfl⟩
   obtain ⟨N7,hN7⟩:∃ N:Nat,N=N5+8:=⟨_,rfl⟩
   have ED7:=Lib.hid hD7
   have EN7:=Lib.hid hN7
   clear hD7 hN7
   have hN5:N5<=18:=by have:=EN5.out;omega
   go_wp2_with (at_builtin;refine wpList_append_to w6 rfl (.tmp 20) (.tmp 23) 22 rfl 5 i0 (.int .u8 0) Tryz.underlying22 hi hz0 hz1 hz2 rfl W0 A5 N5 c5 D5 A6 8 8 (wideI s) D7 N7 rfl rfl HM6 HS6 L8' ED7 EN7 (by omega) ?_)
   intro A7 c7 w7 HM7 _
   obtain ⟨p0,p1,p2⟩:=HCELL.out w7 HM7.out.2.2
   clear HM6 HS6
   have HSD:=Lib.hid (HS.out.below HM7.out.2.2)
   obtain ⟨D8,hD8⟩:∃ D:List UInt8,D=D7++d:=⟨_,rfl⟩
   obtain ⟨N8,hN8⟩:∃ N:Nat,N=N7+n:=⟨_,rfl⟩
   have ED8:=Lib.hid hD8
   have EN8:=Lib.hid hN8
   clear hD8 hN8
   have hN7:N7<=26:=by have:=EN7.out;omega
   go_wp2_with (at_builtin;refine wpList_append_to w7 rfl (.tmp 25) (.tmp 27) 22 rfl 5 i0 (.int .u8 0) Tryz.underlying22 hi hz0 hz1 hz2 rfl W0 A7 N7 c7 D7 A n c d D8 N8 rfl rfl HM7 HSD HN ED8 EN8 (by omega) ?_)
   intro A8 c8 w8 HM8 _
   clear HM7 HSD p0 p1 p2
   have hN8:N8<=70000:=by have:=EN8.out;omega
   go_wp2_with fail
   refine (refSum_any A8 D8 N8 c8 w8 HM8.out.1 (by omega) HM8.out.seen).mono ?_
   rintro e w9 ⟨A9,rfl,hs9,hb9⟩
   have HS9:=Lib.hid hs9
   have HM9:=Lib.hid (HM8.out.below hb9)
   have L4:Hid ((sumOf D8).length=4):=rfl
   clear hs9 hb9 HM8
   obtain ⟨D9,hD9⟩:∃ D:List UInt8,D=D8++sumOf D8:=⟨_,rfl⟩
   obtain ⟨N9,hN9⟩:∃ N:Nat,N=N8+4:=⟨_,rfl⟩
   have ED9:=Lib.hid hD9
   have EN9:=Lib.hid hN9
   clear hD9 hN9
   go_wp2_with (at_builtin;refine wpList_append_to w9 rfl (.tmp 31) (.tmp 32) 22 rfl 5 i0 (.int .u8 0) Tryz.underlying22 hi hz0 hz1 hz2 rfl W0 A8 N8 c8 D8 A9 4 4 (sumOf D8) D9 N9 rfl rfl HM9 HS9 L4 ED9 EN9 (by omega) ?_)
   intro A10 c10 w10 HM10 _
   go_wp2_with fail
   go_ret
   have hD:D9=encF g s d:=by
    have h8:D8=headL g s d:=by
     rw [ED8.out,ED7.out,ED5.out,ED3.out,headL,HN.out]
     simp
    rw [HE.out,ED9.out,h8,frameL]
   have h9:=HM10.out
   rw [hD] at h9
   exact ⟨A10,N9,c10,rfl,h9.1,h9.2.since HBX.out⟩
 · have hm:mayB g s d.length=false:=by simpa using hm
   have HE:=Lib.hid (encF_not hm)
   rw [<-HN.out] at HMAY
   rw [hm] at HMAY
   rw [HN.out] at HMAY
   clear hm hn
   go_enter Tryz.func112,Tryz.ntmps112
   go_wp2_with fail
   rw [<-HW0.out]
   refine (HMAY.out W0).mono ?_
   rintro e w1 ⟨rfl,hb1⟩
   have HB1:=Lib.hid hb1
   clear hb1
   go_wp2_with fail
   go_ret
   refine ⟨none,0,0,rfl,by rw [HE.out];rfl,?_⟩
   rw [HE.out]
   exact ⟨World.ownsRow_nil _ _ _ _,HBX.out.trans (HB1.out.mono HBX.out.size)⟩
def LRMoved (w:World) (r b:Nat) (G:Nat->Prop) (s:Dsk) (l:Lg) (w':World):Prop:=
 ∃ G',RefAt w' r G' s/\Blk w' b (lgCells r l) 102/\ ¬ G' b/\Spared w w' (fun k=>G k\/k=b)/\∀ k,G' k->G k\/w.heap.size<=k
structure LogR (w:World) (r b:Nat) (G:Nat->Prop) (s:Dsk) (l:Lg):Prop where
 disk:RefAt w r G s
 blk:Blk w b (lgCells r l) 102
 not: ¬ G b
 fits:l.Fits s
section
variable {w:World} {r b:Nat} {G:Nat->Prop} {s:Dsk} {l:Lg}
theorem LogR.still {w':World} (h:LogR w r b G s l) (hb:Below w.heap.size w w'):LogR w' r b G s l:=⟨h.disk.still hb,h.blk.below hb h.blk.lt,h.not,h.fits⟩
end
set_option maxRecDepth 100000 in
set_option maxHeartbeats 1000000 in
theorem refArea_any (w:World) (r:Nat) (G:Nat->Prop) (s:Dsk) (f N:Int) (h:RefAt w r G s):
 Calls Tryz.prog 77 #[.pointer (some ⟨r,0,none⟩),.int .i64 f,.int .i64 N] w fun e w'=>e= .returned (.bool (decide (0<=f/\1<=N/\N<=(s.K.length:Int)-f)))/\Below w.heap.size w w':=by
 obtain ⟨vK,vM,PK,PM,armed,left,h⟩:=h
 obtain ⟨⟨A0,c0',rfl,_⟩,_⟩:=h.forms
 have hK4:=h.hi
 obtain ⟨c0,_⟩:=h.cells
 obtain ⟨v,hv⟩:∃ v,v=decide (0<=f/\1<=N/\N<=(s.K.length:Int)-f):=⟨_,rfl⟩
 rw [<-hv]
 have HV:=Lib.hid hv
 clear h hv
 by_cases h1:1<=N
 · by_cases hN:N<=(s.K.length:Int)
   · by_cases h0:0<=f
     · have hw:IntKind.i64.wrap ((s.K.length:Int)-N)=(s.K.length:Int)-N:=by rw [IntKind.wrap_i64];omega
       by_cases h3:f<=(s.K.length:Int)-N
       · have hb:v=true:=HV.out.trans (decide_eq_true (by omega))
         subst hb
         go_enter Tryz.func77,Tryz.ntmps77
         go_wp2
         go_ret
         exact ⟨rfl,Below.refl _ _⟩
       · have hb:v=false:=HV.out.trans (decide_eq_false (by omega))
         subst hb
         go_enter Tryz.func77,Tryz.ntmps77
         go_wp2
         go_ret
         exact ⟨rfl,Below.refl _ _⟩
     · have hb:v=false:=HV.out.trans (decide_eq_false (by omega))
       subst hb
       go_enter Tryz.func77,Tryz.ntmps77
       go_wp2
       go_ret
       exact ⟨rfl,Below.refl _ _⟩
   · by_cases h0:0<=f
     · have hb:v=false:=HV.out.trans (decide_eq_false (by omega))
       subst hb
       go_enter Tryz.func77,Tryz.ntmps77
       go_wp2
       go_ret
       exact ⟨rfl,Below.refl _ _⟩
     · have hb:v=false:=HV.out.trans (decide_eq_false (by omega))
       subst hb
       go_enter Tryz.func77,Tryz.ntmps77
       go_wp2
       go_ret
       exact ⟨rfl,Below.refl _ _⟩
 · have hb:v=false:=HV.out.trans (decide_eq_false (by omega))
   subst hb
   go_enter Tryz.func77,Tryz.ntmps77
   go_wp2
   go_ret
   exact ⟨rfl,Below.refl _ _⟩
set_option maxRecDepth 100000 in
set_option maxHeartbeats 2000000 in
theorem refAdd_any (w:World) (r b:Nat) (G:Nat->Prop) (s:Dsk) (l:Lg) (A:Option Addr) (d:List UInt8) (n c q:Nat) (h:LogR w r b G s l) (hdn:l.down=false) (ha:Seen w A d) (hn:d.length=n) (hl:n<=9223372036854775807) (hf:s.Few q) (hq:q<=700000):
 Calls Tryz.prog 80 #[.pointer (some ⟨b,0,none⟩),.slice A n c] w fun e w'=>e= .returned (.int .i64 (l.err s d))/\LRMoved w r b G (l.dsk s d) (l.next s d) w':=by
 have HSTAY:Hid (∀ w',Below w.heap.size w w'->LRMoved w r b G s l w'):=fun w' hb=>⟨G,h.disk.still hb,h.blk.below hb h.blk.lt,h.not,.of_below hb _,fun _ h=> .inl h⟩
 have H:=Lib.hid h
 have hK4:=h.disk.ok.hi
 have hfin:=h.fits.fin
 have hbl:=h.fits.area
 have hsq:=h.fits.seq
 have hg1:=h.fits.gen1
 have hg2:=h.fits.gen2
 obtain ⟨c0,c1,c2,c3,c4,c5,c6⟩:=lg_cells h.blk
 have f4:=h.blk.free 4
 have f5:=h.blk.free 5
 have f6:=h.blk.free 6
 have HA:=Lib.hid ha
 have HN:=Lib.hid hn
 have HF:=Lib.hid hf
 have HD:=Lib.hid hdn
 clear h ha hn hf hdn
 have HENC:=Lib.hid (refEncode_any l.gen (l.seq:Int) A d n c w.drew (HA.out.below (Below.refl _ _).drew) HN.out hl (by omega) (by omega) (by omega) (by omega))
 have HCODE:Hid (l.code d=encF l.gen (l.seq:Int) d):=rfl
 rw [<-HCODE.out] at HENC
 have hcf:=l.code_fits d
 go_enter Tryz.func80,Tryz.ntmps80
 go_wp2
 go_still_tail 10,(by kernel_rfl)
 go_wp2_with fail
 refine HENC.out.mono ?_
 rintro e w1 ⟨A1,n1,c1',rfl,hm1⟩
 have HM1:=Lib.hid hm1
 have HB1:Hid (Below w.heap.size w w1):=undrew hm1.2.2
 have H1:=Lib.hid (H.out.still HB1.out)
 obtain ⟨c0,c1,c2,c3,c4,c5,c6⟩:=lg_cells H1.out.blk
 have f4:=H1.out.blk.free 4
 have f5:=H1.out.blk.free 5
 have f6:=H1.out.blk.free 6
 have hn1:n1<=65560:=by rw [<-hm1.1];exact hcf
 have HL1:=Lib.hid hm1.1
 have hw64:IntKind.i64.wrap ((l.blocks:Int)*64)=(l.blocks:Int)*64:=by rw [IntKind.wrap_i64];omega
 have hw65:IntKind.i64.wrap ((l.blocks:Int)*64-(l.fin:Int))=(l.blocks:Int)*64-(l.fin:Int):=by rw [IntKind.wrap_i64];omega
 have hroom:l.room=l.blocks*64-l.fin:=rfl
 clear hm1 HENC
 by_cases hfull:l.full d=true
 · have HE:Hid (l.err s d=4/\l.dsk s d=s/\l.next s d=l):=by
    unfold Lg.err Lg.dsk Lg.next
    rw [HD.out,hfull]
    exact ⟨rfl,rfl,rfl⟩
   have hfl:n1=0\/l.room<n1:=by
    unfold Lg.full at hfull
    rw [Bool.or_eq_true,decide_eq_true_iff,decide_eq_true_iff,HL1.out] at hfull
    exact hfull
   clear hfull
   by_cases h0:n1=0
   · have hz:((n1:Int)==0)=true:=by rw [h0];rfl
     clear h0 hfl hroom
     go_wp2
     go_quiet (fail)
     go_wp2
     go_ret
     rw [HE.out.1,HE.out.2.1,HE.out.2.2]
     exact ⟨rfl,HSTAY.out _ (below_drewN HB1.out _)⟩
   · have hz:((n1:Int)==0)=false:=by rw [beq_eq_false_iff_ne];omega
     have hr:(l.blocks:Int)*64-(l.fin:Int)<(n1:Int):=by omega
     clear h0 hfl hroom
     go_wp2
     go_quiet (fail)
     go_wp2
     go_ret
     rw [HE.out.1,HE.out.2.1,HE.out.2.2]
     exact ⟨rfl,HSTAY.out _ (below_drewN HB1.out _)⟩
 have hfull':l.full d=false:=by simpa using hfull
 obtain ⟨p1,p2,p3,p4⟩:=Lg.full_false hfull'
 rw [HL1.out] at p1 p2
 have hz:((n1:Int)==0)=false:=by rw [beq_eq_false_iff_ne];omega
 have hr: ¬ (l.blocks:Int)*64-(l.fin:Int)<(n1:Int):=by omega
 have HERR:Hid (l.err s d=s.layErr (laidL s.view l.f l.blocks l.fin (l.code d)) (l.f+l.fin/64)/\l.dsk s d=s.lay (laidL s.view l.f l.blocks l.fin (l.code d)) (l.f+l.fin/64)):=by
  unfold Lg.err Lg.dsk
  rw [HD.out,hfull']
  exact ⟨rfl,rfl⟩
 have HNX:Hid (l.next s d=if l.err s d=0 then l.put d else { l with down:=true }):=by
  show l.next s d=_
  unfold Lg.next
  rw [HD.out,hfull']
  rfl
 have HLAY:=Lib.hid (fun w2 (hb2:Below w1.heap.size w1 w2)=>refLay_any w2 r b G s l.f l.blocks l.fin l.gen (l.seq:Int) (l.fin:Int) l.down A1 (l.code d) n1 c1' q (H1.out.disk.still hb2) (H1.out.still hb2).blk H.out.not (HM1.out.seen.below hb2) HL1.out p1 (by omega) hbl (by omega) HF.out (by omega))
 rw [<-HERR.out.1,<-HERR.out.2] at HLAY
 have hcs:l.err s d=0\/l.err s d=5:=by rw [HERR.out.1];exact layErr_cases _ _ _
 obtain ⟨E,hE⟩:∃ E,E=l.err s d:=⟨_,rfl⟩
 rw [<-hE] at hcs HNX HLAY
 have HE:=Lib.hid hE
 clear hfull hfull' p1 p2 p3 p4 hE hcf hroom
 go_wp2
 go_quiet (fail)
 go_wp2_with fail
 refine (HLAY.out _ (below_drewN (Below.refl _ _) _)).mono ?_
 rintro e w3 ⟨rfl,hp3⟩
 have P3:Hid (RMoved w r G (l.dsk s d) w3):=(hp3.before (below_drewN (Below.refl _ _) _)).before HB1.out
 have HX3:=Lib.hid (P3.out.blk H.out.blk H.out.not)
 obtain ⟨_,_,_,_,d4,d5,_⟩:=lg_cells HX3.out
 have f4':=HX3.out.free 4
 have f5':=HX3.out.free 5
 have f6':=HX3.out.free 6
 clear hp3 HLAY hz hr c0 c1 c2 c3 c4 c5 c6 f4 f5 f6
 rcases hcs with h0 | h5
 · subst h0
   have hw1:IntKind.i64.wrap ((l.fin:Int)+(n1:Int))=(l.fin:Int)+(n1:Int):=by rw [IntKind.wrap_i64];omega
   have hw2:IntKind.i64.wrap ((l.seq:Int)+1)=(l.seq:Int)+1:=by rw [IntKind.wrap_i64];omega
   have HB3:Hid (Blk ((w3.setCell ⟨b,4,none⟩ (.int .i64 ((l.seq:Int)+1))).setCell ⟨b,5,none⟩ (.int .i64 ((l.fin:Int)+(n1:Int)))) b (lgCells r (l.put d)) 102):=by
    have:=(HX3.out.set 4 (.int .i64 ((l.seq:Int)+1))).set 5 (.int .i64 ((l.fin:Int)+(n1:Int)))
    have e:lgCells r (l.put d)=((lgCells r l).set 4 (.int .i64 ((l.seq:Int)+1))).set 5 (.int .i64 ((l.fin:Int)+(n1:Int))):=by
     have e1:(((l.fin+n1:Nat)):Int)=(l.fin:Int)+(n1:Int):=by omega
     have e2:(((l.seq+1:Nat)):Int)=(l.seq:Int)+1:=by omega
     simp only [lgCells,Lg.put,HL1.out,e1,e2,List.set_cons_succ,List.set_cons_zero]
    show Blk _ b (lgCells r (l.put d)) _
    rw [e];exact this
   go_wp2
   go_ret
   obtain ⟨F3,h31,h32,h33⟩:=P3.out
   have hbw:=H.out.blk.lt
   have hnF3: ¬ F3 b:=fun hf=>(h33 b hf).elim H.out.not (fun h=>by omega)
   have hs5:Spared w3 ((w3.setCell ⟨b,4,none⟩ (.int .i64 ((l.seq:Int)+1))).setCell ⟨b,5,none⟩ (.int .i64 ((l.fin:Int)+(n1:Int)))) (· =b):=((Spared.refl w3 (· =b)).setCell rfl 4 _).setCell rfl 5 _
   refine ⟨by rw [<-HE.out];rfl,F3,h31.apart hs5 (fun k hk e=>hnF3 (by rw [<-e];exact hk)),?_,hnF3,?_,h33⟩
   · rw [HNX.out];exact HB3.out
   · exact (h32.mono (fun _ h=> .inl h)).trans (hs5.mono (G:=fun k=>G k\/k=b) (fun _ h=> .inr h)) (fun _ h=> .inl h)
 · subst h5
   have HB3:Hid (Blk (w3.setCell ⟨b,6,none⟩ (.bool true)) b (lgCells r { l with down:=true }) 102):=HX3.out.set 6 (.bool true)
   go_wp2
   go_ret
   obtain ⟨F3,h31,h32,h33⟩:=P3.out
   have hbw:=H.out.blk.lt
   have hnF3: ¬ F3 b:=fun hf=>(h33 b hf).elim H.out.not (fun h=>by omega)
   have hs5:Spared w3 (w3.setCell ⟨b,6,none⟩ (.bool true)) (· =b):=(Spared.refl w3 (· =b)).setCell rfl 6 _
   refine ⟨by rw [<-HE.out];rfl,F3,h31.apart hs5 (fun k hk e=>hnF3 (by rw [<-e];exact hk)),?_,hnF3,?_,h33⟩
   · rw [HNX.out];exact HB3.out
   · exact (h32.mono (fun _ h=> .inl h)).trans (hs5.mono (G:=fun k=>G k\/k=b) (fun _ h=> .inr h)) (fun _ h=> .inl h)
set_option maxRecDepth 100000 in
set_option maxHeartbeats 1000000 in
theorem refAppend_any (w:World) (r b:Nat) (G:Nat->Prop) (s:Dsk) (l:Lg) (A:Option Addr) (d:List UInt8) (n c q:Nat) (h:LogR w r b G s l) (ha:Seen w A d) (hn:d.length=n) (hl:n<=9223372036854775807) (hf:s.Few q) (hq:q<=700000):
 Calls Tryz.prog 56 #[.pointer (some ⟨b,0,none⟩),.slice A n c] w fun e w'=>e= .returned (.int .i64 (l.err s d))/\LRMoved w r b G (l.dsk s d) (l.next s d) w':=by
 have HSTAY:Hid (∀ w',Below w.heap.size w w'->LRMoved w r b G s l w'):=fun w' hb=>⟨G,h.disk.still hb,h.blk.below hb h.blk.lt,h.not,.of_below hb _,fun _ h=> .inl h⟩
 obtain ⟨_,_,_,_,_,_,c6⟩:=lg_cells h.blk
 by_cases hd:l.down=true
 · have HE:Hid (l.err s d=5/\l.dsk s d=s/\l.next s d=l):=by
    unfold Lg.err Lg.dsk Lg.next
    rw [hd]
    exact ⟨rfl,rfl,rfl⟩
   rw [hd] at c6
   clear hd
   go_enter Tryz.func56,Tryz.ntmps56
   go_wp2
   go_ret
   rw [HE.out.1,HE.out.2.1,HE.out.2.2]
   exact ⟨rfl,HSTAY.out _ (Below.refl _ _)⟩
 have hd':l.down=false:=by cases h:l.down<;>simp_all
 have HAD:=Lib.hid (refAdd_any w r b G s l A d n c q h hd' ha hn hl hf hq)
 rw [hd'] at c6
 obtain ⟨E,hE⟩:∃ E,E=l.err s d:=⟨_,rfl⟩
 rw [<-hE] at HAD
 have HE:=Lib.hid hE
 clear hd hd' h ha hn hf hE
 go_enter Tryz.func56,Tryz.ntmps56
 go_wp2_with fail
 refine HAD.out.mono ?_
 rintro e w2 ⟨rfl,hp⟩
 have P:=Lib.hid hp
 clear hp HAD
 go_wp2
 go_ret
 exact ⟨by rw [<-HE.out];rfl,P.out⟩
def LRNew (w:World) (r b:Nat) (G:Nat->Prop) (s:Dsk) (l:Lg) (w':World):Prop:=
 w.heap.size<=b/\∃ G',RefAt w' r G' s/\Blk w' b (lgCells r l) 102/\ ¬ G' b/\Spared w w' G/\∀ k,G' k->G k\/w.heap.size<=k
def RBeginOut (w:World) (r:Nat) (G:Nat->Prop) (s:Dsk) (f N gen:Int) (d:List UInt8) (e:Ending) (w':World):Prop:=
 (¬ (OnDisk s f N/\1<=gen/\gen<=1152921504606846976)/\e= .returned (.tuple #[.pointer none,.int .i64 1])/\Below w.heap.size w w')\/
 ((OnDisk s f N/\1<=gen/\gen<=1152921504606846976)/\(Lg.new f.toNat N.toNat gen).err s d≠0/\e= .returned (.tuple #[.pointer none,.int .i64 ((Lg.new f.toNat N.toNat gen).err s d)])/\RMoved w r G ((Lg.new f.toNat N.toNat gen).dsk s d) w')\/
 ((OnDisk s f N/\1<=gen/\gen<=1152921504606846976)/\(Lg.new f.toNat N.toNat gen).err s d=0/\∃ b,e= .returned (.tuple #[.pointer (some ⟨b,0,none⟩),.int .i64 0])/\LRNew w r b G ((Lg.new f.toNat N.toNat gen).dsk s d) ((Lg.new f.toNat N.toNat gen).next s d) w')
set_option maxRecDepth 100000 in
set_option maxHeartbeats 2000000 in
theorem refBegin_any (w:World) (r:Nat) (G:Nat->Prop) (s:Dsk) (f N gen:Int) (A:Option Addr) (d:List UInt8) (n c q:Nat) (h:RefAt w r G s) (ha:Seen w A d) (hn:d.length=n) (hl:n<=9223372036854775807) (hf:s.Few q) (hq:q<=700000):
 Calls Tryz.prog 46 #[.pointer (some ⟨r,0,none⟩),.int .i64 f,.int .i64 N,.int .i64 gen,.slice A n c] w (RBeginOut w r G s f N gen d):=by
 have hK4:=h.ok.hi
 have H1:=Lib.hid h
 have HV:=Lib.hid (refArea_any w r G s f N h)
 obtain ⟨v,hv⟩:∃ v,v=decide (0<=f/\1<=N/\N<=(s.K.length:Int)-f):=⟨_,rfl⟩
 rw [<-hv] at HV
 have HVD:=Lib.hid hv
 clear hv h
 by_cases hgood:OnDisk s f N/\1<=gen/\gen<=1152921504606846976
 · have hv':v=true:=by rw [HVD.out];exact decide_eq_true hgood.1
   subst hv'
   have hg1: ¬ gen<1:=by omega
   have hg2: ¬ 1152921504606846976<gen:=by omega
   have HG:=Lib.hid hgood
   have hff:f=((f.toNat:Nat):Int):=by have:=hgood.1.1;omega
   have hNN:N=((N.toNat:Nat):Int):=by have:=hgood.1.2.1;omega
   have HFIT:=Lib.hid (new_fits hgood)
   have HFF:=Lib.hid hff
   have HNN:=Lib.hid hNN
   clear hgood hff hNN HVD
   go_enter Tryz.func46,Tryz.ntmps46
   go_wp2_with fail
   refine HV.out.mono ?_
   rintro e w2 ⟨rfl,hb2⟩
   have HB2:=Lib.hid hb2
   have H2:=Lib.hid (H1.out.still hb2)
   have HLB:=Lib.hid ((Below.refl w2.heap.size w2).alloc (Nat.le_refl _) (.cells #[.pointer (some ⟨r,0,none⟩),.int .i64 f,.int .i64 N,.int .i64 gen,.int .i64 0,.int .i64 0,.bool false] 102))
   have HL:Hid (LogR (w2.alloc (.cells #[.pointer (some ⟨r,0,none⟩),.int .i64 f,.int .i64 N,.int .i64 gen,.int .i64 0,.int .i64 0,.bool false] 102)) r w2.heap.size G s (Lg.new f.toNat N.toNat gen)):=by
    refine ⟨H2.out.still HLB.out,?_,fun hF=>by have:=H2.out.lt _ hF;omega,HFIT.out⟩
    have:=Blk.new w2 (lgCells r (Lg.new f.toNat N.toNat gen)) 102
    have e:lgCells r (Lg.new f.toNat N.toNat gen)=[.pointer (some ⟨r,0,none⟩),.int .i64 f,.int .i64 N,.int .i64 gen,.int .i64 0,.int .i64 0,.bool false]:=by
     simp only [lgCells,Lg.new]
     rw [<-HFF.out,<-HNN.out]
     rfl
    rw [e] at this ⊢
    exact this
   have HAP:=Lib.hid (refAdd_any _ r w2.heap.size G s (Lg.new f.toNat N.toNat gen) A d n c q HL.out rfl (ha.below (hop HB2.out HLB.out)) hn hl hf hq)
   obtain ⟨w3,hw3⟩:∃ w3,w3=w2.alloc (.cells #[.pointer (some ⟨r,0,none⟩),.int .i64 f,.int .i64 N,.int .i64 gen,.int .i64 0,.int .i64 0,.bool false] 102):=⟨_,rfl⟩
   have HSZ:Hid (w3.heap.size=w2.heap.size+1):=by show _=_;rw [hw3];simp
   rw [<-hw3] at HAP HLB HL
   have HW3:Hid (w2.alloc (.cells #[.pointer (some ⟨r,0,none⟩),.int .i64 f,.int .i64 N,.int .i64 gen,.int .i64 0,.int .i64 0,.bool false] 102)=w3):=hw3.symm
   clear hb2 hw3
   go_wp2_with fail
   rw [HW3.out]
   obtain ⟨E,hE⟩:∃ E,E=(Lg.new f.toNat N.toNat gen).err s d:=⟨_,rfl⟩
   rw [<-hE] at HAP
   have HE:=Lib.hid hE
   clear hE ha hn hf hg1 hg2
   refine HAP.out.mono ?_
   rintro e w4 ⟨rfl,F4,h41,h42,h43,h44,h45⟩
   have HS4:Hid (Spared w w4 G):=by
    have h1:Spared w w3 G:= .of_below (hop HB2.out HLB.out) G
    exact h1.trans h44 (fun k hk=>hk.elim .inl (fun e=> .inr (by rw [e];exact HB2.out.size)))
   have HF4:Hid (∀ k,F4 k->G k\/w.heap.size<=k):=fun k hk=>(h45 k hk).elim .inl (fun h=> .inr (by have:=HB2.out.size;rw [HSZ.out] at h;omega))
   have H41:=Lib.hid h41
   have H42:=Lib.hid h42
   have H43:=Lib.hid h43
   clear h41 h42 h43 h44 h45 HAP
   by_cases he:E=0
   · have HE0:Hid ((Lg.new f.toNat N.toNat gen).err s d=0):=by show _=_;rw [<-HE.out];exact he
     subst he
     go_wp2
     go_ret2
     exact .inr (.inr ⟨HG.out,HE0.out,_,rfl,HB2.out.size,F4,H41.out,H42.out,H43.out,HS4.out,HF4.out⟩)
   · have hne:(E==0)=false:=by rw [beq_eq_false_iff_ne];exact he
     have HE0:Hid ((Lg.new f.toNat N.toNat gen).err s d≠0):=by show _≠_;rw [<-HE.out];exact he
     go_wp2
     go_ret2
     exact .inr (.inl ⟨HG.out,HE0.out,by rw [<-HE.out];rfl,F4,H41.out,HS4.out,HF4.out⟩)
 · have HG:=Lib.hid hgood
   by_cases hv':v=true
   · subst hv'
     have hod:0<=f/\1<=N/\N<=(s.K.length:Int)-f:=of_decide_eq_true HVD.out.symm
     by_cases hg1:gen<1
     · have d1:decide (gen<1)=true:=decide_eq_true hg1
       clear hgood hod
       go_enter Tryz.func46,Tryz.ntmps46
       go_wp2_with fail
       refine HV.out.mono ?_
       rintro e w2 ⟨rfl,hb2⟩
       have HB2:=Lib.hid hb2
       clear hb2
       go_wp2
       go_ret2
       exact .inl ⟨HG.out,rfl,HB2.out⟩
     · have hg2:1152921504606846976<gen:=by
        rcases Int.lt_or_le 1152921504606846976 gen with h | h
        · exact h
        · exact absurd ⟨hod,by omega,h⟩ hgood
       have d1:decide (gen<1)=false:=decide_eq_false hg1
       have d2:decide (1152921504606846976<gen)=true:=decide_eq_true hg2
       clear hgood hod
       go_enter Tryz.func46,Tryz.ntmps46
       go_wp2_with fail
       refine HV.out.mono ?_
       rintro e w2 ⟨rfl,hb2⟩
       have HB2:=Lib.hid hb2
       clear hb2
       go_wp2
       go_ret2
       exact .inl ⟨HG.out,rfl,HB2.out⟩
   · have hv':v=false:=by simpa using hv'
     subst hv'
     clear hgood
     go_enter Tryz.func46,Tryz.ntmps46
     go_wp2_with fail
     refine HV.out.mono ?_
     rintro e w2 ⟨rfl,hb2⟩
     have HB2:=Lib.hid hb2
     clear hb2
     go_wp2
     go_ret2
     exact .inl ⟨HG.out,rfl,HB2.out⟩
theorem bytes_step {V:List (List UInt8)} {f k:Nat} (h:f+k<V.length):((V.drop f).take k).flatten++V[f+k]=((V.drop f).take (k+1)).flatten:=by
 rw [List.take_succ_eq_append_getElem (by rw [List.length_drop];omega),List.flatten_append,List.getElem_drop]
 simp
theorem bytes_length {s:Dsk} (ok:s.Ok) {f N:Nat} (h:f+N<=s.K.length):(s.bytes f N).length=N*64:=by
 unfold Dsk.bytes
 rw [flat_length (m:=64) _ (fun r hr=>view_len ok r (List.mem_of_mem_drop (List.mem_of_mem_take hr))),List.length_take,List.length_drop,view_length,Nat.min_eq_left (by omega)]
def ReadAll (w:World) (s:Dsk) (f N:Nat) (e:Ending) (w':World):Prop:=
 (s.off=true/\e= .returned (.tuple #[.slice none 0 0,.int .i64 5])/\Below w.heap.size w w')\/
 (s.off=false/\∃ A c,e= .returned (.tuple #[.slice A (N*64) c,.int .i64 0])/\Made 5 w (s.bytes f N) (.slice A (N*64) c) w')
set_option maxRecDepth 100000 in
set_option maxHeartbeats 1000000 in
theorem area_read (w:World) (g:Nat) (F:Nat->Prop) (s:Dsk) (f N:Nat) (h:DiskAt w g F s) (h1:1<=N) (hN:f+N<=s.K.length):
 Calls Tryz.prog 103 #[.agg #[.pointer (some ⟨g,0,none⟩),.int .i64 (f:Int),.int .i64 (N:Int)]] w (ReadAll w s f N):=by
 have hK4:=h.ok.hi
 have OK:=Lib.hid h.ok
 have HB:=Lib.hid (boxA_below w g f N)
 have HX:=Lib.hid (boxA_blk w g f N)
 obtain ⟨w1,hw1⟩:∃ w1,w1=boxA w g f N:=⟨_,rfl⟩
 have HW':Hid (w.alloc (.cells #[.pointer (some ⟨g,0,none⟩),.int .i64 (f:Int),.int .i64 (N:Int)] 143)=w1):=hw1.symm
 rw [<-hw1] at HB HX
 obtain ⟨c0,c1,c2⟩:=area_cells HX.out
 have hN4:N<=4096:=by omega
 have hmk:=make_cap N hN4 w1
 have HM:=Lib.hid (made_start w1 N hN4)
 generalize (w1.alloc (.cells (madeCells #[.int .u8 0] (N*64)) 5))=w2 at hmk HM
 have HB2:=Lib.hid HM.out.2
 have H1:=Lib.hid (h.still HB.out)
 have HX2:=Lib.hid (HX.out.below HB2.out HX.out.lt)
 have HLEN:=Lib.hid (bytes_length OK.out hN)
 have HBY:Hid (s.bytes f N=((s.view.drop f).take N).flatten):=rfl
 have HVL:Hid (s.view.length=s.K.length):=view_length s
 have HV64:=Lib.hid (view_len OK.out)
 obtain ⟨i0,hi,hz0,hz1,hz2⟩:=info_parts info8d
 have c0':(w.alloc (.cells #[.pointer (some ⟨g,0,none⟩),.int .i64 (f:Int),.int .i64 (N:Int)] 143)).cell? ⟨w.heap.size,2,none⟩=some (.int .i64 (N:Int)):=by rw [HW'.out];exact c2
 rw [hw1] at hmk
 have hmk':(Instr.makeSlice 22 (.int .i64 0) (.int .i64 ((N:Int)*64))).run Tryz.prog (w.alloc (.cells #[.pointer (some ⟨g,0,none⟩),.int .i64 (f:Int),.int .i64 (N:Int)] 143))= .ok (.slice (some ⟨(w.alloc (.cells #[.pointer (some ⟨g,0,none⟩),.int .i64 (f:Int),.int .i64 (N:Int)] 143)).heap.size,0,none⟩) 0 (N*64)) w2:=hmk
 have d2:=(area_cells HX2.out).2.2
 have HSZ:Hid ((w.alloc (.cells #[.pointer (some ⟨g,0,none⟩),.int .i64 (f:Int),.int .i64 (N:Int)] 143)).heap.size=w1.heap.size):=by show _=_;rw [HW'.out]
 clear h hmk hw1 c0 c1 c2
 go_enter Tryz.func103,Tryz.ntmps103
 go_wp2
 go_loopw [4,14] (fun v a wr=>∃ k:Nat,k<=N/\a= .int .i64 k/\(k=0\/s.off=false)/\Made 5 w1 ((s.view.drop f).take k).flatten v wr) (fun _ a _=>N-(intOf a).toNat)
 case atStart=>exact ⟨0,Nat.zero_le _,rfl,.inl rfl,by have:=HM.out;rw [<-HSZ.out] at this;simpa using this⟩
 case round=>
  obtain ⟨k,hk,rfl,hoff,hm⟩:=hrel
  have HV:=Lib.hid hm
  have HOF:=Lib.hid hoff
  clear hm hoff hmk' c0' d2
  by_cases hlt:k<N
  · have hkl:(k:Int)<(N:Int):=by omega
    have hd:=H1.out.still HV.out.2
    obtain ⟨c0,c1,c2⟩:=area_cells (HX.out.below HV.out.2 HX.out.lt)
    have hRD:=Lib.hid (read_any wr g F s ((f+k:Nat):Int) hd)
    rw [show ((f+k:Nat):Int)=(f:Int)+(k:Int) by omega] at hRD
    clear hd
    go_wp2_with fail
    refine hRD.out.mono ?_
    rintro e w6 ⟨hb6,⟨hx,_⟩ | ⟨_,ho,rfl⟩ | ⟨_,ho,x,gb,hx,_,hk6,rfl⟩⟩
    · exact absurd ⟨by omega,by omega⟩ hx
    · have HO:=Lib.hid ho
      have HB6:=Lib.hid (hop (hop HB.out HV.out.2) hb6)
      clear ho hb6 hRD
      go_wp2
      go_ret2
      exact .inl ⟨HO.out,rfl,HB6.out⟩
    · have HO:=Lib.hid ho
      have HM6:=Lib.hid (HV.out.below hb6)
      rw [show ((f:Int)+(k:Int)).toNat=f+k by omega] at hx
      have hv:=last_view OK.out hx
      have hfk:f+k<s.view.length:=by rw [HVL.out];omega
      rw [List.getElem?_eq_getElem hfk] at hv
      injection hv with hv
      have HT:Hid (((s.view.drop f).take k).flatten++x=((s.view.drop f).take (k+1)).flatten):=by show _=_;rw [<-hv];exact bytes_step hfk
      have H64:Hid (x.length=64):=by show _=_;rw [<-hv];exact HV64.out _ (List.getElem_mem hfk)
      have HFL:Hid (((s.view.drop f).take k).flatten.length=k*64):=bytes_length OK.out (N:=k) (by omega)
      have HS:Hid (Seen w6 (some ⟨gb,0,none⟩) x):=by
       have:w6.rangeAt gb 0 (x.map bv):=fun j v hv=>by
        obtain ⟨hj,hju⟩:=List.getElem?_eq_some_iff.1 hv
        rw [Nat.zero_add,hk6.cell hj,hju]
       exact range_seen this
      generalize ((s.view.drop f).take k).flatten=d at *
      clear ho hb6 hRD hx hv hfk hk6 c0 c1 c2
      go_wp2_with (at_builtin;refine wpList_append_bytes _ rfl (.tmp 30) (.tmp 31) 22 rfl 5 i0 (.int .u8 0) Tryz.underlying22 hi hz0 hz1 hz2 rfl w1 _ d _ x 64 rfl (by rw [H64.out];rfl) HM6.out HS.out (by rw [HFL.out,H64.out];omega) ?_;intro v' w' hm' hb')
      have HM':=Lib.hid hm'
      clear hm' hb'
      go_roundw
      case rel=>exact ⟨k+1,by omega,by go_num,.inr HO.out,by rw [<-HT.out];exact HM'.out⟩
      case measure=>simp [intOf];omega
  · obtain rfl:k=N:=by omega
    have ho:s.off=false:=HOF.out.resolve_left (by omega)
    have HO:=Lib.hid ho
    rw [<-HBY.out] at HV
    obtain ⟨A,c,hv,_⟩:=HV.out.form
    subst hv
    have HM2:Hid (Made 5 w (s.bytes f k) (.slice A (s.bytes f k).length c) wr):=HV.out.since HB.out
    rw [HLEN.out] at HM2 ⊢
    clear ho HV
    go_wp2
    go_ret2
    exact .inr ⟨HO.out,A,c,rfl,HM2.out⟩
end Go.Proofs.YtdaahapbpnjkfaaGreat
