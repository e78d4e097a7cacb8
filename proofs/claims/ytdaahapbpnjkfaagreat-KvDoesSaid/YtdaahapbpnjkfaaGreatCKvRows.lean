/-
A list of batches: what it shows; batches: at most 40 of at most 60 puts. No conditions but that lengths are ints.
-/
import Derived.Test.YtdaahapbpnjkfaaGreatCFEnc
import Derived.Test.YtdaahapbpnjkfaaGreatCOnly
import Derived.Deep.LoopGhost
namespace Go.Proofs.YtdaahapbpnjkfaaGreat
open Go.RowKit
theorem make_room (n:Nat) (h:n<=140737488351232) (W:World):(Instr.makeSlice 22 (.int .i64 0) (.int .i64 (n:Int))).run Tryz.prog W= .ok (.slice (some ⟨W.heap.size,0,none⟩) 0 n) (W.alloc (.cells (madeCells #[.int .u8 0] n) 5)):=by
 obtain ⟨i0,hi,hz0,hz1,hz2⟩:=info_parts info8p
 have hr:=run_make (P:=Tryz.prog) W 22 5 i0 (.int .u8 0) Tryz.underlying22 hi hz0 .i64 .i64 0 (n:Int) (by omega) (by omega) (by rw [hz2];omega) (by omega)
 rw [hr,hz1,show ((n:Nat):Int).toNat=n from by omega,Nat.mul_one]
 rfl
theorem crc_made (A:Option Addr) (l:List UInt8) (n c:Nat) (w:World) (hn:l.length=n) (hl:n<=9223372036854775807) (hs:Seen w A l):
 Calls Tryz.prog 118 #[.slice A n c] w fun e w'=>e= .returned (.int .u32 (crcOf l:Nat))/\w=w':=by
 subst hn
 exact crc_any A l c w hl hs
def boxed (w:World) (g s:Int) (v:Value):World:=w.alloc (.cells #[.int .i64 g,.int .i64 s,v] 134)
theorem boxed_cells {w W:World} {g s:Int} {v:Value} (hb:Below (boxed w g s v).heap.size (boxed w g s v) W):
 W.cell? ⟨w.heap.size,0,none⟩=some (.int .i64 g)/\W.cell? ⟨w.heap.size,1,none⟩=some (.int .i64 s)/\W.cell? ⟨w.heap.size,2,none⟩=some v:=by
 have B:=(Blk.new w [.int .i64 g,.int .i64 s,v] 134).below hb (by simp [boxed])
 exact ⟨B.cell (i:=0) (by simp),B.cell (i:=1) (by simp),B.cell (i:=2) (by simp)⟩
theorem boxed_below (w:World) (g s:Int) (v:Value):Below w.heap.size w (boxed w g s v):=(Below.refl _ _).alloc (Nat.le_refl _) _
theorem sum4_cells (x:Nat) (hx:x<4294967296):((sum4 x).map bv).toArray= #[.int .u8 ((x:Int)/16777216),.int .u8 ((x:Int)/65536%256),.int .u8 ((x:Int)/256%256),.int .u8 ((x:Int)%256)]:=by
 have e:∀ (y:Nat) (z:Int),((y%256:Nat):Int)=z->bv (UInt8.ofNat (y%256))= .int .u8 z:=fun y z h=>by
  unfold bv;rw [UInt8.toNat_ofNat',<-h];congr 1;omega
 simp only [sum4,List.map_cons,List.map_nil]
 rw [e _ ((x:Int)/16777216) (by omega),e _ ((x:Int)/65536%256) (by omega),e _ ((x:Int)/256%256) (by omega),e _ ((x:Int)%256) (by omega)]
set_option maxRecDepth 100000 in
set_option maxHeartbeats 2000000 in
theorem encode_may (g s:Int) (A:Option Addr) (d:List UInt8) (n c:Nat) (w:World) (hs:Seen w A d) (hn:d.length=n) (hm:mayB g s d.length=true):
 Calls Tryz.prog 84 #[.agg #[.int .i64 g,.int .i64 s,.slice A n c]] w fun e w'=>∃ A' n' c',e= .returned (.slice A' n' c')/\MadeN 5 w (frameL g s d) A' n' c' w':=by
 obtain ⟨i0,hi,hz0,hz1,hz2⟩:=info_parts info8p
 obtain ⟨g0,g1,s0,s1,n1⟩:=mayB_true hm
 obtain ⟨S,hS⟩:∃ S:Nat,S=(frameL g s d).length:=⟨_,rfl⟩
 have hsz:sizeL (n:Int)=(S:Int):=by rw [hS,<-hn];exact sizeL_frame hm
 have hS1:22<=S:=by rw [hS];exact frameL_pos g s d
 have hS2:S<=65560:=by
  have:=encF_fits g s d
  rw [encF_may hm] at this;omega
 have hn65:n<=65536:=by omega
 have HSZ:=fun W=>size_any (n:Int) W (by omega) (by omega)
 rw [hsz] at HSZ
 have HSZ':=Lib.hid HSZ
 have hig:inB g=true:=decide_eq_true ⟨g0,g1⟩
 have his:inB s=true:=decide_eq_true ⟨s0,s1⟩
 have HIG:=fun W=>inRange_any g W (by omega) (by omega)
 have HIS:=fun W=>inRange_any s W (by omega) (by omega)
 rw [hig] at HIG
 rw [his] at HIS
 have HIG':=Lib.hid HIG
 have HIS':=Lib.hid HIS
 have HN:=Lib.hid hn
 have HS:=Lib.hid (hs.below (boxed_below w g s (.slice A n c)))
 have HBX:=Lib.hid (boxed_below w g s (.slice A n c))
 have HCELL:Hid (∀ W,Below (boxed w g s (.slice A n c)).heap.size (boxed w g s (.slice A n c)) W->W.cell? ⟨w.heap.size,0,none⟩=some (.int .i64 g)/\W.cell? ⟨w.heap.size,1,none⟩=some (.int .i64 s)/\W.cell? ⟨w.heap.size,2,none⟩=some (.slice A n c)):=fun W hb=>boxed_cells hb
 obtain ⟨W0,hW0⟩:∃ W0,W0=boxed w g s (.slice A n c):=⟨_,rfl⟩
 rw [<-hW0] at HS HBX HCELL
 have HW0:Hid (W0=w.alloc (.cells #[.int .i64 g,.int .i64 s,.slice A n c] 134)):=hW0
 clear hs hn hm hS hsz hig his HIG HIS HSZ hW0
 obtain ⟨b0,b1,b2⟩:=HCELL.out W0 (Below.refl _ _)
 go_enter Tryz.func84,Tryz.ntmps84
 go_wp2_with fail
 rw [<-HW0.out]
 refine (HSZ'.out W0).mono ?_
 rintro e w1 ⟨rfl,hb1⟩
 have HB1:=Lib.hid hb1
 obtain ⟨p0,p1,p2⟩:=HCELL.out w1 hb1
 clear hb1 b0 b1 b2
 have t0:((S:Int)==0)=false:=by rw [beq_eq_false_iff_ne];omega
 go_wp2_with fail
 refine (HIG'.out w1).mono ?_
 rintro e w1' ⟨rfl,rfl⟩
 go_wp2_with fail
 refine (HIS'.out w1).mono ?_
 rintro e w1' ⟨rfl,rfl⟩
 have hmk:=make_room S (by omega) w1
 have HM0:Hid (MadeN 5 W0 [] (some ⟨w1.heap.size,0,none⟩) 0 S (w1.alloc (.cells (madeCells #[.int .u8 0] S) 5))):=
  ⟨rfl,World.ownsRow_made w1 _ S HB1.out.size (by unfold maxLen;omega) (by simp [madeCells]),HB1.out.alloc HB1.out.size _⟩
 have L245:Hid (([245]:List UInt8).length=1):=rfl
 obtain ⟨D1,hD1⟩:∃ D:List UInt8,D=[]++[245]:=⟨_,rfl⟩
 obtain ⟨N1,hN1⟩:∃ N:Nat,N=0+1:=⟨_,rfl⟩
 have ED1:=Lib.hid hD1
 have EN1:=Lib.hid hN1
 clear hD1 hN1 p0 p1 p2
 go_wp2_with (at_builtin;refine wpList_append_new (w1.alloc (.cells (madeCells #[.int .u8 0] S) 5)) rfl (.tmp 26) (.tmp 27) 22 rfl 5 i0 (.int .u8 0) Tryz.underlying22 hi hz0 hz1 hz2 rfl W0 _ 0 S [] 1 _ [245] D1 N1 rfl (w1.heap.size+1) (by simp) rfl HM0 rfl L245 ED1 EN1 (by omega) ?_)
 intro A2 c2 w2 HM2 _
 obtain ⟨p0,p1,p2⟩:=HCELL.out w2 HM2.out.2.2
 clear hmk HM0
 go_wp2_with fail
 refine (appendNumber_any W0 w2 A2 D1 N1 c2 n HM2.out (by omega) (by have:=EN1.out;omega)).mono ?_
 rintro e w3 ⟨A3,N3,c3,rfl,hm3,hn3,_⟩
 have HM3:=Lib.hid hm3
 obtain ⟨q0,q1,q2⟩:=HCELL.out w3 hm3.2.2
 clear hm3 HM2 p0 p1 p2
 go_wp2_with fail
 refine (wide_any g w3).mono ?_
 rintro e w4 ⟨A4,rfl,hs4,hb4⟩
 have HS4:Hid (Seen w4 A4 (wideI g)):=hs4
 have HM4:=Lib.hid (HM3.out.below hb4)
 have L8:Hid ((wideI g).length=8):=wideI_length g
 clear hs4 hb4 q0 q1 q2 HM3
 obtain ⟨D3,hD3⟩:∃ D:List UInt8,D=D1++putL n:=⟨_,rfl⟩
 rw [<-hD3] at HM4
 obtain ⟨D5,hD5⟩:∃ D:List UInt8,D=D3++wideI g:=⟨_,rfl⟩
 obtain ⟨N5,hN5⟩:∃ N:Nat,N=N3+8:=⟨_,rfl⟩
 have ED3:=Lib.hid hD3
 have ED5:=Lib.hid hD5
 have EN5:=Lib.hid hN5
 clear hD3 hD5 hN5
 have hN3:N3<=10:=by have:=EN1.out;omega
 go_wp2_with (at_builtin;refine wpList_append_to w4 rfl (.tmp 34) (.tmp 37) 22 rfl 5 i0 (.int .u8 0) Tryz.underlying22 hi hz0 hz1 hz2 rfl W0 A3 N3 c3 D3 A4 8 8 (wideI g) D5 N5 rfl rfl HM4 HS4 L8 ED5 EN5 (by omega) ?_)
 intro A5 c5 w5 HM5 _
 obtain ⟨p0,p1,p2⟩:=HCELL.out w5 HM5.out.2.2
 clear HM4 HS4
 go_wp2_with fail
 refine (wide_any s w5).mono ?_
 rintro e w6 ⟨A6,rfl,hs6,hb6⟩
 have HS6:Hid (Seen w6 A6 (wideI s)):=hs6
 have HM6:=Lib.hid (HM5.out.below hb6)
 have L8':Hid ((wideI s).length=8):=wideI_length s
 clear hs6 hb6 p0 p1 p2 HM5
 obtain ⟨D7,hD7⟩:∃ D:List UInt8,D=D5++wideI s:=⟨_,rfl⟩
 obtain ⟨N7,hN7⟩:∃ N:Nat,N=N5+8:=⟨_,rfl⟩
 have ED7:=Lib.hid hD7
 have EN7:=Lib.hid hN7
 clear hD7 hN7
 have hN5:N5<=18:=by have:=EN5.out;omega
 go_wp2_with (at_builtin;refine wpList_append_to w6 rfl (.tmp 39) (.tmp 42) 22 rfl 5 i0 (.int .u8 0) Tryz.underlying22 hi hz0 hz1 hz2 rfl W0 A5 N5 c5 D5 A6 8 8 (wideI s) D7 N7 rfl rfl HM6 HS6 L8' ED7 EN7 (by omega) ?_)
 intro A7 c7 w7 HM7 _
 obtain ⟨p0,p1,p2⟩:=HCELL.out w7 HM7.out.2.2
 clear HM6 HS6
 have HSD:=Lib.hid (HS.out.below HM7.out.2.2)
 obtain ⟨D8,hD8⟩:∃ D:List UInt8,D=D7++d:=⟨_,rfl⟩
 obtain ⟨N8,hN8⟩:∃ N:Nat,N=N7+n:=⟨_,rfl⟩
 have ED8:=Lib.hid hD8
 have EN8:=Lib.hid hN8
 clear hD8 hN8
 have hN7:N7<=26:=by have:=EN7.out;omega
 go_wp2_with (at_builtin;refine wpList_append_to w7 rfl (.tmp 44) (.tmp 46) 22 rfl 5 i0 (.int .u8 0) Tryz.underlying22 hi hz0 hz1 hz2 rfl W0 A7 N7 c7 D7 A n c d D8 N8 rfl rfl HM7 HSD HN ED8 EN8 (by omega) ?_)
 intro A8 c8 w8 HM8 _
 clear HM7 HSD p0 p1 p2
 have hN8:N8<=70000:=by have:=EN8.out;omega
 go_wp2_with fail
 refine (crc_made A8 D8 N8 c8 w8 HM8.out.1 (by omega) HM8.out.seen).mono ?_
 rintro e w9 ⟨rfl,rfl⟩
 have hxl:=crcOf_lt D8
 have HX:=Lib.hid (sum4_cells (crcOf D8) hxl)
 have HXL:=Lib.hid (sum4_length (crcOf D8))
 obtain ⟨X,hX⟩:∃ X,X=crcOf D8:=⟨_,rfl⟩
 rw [<-hX] at HX hxl HXL
 rw [<-hX]
 have EX:=Lib.hid hX
 clear hX
 obtain ⟨D9,hD9⟩:∃ D:List UInt8,D=D8++sum4 X:=⟨_,rfl⟩
 obtain ⟨N9,hN9⟩:∃ N:Nat,N=N8+4:=⟨_,rfl⟩
 have ED9:=Lib.hid hD9
 have EN9:=Lib.hid hN9
 clear hD9 hN9
 go_wp2_with (at_builtin;refine wpList_append_new w8 rfl (.tmp 50) (.tmp 62) 22 rfl 5 i0 (.int .u8 0) Tryz.underlying22 hi hz0 hz1 hz2 rfl W0 A8 N8 c8 D8 4 _ (sum4 X) D9 N9 rfl _ rfl rfl HM8 HX.out HXL ED9 EN9 (by omega) ?_)
 intro A9 c9 w9 HM9 _
 go_wp2_with fail
 go_ret
 have hD:D9=frameL g s d:=by
  have h8:D8=headL g s d:=by
   rw [ED8.out,ED7.out,ED5.out,ED3.out,ED1.out,headL,HN.out]
   simp
  rw [ED9.out,EX.out,h8,frameL,sumOf]
 have h9:=HM9.out
 rw [hD] at h9
 exact ⟨A9,N9,c9,rfl,h9.1,h9.2.since HBX.out⟩
set_option maxRecDepth 100000 in
set_option maxHeartbeats 1000000 in
theorem encode_not (g s:Int) (A:Option Addr) (d:List UInt8) (n c:Nat) (w:World) (hn:d.length=n) (hl:n<=9223372036854775807) (g0: -9223372036854775808<=g) (g1:g<=9223372036854775807) (s0: -9223372036854775808<=s) (s1:s<=9223372036854775807) (hm:mayB g s d.length=false):
 Calls Tryz.prog 84 #[.agg #[.int .i64 g,.int .i64 s,.slice A n c]] w fun e w'=>e= .returned (.slice none 0 0)/\Below w.heap.size w w':=by
 have hm':=mayB_false hm
 rw [hn] at hm'
 have HBX:=Lib.hid (boxed_below w g s (.slice A n c))
 have HCELL:Hid (∀ W,Below (boxed w g s (.slice A n c)).heap.size (boxed w g s (.slice A n c)) W->W.cell? ⟨w.heap.size,0,none⟩=some (.int .i64 g)/\W.cell? ⟨w.heap.size,1,none⟩=some (.int .i64 s)/\W.cell? ⟨w.heap.size,2,none⟩=some (.slice A n c)):=fun W hb=>boxed_cells hb
 obtain ⟨W0,hW0⟩:∃ W0,W0=boxed w g s (.slice A n c):=⟨_,rfl⟩
 rw [<-hW0] at HBX HCELL
 have HW0:Hid (W0=w.alloc (.cells #[.int .i64 g,.int .i64 s,.slice A n c] 134)):=hW0
 have HSZ:=Lib.hid (fun W=>size_any (n:Int) W (by omega) (by omega))
 clear hW0 hm hn
 by_cases hb:65536<n
 · have h0:sizeL (n:Int)=0:=if_pos (.inr (by omega))
   rw [h0] at HSZ
   clear h0 hm' hb
   go_enter Tryz.func84,Tryz.ntmps84
   go_wp2_with fail
   rw [<-HW0.out]
   refine (HSZ.out W0).mono ?_
   rintro e w1 ⟨rfl,hb1⟩
   have HB1:=Lib.hid hb1
   clear hb1
   go_wp2_with fail
   go_ret
   exact ⟨rfl,HBX.out.trans (HB1.out.mono HBX.out.size)⟩
 · obtain ⟨S,hS⟩:∃ S:Nat,(S:Int)=sizeL (n:Int)/\0<S:=by
    refine ⟨(putL n).length+n+21,?_,by omega⟩
    rw [sizeL,if_neg (by omega)]
    simp only [Int.toNat_natCast]
    omega
   rw [<-hS.1] at HSZ
   have t0:((S:Int)==0)=false:=by rw [beq_eq_false_iff_ne];omega
   clear hS
   have HIG:=Lib.hid (fun W=>inRange_any g W g0 g1)
   by_cases hg:0<=g/\g<=1152921504606846976
   · have hig:inB g=true:=decide_eq_true hg
     have his:inB s=false:=decide_eq_false (by omega)
     have HIS:=Lib.hid (fun W=>inRange_any s W s0 s1)
     rw [hig] at HIG
     rw [his] at HIS
     clear hig his hm' hg hb
     go_enter Tryz.func84,Tryz.ntmps84
     go_wp2_with fail
     rw [<-HW0.out]
     refine (HSZ.out W0).mono ?_
     rintro e w1 ⟨rfl,hb1⟩
     have HB1:=Lib.hid hb1
     obtain ⟨p0,p1,p2⟩:=HCELL.out w1 hb1
     clear hb1
     go_wp2_with fail
     refine (HIG.out w1).mono ?_
     rintro e w1' ⟨rfl,rfl⟩
     go_wp2_with fail
     refine (HIS.out w1).mono ?_
     rintro e w1' ⟨rfl,rfl⟩
     go_wp2_with fail
     go_ret
     exact ⟨rfl,HBX.out.trans (HB1.out.mono HBX.out.size)⟩
   · have hig:inB g=false:=decide_eq_false hg
     rw [hig] at HIG
     clear hig hm' hg hb
     go_enter Tryz.func84,Tryz.ntmps84
     go_wp2_with fail
     rw [<-HW0.out]
     refine (HSZ.out W0).mono ?_
     rintro e w1 ⟨rfl,hb1⟩
     have HB1:=Lib.hid hb1
     obtain ⟨p0,p1,p2⟩:=HCELL.out w1 hb1
     clear hb1
     go_wp2_with fail
     refine (HIG.out w1).mono ?_
     rintro e w1' ⟨rfl,rfl⟩
     go_wp2_with fail
     go_ret
     exact ⟨rfl,HBX.out.trans (HB1.out.mono HBX.out.size)⟩
theorem encode_any (g s:Int) (A:Option Addr) (d:List UInt8) (n c:Nat) (w:World) (hs:Seen w A d) (hn:d.length=n) (hl:n<=9223372036854775807) (g0: -9223372036854775808<=g) (g1:g<=9223372036854775807) (s0: -9223372036854775808<=s) (s1:s<=9223372036854775807):
 Calls Tryz.prog 84 #[.agg #[.int .i64 g,.int .i64 s,.slice A n c]] w fun e w'=>∃ A' n' c',e= .returned (.slice A' n' c')/\MadeN 5 w (encF g s d) A' n' c' w':=by
 by_cases hm:mayB g s d.length=true
 · rw [encF_may hm];exact encode_may g s A d n c w hs hn hm
 · have hm:mayB g s d.length=false:=by simpa using hm
   rw [encF_not hm]
   refine (encode_not g s A d n c w hn hl g0 g1 s0 s1 hm).mono ?_
   rintro e w' ⟨rfl,hb⟩
   exact ⟨none,0,0,rfl,rfl,World.ownsRow_nil _ _ _ _,hb⟩
abbrev Piece:=Option Addr × List UInt8 × Nat
def SeenAll (w:World) (A:Option Addr) (ps:List Piece):Prop:=
 ps=[]\/∃ b off,A=some ⟨b,off,none⟩/\b<w.heap.size/\∀ j (h:j<ps.length),w.cell? ⟨b,off+j,none⟩=some (.slice ps[j].1 ps[j].2.1.length ps[j].2.2)/\Seen w ps[j].1 ps[j].2.1/\ps[j].2.1.length<=ps[j].2.2/\ps[j].2.1.length<=9223372036854775807
theorem SeenAll.at_ {w:World} {A:Option Addr} {ps:List Piece} (h:SeenAll w A ps) (k:Nat) (hk:k<ps.length):
 ∃ b off,A=some ⟨b,off,none⟩/\b<w.heap.size/\w.cell? ⟨b,off+k,none⟩=some (.slice ps[k].1 ps[k].2.1.length ps[k].2.2)/\Seen w ps[k].1 ps[k].2.1/\ps[k].2.1.length<=ps[k].2.2/\ps[k].2.1.length<=9223372036854775807:=by
 rcases h with rfl | ⟨b,off,rfl,hb,hc⟩
 · simp at hk
 · exact ⟨b,off,rfl,hb,hc k hk⟩
theorem SeenAll.below {w w':World} {A:Option Addr} {ps:List Piece} (h:SeenAll w A ps) (hb:Below w.heap.size w w'):SeenAll w' A ps:=by
 rcases h with rfl | ⟨b,off,rfl,hlt,hc⟩
 · exact .inl rfl
 · refine .inr ⟨b,off,rfl,by have:=hb.size;omega,fun j hj=> ?_⟩
   obtain ⟨h1,h2,h3,h4⟩:=hc j hj
   exact ⟨(hb.cell (p:=⟨b,off+j,none⟩) hlt).trans h1,h2.below hb,h3,h4⟩
def bytesOf (ps:List Piece):List (List UInt8):=ps.map fun q=>q.2.1
theorem length_bytesOf (ps:List Piece):(bytesOf ps).length=ps.length:=by simp [bytesOf]
def pv (q:Piece):Value:= .slice q.1 q.2.1.length q.2.2
theorem own_bytes {w:World} {base g n c:Nat} {e:TypeId} {l:List UInt8} (h:w.ownsRow base e 1 (.slice (some ⟨g,0,none⟩) n c) l.length (l.map bv)) (j:Nat) (hj:j<l.length):w.cell? ⟨g,0+j,none⟩=some (.int .u8 (l[j].toNat:Int)):=by
 have:=h.cells (g:=g) rfl j (bv l[j]) (by rw [List.getElem?_map,List.getElem?_eq_getElem hj];rfl)
 rw [add_plain] at this
 exact this
section
variable {e f:TypeId} {w0 w w':World} {ps:List Piece} {p p':List UInt8} {vs vs' vp vp':Value} {q:Piece} {x y x' y' row:Option Nat}
end
abbrev PutV:=List UInt8 × List UInt8 × Bool
def partP (x:List UInt8):List UInt8:=putL x.length++x
def putV1 (p:PutV):List UInt8:=if p.2.2=true then 1::partP p.1 else 0::(partP p.1++partP p.2.1)
def putsV (l:List PutV):List UInt8:=(l.map putV1).flatten
def batchL (l:List PutV):List UInt8:=putL l.length++putsV l
def clearV (p:PutV):PutV:=if p.2.2=true then (p.1,[],true) else p
def textL (l:List UInt8):Option (List UInt8 × List UInt8):=
 if (getL l 0 0).2=0 then none
 else if (l.drop (getL l 0 0).2).length<(getL l 0 0).1 then none
 else some ((l.drop (getL l 0 0).2).take (getL l 0 0).1,(l.drop (getL l 0 0).2).drop (getL l 0 0).1)
def oneL:List UInt8->Option (PutV × List UInt8)
 | []=>none
 | c::r=>
  if c=1 then
   match textL r with
   | none=>none
   | some (t,u)=>some ((t,[],true),u)
  else if c=0 then
   match textL r with
   | none=>none
   | some (t,u)=>
    match textL u with
    | none=>none
    | some (v,x)=>some ((t,v,false),x)
  else none
def readN:Nat->List UInt8->List PutV->Option (List PutV)
 | 0,r,acc=>if r=[] then some acc else none
 | n+1,r,acc=>
  match oneL r with
  | none=>none
  | some (p,u)=>readN n u (acc++[p])
def putsL (b:List UInt8):Option (List PutV):=if (getL b 0 0).2=0 then none else readN (getL b 0 0).1 (b.drop (getL b 0 0).2) []
theorem textL_some {l t u:List UInt8} (h:textL l=some (t,u)):(getL l 0 0).2≠0/\(getL l 0 0).1<=(l.drop (getL l 0 0).2).length/\t=(l.drop (getL l 0 0).2).take (getL l 0 0).1/\u=(l.drop (getL l 0 0).2).drop (getL l 0 0).1/\t.length=(getL l 0 0).1:=by
 unfold textL at h
 split at h
 · cases h
 · rename_i hk
   split at h
   · cases h
   · rename_i hl
     injection h with h
     injection h with h1 h2
     subst h1 h2
     exact ⟨hk,by omega,rfl,rfl,by rw [List.length_take];omega⟩
theorem textL_less {l t u:List UInt8} (h:textL l=some (t,u)):u.length+t.length<l.length:=by
 obtain ⟨h1,h2,h3,h4,h5⟩:=textL_some h
 rw [h5,h4]
 simp only [List.length_drop] at h2 ⊢
 have:=(get_fits (l:=l)).1
 omega
theorem textL_none {l:List UInt8} (h:textL l=none):(getL l 0 0).2=0\/(l.drop (getL l 0 0).2).length<(getL l 0 0).1:=by
 unfold textL at h
 split at h
 · exact .inl ‹_›
 · split at h
   · exact .inr ‹_›
   · cases h
theorem oneL_less {r u:List UInt8} {p:PutV} (h:oneL r=some (p,u)):u.length<r.length:=by
 cases r with
 | nil=>cases h
 | cons c r=>
  rw [oneL] at h
  rw [List.length_cons]
  split at h
  · split at h
    · cases h
    · rename_i t u' ht
      injection h with h;injection h with _ h;subst h
      have:=textL_less ht;omega
  · split at h
    · split at h
      · cases h
      · rename_i t u' ht
        split at h
        · cases h
        · rename_i v x hv
          injection h with h;injection h with _ h;subst h
          have:=textL_less ht;have:=textL_less hv;omega
    · cases h
theorem oneL_bound {r u:List UInt8} {p:PutV} (h:oneL r=some (p,u)):p.1.length<=r.length/\p.2.1.length<=r.length:=by
 cases r with
 | nil=>cases h
 | cons c r=>
  rw [oneL] at h
  rw [List.length_cons]
  split at h
  · split at h
    · cases h
    · rename_i t u' ht
      injection h with h;injection h with h _;subst h
      have:=textL_less ht
      simp only [List.length_nil];omega
  · split at h
    · split at h
      · cases h
      · rename_i t u' ht
        split at h
        · cases h
        · rename_i v x hv
          injection h with h;injection h with h _;subst h
          have:=textL_less ht;have:=textL_less hv
          simp only;omega
    · cases h
theorem readN_many:∀ (n:Nat) (r:List UInt8) (acc:List PutV),r.length<n->readN n r acc=none
 | 0,_,_,h=>by omega
 | n+1,r,acc,h=>by
  rw [readN]
  split
  · rfl
  · rename_i p u hp
    exact readN_many n u _ (by have:=oneL_less hp;omega)
theorem text_part (x t:List UInt8) (h:x.length<=9223372036854775807):textL (partP x++t)=some (x,t):=by
 have hg:=get_put0 (x++t) x.length h
 rw [partP,List.append_assoc,textL,hg]
 have:=putL_pos x.length
 rw [if_neg (by simp only;omega)]
 simp only [List.drop_left]
 rw [if_neg (by simp only [List.length_append];omega)]
 simp
theorem one_put (p:PutV) (t:List UInt8) (h1:p.1.length<=9223372036854775807) (h2:p.2.1.length<=9223372036854775807):oneL (putV1 p++t)=some (clearV p,t):=by
 obtain ⟨k,v,g⟩:=p
 cases g with
 | true=>
  rw [putV1,if_pos rfl,clearV,if_pos rfl,List.cons_append,oneL,if_pos rfl,text_part k t h1]
 | false=>
  rw [putV1,if_neg (by simp),clearV,if_neg (by simp),List.cons_append,oneL,if_neg (by decide),if_pos rfl,List.append_assoc,text_part k _ h1]
  simp only
  rw [text_part v t h2]
theorem read_puts:∀ (l:List PutV) (acc:List PutV),(∀ p ∈ l,p.1.length<=9223372036854775807/\p.2.1.length<=9223372036854775807)->readN l.length (putsV l) acc=some (acc++l.map clearV)
 | [],acc,_=>by simp [putsV,readN]
 | p::l,acc,h=>by
  have hp:=h p (by simp)
  have e:putsV (p::l)=putV1 p++putsV l:=rfl
  rw [List.length_cons,readN,e,one_put p _ hp.1 hp.2]
  simp only
  rw [read_puts l _ (fun q hq=>h q (by simp [hq])),List.map_cons,List.append_assoc]
  rfl
theorem puts_batch (l:List PutV) (hl:l.length<=9223372036854775807) (h:∀ p ∈ l,p.1.length<=9223372036854775807/\p.2.1.length<=9223372036854775807):putsL (batchL l)=some (l.map clearV):=by
 have hg:=get_put0 (putsV l) l.length hl
 have:=putL_pos l.length
 rw [batchL,putsL,hg,if_neg (by simp only;omega)]
 simp only [List.drop_left]
 rw [read_puts l [] h,List.nil_append]
theorem putsV_snoc (l:List PutV) (p:PutV):putsV (l++[p])=putsV l++putV1 p:=by
 simp [putsV]
abbrev PPut:=Piece × Piece × Bool
def pcells (q:PPut):List Value:=[pv q.1,pv q.2.1,.bool q.2.2]
def valOf (q:PPut):PutV:=(q.1.2.1,q.2.1.2.1,q.2.2)
def valsOf (l:List PPut):List PutV:=l.map valOf
theorem valsOf_length (l:List PPut):(valsOf l).length=l.length:=by simp [valsOf]
theorem pcells_flat (l:List PPut):((l.map pcells).flatten).length=l.length*3:=by
 rw [flat_length (m:=3)]
 · simp
 · intro r hr
   obtain ⟨q,_,rfl⟩:=List.mem_map.1 hr
   rfl
def PutOk (w:World) (q:PPut):Prop:=(Seen w q.1.1 q.1.2.1/\q.1.2.1.length<=9223372036854775807)/\(Seen w q.2.1.1 q.2.1.2.1/\q.2.1.2.1.length<=9223372036854775807)
def PutsSeen (w:World) (A:Option Addr) (l:List PPut):Prop:=
 l=[]\/∃ b off,A=some ⟨b,off,none⟩/\b<w.heap.size/\∀ j (h:j<l.length),w.cell? ⟨b,off+j*3,none⟩=some (pv l[j].1)/\w.cell? ⟨b,off+j*3+1,none⟩=some (pv l[j].2.1)/\
  w.cell? ⟨b,off+j*3+2,none⟩=some (.bool l[j].2.2)/\PutOk w l[j]
theorem PutOk.below {w w':World} {q:PPut} (h:PutOk w q) (hb:Below w.heap.size w w'):PutOk w' q:=⟨⟨h.1.1.below hb,h.1.2⟩,⟨h.2.1.below hb,h.2.2⟩⟩
theorem PutsSeen.below {w w':World} {A:Option Addr} {l:List PPut} (h:PutsSeen w A l) (hb:Below w.heap.size w w'):PutsSeen w' A l:=by
 rcases h with rfl | ⟨b,off,rfl,hlt,hc⟩
 · exact .inl rfl
 · refine .inr ⟨b,off,rfl,Nat.lt_of_lt_of_le hlt hb.size,fun j hj=> ?_⟩
   obtain ⟨h1,h2,h3,h4⟩:=hc j hj
   have e:∀ o,w'.cell? ⟨b,o,none⟩=w.cell? ⟨b,o,none⟩:=fun o=>hb.cell (p:=⟨b,o,none⟩) hlt
   exact ⟨(e _).trans h1,(e _).trans h2,(e _).trans h3,h4.below hb⟩
theorem PutsSeen.at_ {w:World} {A:Option Addr} {l:List PPut} (h:PutsSeen w A l) (k:Nat) (hk:k<l.length):∃ b off,A=some ⟨b,off,none⟩/\PutOk w l[k]/\∀ w',Below w.heap.size w w'->w'.cell? ⟨b,off+k*3,none⟩=some (pv l[k].1)/\w'.cell? ⟨b,off+k*3+1,none⟩=some (pv l[k].2.1)/\
 w'.cell? ⟨b,off+k*3+2,none⟩=some (.bool l[k].2.2):=by
 rcases h with rfl | ⟨b,off,rfl,hb,hc⟩
 · simp at hk
 · obtain ⟨h1,h2,h3,h4⟩:=hc k hk
   refine ⟨b,off,rfl,h4,fun w' hbl=> ?_⟩
   have e:∀ o,w'.cell? ⟨b,o,none⟩=w.cell? ⟨b,o,none⟩:=fun o=>hbl.cell (p:=⟨b,o,none⟩) hb
   exact ⟨(e _).trans h1,(e _).trans h2,(e _).trans h3⟩
def PutOff (w:World) (F:Nat->Prop) (q:PPut):Prop:=(Away w F q.1.1 q.1.2.1/\q.1.2.1.length<=9223372036854775807)/\(Away w F q.2.1.1 q.2.1.2.1/\q.2.1.2.1.length<=9223372036854775807)
theorem PutOff.moved {w w':World} {F G:Nat->Prop} {q:PPut} (h:PutOff w F q) (hs:Spared w w' F) (hG:∀ i,G i->F i\/w.heap.size<=i):PutOff w' G q:=
 ⟨⟨h.1.1.moved hs hG,h.1.2⟩,⟨h.2.1.moved hs hG,h.2.2⟩⟩
def ListAt (e:TypeId) (w0:World) (ps:List PPut) (v:Value) (w:World):Prop:=
 w.ownsRow w0.heap.size e 3 v ps.length (ps.map pcells).flatten/\w0.heap.size<=w.heap.size/\∀ q ∈ ps,PutOff w (fun b=>b<w0.heap.size\/some b=v.ownBlock) q
theorem ListAt.start (e:TypeId) (w:World):ListAt e w [] (.slice none 0 0) w:=
 ⟨World.ownsRow_nil _ _ _ _,Nat.le_refl _,fun q hq=>by simp at hq⟩
section
variable {e:TypeId} {w0 w w':World} {ps:List PPut} {v:Value}
theorem ListAt.through {p:Nat} (h:ListAt e w0 ps v w) (hg:w.grownBy w' (some p)) (hp:p<w0.heap.size):ListAt e w0 ps v w':=by
 refine ⟨h.1.kept hg ?_,Nat.le_trans h.2.1 hg.size,fun q hq=>(h.2.2 q hq).moved (Spared.of_grown hg (fun k e _=>by injection e with e;exact .inl (by omega))) (fun i hi=> .inl hi)⟩
 rcases hv:v.ownBlock with _ | g
 · exact .inl rfl
 · right
   intro e
   injection e with e
   have:=(h.1.lt g hv).1
   omega
theorem ListAt.below (h:ListAt e w0 ps v w) (hb:Below w.heap.size w w'):ListAt e w0 ps v w':=
 ⟨h.1.kept (only_of_below hb none) (by cases v.ownBlock<;>simp),Nat.le_trans h.2.1 hb.size,fun q hq=>(h.2.2 q hq).moved (Spared.of_below hb _) (fun i hi=> .inl hi)⟩
theorem ListAt.more {w1:World} {v':Value} {q:PPut} (h1:ListAt e w0 ps v w1) (h:ListAt e w0 ps v w) (hq:PutOff w (fun b=>b<w1.heap.size) q) (hown:w'.ownsRow w0.heap.size e 3 v' (ps.length+1) ((ps.map pcells).flatten++pcells q)) (hg:w.grownBy w' v.ownBlock) (hat:v'.ownBlock=v.ownBlock\/∃ g,v'.ownBlock=some g/\w.heap.size<=g):ListAt e w0 (ps++[q]) v' w':=by
 have hlt:∀ b,some b=v.ownBlock->b<w1.heap.size:=fun b hb=>(h1.1.lt b hb.symm).2
 have hsp:Spared w w' (fun b=>b<w0.heap.size\/some b=v.ownBlock):=Spared.of_grown hg (fun k e _=> .inr e.symm)
 have hG:∀ i,(i<w0.heap.size\/some i=v'.ownBlock)->(i<w0.heap.size\/some i=v.ownBlock)\/w.heap.size<=i:=by
  rintro i (hi | hi)
  · exact .inl (.inl hi)
  · rcases hat with h | ⟨g,h,hge⟩
    · rw [h] at hi;exact .inl (.inr hi)
    · rw [h] at hi;injection hi with hi;exact .inr (by omega)
 refine ⟨?_,Nat.le_trans h.2.1 hg.size,fun x hx=> ?_⟩
 · rw [List.length_append,List.map_append,List.flatten_append]
   simpa using hown
 · rcases List.mem_append.1 hx with hx | hx
   · exact (h.2.2 x hx).moved hsp hG
   · rw [List.mem_singleton.1 hx]
     have h0:=h1.2.1
     exact hq.moved (Spared.of_grown hg (fun k e _=>hlt k e.symm)) (fun i hi=>by
      rcases hG i hi with (hi | hi) | hi
      · exact .inl (by omega)
      · exact .inl (hlt i hi)
      · exact .inr hi)
theorem ListAt.seen {A:Option Addr} {n c:Nat} (h:ListAt e w0 ps (.slice A n c) w):PutsSeen w A ps:=by
 rcases h.1.2 with ⟨_,h0⟩ | ⟨g,cap,cur,hv,hB,hg,_⟩
 · exact .inl (List.eq_nil_of_length_eq_zero h0)
 · injection hv with hA _ _
   subst hA
   have hlt:g<w.heap.size:=by
    rcases Nat.lt_or_ge g w.heap.size with hlt | hge
    · exact hlt
    · rw [Array.getElem?_eq_none hge] at hg;cases hg
   refine .inr ⟨g,0,rfl,hlt,fun j hj=> ?_⟩
   have hc:∀ i,i<3->w.cell? ⟨g,0+j*3+i,none⟩=(pcells ps[j])[i]? :=fun i hi=>by
    have hf:=flat_at (ps.map pcells) j i (by simpa using hj) (m:=3) (fun r hr=>by obtain ⟨q,_,rfl⟩:=List.mem_map.1 hr;rfl) (by simpa [pcells] using hi)
    have:=h.1.cells (g:=g) rfl (j*3+i) _ hf
    rw [add_plain] at this
    rw [Nat.add_assoc,this,List.getElem?_eq_getElem (by simpa [pcells] using hi)]
    simp
   have hq:=h.2.2 ps[j] (List.getElem_mem hj)
   exact ⟨hc 0 (by decide),hc 1 (by decide),hc 2 (by decide),⟨hq.1.1.seen,hq.1.2⟩,⟨hq.2.1.seen,hq.2.2⟩⟩
end
theorem cells_three_new (w:World) (a b c:Value) (t:TypeId):∀ j u,[a,b,c][j]? =some u->(w.alloc (.cells #[a,b,c] t)).cell? ((⟨w.heap.size,0,none⟩:Addr).add j)=some u:=by
 intro j u hj
 rw [add_plain,World.cell?_alloc_at _ _ _ _ rfl]
 simpa using hj
theorem wpList_append_put {P:Program} (w:World) {ops:Array Oper} {rest:List Oper} {o:Oper} {ac:Act} {Q:Exit->Act->World->Prop} (hgd:o.guard=none) (s x:Operand) (t:TypeId)
 (ho:o.op= .call { callee:= .builtin .append,args:= #[s,x],argTypes:= #[t,t] })
 (e:TypeId) (i:TypeInfo) (z:Value) (ht:P.underlying t=some (.slice e)) (hi:P.info? e=some i) (hz:i.zero=some z)
 (hsize:i.size=3) (hby:i.bytes=56) (hzs:z.cells.size=3)
 (w0 w1:World) (ps:List PPut) (A:Option Addr) (n c:Nat) (q:PPut) (c0 c1 c2:Value) (hs:ac.eval s= .slice A n c) (hx:ac.eval x= .slice (some ⟨w.heap.size,0,none⟩) 1 1)
 (h1:ListAt e w0 ps (.slice A n c) w1) (h:ListAt e w0 ps (.slice A n c) w) (hn:ps.length=n) (hq:PutOff w (fun b=>b<w1.heap.size) q) (hcells:pcells q=[c0,c1,c2]) (hb:n+1<=2199023255552)
 (K:∀ A' c' w',ListAt e w0 (ps++[q]) (.slice A' (n+1) c') w'->Spared w w' (fun b=>w0.heap.size<=b)->wpList P ops Q rest (ac.put o.dst (.slice A' (n+1) c')) w'):
 wpList P ops Q (o::rest) ac (w.alloc (.cells #[c0,c1,c2] e)):=by
 have hal:Below w.heap.size w (w.alloc (.cells #[c0,c1,c2] e)):=(Below.refl _ _).alloc (Nat.le_refl _) _
 have h':=h.below hal
 have hlist:=h'.1
 have hB:=h'.2.1
 rw [hn] at hlist
 refine wpList_append_own_at (w.alloc (.cells #[c0,c1,c2] e)) hgd s x t ho w0.heap.size e i z 3 56 ht hi hz hsize hby hzs (by decide) _ n _ hs hlist ⟨w.heap.size,0,none⟩ 1 1 [c0,c1,c2] hx rfl (cells_three_new _ _ _ _ _) (by
  intro u hu
  rw [<-hcells] at hu
  simp [pcells] at hu
  rcases hu with rfl | rfl | rfl<;>rfl) (by unfold maxLen;omega) (by omega) hB ?_
 intro v' w' hown hg _ hat
 obtain ⟨A',c',rfl⟩:∃ A' c',v'= .slice A' (n+1) c':=by
  rcases hown.2 with ⟨rfl,h0⟩ | ⟨_,_,_,rfl,_⟩
  · exact absurd h0 (by omega)
  · exact ⟨_,_,rfl⟩
 refine K A' c' w' (h1.more h' (hq.moved (Spared.of_below hal _) (fun i hi=> .inl hi)) (by rw [hn,hcells];exact hown) hg ?_) ?_
 · rcases hat with hat | hat
   · exact .inl hat
   · exact .inr ⟨_,hat,Nat.le_refl _⟩
 · refine (Spared.of_below hal _).trans (Spared.of_grown hg (F:=fun b=>w0.heap.size<=b) (fun k e _=>(hlist.lt k e).1)) (fun i hi=> .inl hi)
theorem only_spared {w w' w'':World} {row:Option Nat} (h:w.grownBy w' row) (hs:Spared w' w'' (fun b=>w.heap.size<=b)):w.grownBy w'' row:=
 ⟨hs.os.trans h.os,hs.tape.trans h.tape,hs.output.trans h.output,Nat.le_trans h.size hs.size,fun k hk hne=>(hs.block k (Nat.lt_of_lt_of_le hk h.size) (by omega)).trans (h.block k hk hne)⟩
def pfewOne (q:PPut):Bool:=decide (q.1.2.1.length<=500)&&decide (q.2.1.2.1.length<=500)
def pfewB (ps:List PPut):Bool:=decide (ps.length<=60)&&ps.all pfewOne
theorem pfewB_true {ps:List PPut} (h:pfewB ps=true):ps.length<=60/\∀ q ∈ ps,q.1.2.1.length<=500/\q.2.1.2.1.length<=500:=by
 unfold pfewB at h
 rw [Bool.and_eq_true,decide_eq_true_eq,List.all_eq_true] at h
 refine ⟨h.1,fun q hq=> ?_⟩
 have:=h.2 q hq
 unfold pfewOne at this
 rw [Bool.and_eq_true,decide_eq_true_eq,decide_eq_true_eq] at this
 exact this
set_option maxRecDepth 100000 in
set_option maxHeartbeats 1000000 in
theorem pfew_any (A:Option Addr) (ps:List PPut) (L c:Nat) (w:World) (hL:ps.length=L) (hn:L<=9223372036854775807) (hs:PutsSeen w A ps):
 Calls Tryz.prog 39 #[.slice A L c] w fun e w'=>e= .returned (.bool (pfewB ps))/\w=w':=by
 have HS:=Lib.hid hs
 have HL:=Lib.hid hL
 obtain ⟨v,hv⟩:∃ v,v=pfewB ps:=⟨_,rfl⟩
 rw [<-hv]
 by_cases h60:60<L
 · have HV:Hid (false=v):=by show _=_;rw [hv,pfewB,decide_eq_false (by omega)];rfl
   clear hs hL hv
   go_enter Tryz.func39,Tryz.ntmps39
   go_wp2_with fail
   go_ret
   exact ⟨ret_bool HV.out,rfl⟩
 · have HV:Hid (ps.all pfewOne=v):=by show _=_;rw [hv,pfewB,decide_eq_true (by omega)];rfl
   clear hs hL hv
   go_enter Tryz.func39,Tryz.ntmps39
   go_wp2_with fail
   go_loop [3] (fun i=>∃ k:Nat,k<=L/\i= .int .i64 k/\Hid ((ps.drop k).all pfewOne=v)) (fun i=>L-(intOf i).toNat)
   case atStart=>exact ⟨0,by omega,rfl,HV.out⟩
   case round=>
    obtain ⟨k,hk,rfl,hall⟩:=hrel
    by_cases hlt:k<L
    · have hk':k<ps.length:=by rw [HL.out];exact hlt
      obtain ⟨b,off,hA,hok,hat⟩:=HS.out.at_ k hk'
      subst hA
      obtain ⟨e0,e1,e2⟩:=hat w (Below.refl _ _)
      have HN:Hid ((ps.drop k).all pfewOne=(pfewOne ps[k]&&(ps.drop (k+1)).all pfewOne)):=by show _=_;rw [List.drop_eq_getElem_cons hk',List.all_cons]
      obtain ⟨q,hq⟩:∃ q,q=ps[k]:=⟨_,rfl⟩
      rw [<-hq] at hok HN e0 e1 e2
      obtain ⟨⟨qA,ql,qc⟩,⟨vA,vl,vc⟩,g⟩:=q
      have hl1:ql.length<=9223372036854775807:=hok.1.2
      have hl2:vl.length<=9223372036854775807:=hok.2.2
      simp only [pv] at e0 e1
      have HN':Hid ((ps.drop k).all pfewOne=(decide (ql.length<=500)&&decide (vl.length<=500)&&(ps.drop (k+1)).all pfewOne)):=HN.out
      clear hat hok hq HN e2
      by_cases h1:500<ql.length
      · have HF:Hid (false=v):=by show _=_;rw [<-hall.out,HN'.out,decide_eq_false (by omega)];simp
        clear HN'
        generalize ql.length=qn at *
        generalize vl.length=vn at *
        go_wp2_with fail
        go_ret
        exact ⟨ret_bool HF.out,rfl⟩
      · by_cases h2:500<vl.length
        · have HF:Hid (false=v):=by show _=_;rw [<-hall.out,HN'.out,decide_eq_false (p:=vl.length<=500) (by omega)];simp
          clear HN'
          generalize ql.length=qn at *
          generalize vl.length=vn at *
          go_wp2_with fail
          go_ret
          exact ⟨ret_bool HF.out,rfl⟩
        · have HF:Hid ((ps.drop (k+1)).all pfewOne=v):=by show _=_;rw [<-hall.out,HN'.out,decide_eq_true (by omega),decide_eq_true (by omega)];simp
          clear HN'
          generalize ql.length=qn at *
          generalize vl.length=vn at *
          go_wp2_with fail
          go_round
          case rel=>exact ⟨k+1,by omega,by go_num,HF.out⟩
          case measure=>simp [intOf];omega
    · have HF:Hid (true=v):=by
       have e:ps.drop k=[]:=List.drop_eq_nil_of_le (by rw [HL.out];omega)
       show _=_
       rw [<-hall.out,e];rfl
      clear hall
      go_wp2_with fail
      go_ret
      exact ⟨ret_bool HF.out,rfl⟩
abbrev PRow:=Option Addr × List PPut × Nat
end Go.Proofs.YtdaahapbpnjkfaaGreat
