/-
The program's Open of a store. Conditions: the disk has at most 3,000 blocks, and has taken at most 700,000 calls.
-/
import Derived.Test.YtdaahapbpnjkfaaGreatCKpAreasOf
import Derived.Test.YtdaahapbpnjkfaaGreatCFBatch
import Derived.Test.YtdaahapbpnjkfaaGreatCKpTurn
namespace Go.Proofs.YtdaahapbpnjkfaaGreat
open Go.RowKit
theorem on_first {s:Dsk} {h:Nat} (hh:1<=h) (h2:h+h<=s.K.length):OnDisk s ((0:Nat):Int) (h:Int)/\OnDisk s (h:Int) (h:Int):=⟨⟨by omega,by omega,by omega⟩,⟨by omega,by omega,by omega⟩⟩
theorem areas_found {s:Dsk} {h:Nat} (hh:1<=h) (h2:h+h<=s.K.length) (ho:s.off=false):
 ∃ E0 lo0 ds0 E1 lo1 ds1,OpTo s ((0:Nat):Int) (h:Int) E0 lo0 ds0/\OpTo s (h:Int) (h:Int) E1 lo1 ds1/\(E0=0\/E0=13)/\(E1=0\/E1=13)/\
  ((¬ genO lo0<genO lo1/\lo0=none/\ds0=[]/\pickL h s=none)\/(¬ genO lo0<genO lo1/\∃ g0,lo0=some (kvLog h 0 g0 ds0)/\pickL h s=some (0,g0,ds0))\/(genO lo0<genO lo1/\∃ g1,lo1=some (kvLog h 1 g1 ds1)/\pickL h s=some (1,g1,ds1))):=by
 obtain ⟨o1,o2⟩:=on_first hh h2
 have t0:((0:Nat):Int).toNat=0:=rfl
 have th:((h:Nat):Int).toNat=h:=Int.toNat_natCast h
 have e0:∀ g ds,kvLog h 0 g ds=Lg.found 0 h g ds:=fun g ds=>by unfold kvLog;rw [Nat.zero_mul]
 have e1:∀ g ds,kvLog h 1 g ds=Lg.found h h g ds:=fun g ds=>by unfold kvLog;rw [Nat.one_mul]
 unfold OpTo
 rw [t0,th]
 rcases hx:openL (s.bytes 0 h) with _ | ⟨g0,d0⟩
 · rcases hy:openL (s.bytes h h) with _ | ⟨g1,d1⟩
   · exact ⟨13,none,[],13,none,[],.inr (.inr (.inl ⟨o1,ho,rfl,rfl,rfl,rfl⟩)),.inr (.inr (.inl ⟨o2,ho,rfl,rfl,rfl,rfl⟩)),.inr rfl,.inr rfl,.inl ⟨by decide,rfl,rfl,by unfold pickL;rw [hx,hy]⟩⟩
   · have hg:=(open_some hy).1
     exact ⟨13,none,[],0,some (Lg.found h h g1 d1),d1,.inr (.inr (.inl ⟨o1,ho,rfl,rfl,rfl,rfl⟩)),.inr (.inr (.inr ⟨o2,ho,g1,rfl,rfl,rfl⟩)),.inr rfl,.inl rfl,.inr (.inr ⟨by show (0:Int)<g1;omega,g1,by rw [e1],by unfold pickL;rw [hx,hy]⟩)⟩
 · have hg0:=(open_some hx).1
   rcases hy:openL (s.bytes h h) with _ | ⟨g1,d1⟩
   · exact ⟨0,some (Lg.found 0 h g0 d0),d0,13,none,[],.inr (.inr (.inr ⟨o1,ho,g0,rfl,rfl,rfl⟩)),.inr (.inr (.inl ⟨o2,ho,rfl,rfl,rfl,rfl⟩)),.inl rfl,.inr rfl,.inr (.inl ⟨by show ¬ (g0:Int)<0;omega,g0,by rw [e0],by unfold pickL;rw [hx,hy]⟩)⟩
   · by_cases hlt:g0<g1
     · exact ⟨0,some (Lg.found 0 h g0 d0),d0,0,some (Lg.found h h g1 d1),d1,.inr (.inr (.inr ⟨o1,ho,g0,rfl,rfl,rfl⟩)),.inr (.inr (.inr ⟨o2,ho,g1,rfl,rfl,rfl⟩)),.inl rfl,.inl rfl,.inr (.inr ⟨hlt,g1,by rw [e1],by unfold pickL;rw [hx,hy];exact if_pos hlt⟩)⟩
     · exact ⟨0,some (Lg.found 0 h g0 d0),d0,0,some (Lg.found h h g1 d1),d1,.inr (.inr (.inr ⟨o1,ho,g0,rfl,rfl,rfl⟩)),.inr (.inr (.inr ⟨o2,ho,g1,rfl,rfl,rfl⟩)),.inl rfl,.inl rfl,.inr (.inl ⟨hlt,g0,by rw [e0],by unfold pickL;rw [hx,hy];exact if_neg hlt⟩)⟩
def Picked (w1:World) (B g h:Nat) (s:Dsk) (V:Array Value) (f:Nat) (lo:Option Lg) (P A:Option Addr) (n c:Nat) (ds:List (List UInt8)):Prop:=
 ∃ b,lp lo b= .pointer P/\AreaAt w1 B g (f,lo,b,A,n,c) ds/\((∀ l,lo=some l->l.Fits s)/\ds.length<=262144)/\(∀ W,Below w1.heap.size w1 W->Calls Tryz.prog 42 #[.agg V] W fun e w2=>e= .returned (.agg #[.int .i64 (f:Int),.pointer P,.slice A n c])/\Below W.heap.size W w2)/\
  ((lo=none/\ds=[]/\f=0/\pickL h s=none)\/∃ a g0,lo=some (kvLog h a g0 ds)/\f=a*h/\a<=1/\pickL h s=some (a,g0,ds))
theorem kareas_any (w:World) (g:Nat) (F:Nat->Prop) (s:Dsk) (h:Nat) (hd:DiskAt w g F s) (hh:h=s.K.length/2) (h1:1<=h) (ho:s.off=false):
 Calls Tryz.prog 41 #[.pointer (some ⟨g,0,none⟩)] w fun e w1=>∃ (P0 A0:Option Addr) (n0 c0:Nat) (P1 A1:Option Addr) (n1 c1:Nat) (f:Nat) (lo:Option Lg) (P A:Option Addr) (n c:Nat) (ds:List (List UInt8)),
  e= .returned (.tuple #[.agg #[.int .i64 0,.pointer P0,.slice A0 n0 c0,.int .i64 (h:Int),.pointer P1,.slice A1 n1 c1],.int .i64 0])/\Below w.heap.size w w1/\Picked w1 w.heap.size g h s #[.int .i64 0,.pointer P0,.slice A0 n0 c0,.int .i64 (h:Int),.pointer P1,.slice A1 n1 c1] f lo P A n c ds:=by
 obtain ⟨E0,lo0,ds0,E1,lo1,ds1,o0,o1,e0,e1,hp⟩:=areas_found h1 (by omega) ho
 refine (areasOf_on w g F s h hd hh E0 E1 lo0 lo1 ds0 ds1 o0 o1 e0 e1).mono ?_
 rintro e w1 ⟨b0,P0,A0,n0,c0,b1,P1,A1,n1,c1,rfl,hp0,hp1,a0,a1,hb⟩
 have hn:∀ (newer:Bool),newer=decide (genO lo0<genO lo1)->∀ W,Below w1.heap.size w1 W->Calls Tryz.prog 42 #[.agg #[.int .i64 0,.pointer P0,.slice A0 n0 c0,.int .i64 (h:Int),.pointer P1,.slice A1 n1 c1]] W fun e w2=>e= .returned (if newer then .agg #[.int .i64 (h:Int),.pointer P1,.slice A1 n1 c1] else .agg #[.int .i64 0,.pointer P0,.slice A0 n0 c0])/\Below W.heap.size W w2:=fun newer hnew W hW=>
  newest_raw W 0 P0 A0 n0 c0 h P1 A1 n1 c1 (genO lo0) (genO lo1) newer hnew (fun W' hW'=>by rw [<-hp0];exact gen_lp (a0.is.below (hop hW hW')).2) (fun W' hW'=>by rw [<-hp1];exact gen_lp (a1.is.below (hop hW hW')).2)
 rcases hp with ⟨hg,hl,hdd,hpk⟩ | ⟨hg,g0,hl,hpk⟩ | ⟨hg,g1,hl,hpk⟩
 · exact ⟨P0,A0,n0,c0,P1,A1,n1,c1,0,lo0,P0,A0,n0,c0,ds0,rfl,hb,b0,hp0,a0,op_fits o0 hd.ok,fun W hW=>hn false (decide_eq_false hg).symm W hW,.inl ⟨hl,hdd,rfl,hpk⟩⟩
 · exact ⟨P0,A0,n0,c0,P1,A1,n1,c1,0,lo0,P0,A0,n0,c0,ds0,rfl,hb,b0,hp0,a0,op_fits o0 hd.ok,fun W hW=>hn false (decide_eq_false hg).symm W hW,.inr ⟨0,g0,hl,(Nat.zero_mul h).symm,by omega,hpk⟩⟩
 · exact ⟨P0,A0,n0,c0,P1,A1,n1,c1,h,lo1,P1,A1,n1,c1,ds1,rfl,hb,b1,hp1,a1,op_fits o1 hd.ok,fun W hW=>hn true (decide_eq_true hg).symm W hW,.inr ⟨1,g1,hl,(Nat.one_mul h).symm,by omega,hpk⟩⟩
theorem pick_open {s:Dsk} {h a:Nat} {g:Int} {ds:List (List UInt8)} (hp:pickL h s=some (a,g,ds)):openL (s.bytes (a*h) h)=some (g,ds):=by
 unfold pickL at hp
 rcases hx:openL (s.bytes 0 h) with _ | ⟨g0,d0⟩
 · rcases hy:openL (s.bytes h h) with _ | ⟨g1,d1⟩
   · rw [hx,hy] at hp;cases hp
   · rw [hx,hy] at hp
     injection hp with hp;injection hp with h1 hp;injection hp with h2 h3
     subst h1 h2 h3
     rw [Nat.one_mul];exact hy
 · rcases hy:openL (s.bytes h h) with _ | ⟨g1,d1⟩
   · rw [hx,hy] at hp
     injection hp with hp;injection hp with h1 hp;injection hp with h2 h3
     subst h1 h2 h3
     rw [Nat.zero_mul];exact hx
   · rw [hx,hy] at hp
     simp only at hp
     split at hp
     · injection hp with hp;injection hp with h1 hp;injection hp with h2 h3
       subst h1 h2 h3
       rw [Nat.one_mul];exact hy
     · injection hp with hp;injection hp with h1 hp;injection hp with h2 h3
       subst h1 h2 h3
       rw [Nat.zero_mul];exact hx
def KOpened (w:World) (T:Nat->Prop) (g:Nat) (F:Nat->Prop) (h:Nat) (s:Dsk) (e:Ending) (w':World):Prop:=
 ((openK h s).2.2=none/\e= .returned (.tuple #[.pointer none,.int .i64 (openK h s).1])/\∃ F',DiskAt w' g F' (openK h s).2.1/\Spared w w' F/\∀ x,F' x->F x\/w.heap.size<=x)\/
 (∃ (k:KvS) (T':Nat->Prop) (q b gt:Nat) (F':Nat->Prop),(openK h s).2.2=some k/\e= .returned (.tuple #[.pointer (some ⟨q,0,none⟩),.int .i64 (openK h s).1])/\PSt w' T' q g b gt F' h (openK h s).2.1 k/\Spared w w' F/\(∀ x,F' x->F x\/w.heap.size<=x)/\(∀ x,T x->T' x)/\(∀ x,T' x->T x\/w.heap.size<=x)/\w.heap.size<=q/\w.heap.size<=b/\w.heap.size<=gt/\(pickL h s≠none->Below w.heap.size w w'))
set_option maxRecDepth 100000 in
set_option maxHeartbeats 4000000 in
theorem kopen_any (w:World) (T:Nat->Prop) (hT:∀ x,T x->x<w.heap.size) (g:Nat) (F:Nat->Prop) (hF:∀ x,F x->T x) (s:Dsk) (h m:Nat) (hd:DiskAt w g F s) (hh:h=s.K.length/2) (hK:s.K.length<=3000) (hf:s.Few m) (hm:m<=700000):
 Calls Tryz.prog 13 #[.pointer (some ⟨g,0,none⟩)] w (KOpened w T g F h s):=by
 have HD:=Lib.hid hd
 have HT:=Lib.hid hT
 have HFT:=Lib.hid hF
 have HH:=Lib.hid hh
 have HFW:=Lib.hid hf
 have HMM:=Lib.hid hm
 have HHALF:=Lib.hid (half_any hd hh)
 have hh4:h<=1500:=by omega
 by_cases h1:h<1
 · have HO:Hid (openK h s=(1,s,none)):=if_pos h1
   have d1:(h:Int)<1:=by omega
   have d1':decide ((h:Int)<1)=true:=decide_eq_true d1
   clear hd hT hF hh hf hm hK
   go_enter Tryz.func13,Tryz.ntmps13
   go_wp2_with fail
   with_reducible refine HHALF.out.mono ?_
   rintro e w1 ⟨rfl,hw1⟩
   obtain rfl:=hw1.symm
   go_wp2_with fail
   go_ret2
   exact .inl ⟨by rw [HO.out],by rw [HO.out];rfl,F,by rw [HO.out];exact HD.out,.refl _ _,fun x hx=> .inl hx⟩
 have h1':1<=h:=by omega
 have d1: ¬ (h:Int)<1:=by omega
 have d1':decide ((h:Int)<1)=false:=decide_eq_false d1
 by_cases ho:s.off=true
 · have HO:Hid (openK h s=(5,s,none)):=open_off h1' ho
   have HA:Hid (Calls Tryz.prog 41 #[.pointer (some ⟨g,0,none⟩)] w fun e w'=>e= .returned (.tuple #[.agg #[.int .i64 0,.pointer none,.slice none 0 0,.int .i64 0,.pointer none,.slice none 0 0],.int .i64 5])/\Below w.heap.size w w'):=areasOf_off w g F s h hd hh (.inr (.inl ⟨(on_first h1' (by omega)).1,ho,rfl,rfl,rfl⟩))
   clear hd hT hF hh hf hm hK h1 ho
   go_enter Tryz.func13,Tryz.ntmps13
   go_wp2_with fail
   with_reducible refine HHALF.out.mono ?_
   rintro e w1 ⟨rfl,hw1⟩
   obtain rfl:=hw1.symm
   go_wp2_with fail
   with_reducible refine HA.out.mono ?_
   rintro e w1 ⟨rfl,hb1⟩
   have B1:Hid (Below w.heap.size w (w1.alloc (.cells #[.int .i64 0,.pointer none,.slice none 0 0,.int .i64 0,.pointer none,.slice none 0 0] 86))):=hb1.alloc hb1.size _
   clear hb1
   go_wp2_with fail
   go_ret2
   exact .inl ⟨by rw [HO.out],by rw [HO.out];rfl,F,by rw [HO.out];exact HD.out.still B1.out,.of_below B1.out _,fun x hx=> .inl hx⟩
 have ho:s.off=false:=by simpa using ho
 have HA:=Lib.hid (kareas_any w g F s h hd hh h1' ho)
 have HOFF:=Lib.hid ho
 have HSZ:Hid (∀ a g ds,a<=1->pickL h s=some (a,g,ds)->sizeD ds<=99999):=fun a g ds ha hp=>by
  have h5:=open_size (pick_open hp)
  have h6:=two_fits (a:=a) (h:=h) (N:=s.K.length) ha (by omega)
  rw [bytes_length hd.ok h6] at h5
  omega
 clear hd hT hF hh hf hm hK h1 ho
 go_enter Tryz.func13,Tryz.ntmps13
 go_wp2_with fail
 with_reducible refine HHALF.out.mono ?_
 rintro e w1 ⟨rfl,hw1⟩
 obtain rfl:=hw1.symm
 go_wp2_with fail
 with_reducible refine HA.out.mono ?_
 rintro e w1 ⟨P0,A0,n0,c0,P1,A1,n1,c1,f,lo,P,A,n,c,ds,rfl,hb1,b,hlp,hai,hfi,hnw,hpk⟩
 have B1:=Lib.hid hb1
 obtain ⟨w2,hw2⟩:∃ w2,w2=w1.alloc (.cells #[.int .i64 0,.pointer P0,.slice A0 n0 c0,.int .i64 (h:Int),.pointer P1,.slice A1 n1 c1] 86):=⟨_,rfl⟩
 have hb12:Below w1.heap.size w1 w2:=by rw [hw2];exact (Below.refl _ _).alloc (Nat.le_refl _) _
 have HW2:Hid (w1.alloc (.cells #[.int .i64 0,.pointer P0,.slice A0 n0 c0,.int .i64 (h:Int),.pointer P1,.slice A1 n1 c1] 86)=w2):=hw2.symm
 have B12:=Lib.hid hb12
 have HNW:=Lib.hid (hnw w2 hb12)
 have HAI:=Lib.hid hai
 have HPK:=Lib.hid hpk
 have HLP:=Lib.hid hlp
 have hx2:Blk w2 w1.heap.size [.int .i64 0,.pointer P0,.slice A0 n0 c0,.int .i64 (h:Int),.pointer P1,.slice A1 n1 c1] 86:=by rw [hw2];exact Blk.new _ _ _
 have y0:=hx2.cell (i:=0) (by simp)
 have y1:=hx2.cell (i:=1) (by simp)
 have y2:=hx2.cell (i:=2) (by simp)
 have y3:=hx2.cell (i:=3) (by simp)
 have y4:=hx2.cell (i:=4) (by simp)
 have y5:=hx2.cell (i:=5) (by simp)
 simp only [List.getElem_cons_zero,List.getElem_cons_succ] at y0 y1 y2 y3 y4 y5
 have hz:sizeD ds<=99999:=by
  rcases hpk with ⟨_,h5,_⟩ | ⟨a,g0,_,_,h5,h6⟩
  · rw [h5];exact Nat.zero_le _
  · exact HSZ.out a g0 ds h5 h6
 have HZ:=Lib.hid hz
 have HFI:=Lib.hid hfi
 clear hb1 hlp hai hnw hpk hfi hz HA HHALF hw2 hb12 hx2
 go_wp2_with fail
 rw [HW2.out]
 with_reducible refine HNW.out.mono ?_
 rintro e w3 ⟨rfl,hb3⟩
 obtain ⟨w4,hw4⟩:∃ w4,w4=w3.alloc (.cells #[.int .i64 (f:Int),.pointer P,.slice A n c] 85):=⟨_,rfl⟩
 have hb34:Below w3.heap.size w3 w4:=by rw [hw4];exact (Below.refl _ _).alloc (Nat.le_refl _) _
 have HW4:Hid (w3.alloc (.cells #[.int .i64 (f:Int),.pointer P,.slice A n c] 85)=w4):=hw4.symm
 have hx4:Blk w4 w3.heap.size [.int .i64 (f:Int),.pointer P,.slice A n c] 85:=by rw [hw4];exact Blk.new _ _ _
 have B14:Hid (Below w1.heap.size w1 w4):=hop (hop B12.out hb3) hb34
 have B4:Hid (Below w.heap.size w w4):=hop B1.out B14.out
 have HX4:=Lib.hid hx4
 obtain ⟨⟨ps,hps1,hps2,hps3⟩,_⟩:=HAI.out.is
 obtain ⟨D,hD⟩:∃ D,D=recsL ds []:=⟨_,rfl⟩
 have hT2:∀ x,(T x\/(lo≠none/\x=b))->x<w4.heap.size:=fun x hx=>by
  have h5:=B4.out.size
  rcases hx with hx | ⟨h6,hx⟩
  · have:=HT.out x hx;omega
  · rcases hl:lo with _ | l
    · exact absurd hl h6
    · have h7:=(HAI.out.2.1 l hl).lt
      have h8:=B14.out.size
      change b<_ at h7
      omega
 have hn9:n<=9223372036854775806:=by
  have h5:=HFI.out.2
  have h6:ps.length=n:=hps1
  rw [<-hps2,length_bytesOf,h6] at h5
  omega
 have HRE:Hid (Calls Tryz.prog 43 #[.slice A n c] w4 (ReplayOut w4 (fun x=>T x\/(lo≠none/\x=b)) D)):=by
  have h5:=replayed_any w4 (fun x=>T x\/(lo≠none/\x=b)) hT2 A ps n c (hps3.below B14.out) hps1 hn9 (by rw [hps2];exact HZ.out)
  rw [hps2,<-hD] at h5
  exact h5
 have HDD:=Lib.hid hD
 have y0:=hx4.cell (i:=0) (by simp)
 have y1:=hx4.cell (i:=1) (by simp)
 have y2:=hx4.cell (i:=2) (by simp)
 simp only [List.getElem_cons_zero,List.getElem_cons_succ] at y0 y1 y2
 clear hb3 hw4 hb34 hx4 hps1 hps2 hps3 hD HNW hT2 hn9
 go_wp2_with fail
 rw [HW4.out]
 with_reducible refine HRE.out.mono ?_
 rintro e w5 ⟨hb5,hout⟩
 have B45:=Lib.hid hb5
 have B5:Hid (Below w.heap.size w w5):=hop B4.out hb5
 have hx5:=HX4.out.below hb5 HX4.out.lt
 have y0:=hx5.cell (i:=0) (by simp)
 have y1:=hx5.cell (i:=1) (by simp)
 simp only [List.getElem_cons_zero,List.getElem_cons_succ] at y0 y1
 have HX5:=Lib.hid hx5
 clear hb5 hx5 HRE
 rcases hout with ⟨hD0,rfl⟩ | ⟨L,gt,hD1,rfl,hg1,hg2,ht5⟩
 · have HO:Hid (openK h s=(3,s,none)):=by
    show _=_
    rcases HPK.out with ⟨_,h5,_⟩ | ⟨a,g0,_,_,_,h6⟩
    · have h6:=HDD.out
      rw [h5,hD0] at h6
      cases h6
    · unfold openK
      rw [if_neg (by omega),if_neg (by rw [HOFF.out];decide),h6]
      simp only
      rw [<-HDD.out,hD0]
   clear hD0
   go_wp2_with fail
   go_ret2
   exact .inl ⟨by rw [HO.out],by rw [HO.out];rfl,F,by rw [HO.out];exact HD.out.still B5.out,.of_below B5.out _,fun x hx=> .inl hx⟩
 have T5:=Lib.hid ht5
 have HG5:Hid (w4.heap.size<=gt/\gt<w5.heap.size):=⟨hg1,hg2⟩
 have hD2:recsL ds []=some L:=by rw [<-HDD.out];exact hD1
 have HD2:=Lib.hid hD2
 clear hg1 hg2 ht5 hD1 hD2 HDD
 obtain ⟨w6,hw6⟩:∃ w6,w6=w5.alloc (.cells #[.pointer (some ⟨g,0,none⟩),.int .i64 (f:Int),.pointer P,.pointer (some ⟨gt,0,none⟩),.bool true] 94):=⟨_,rfl⟩
 have hb56:Below w5.heap.size w5 w6:=by rw [hw6];exact (Below.refl _ _).alloc (Nat.le_refl _) _
 have HW6:Hid (w5.alloc (.cells #[.pointer (some ⟨g,0,none⟩),.int .i64 (f:Int),.pointer P,.pointer (some ⟨gt,0,none⟩),.bool true] 94)=w6):=hw6.symm
 have hx6:Blk w6 w5.heap.size [.pointer (some ⟨g,0,none⟩),.int .i64 (f:Int),.pointer P,.pointer (some ⟨gt,0,none⟩),.bool true] 94:=by rw [hw6];exact Blk.new _ _ _
 have B56:=Lib.hid hb56
 have B6:Hid (Below w.heap.size w w6):=hop B5.out hb56
 have HX6:=Lib.hid hx6
 have hs6:w6.heap.size=w5.heap.size+1:=by rw [hw6];simp
 have HS6:=Lib.hid hs6
 clear hw6 hb56 hx6 hs6
 have hz5:=B5.out.size
 have hz4:=B4.out.size
 have hz45:=B45.out.size
 rcases hlo:lo with _ | l
 · obtain ⟨hds,hf0,hpn⟩:ds=[]/\f=0/\pickL h s=none:=by
    rcases HPK.out with ⟨_,h5,h6,h7⟩ | ⟨a,g0,h5,_⟩
    · exact ⟨h5,h6,h7⟩
    · rw [hlo] at h5;cases h5
   obtain rfl:P=none:=by
    have h5:=HLP.out
    rw [hlo] at h5
    injection h5 with h5
    exact h5.symm
   obtain rfl:L=[]:=by
    have h5:=HD2.out
    rw [hds] at h5
    injection h5 with h5
    exact h5.symm
   have HF0:=Lib.hid hf0
   obtain ⟨E,hE⟩:∃ E,E=(Lg.new 0 h 1).err s (batchL []):=⟨_,rfl⟩
   obtain ⟨s',hs'⟩:∃ s',s'=(Lg.new 0 h 1).dsk s (batchL []):=⟨_,rfl⟩
   obtain ⟨lg',hlg'⟩:∃ lg',lg'=(Lg.new 0 h 1).next s (batchL []):=⟨_,rfl⟩
   have HO:Hid (openK h s=(E,s',if E=0 then some ⟨0,lg',[],false⟩ else none)):=by
    show _=_
    unfold openK
    rw [if_neg (by omega),if_neg (by rw [HOFF.out];decide),hpn,hE,hs',hlg']
   have hh2:=HH.out
   have hon:OnDisk s ((0:Nat):Int) (h:Int)/\(1:Int)<=1/\(1:Int)<=1152921504606846976:=⟨(on_first h1' (by omega)).1,by decide,by decide⟩
   have hbg:BgTo s (f:Int) (h:Int) 1 (batchL (allP [])) E s' (if E=0 then some lg' else none):=by
    rw [HF0.out]
    by_cases h0:E=0
    · rw [if_pos h0]
      refine .inr (.inr ⟨hon,?_,h0,hs',by rw [hlg'];rfl⟩)
      rw [hE] at h0
      exact h0
    · rw [if_neg h0]
      refine .inr (.inl ⟨hon,?_,hE,hs',rfl⟩)
      rw [hE] at h0
      exact h0
   have hfit:E=0->lg'.Fits s':=fun h0=>by rw [hlg',hs'];exact (new_fits hon).next.1
   have hlen:s'.K.length=s.K.length:=by rw [hs'];exact ((new_fits hon).next (d:=batchL [])).2.2
   have HFIT:=Lib.hid hfit
   have HLEN:=Lib.hid hlen
   have hFw:∀ x,F x->x<w.heap.size:=fun x hx=>HT.out x (HFT.out x hx)
   have hg5:=HG5.out
   have HBE:Hid (Calls Tryz.prog 44 #[.pointer (some ⟨w5.heap.size,0,none⟩),.int .i64 (f:Int),.int .i64 1,.pointer (some ⟨gt,0,none⟩)] w6 (KBegun w6 w5.heap.size g gt f F s' E (if E=0 then some lg' else none) (.int .i64 (f:Int)) (.pointer none) (.pointer (some ⟨gt,0,none⟩)) (.bool true))):=
    kbegin_any w6 _ w5.heap.size g gt f h F s s' 1 E [] _ m _ _ _ _ (HD.out.still B6.out) HX6.out (fun hx=>by have:=hFw _ hx;omega) HH.out (T5.out.below B56.out) (by decide) (by decide +kernel) hbg HFW.out HMM.out (by rw [HF0.out];decide)
   have y2:(w5.alloc (.cells #[.pointer (some ⟨g,0,none⟩),.int .i64 (f:Int),.pointer none,.pointer (some ⟨gt,0,none⟩),.bool true] 94)).cell? ⟨w3.heap.size,1,none⟩=some (.pointer none):=by
    rw [HW6.out]
    exact (HX5.out.below B56.out HX5.out.lt).cell (i:=1) (by simp)
   have y3:(w5.alloc (.cells #[.pointer (some ⟨g,0,none⟩),.int .i64 (f:Int),.pointer none,.pointer (some ⟨gt,0,none⟩),.bool true] 94)).cell? ⟨w3.heap.size,0,none⟩=some (.int .i64 (f:Int)):=by
    rw [HW6.out]
    exact (HX5.out.below B56.out HX5.out.lt).cell (i:=0) (by simp)
   have HPN:=Lib.hid hpn
   have HSW:Hid (w.heap.size<=w5.heap.size/\w4.heap.size<=w5.heap.size/\w.heap.size<=w4.heap.size):=⟨hz5,hz45,hz4⟩
   clear hf0 hds hpn hE hs' hlg' hh2 hon hbg hfit hlen hg5 hz5 hz4 hz45
   go_wp2_with fail
   rw [HW6.out]
   with_reducible refine HBE.out.mono ?_
   rintro e w7 ⟨b7,F7,rfl,hd7,hl7,hb7,hs7,hg7,hc7⟩
   have D7:=Lib.hid hd7
   have L7:=Lib.hid hl7
   have HB7:=Lib.hid hb7
   have S7:=Lib.hid hs7
   have HG7:=Lib.hid hg7
   have SW7:Hid (Spared w w7 F):=(Spared.of_below B6.out F).trans hs7 (fun x hx=>hx.elim .inl (fun h=> .inr (by have:=HSW.out;omega)))
   have HF7:Hid (∀ x,F7 x->F x\/w.heap.size<=x):=fun x hx=>(hg7 x hx).imp id (fun h=>by have:=HSW.out;have:=HS6.out;omega)
   clear hd7 hl7 hb7 hs7 hg7
   rcases hc7 with ⟨hE0,hx7⟩ | ⟨hE0,hx7⟩
   · subst hE0
     have HX7:=Lib.hid hx7
     have HPS:Hid (PSt w7 (fun x=>T x\/F7 x\/x=b7\/x=w5.heap.size\/x=gt) w5.heap.size g b7 gt F7 h s' ⟨0,lg',[],false⟩):=by
      have hw:=HSW.out
      have hs6:=HS6.out
      have hg5:=HG5.out
      have hb7:=HB7.out
      have h7:∀ x,F7 x->x<w.heap.size\/w6.heap.size<=x:=fun x hx=>(HG7.out x hx).imp (hFw x) id
      refine ⟨D7.out,(L7.out lg' rfl).1,?_,?_,fun x hx=> ?_,fun x hx=> ?_,(L7.out lg' rfl).2,fun hx=> ?_,fun hx=> ?_,by omega,by omega,by omega,⟨⟨h1',by rw [HLEN.out];have:=HH.out;omega⟩,Nat.zero_le 1,HFIT.out rfl⟩,by rw [HLEN.out];exact HH.out⟩
      · have h5:=HX7.out
        show Blk w7 w5.heap.size (psCells g b7 gt (0*h) false) _
        rw [HF0.out] at h5
        rw [Nat.zero_mul]
        exact h5
      · have T6:TreeAt w6 (fun x=>T x\/x=w5.heap.size\/x=gt) gt anyRoom []:=T5.out.moved (.of_below B56.out _) (fun x hx=>by
         rcases hx with hx | hx | hx
         · exact .inl (.inl (.inl hx))
         · exact .inr (by omega)
         · exact .inl (.inr hx)) (.inr (.inr rfl))
        refine T6.moved (S7.out.mono (fun x hx=> ?_)) (fun x hx=> ?_) (.inr (.inr (.inr (.inr rfl))))
        · rcases hx with hx | hx
          · exact ⟨.inl (HFT.out x hx),by have:=hFw x hx;omega⟩
          · exact ⟨.inr (.inl hx),by omega⟩
        · rcases hx with hx | hx | hx | hx | hx
          · exact .inl (.inl hx)
          · exact (HG7.out x hx).imp (fun h=> .inl (HFT.out x h)) id
          · exact .inr (by omega)
          · exact .inl (.inr (.inl hx))
          · exact .inl (.inr (.inr hx))
      · rcases hx with hx | hx | hx | hx
        · exact .inr (.inl hx)
        · exact .inr (.inr (.inl hx))
        · exact .inr (.inr (.inr (.inl hx)))
        · exact .inr (.inr (.inr (.inr hx)))
      · have hz:=S7.out.size
        rcases hx with hx | hx | hx | hx | hx
        · have:=HT.out x hx;omega
        · exact D7.out.lt x hx
        · rw [hx];exact (L7.out lg' rfl).1.lt
        · omega
        · omega
      · rcases h7 _ hx with h | h<;>omega
      · rcases h7 _ hx with h | h<;>omega
     have HTN:Hid (∀ x,(T x\/F7 x\/x=b7\/x=w5.heap.size\/x=gt)->T x\/w.heap.size<=x):=fun x hx=>by
      have hw:=HSW.out
      have hs6:=HS6.out
      have hg5:=HG5.out
      have hb7:=HB7.out
      rcases hx with hx | hx | hx | hx | hx
      · exact .inl hx
      · exact (HF7.out x hx).imp (HFT.out x) id
      · exact .inr (by omega)
      · exact .inr (by omega)
      · exact .inr (by omega)
     have HNN:Hid (w.heap.size<=w5.heap.size/\w.heap.size<=b7/\w.heap.size<=gt):=by
      have hw:=HSW.out
      have hs6:=HS6.out
      have hg5:=HG5.out
      have hb7:=HB7.out
      exact ⟨by omega,by omega,by omega⟩
     clear hx7 hFw
     go_wp2_with fail
     go_ret2
     exact .inr ⟨_,_,_,b7,gt,F7,by rw [HO.out];rfl,by rw [HO.out];rfl,by rw [HO.out];exact HPS.out,SW7.out,HF7.out,fun x hx=> .inl hx,HTN.out,HNN.out.1,HNN.out.2.1,HNN.out.2.2,fun h=>absurd HPN.out h⟩
   · have e0:(E==0)=false:=by rw [beq_eq_false_iff_ne];exact hE0
     have HE0:=Lib.hid hE0
     clear hE0 hx7 hFw
     go_wp2_with fail
     go_ret2
     exact .inl ⟨by rw [HO.out];exact if_neg HE0.out,by rw [HO.out];rfl,F7,by rw [HO.out];exact D7.out,SW7.out,HF7.out⟩
 · obtain ⟨a,g0,hl,hfa,ha1,hpk⟩:∃ a g0,l=kvLog h a g0 ds/\f=a*h/\a<=1/\pickL h s=some (a,g0,ds):=by
    rcases HPK.out with ⟨h5,_⟩ | ⟨a,g0,h5,h6,h7,h8⟩
    · rw [hlo] at h5;cases h5
    · rw [hlo] at h5
      injection h5 with h5
      exact ⟨a,g0,h5,h6,h7,h8⟩
   have hP:P=some ⟨b,0,none⟩:=by
    have h5:=HLP.out
    rw [hlo] at h5
    injection h5 with h5
    exact h5.symm
   have HO:Hid (openK h s=(0,s,some (kvAt h a g0 ds L))):=by
    show _=_
    unfold openK
    rw [if_neg (by omega),if_neg (by rw [HOFF.out];decide),hpk]
    simp only
    rw [HD2.out]
   have hlb:Blk w1 b (lgCells g l) 145:=HAI.out.2.1 l hlo
   have hbw:w.heap.size<=b:=HAI.out.2.2
   have lb:=hlb.lt
   have hs14:=B14.out.size
   have hg5:=HG5.out
   have hs6:=HS6.out
   have hFw:∀ x,F x->x<w.heap.size:=fun x hx=>HT.out x (HFT.out x hx)
   have HPS:Hid (PSt w6 (fun x=>T x\/x=b\/x=w5.heap.size\/x=gt) w5.heap.size g b gt F h s (kvAt h a g0 ds L)):=by
    refine ⟨HD.out.still B6.out,?_,?_,?_,fun x hx=> ?_,fun x hx=> ?_,fun hx=> ?_,fun hx=> ?_,fun hx=> ?_,by omega,by omega,by omega,⟨⟨by omega,by have:=HH.out;omega⟩,ha1,?_⟩,HH.out⟩
    · have h5:=(((hlb.below B14.out lb).below B45.out (by omega)).below B56.out (by omega))
      rw [hl] at h5
      exact h5
    · have h5:=HX6.out
      rw [hP,hfa] at h5
      exact h5
    · refine T5.out.moved (.of_below B56.out _) (fun x hx=> ?_) (.inr (.inr (.inr rfl)))
      rcases hx with hx | hx | hx | hx
      · exact .inl (.inl (.inl hx))
      · exact .inl (.inl (.inr ⟨(by rw [hlo];exact fun h=>nomatch h),hx⟩))
      · exact .inr (by omega)
      · exact .inl (.inr hx)
    · rcases hx with hx | hx | hx | hx
      · exact .inl (HFT.out x hx)
      · exact .inr (.inl hx)
      · exact .inr (.inr (.inl hx))
      · exact .inr (.inr (.inr hx))
    · rcases hx with hx | hx | hx | hx
      · have:=HT.out x hx;omega
      · omega
      · omega
      · omega
    · have:=hFw _ hx;omega
    · have:=hFw _ hx;omega
    · have:=hFw _ hx;omega
    · have h5:=HFI.out.1 l hlo
      rw [hl] at h5
      exact h5
   have y2:(w5.alloc (.cells #[.pointer (some ⟨g,0,none⟩),.int .i64 (f:Int),.pointer P,.pointer (some ⟨gt,0,none⟩),.bool true] 94)).cell? ⟨w3.heap.size,1,none⟩=some (.pointer P):=by
    rw [HW6.out]
    exact (HX5.out.below B56.out HX5.out.lt).cell (i:=1) (by simp)
   rw [hP] at y1 y2 HW6
   have HTN:Hid ((∀ x,(T x\/x=b\/x=w5.heap.size\/x=gt)->T x\/w.heap.size<=x)):=fun x hx=>by
    rcases hx with hx | hx | hx | hx
    · exact .inl hx
    · exact .inr (by omega)
    · exact .inr (by omega)
    · exact .inr (by omega)
   have HNN:Hid (w.heap.size<=w5.heap.size/\w.heap.size<=b/\w.heap.size<=gt):=⟨hz5,hbw,by omega⟩
   subst hP
   clear hlo hfa hpk hlb lb hs14 hg5 hs6 hFw hl hz5 hz4 hz45
   go_wp2_with fail
   rw [HW6.out]
   go_ret2
   exact .inr ⟨_,_,_,b,gt,F,by rw [HO.out],by rw [HO.out];rfl,by rw [HO.out];exact HPS.out,.of_below B6.out _,fun x hx=> .inl hx,fun x hx=> .inl hx,HTN.out,HNN.out.1,HNN.out.2.1,HNN.out.2.2,fun _=>B6.out⟩
end Go.Proofs.YtdaahapbpnjkfaaGreat
