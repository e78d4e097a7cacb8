/-
The chapter's example is answered (awake of layer 9); are the pairs of a store the document's? (shows)
-/
import Derived.Test.YtdaahapbpnjkfaaGreatCKvLive
import Derived.Test.YtdaahapbpnjkfaaGreatCDkWrite
import Derived.Lib.SlBytesConst
namespace Go.Proofs.YtdaahapbpnjkfaaGreat
open Go.RowKit
section
variable {w0 w w1 w':World} {g q gm h:Nat} {s:Dsk} {a:Nat} {gen:Int} {ds:List (List UInt8)} {L M:List Kv} {m:Nat}
theorem KLive.commit_new (k:KLive w0 w1 g q h s a gen ds L m) (hb:Below w1.heap.size w1 w) (hK:s.K.length<=400) (hm:m<=690000) {A:Option Addr} {ps:List PPut} {n c:Nat} (hp:∀ T:Nat->Prop,(∀ x,T x->w0.heap.size<=x/\x<w1.heap.size)->∀ W,Spared w W T->PutsSeen W A ps) (hn:ps.length=n) (hf:FewV (valsOf ps)):
 Calls Tryz.prog 15 #[.pointer (some ⟨q,0,none⟩),.slice A n c] w fun e w'=>∃ E s' a' gen' ds' L',e= .returned (.int .i64 E)/\KLive w0 w' g q h s' a' gen' ds' L' (m+1100)/\s'.K.length=s.K.length/\CommitQ s a gen ds L (doAll (valsOf ps) L) E s' a' gen' ds' L'/\commitL h s (kvAt h a gen ds L) (valsOf ps)=(E,s',kvAt h a' gen' ds' L')/\Spared w w' (fun x=>x<w1.heap.size):=by
 have hsm:=k.small hK
 have hlt:∃ T:Nat->Prop,∃ b gt F,PSt w1 T q g b gt F h s (kvAt h a gen ds L)/\KvOn s h a gen ds L/\s.Quiet/\s.Few m/\Below w0.heap.size w0 w1/\∀ x,T x->w0.heap.size<=x:=k
 obtain ⟨T,b,gt,F,p1,h2,h3,h4,h50,h6⟩:=hlt
 have h1:=p1.below hb
 have h5:=hop h50 hb
 have t:=tame h2.srt hsm.1 hsm.2 hf
 have hn60:=hf.1
 rw [valsOf_length,hn] at hn60
 have tl:=t.len
 rw [valsOf_length,hn] at tl
 obtain ⟨E,s',a',gen',ds',L',e1,e2,e3,e4,e5⟩:=commit_q h2 h3 hf t
 have hfew:=commit_few h1.fits h1.disk.ok h4 t.bat
 have hFT:∀ x,(F x\/x=b\/x=q\/x=gt)->T x:=fun x hx=>h1.ins x hx
 refine (kcommit_any w T q g b gt F h s (kvAt h a gen ds L) A ps n c m h1 (fun W hW=>hp (fun x=>F x\/x=b\/x=q\/x=gt) (fun x hx=>⟨h6 x (hFT x hx),p1.tlt x (hFT x hx)⟩) W hW) hn (by omega) h4 hm tl (by have:=t.size;show sizeT L+_<=_;omega) t.bat t.all).mono ?_
 rintro e w' ⟨rfl,T',b',gt',F',p',m1,m2,m3,m4⟩
 change PSt w' T' q g b' gt' F' h (commitL h s (kvAt h a gen ds L) (valsOf ps)).2.1 (commitL h s (kvAt h a gen ds L) (valsOf ps)).2.2 at p'
 rw [e1] at p' hfew
 have hsz:=h5.size
 have hT':∀ x,T' x->w0.heap.size<=x:=fun x hx=>(m3 x hx).elim (h6 x) (fun h=>by omega)
 exact ⟨E,s',a',gen',ds',L',by rw [e1],⟨T',b',gt',F',p',e2,e3,hfew,m1.below h5 (fun x hx=>h6 x (hFT x hx)),hT'⟩,e4,e5,e1,m1.mono (fun x hx=>p1.tlt x (hFT x hx))⟩
end
theorem awake_full:(Lg.found (0*4) 4 1 [batchL []]).full (batchL [([97],[49],false)])=false:=by decide +kernel
theorem awake_commit {s:Dsk} (k:KvOn s 4 0 1 [batchL []] []) (hq:s.Quiet):(commitL 4 s (kvAt 4 0 1 [batchL []] []) [([97],[49],false)]).1=0/\(commitL 4 s (kvAt 4 0 1 [batchL []] []) [([97],[49],false)]).2.2.lg.gen=1:=by
 have h1:(kvLog 4 0 1 [batchL []]).err s (batchL [([97],[49],false)])=0/\((kvLog 4 0 1 [batchL []]).next s (batchL [([97],[49],false)])).gen=1:=by
  rcases k.has.append k.half.pos (batchL [([97],[49],false)]) with ⟨_,_,_,h⟩ | ⟨h,_,h2,_⟩ | ⟨_,_,h,_⟩
  · rw [awake_full] at h;cases h
  · refine ⟨h,?_⟩
    show ((Lg.found (0*4) 4 1 [batchL []]).next s (batchL [([97],[49],false)])).gen=1
    rw [h2];rfl
  · exact absurd hq h
 have c1: ¬ (kvAt 4 0 1 [batchL []] []).down=true:=by show ¬ (false=true);decide
 have c2: ¬ mayV [([97],[49],false)]=false:=by decide
 have c3: ¬ [([97],[49],false)]=([]:List PutV):=by simp
 have c4: ¬ (kvAt 4 0 1 [batchL []] []).lg.err s (batchL [([97],[49],false)])=4:=by
  show ¬ (kvLog 4 0 1 [batchL []]).err s (batchL [([97],[49],false)])=4
  rw [h1.1];decide
 unfold commitL
 rw [if_neg c1,if_neg c2,if_neg c3,if_neg c4]
 exact h1
theorem aw_puts (w:World) (mk mv:Nat × Nat) (W:World) (hs:Spared (((w.alloc (.cells #[.int .u8 97] 5 mk)).alloc (.cells #[.int .u8 49] 5 mv)).alloc (.cells #[.slice (some ⟨w.heap.size,0,none⟩) 1 1,.slice (some ⟨w.heap.size+1,0,none⟩) 1 1,.bool false] 72)) W (fun x=>x<w.heap.size)):
 PutsSeen W (some ⟨w.heap.size+1+1,0,none⟩) [((some ⟨w.heap.size,0,none⟩,[97],1),(some ⟨w.heap.size+1,0,none⟩,[49],1),false)]:=by
 have S1:=((seen_mark w 5 [97] mk).alloc (.cells #[.int .u8 49] 5 mv)).alloc (.cells #[.slice (some ⟨w.heap.size,0,none⟩) 1 1,.slice (some ⟨w.heap.size+1,0,none⟩) 1 1,.bool false] 72)
 have S2:=(seen_mark (w.alloc (.cells #[.int .u8 97] 5 mk)) 5 [49] mv).alloc (.cells #[.slice (some ⟨w.heap.size,0,none⟩) 1 1,.slice (some ⟨w.heap.size+1,0,none⟩) 1 1,.bool false] 72)
 have B3:=Blk.new ((w.alloc (.cells #[.int .u8 97] 5 mk)).alloc (.cells #[.int .u8 49] 5 mv)) [.slice (some ⟨w.heap.size,0,none⟩) 1 1,.slice (some ⟨w.heap.size+1,0,none⟩) 1 1,.bool false] 72
 simp only [World.size_alloc] at S2 B3
 have A1:=((Away.of_seen (F:=fun x=>x<w.heap.size) S1 (fun b off h _ hb=>by injection h with h;injection h with h;subst h;exact Nat.lt_irrefl _ hb)).moved hs (fun i h=> .inl h)).seen
 have A2:=((Away.of_seen (F:=fun x=>x<w.heap.size) S2 (fun b off h _ (hb:b<w.heap.size)=>by injection h with h;injection h with h;omega)).moved hs (fun i h=> .inl h)).seen
 have B:=hs.blk B3 (fun (h:w.heap.size+1+1<w.heap.size)=>by omega)
 refine .inr ⟨_,0,rfl,B.lt,fun j hj=> ?_⟩
 obtain rfl:j=0:=by simpa using hj
 exact ⟨B.cell (i:=0) (by simp),B.cell (i:=1) (by simp),B.cell (i:=2) (by simp),⟨A1,by simp⟩,⟨A2,by simp⟩⟩
set_option maxRecDepth 100000 in
set_option maxHeartbeats 2000000 in
theorem awake_any (w:World):Calls Tryz.prog 9 #[] w fun e w'=>e= .returned (.bool true)/\Below w.heap.size w w':=by
 have hcc:=fun (w:World) (C:Array Value) (n c:Nat)=>Lib.run_convert_bytes_const (P:=Tryz.prog) w 22 5 C n c Tryz.underlying22 Tryz.underlying5
 have hc2:∀ (W:World) (O:Obj) (C:Array Value) (n c:Nat),(convert 22 22 (.slice (some ⟨W.heap.size+1,0,none⟩) n c)).run Tryz.prog ((W.alloc O).alloc (.cells C 5))= .ok (.slice (some ⟨W.heap.size+1,0,none⟩) n c) ((W.alloc O).alloc (.cells C 5 (C.size,C.size+1))):=by
  intro W O C n c
  have:=hcc (W.alloc O) C n c
  simpa using this
 have HNEW:Hid (Calls Tryz.prog 26 #[.int .i64 8] w (Fresh w (Dsk.new 8))):=new_any w 8 (by decide) (by decide)
 go_enter Tryz.func9,Tryz.ntmps9
 go_wp2_with fail
 with_reducible refine HNEW.out.mono ?_
 rintro e w1 ⟨g,F,rfl,hd,hF,hb1⟩
 have HOP:=Lib.hid (kopen_new (w0:=w) hd (by decide) (by decide) hb1 hF)
 clear hd hF hb1 HNEW
 go_wp2_with fail
 with_reducible refine HOP.out.mono ?_
 rintro e w2 ⟨q,s,rfl,hsK,hk⟩
 have K2:=Lib.hid hk
 have HSK:=Lib.hid hsK
 clear hk hsK HOP
 go_wp2_with fail
 have HCM:=Lib.hid (K2.out.commit_new (w:=((w2.alloc (.cells #[.int .u8 97] 5 (1,2))).alloc (.cells #[.int .u8 49] 5 (1,2))).alloc (.cells #[.slice (some ⟨w2.heap.size,0,none⟩) 1 1,.slice (some ⟨w2.heap.size+1,0,none⟩) 1 1,.bool false] 72)) ((((Below.refl _ _).alloc (Nat.le_refl _) _).alloc (by simp) _).alloc (by simp;omega) _) (by rw [HSK.out];decide) (by decide) (A:=some ⟨w2.heap.size+1+1,0,none⟩) (ps:=[((some ⟨w2.heap.size,0,none⟩,[97],1),(some ⟨w2.heap.size+1,0,none⟩,[49],1),false)]) (n:=1) (c:=1) (fun T hT W hW=>aw_puts w2 _ _ W (hW.mono (fun x hx=>(hT x hx).2))) rfl ⟨by simp [valsOf],fun p hp=>by
  rw [List.mem_singleton.1 (show p ∈ [valOf _] from hp)]
  simp [valOf]⟩)
 with_reducible refine HCM.out.mono ?_
 rintro e w3 ⟨E,s3,a3,gen3,ds3,L3,rfl,hk3,hsK3,hcq,hcm,_⟩
 have haw:=awake_commit K2.out.on K2.out.quiet
 rw [show valsOf [((some ⟨w2.heap.size,0,none⟩,[97],1),(some ⟨w2.heap.size+1,0,none⟩,[49],1),false)]=[([97],[49],false)] from rfl] at hcm hcq
 have hE:E=0:=by
  have:=haw.1
  rw [show (8:Nat)/2=4 from rfl] at hcm
  rw [hcm] at this
  exact this
 have hgen:gen3=1:=by
  have:=haw.2
  rw [show (8:Nat)/2=4 from rfl] at hcm
  rw [hcm] at this
  exact this
 have hL:L3=[([97],[49])]:=by
  rcases hcq with ⟨_,h,_⟩ | ⟨h,_⟩
  · exact h
  · rw [hE] at h;cases h
 subst hE hgen hL
 have K3:=Lib.hid hk3
 have HO3:=Lib.hid (hk3.open_ (by rw [hsK3,HSK.out];decide) (by decide))
 clear hk3 hsK3 hcq hcm haw HCM
 go_wp2_with fail
 with_reducible refine HO3.out.mono ?_
 rintro e w4 ⟨q4,rfl,hk4,hb4⟩
 have K4:=Lib.hid hk4
 clear hk4 hb4 HO3
 have SA:=Lib.hid (seen_mark w4 5 [97] (1,2))
 have KA:=Lib.hid (K4.out.still ((Below.refl w4.heap.size w4).alloc (Nat.le_refl _) (.cells #[.int .u8 97] 5 (1,2))))
 have HG:=Lib.hid (KA.out.get (B:=some ⟨w4.heap.size,0,none⟩) (z:=1) (d:=1) SA.out rfl)
 go_wp2_with fail
 with_reducible refine HG.out.mono ?_
 rintro e w5 ⟨hb5,X,n,c,rfl,hx5,hn5⟩
 have K5:=Lib.hid (KA.out.still hb5)
 have hn:n=1:=hn5.symm
 subst hn
 have hcv:(convert 22 9 (.slice X 1 c)).run Tryz.prog w5= .ok (.string ⟨#[49]⟩) w5:=hx5.seen.text (P:=Tryz.prog) 22 9 5 Tryz.underlying22 Tryz.underlying5 Tryz.underlying9 c
 have hhas:hasL [97] [([97],[49])]=true:=by decide
 rw [hhas]
 have HT5:=Lib.hid K5.out.turn
 have HL5:Hid (Calls Tryz.prog 38 #[.pointer (some ⟨q4,0,none⟩)] w5 fun e w'=>e= .returned (.int .i64 1)/\w'=w5):=K5.out.len
 have HU5:=Lib.hid K5.out.up
 have B5:=Lib.hid K5.out.below
 clear hb5 hx5 hn5 hhas HG
 go_wp2_with fail
 with_reducible refine HT5.out.mono ?_
 rintro e w6 ⟨rfl,hw6⟩
 obtain rfl:=hw6.symm
 go_wp2_with fail
 with_reducible refine HL5.out.mono ?_
 rintro e w6 ⟨rfl,hw6⟩
 obtain rfl:=hw6.symm
 go_wp2_with fail
 with_reducible refine HU5.out.mono ?_
 rintro e w6 ⟨rfl,hw6⟩
 obtain rfl:=hw6.symm
 go_wp2_with fail
 go_ret
 exact ⟨rfl,B5.out⟩
end Go.Proofs.YtdaahapbpnjkfaaGreat
