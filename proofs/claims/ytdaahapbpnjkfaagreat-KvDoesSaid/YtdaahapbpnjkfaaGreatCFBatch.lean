/-
What the program's Batch comes to: the bytes of the puts. Condition: they are at most 2^47 bytes.
-/
import Derived.Test.YtdaahapbpnjkfaaGreatCRdPuts
import Derived.Test.YtdaahapbpnjkfaaGreatCLgOpen
import Derived.Test.YtdaahapbpnjkfaaGreatCFEnc
import Derived.Test.YtdaahapbpnjkfaaGreatCKvRows
import Derived.Deep.RegionLaw
import Derived.Deep.RegionWith
import Derived.Deep.RegionHeldLaw
namespace Go.Proofs.YtdaahapbpnjkfaaGreat
open Go.RowKit
def errOf (D:Option (List PutV)):Int:=if D.isSome then 0 else 3
def PutsOut (w:World) (D:Option (List PutV)) (e:Ending) (w':World):Prop:=
 ∃ A n c ps,e= .returned (.tuple #[.slice A n c,.int .i64 (errOf D)])/\ps.length=n/\PutsSeen w' A ps/\valsOf ps=D.getD []/\Below w.heap.size w w'
def PutsFar (w w':World) (A:Option Addr) (ps:List PPut):Prop:=∀ W,Spared w' W (fun b=>b<w.heap.size)->PutsSeen W A ps
def PutsNew (w:World) (D:Option (List PutV)) (e:Ending) (w':World):Prop:=
 ∃ A n c ps,e= .returned (.tuple #[.slice A n c,.int .i64 (errOf D)])/\ps.length=n/\PutsFar w w' A ps/\valsOf ps=D.getD []/\Below w.heap.size w w'
theorem ListAt.farther {e:TypeId} {w0 w w':World} {ps:List PPut} {v:Value} (h:ListAt e w0 ps v w) (hs:Spared w w' (fun b=>b<w0.heap.size)):ListAt e w0 ps v w':=by
 refine ⟨⟨h.1.1,?_⟩,Nat.le_trans h.2.1 hs.size,fun q hq=>(h.2.2 q hq).moved (hs.mono (fun _ h=> .inl h)) (fun i hi=> .inl hi)⟩
 rcases h.1.2 with h0 | ⟨g,cap,cur,hv,hb,hg,rest⟩
 · exact .inl h0
 · exact .inr ⟨g,cap,cur,hv,hb,(hs.block g (h.1.lt g (by rw [hv];rfl)).2 (by have:=(h.1.lt g (by rw [hv];rfl)).1;omega)).trans hg,rest⟩
theorem ListAt.far {e:TypeId} {w W w':World} {ps:List PPut} {A:Option Addr} {n c:Nat} (h:ListAt e W ps (.slice A n c) w') (hz:w.heap.size<=W.heap.size):PutsFar w w' A ps:=fun W' hs=>(h.farther (hs.mono (fun b (hb:b<w.heap.size)=>by show b<W.heap.size;omega))).seen
theorem below_onlyP {w0 w w':World} {g:Nat} (h:Below w0.heap.size w0 w) (hg:w.grownBy w' (some g)) (hn:w0.heap.size<=g):Below w0.heap.size w0 w':=
 h.grown hg h.size (fun k hk=>by injection hk with hk;omega)
set_option maxRecDepth 100000 in
set_option maxHeartbeats 1000000 in
theorem fputs_new (A:Option Addr) (b:List UInt8) (c:Nat) (w:World) (hs:Seen w A b) (hc:b.length<=c) (hb:b.length<=1099511627776):
 Calls Tryz.prog 74 #[.slice A b.length c] w (PutsNew w (putsL b)):=by
 have hmf:∀ (fn:Fn) (first cap:Array Value) (w:World),(Instr.makeFunc fn first cap).run Tryz.prog w= .ok (.func fn first cap) w:=fun _ _ _ _=>rfl
 obtain ⟨D,hD⟩:∃ D,D=putsL b:=⟨_,rfl⟩
 rw [<-hD]
 -- the three new blocks
 have hz:∀ o1 o2 o3,(((w.alloc o1).alloc o2).alloc o3).heap.size=w.heap.size+3:=fun _ _ _=>by simp
 have B1:=((Blk.new w [.slice none 0 0] 38).alloc (.cells #[.int .i64 0] 27)).alloc (.cells #[.slice A b.length c] 168)
 have B2:=(Blk.new (w.alloc (.cells #[.slice none 0 0] 38)) [.int .i64 0] 27).alloc (.cells #[.slice A b.length c] 168)
 have B3:=Blk.new ((w.alloc (.cells #[.slice none 0 0] 38)).alloc (.cells #[.int .i64 0] 27)) [.slice A b.length c] 168
 have HBW:Below w.heap.size w (((w.alloc (.cells #[.slice none 0 0] 38)).alloc (.cells #[.int .i64 0] 27)).alloc (.cells #[.slice A b.length c] 168)):=
  (((Below.refl _ _).alloc (Nat.le_refl _) _).alloc (by simp) _).alloc (by simp;omega) _
 have hz3:=hz (.cells #[.slice none 0 0] 38) (.cells #[.int .i64 0] 27) (.cells #[.slice A b.length c] 168)
 obtain ⟨W,hW⟩:∃ W,W=(((w.alloc (.cells #[.slice none 0 0] 38)).alloc (.cells #[.int .i64 0] 27)).alloc (.cells #[.slice A b.length c] 168)):=⟨_,rfl⟩
 have B1':Blk W w.heap.size [.slice none 0 0] 38:=by rw [hW];exact B1
 have B2':Blk W (w.heap.size+1) [.int .i64 0] 27:=by rw [hW];have:=B2;simp only [World.size_alloc] at this;exact this
 have B3':Blk W (w.heap.size+1+1) [.slice A b.length c] 168:=by rw [hW];have:=B3;simp only [World.size_alloc] at this;exact this
 rw [<-hW] at HBW hz3
 have HR:RdAt W (w.heap.size+1+1) (fun k=>w.heap.size<=k) b:=
  ⟨by show w.heap.size<=_;omega,A,c,B3',(Away.of_seen hs (fun b off _ hlt=>by show ¬ w.heap.size<=b;omega)).moved (Spared.of_below HBW _) (fun i hi=> .inl hi),hc⟩
 have H1:=Lib.hid B1'
 have H2:=Lib.hid B2'
 have HBW':=Lib.hid HBW
 have HR':=Lib.hid HR
 have HZ:=Lib.hid hz3
 have HW:=Lib.hid hW
 have HP:=Lib.hid (puts_any W (w.heap.size+1+1) _ b HR hb)
 rw [<-hD] at HP
 clear hs hc B1 B2 B3 hW B1' B2' B3' HBW HR hz3 hz hD
 go_enter_defers Tryz.func74,Tryz.ntmps74
 go_wp2_with fail
 rw [<-HW.out]
 refine HP.out.mono ?_
 rintro e w1 (⟨rfl,hdn,hg1⟩ | ⟨A1,n1,c1,ps,u,rfl,hps,hla,hdn,hr1,hg1⟩)
 · have HD:=Lib.hid hdn
   have HG:=Lib.hid hg1
   have C1:=H1.out.only hg1 (by omega)
   have C2:=H2.out.only hg1 (by omega)
   have r1:=C1.cell (i:=0) (by simp)
   have r2:=C2.cell (i:=0) (by simp)
   have f1:=C1.free 0
   have f2:=C2.free 0
   simp only [List.getElem_cons_zero] at r1 r2
   clear hdn hg1 C1 C2
   go_wp2_with fail
   refine leaves_cons (f:=105) (args:= #[.pointer (some ⟨w.heap.size,0,none⟩),.pointer (some ⟨w.heap.size+1,0,none⟩)]) (by simp) (by simp [go_sem]) ?_
   refine (putsCatch_wrong w.heap.size (w.heap.size+1) [] w1 _ 0 r1 f1 r2 f2 (by omega)).mono ?_
   rintro e u' w' ⟨rfl,rfl,rfl⟩
   simp [Leaves,settle,results,Tryz.results74,go_sem,r1,r2]
   refine ⟨none,0,0,[],by rw [HD.out];rfl,rfl,fun _ _=> .inl rfl,by rw [HD.out];rfl,?_⟩
   exact ((below_onlyP HBW'.out HG.out (by omega)).setCell (Nat.le_refl _) _).setCell (by simp) _
 · have HLA:=Lib.hid hla
   have HG:=Lib.hid hg1
   have HRD:=Lib.hid hr1
   have HD:=Lib.hid hdn
   have HPS:=Lib.hid hps
   have C1:=H1.out.only hg1 (by omega)
   have C2:=H2.out.only hg1 (by omega)
   have r1:=C1.cell (i:=0) (by simp)
   have r2:=C2.cell (i:=0) (by simp)
   have f1:=C1.free 0
   have f2:=C2.free 0
   simp only [List.getElem_cons_zero] at r1 r2
   clear hdn hg1 C1 C2 hla hr1 hps
   have hgb:=only_setCell (World.grownBy.refl w1 (some w.heap.size)) 0 (.slice A1 n1 c1)
   have HRD2:=Lib.hid (HRD.out.set (g:=w.heap.size) (Nat.le_refl _) (by omega) 0 (.slice A1 n1 c1))
   have HLA2:=Lib.hid (HLA.out.through hgb (by have:=HZ.out;omega))
   have HB2:Hid (Below w.heap.size w (w1.setCell ⟨w.heap.size,0,none⟩ (.slice A1 n1 c1))):=(below_onlyP HBW'.out HG.out (by omega)).setCell (Nat.le_refl _) _
   clear hgb HLA HRD
   by_cases hu:u=[]
   · subst hu
     have HE:Hid (D=some (valsOf ps)):=HD.out
     clear HD
     go_wp2_with fail
     refine (end_ok _ _ _ HRD2.out).mono ?_
     rintro e w2 ⟨rfl,rfl⟩
     go_wp2_with fail
     refine leaves_cons (f:=105) (args:= #[.pointer (some ⟨w.heap.size,0,none⟩),.pointer (some ⟨w.heap.size+1,0,none⟩)]) (by simp) (by simp [go_sem]) ?_
     refine (putsCatch_idle _ _ _).mono ?_
     rintro e u' w' ⟨rfl,rfl,rfl⟩
     simp [Leaves,settle,results,Tryz.results74,go_sem,r1,r2]
     have hz:=HZ.out
     have g1:=only_setCell (World.grownBy.refl (w1.setCell ⟨w.heap.size,0,none⟩ (.slice A1 n1 c1)) (some w.heap.size)) 0 (.slice A1 n1 c1)
     have l1:=HLA2.out.through g1 (by omega)
     have g2:=only_setCell (World.grownBy.refl ((w1.setCell ⟨w.heap.size,0,none⟩ (.slice A1 n1 c1)).setCell ⟨w.heap.size,0,none⟩ (.slice A1 n1 c1)) (some (w.heap.size+1))) 0 (.int .i64 0)
     have l2:=l1.through g2 (by omega)
     refine ⟨A1,n1,c1,ps,by rw [HE.out];rfl,HPS.out,l2.far (by omega),by rw [HE.out];rfl,?_⟩
     exact (HB2.out.setCell (Nat.le_refl _) _).setCell (by simp) _
   · have HE:Hid (D=none):=by show _=_;rw [HD.out,if_neg hu]
     have hul:0<u.length:=List.length_pos_iff.2 hu
     clear HD hu
     go_wp2_with fail
     refine (end_no _ _ _ u HRD2.out hul).mono ?_
     rintro e w2 ⟨rfl,rfl⟩
     go_wp2_with fail
     refine leaves_cons (f:=105) (args:= #[.pointer (some ⟨w.heap.size,0,none⟩),.pointer (some ⟨w.heap.size+1,0,none⟩)]) (by simp) (by simp [go_sem]) ?_
     refine (putsCatch_wrong w.heap.size (w.heap.size+1) [] _ (.slice A1 n1 c1) 0 ?_ ?_ ?_ ?_ (by omega)).mono ?_
     · simp [go_sem,r1]
     · simp [go_sem,f1]
     · simp [go_sem,r2]
     · simp [go_sem,f2]
     rintro e u' w' ⟨rfl,rfl,rfl⟩
     simp [Leaves,settle,results,Tryz.results74,go_sem,r1,r2]
     refine ⟨none,0,0,[],by rw [HE.out];rfl,rfl,fun _ _=> .inl rfl,by rw [HE.out];rfl,?_⟩
     exact (HB2.out.setCell (Nat.le_refl _) _).setCell (by simp) _
def ReplayOut (w:World) (T:Nat->Prop) (D:Option (List Kv)) (e:Ending) (w':World):Prop:=Below w.heap.size w w'/\
 ((D=none/\e= .returned (.tuple #[.pointer none,.int .i64 3]))\/∃ L gt,D=some L/\e= .returned (.tuple #[.pointer (some ⟨gt,0,none⟩),.int .i64 0])/\w.heap.size<=gt/\gt<w'.heap.size/\TreeAt w' (fun x=>T x\/x=gt) gt anyRoom L)
theorem fputs_named (A:Option Addr) (b:List UInt8) (n c:Nat) (w:World) (hn:b.length=n) (hs:Seen w A b) (hc:n<=c) (hb:n<=1099511627776):
 Calls Tryz.prog 74 #[.slice A n c] w (PutsNew w (putsL b)):=by
 subst hn
 exact fputs_new A b c w hs hc hb
theorem bytesOf_drop {rs:List Piece} {i:Nat} (h:i<rs.length):bytesOf (rs.drop i)=rs[i].2.1::bytesOf (rs.drop (i+1)):=by
 rw [List.drop_eq_getElem_cons h]
 rfl
set_option maxRecDepth 100000 in
set_option maxHeartbeats 2000000 in
theorem replayed_any (w:World) (T:Nat->Prop) (hT:∀ x,T x->x<w.heap.size) (A:Option Addr) (rs:List Piece) (n c:Nat) (hs:SeenAll w A rs) (hn:rs.length=n) (hn9:n<=9223372036854775806) (hz:sizeD (bytesOf rs)<=99999):
 Calls Tryz.prog 43 #[.slice A n c] w (ReplayOut w T (recsL (bytesOf rs) [])):=by
 have HT:=Lib.hid hT
 have HS:=Lib.hid hs
 have HN:=Lib.hid hn
 have HZ:=Lib.hid hz
 obtain ⟨D,hD⟩:∃ D,D=recsL (bytesOf rs) []:=⟨_,rfl⟩
 rw [<-hD]
 have HD:=Lib.hid hD
 clear hT hs hn hz hD
 have HNEW:=Lib.hid (tnew_any w anyRoom)
 go_enter Tryz.func43,Tryz.ntmps43
 go_wp2_with fail
 with_reducible refine HNEW.out.mono ?_
 rintro e w1 ⟨rfl,hb1,hz1,ht1⟩
 have B1:=Lib.hid hb1
 have Z1:=Lib.hid hz1
 obtain ⟨gt,hgt⟩:∃ gt,gt=w.heap.size:=⟨_,rfl⟩
 rw [<-hgt]
 have HG:=Lib.hid hgt
 have T1:Hid (TreeAt w1 (fun x=>T x\/x=gt) gt anyRoom []):=by
  have:=ht1 (fun x=>T x\/x=gt) (.inr hgt.symm)
  rw [<-hgt] at this
  exact this
 clear hb1 hz1 ht1 hgt HNEW
 go_wp2_with fail
 go_loopg [12] n (fun kx s wr=>∃ (i:Nat) (L:List Kv),i+kx=n/\s= .int .i64 (i:Int)/\Below w.heap.size w wr/\TreeAt wr (fun x=>T x\/x=gt) gt anyRoom L/\recsL (bytesOf (rs.drop i)) L=D/\L.length+sizeD (bytesOf (rs.drop i))<=99999/\sizeT L+sizeD (bytesOf (rs.drop i))<=99999)
 case atStart=>
  have h0:sizeT ([]:List Kv)=0:=rfl
  exact ⟨0,[],by omega,rfl,B1.out,T1.out,HD.out.symm,by rw [List.length_nil,List.drop_zero];have:=HZ.out;omega,by rw [h0,List.drop_zero];have:=HZ.out;omega⟩
 case round=>
  obtain ⟨i,L,hi,rfl,hbr,htr,hrec,hl1,hl2⟩:=hrel
  have HI:=Lib.hid hi
  have BR:=Lib.hid hbr
  have TR:=Lib.hid htr
  have HREC:=Lib.hid hrec
  have HL1:=Lib.hid hl1
  have HL2:=Lib.hid hl2
  clear hi hbr htr hrec hl1 hl2 T1 B1
  by_cases hlt:i<n
  · have hkl:(i:Int)<(n:Int):=by omega
    have hin:i<rs.length:=by have:=HN.out;omega
    obtain ⟨b,off,rfl,hblt,hcell,hsn,hcp,hl9⟩:=(HS.out.below BR.out).at_ i hin
    have hdr:=bytesOf_drop hin
    obtain ⟨⟨X,d,cx⟩,hq⟩:∃ q,q=rs[i]:=⟨_,rfl⟩
    rw [<-hq] at hcell hsn hcp hdr
    change Seen wr X d at hsn
    change d.length<=cx at hcp
    change bytesOf (rs.drop i)=d::bytesOf (rs.drop (i+1)) at hdr
    change wr.cell? ⟨b,off+i,none⟩=some (.slice X d.length cx) at hcell
    have h1:=HL1.out
    have h2:=HL2.out
    have h3:=HREC.out
    rw [hdr,sizeD_cons] at h1 h2
    rw [hdr] at h3
    obtain ⟨m,hm⟩:∃ m,d.length=m:=⟨_,rfl⟩
    rw [hm] at hcell hcp h1 h2
    have H1:=Lib.hid h1
    have H2:=Lib.hid h2
    have H3:=Lib.hid h3
    have HM:=Lib.hid hm
    have HP:=Lib.hid (fputs_named X d m cx wr hm hsn hcp (by omega))
    have hwi:IntKind.i64.wrap ((i:Int)+1)=((i+1:Nat):Int):=by rw [IntKind.wrap_i64];omega
    clear hsn hcp hl9 hdr hq h1 h2 h3 hm hin hblt HL1 HL2 HREC
    go_wp2_with fail
    with_reducible refine HP.out.mono ?_
    rintro e w7 ⟨A7,n7,c7,ps,rfl,hn7,hfar,hv7,hb7⟩
    have HF7:=Lib.hid hfar
    have HN7:=Lib.hid hn7
    have HV7:=Lib.hid hv7
    have HB7:=Lib.hid hb7
    clear hfar hn7 hv7 hb7 HP
    rcases hp:putsL d with _ | l
    · have hD:D=none:=by rw [<-H3.out,recsL,hp]
      have he:errOf none=3:=rfl
      rw [hp] at HV7
      have HDD:=Lib.hid hD
      have HBE:=Lib.hid (hop BR.out HB7.out)
      clear hp hD
      rw [he]
      go_wp2_with fail
      go_ret2
      exact ⟨HBE.out,.inl ⟨HDD.out,rfl⟩⟩
    · have he:errOf (some l)=0:=rfl
      have hv:valsOf ps=l:=by rw [HV7.out,hp];rfl
      have hps:=putsL_size hp
      have hl:l.length=n7:=by rw [<-hv,valsOf_length,HN7.out]
      have hpsz:n7<=m/\sizeP (valsOf ps)<=m:=by rw [hv,<-hl,<-HM.out];exact hps
      have h3:recsL (bytesOf (rs.drop (i+1))) (doAll (valsOf ps) L)=D:=by rw [<-H3.out,recsL,hp,hv]
      have hgw:gt<wr.heap.size:=TR.out.lt
      have HAP:Hid (Calls Tryz.prog 53 #[.pointer (some ⟨gt,0,none⟩),.slice A7 n7 c7] w7 fun e w'=>e= .returned (.tuple #[])/\TreeAt w' (fun x=>T x\/x=gt) gt anyRoom (doAll (valsOf ps) L)/\Spared w7 w' (fun b=>b=gt)):=
       apply_any w7 _ (fun x hx=>by
        have:=HB7.out.size
        have:=BR.out.size
        rcases hx with hx | hx
        · have:=HT.out x hx;omega
        · omega) gt L (TR.out.below HB7.out) A7 ps n7 c7 (fun W hW=>HF7.out W (hW.mono (fun b hb=>by show b<_;omega))) HN7.out (by have:=H1.out;omega) (by have:=H2.out;omega)
      have HPZ:=Lib.hid hpsz
      have H3':=Lib.hid h3
      have HLL:=Lib.hid hl
      have HSRT:Hid (Srt L):=TR.out.srt
      rw [he]
      clear hp he hv hps hl hpsz h3 hgw H3 HV7
      go_wp2_with fail
      with_reducible refine HAP.out.mono ?_
      rintro e w8 ⟨rfl,ht8,hs8⟩
      have T8:=Lib.hid ht8
      have B8:Hid (Below w.heap.size w w8):=hs8.below (hop BR.out HB7.out) (fun k hk=>by have:=HG.out;omega)
      clear ht8 hs8 HAP
      go_wp2_with fail
      go_roundg (n-(i+1))
      case measure=>have:=HI.out;omega
      case rel=>
       refine ⟨i+1,doAll (valsOf ps) L,by have:=HI.out;omega,rfl,B8.out,T8.out,H3'.out,?_,?_⟩
       · have h5:=doAll_length (l:=valsOf ps) HSRT.out
         rw [valsOf_length,HN7.out] at h5
         have:=HPZ.out.1
         have:=H1.out
         omega
       · have h5:=size_doAll (l:=valsOf ps) HSRT.out
         have:=HPZ.out.2
         have:=H2.out
         omega
  · obtain rfl:i=n:=by have:=HI.out;omega
    have hkl: ¬ (i:Int)<(i:Int):=by omega
    have hD:D=some L:=by
     rw [<-HREC.out,List.drop_of_length_le (by rw [HN.out];exact Nat.le_refl _)]
     rfl
    have HDD:=Lib.hid hD
    clear hD
    go_wp2_with fail
    go_ret2
    exact ⟨BR.out,.inr ⟨L,gt,HDD.out,rfl,by have:=HG.out;omega,TR.out.lt,TR.out⟩⟩
theorem partP_length (x:List UInt8):x.length<=(partP x).length/\(partP x).length=(putL x.length).length+x.length:=by
 rw [partP,List.length_append];omega
set_option maxHeartbeats 400000 in
theorem appendPart_any (w0 w:World) (A:Option Addr) (d:List UInt8) (n c:Nat) (B:Option Addr) (x:List UInt8) (m k:Nat) (H:MadeN 5 w0 d A n c w) (hx:x.length=m) (hs:Seen w0 B x) (hb:n+(partP x).length<=140737488355000):
 Calls Tryz.prog 88 #[.slice A n c,.slice B m k] w fun e w'=>∃ A' n' c',e= .returned (.slice A' n' c')/\MadeN 5 w0 (d++partP x) A' n' c' w'/\Grew w (.slice A n c) w' (.slice A' n' c'):=by
 obtain ⟨i0,hi,hz0,hz1,hz2⟩:=info_parts info8p
 have hp:=partP_length x
 have HX:=Lib.hid hx
 have HS:=Lib.hid hs
 have HH:=Lib.hid H
 have hmb:m<=140737488355000:=by omega
 have HP:Hid (n+((putL m).length+m)<=140737488355000):=by show _<=_;rw [<-hx];omega
 have HPT:Hid (partP x=putL m++x):=by show _=_;rw [partP,hx]
 clear hx hs H hb hp
 go_enter Tryz.func88,Tryz.ntmps88
 go_wp2_with fail
 refine (appendNumber_any w0 w A d n c m HH.out (by omega) (by have:=HP.out;omega)).mono ?_
 rintro e w1 ⟨A1,n1,c1,rfl,hm1,hn1,hg1⟩
 have HG1:=Lib.hid hg1
 have HM1:=Lib.hid hm1
 have HS1:=Lib.hid (HS.out.below hm1.2.2)
 clear hm1 hg1
 obtain ⟨D1,hD1⟩:∃ D1,D1=d++putL m:=⟨_,rfl⟩
 rw [<-hD1] at HM1
 obtain ⟨D,hD⟩:∃ D,D=D1++x:=⟨_,rfl⟩
 obtain ⟨N,hN⟩:∃ N,N=n1+m:=⟨_,rfl⟩
 have ED1:=Lib.hid hD1
 have ED:=Lib.hid hD
 have EN:=Lib.hid hN
 have hfit:n1+m<=140737488355000:=by
  have h1:=HM1.out.1
  rw [hD1,List.length_append,HH.out.1] at h1
  have:=HP.out;omega
 clear hD1 hD hN
 go_wp2_with (at_builtin;refine wpList_append_by w1 rfl (.tmp 8) (.tmp 9) 22 rfl 5 i0 (.int .u8 0) Tryz.underlying22 hi hz0 hz1 hz2 rfl w0 A1 n1 c1 D1 B m k x D N rfl rfl HM1 HS1 HX ED EN (by omega) ?_)
 intro A2 c2 w2 H2 G2
 go_wp2_with fail
 go_ret
 have e:D=d++partP x:=by rw [ED.out,ED1.out,HPT.out,List.append_assoc]
 exact ⟨A2,N,c2,rfl,by rw [<-e];exact H2.out,HG1.out.trans G2.out⟩
theorem step_call2 {P:Program} {ops:Array Oper} {o:Oper} {a:Act} {K:Act->World->Prop} {Q:Exit->Act->World->Prop} {E:Prop} {w:World} (hgd:o.guard=none) (f:FuncId) (hcall:∀ (args:Array Value) (w:World),(callFunc f args).run P w= .ok (.enter f args) w) (x y:Operand) {ts:Array TypeId} {u v:Value}
 (ho:o.op= .call { callee:= .value (.func f),args:= #[x,y],argTypes:=ts }) (hx:a.eval x=u) (hy:a.eval y=v) (h:Calls P f #[u,v] w fun e w'=>∃ r,e= .returned r/\K (a.put o.dst r) w'):
 if Region.wanted o (yielded ops a.tmps)=true then Oper.wp P o a w K Q else E:=by
 have hw:Region.wanted o (yielded ops a.tmps)=true:=by simp [Region.wanted,hgd]
 rw [if_pos hw]
 subst hx hy
 have hrun:(execOp a.eval o).run P w= .ok (.enter f #[a.eval x,a.eval y]) w:=by
  simp [execOp,ho,resolve,invoke,Act.eval,Deferred.ofValue,hcall]
 unfold Oper.wp
 rw [hrun,Oper.upon_enter]
 refine h.mono ?_
 rintro e w' ⟨r,rfl,hr⟩
 exact hr
theorem enter_part (args:Array Value) (w:World):(callFunc 88 args).run Tryz.prog w= .ok (.enter 88 args) w:=by simp [go_sem]
theorem Blk.grown {w w':World} {g:Nat} {row:Option Nat} {L:List Value} {t:TypeId} (h:Blk w g L t) (hg:w.grownBy w' row) (hne:row≠some g):Blk w' g L t:=
 (hg.block g h.lt (fun e=>hne e.symm)).trans h
theorem own_ne {w w':World} {v v':Value} {g:Nat} (h:Grew w v w' v') (hne:v.ownBlock≠some g) (hz:w.heap.size=g+2):v'.ownBlock≠some g:=by
 rcases h.2 with e | ⟨x,e,hx⟩
 · rw [e];exact hne
 · rw [e];intro e';injection e' with e';omega
def BR (w:World) (ps:List PPut) (b i:Value) (wr:World):Prop:=
 ∃ (k:Nat) (A:Option Addr) (n c:Nat),k<=ps.length/\i= .int .i64 k/\b= .slice A n c/\MadeN 5 w (putL ps.length++putsV (valsOf (ps.take k))) A n c wr
theorem putsV_next {ps:List PPut} {k:Nat} (h:k<ps.length):putsV (valsOf (ps.take (k+1)))=putsV (valsOf (ps.take k))++putV1 (valOf ps[k]):=by
 rw [List.take_succ_eq_append_getElem h,valsOf,List.map_append]
 exact putsV_snoc _ _
theorem putsV_append (a b:List PutV):putsV (a++b)=putsV a++putsV b:=by simp [putsV]
theorem putsV_fits {ps:List PPut} (k:Nat):(putsV (valsOf (ps.take k))).length<=(putsV (valsOf ps)).length:=by
 have h:valsOf ps=valsOf (ps.take k)++valsOf (ps.drop k):=by rw [valsOf,valsOf,valsOf,<-List.map_append,List.take_append_drop]
 rw [h,putsV_append,List.length_append]
 omega
set_option maxRecDepth 100000 in
set_option maxHeartbeats 2000000 in
theorem batch_any (A:Option Addr) (ps:List PPut) (L c:Nat) (w:World) (hL:ps.length=L) (hs:PutsSeen w A ps) (hn:L<=9223372036854775807) (hb:(batchL (valsOf ps)).length<=140737488000000):
 Calls Tryz.prog 52 #[.slice A L c] w fun e w'=>∃ A' n' c',e= .returned (.slice A' n' c')/\MadeN 5 w (batchL (valsOf ps)) A' n' c' w':=by
 obtain ⟨i0,hi,hz0,hz1,hz2⟩:=info_parts info8p
 have HS:=Lib.hid hs
 have HL:=Lib.hid hL
 have HB:Hid ((putL L).length+(putsV (valsOf ps)).length<=140737488000000):=by
  show _<=_;rw [batchL,valsOf_length,hL,List.length_append] at hb;exact hb
 have HBE:Hid (batchL (valsOf ps)=putL L++putsV (valsOf ps)):=by show _=_;rw [batchL,valsOf_length,hL]
 clear hs hL hb
 have HM0:Hid (MadeN 5 w [] none 0 0 w):=⟨rfl,Made.nil _ _⟩
 go_enter Tryz.func52,Tryz.ntmps52
 go_wp2_with fail
 refine (appendNumber_any w w none [] 0 0 L HM0.out hn (by omega)).mono ?_
 rintro e w1 ⟨A1,n1,c1,rfl,hm1,hn1,_⟩
 have HM1:Hid (MadeN 5 w (putL L) A1 n1 c1 w1):=hm1
 clear hm1
 go_wp2_with fail
 go_loopw [3,11] (fun b i wr=>BR w ps b i wr) (fun _ i _=>L-(intOf i).toNat)
 case atStart=>exact ⟨0,A1,n1,c1,by omega,rfl,rfl,by rw [HL.out];simpa [putsV,valsOf] using HM1.out⟩
 case round=>
  clear HM1
  obtain ⟨k,A2,n2,c2,hk,rfl,rfl,hm⟩:=hrel
  rw [HL.out] at hk hm
  obtain ⟨D,hD⟩:∃ D,D=putL L++putsV (valsOf (ps.take k)):=⟨_,rfl⟩
  rw [<-hD] at hm
  have ED:=Lib.hid hD
  have HM:=Lib.hid hm
  clear hD hm
  by_cases hlt:k<L
  · have hk':k<ps.length:=by rw [HL.out];exact hlt
    obtain ⟨b,off,hA,hok,hat⟩:=HS.out.at_ k hk'
    obtain ⟨e0,e1,e2⟩:=hat wr HM.out.2.2
    subst hA
    have HN:=Lib.hid (putsV_next hk')
    have HF:=Lib.hid (putsV_fits (ps:=ps) (k+1))
    obtain ⟨q,hq⟩:∃ q,q=ps[k]:=⟨_,rfl⟩
    rw [<-hq] at hok e0 e1 e2 HN
    clear hq hat
    obtain ⟨⟨qA,ql,qc⟩,⟨vA,vl,vc⟩,g⟩:=q
    obtain ⟨⟨hsq,hlq⟩,⟨hsv,hlv⟩⟩:=hok
    simp only [pv] at e0 e1 e2 hsq hlq hsv hlv
    obtain ⟨qn,hqn⟩:∃ qn,qn=ql.length:=⟨_,rfl⟩
    obtain ⟨vn,hvn⟩:∃ vn,vn=vl.length:=⟨_,rfl⟩
    rw [<-hqn] at e0
    rw [<-hvn] at e1
    have HQN:Hid (ql.length=qn):=hqn.symm
    have HVN:Hid (vl.length=vn):=hvn.symm
    have HSQ:=Lib.hid hsq
    have HSV:=Lib.hid hsv
    have HP:=Lib.hid (HM.out.below (show Below wr.heap.size wr (wr.alloc (.cells #[.slice qA qn qc,.slice vA vn vc,.bool g] 72)) from (Below.refl _ _).alloc (Nat.le_refl _) _))
    clear hsq hsv hlq hlv hqn hvn
    cases g with
    | true=>
     have HN':Hid (putsV (valsOf (ps.take (k+1)))=putsV (valsOf (ps.take k))++(1::partP ql)):=HN.out
     obtain ⟨W1,hW1⟩:∃ W1,W1=(wr.alloc (.cells #[.slice qA qn qc,.slice vA vn vc,.bool true] 72)).alloc (.cells #[.int .u8 1] 5):=⟨_,rfl⟩
     have hSX:Seen W1 (some ⟨wr.heap.size+1,0,none⟩) [1]:=by
      have:=seen_mark (wr.alloc (.cells #[.slice qA qn qc,.slice vA vn vc,.bool true] 72)) 5 [1] (0,0)
      simp only [World.size_alloc] at this
      rw [hW1];exact this
     have hBX:=(Blk.new wr [.slice qA qn qc,.slice vA vn vc,.bool true] 72).alloc (.cells #[.int .u8 1] 5)
     have hPX:=HP.out.below (show Below (wr.alloc (.cells #[.slice qA qn qc,.slice vA vn vc,.bool true] 72)).heap.size _ W1 from by rw [hW1];exact (Below.refl _ _).alloc (Nat.le_refl _) _)
     have hzX:W1.heap.size=wr.heap.size+2:=by rw [hW1];simp
     rw [<-hW1] at hBX
     have HSX:Hid (Seen W1.drew (some ⟨wr.heap.size+1,0,none⟩) [1]):=hSX.below ((Below.refl _ _).drew)
     have HPX:Hid (MadeN 5 w D A2 n2 c2 W1.drew):=hPX.below ((Below.refl _ _).drew)
     have HBX:Hid (Blk W1.drew wr.heap.size [.slice qA qn qc,.slice vA vn vc,.bool true] 72):=hBX
     have HZX:Hid (W1.drew.heap.size=wr.heap.size+2):=hzX
     have HNE:Hid ((Value.slice A2 n2 c2).ownBlock≠some wr.heap.size):=fun e=>by have:=(HM.out.2.1.lt _ e).2;omega
     have L1:Hid (([1]:List UInt8).length=1):=rfl
     obtain ⟨D1,hD1⟩:∃ D1,D1=D++[1]:=⟨_,rfl⟩
     obtain ⟨N1,hN1⟩:∃ N1,N1=n2+1:=⟨_,rfl⟩
     have ED1:=Lib.hid hD1
     have EN1:=Lib.hid hN1
     have hfit:Hid (N1+(partP ql).length<=140737488000000):=by
      show _<=_
      have h1:=HF.out
      have h2:=HB.out
      rw [HN'.out,List.length_append,List.length_cons] at h1
      have h3:=HM.out.1
      rw [ED.out,List.length_append] at h3
      omega
     have hn2b:n2<=140737488000000:=by have:=hfit.out;omega
     have HSQ':Hid (Seen w qA ql):=HSQ
     clear hSX hBX hPX hD1 hN1 hzX
     rw [hW1] at HSX HPX HBX HZX
     clear hW1
     go_wp2_with fail
     go_region_law (first
      | (refine step_append_to _ rfl (.tmp 17) (.tmp 18) 22 rfl 5 i0 (.int .u8 0) Tryz.underlying22 hi hz0 hz1 hz2 rfl w A2 n2 c2 D (some ⟨wr.heap.size+1,0,none⟩) 1 1 [1] D1 N1 (by simp [Act.eval]) (by simp [Act.eval]) HPX HSX L1 ED1 EN1 (by omega) ?_;intro A5 c5 w5 H5 B5 G5;have p0:=(HBX.out.grown G5.out.1 HNE.out).cell (i:=0) (by simp);simp only [List.getElem_cons_zero] at p0)
      | (refine step_call2 rfl 88 enter_part (.tmp 19) (.tmp 21) rfl (by simp [Act.eval]) (by simp [Act.eval]) ((appendPart_any w w5 A5 D1 N1 c5 qA ql qn qc H5.out HQN.out HSQ'.out (by have:=hfit.out;omega)).mono ?_);rintro e w6 ⟨A6,n6,c6,rfl,hm6,_⟩;refine ⟨_,rfl,?_⟩;have HM6:=Lib.hid hm6;clear hm6))
     all_goals
      go_wp2_with fail
      go_roundw
      case rel=>
       refine ⟨k+1,A6,n6,c6,by rw [HL.out];omega,by go_num,rfl,?_⟩
       have e:putL ps.length++putsV (valsOf (ps.take (k+1)))=D1++partP ql:=by rw [HN'.out,ED1.out,ED.out,HL.out];simp
       rw [e];exact HM6.out
      case measure=>simp [intOf];omega
    | false=>
     have HN':Hid (putsV (valsOf (ps.take (k+1)))=putsV (valsOf (ps.take k))++(0::(partP ql++partP vl))):=HN.out
     obtain ⟨W1,hW1⟩:∃ W1,W1=(wr.alloc (.cells #[.slice qA qn qc,.slice vA vn vc,.bool false] 72)).alloc (.cells #[.int .u8 0] 5):=⟨_,rfl⟩
     have hSX:Seen W1 (some ⟨wr.heap.size+1,0,none⟩) [0]:=by
      have:=seen_mark (wr.alloc (.cells #[.slice qA qn qc,.slice vA vn vc,.bool false] 72)) 5 [0] (0,0)
      simp only [World.size_alloc] at this
      rw [hW1];exact this
     have hBX:=(Blk.new wr [.slice qA qn qc,.slice vA vn vc,.bool false] 72).alloc (.cells #[.int .u8 0] 5)
     have hPX:=HP.out.below (show Below (wr.alloc (.cells #[.slice qA qn qc,.slice vA vn vc,.bool false] 72)).heap.size _ W1 from by rw [hW1];exact (Below.refl _ _).alloc (Nat.le_refl _) _)
     have hzX:W1.heap.size=wr.heap.size+2:=by rw [hW1];simp
     rw [<-hW1] at hBX
     have HSX:Hid (Seen W1.drew (some ⟨wr.heap.size+1,0,none⟩) [0]):=hSX.below ((Below.refl _ _).drew)
     have HPX:Hid (MadeN 5 w D A2 n2 c2 W1.drew):=hPX.below ((Below.refl _ _).drew)
     have HBX:Hid (Blk W1.drew wr.heap.size [.slice qA qn qc,.slice vA vn vc,.bool false] 72):=hBX
     have HZX:Hid (W1.drew.heap.size=wr.heap.size+2):=hzX
     have HNE:Hid ((Value.slice A2 n2 c2).ownBlock≠some wr.heap.size):=fun e=>by have:=(HM.out.2.1.lt _ e).2;omega
     have L1:Hid (([0]:List UInt8).length=1):=rfl
     obtain ⟨D1,hD1⟩:∃ D1,D1=D++[0]:=⟨_,rfl⟩
     obtain ⟨N1,hN1⟩:∃ N1,N1=n2+1:=⟨_,rfl⟩
     have ED1:=Lib.hid hD1
     have EN1:=Lib.hid hN1
     have hfit:Hid (N1+((partP ql).length+(partP vl).length)<=140737488000000):=by
      show _<=_
      have h1:=HF.out
      have h2:=HB.out
      rw [HN'.out,List.length_append,List.length_cons] at h1
      have h3:=HM.out.1
      rw [ED.out,List.length_append] at h3
      rw [List.length_append] at h1
      omega
     have hn2b:n2<=140737488000000:=by have:=hfit.out;omega
     have HSQ':Hid (Seen w qA ql):=HSQ
     clear hSX hBX hPX hD1 hN1 hzX
     rw [hW1] at HSX HPX HBX HZX
     clear hW1
     go_wp2_with fail
     go_region_law (first
      | (refine step_append_to _ rfl (.tmp 23) (.tmp 24) 22 rfl 5 i0 (.int .u8 0) Tryz.underlying22 hi hz0 hz1 hz2 rfl w A2 n2 c2 D (some ⟨wr.heap.size+1,0,none⟩) 1 1 [0] D1 N1 (by simp [Act.eval]) (by simp [Act.eval]) HPX HSX L1 ED1 EN1 (by omega) ?_;intro A5 c5 w5 H5 B5 G5;have p0:=(HBX.out.grown G5.out.1 HNE.out).cell (i:=0) (by simp);simp only [List.getElem_cons_zero] at p0)
      | (refine step_call2 rfl 88 enter_part (.tmp 25) (.tmp 27) rfl (by simp [Act.eval]) (by simp [Act.eval]) ((appendPart_any w w5 A5 D1 N1 c5 qA ql qn qc H5.out HQN.out HSQ'.out (by have:=hfit.out;omega)).mono ?_);rintro e w6 ⟨A6,n6,c6,rfl,hm6,hg6⟩;refine ⟨_,rfl,?_⟩;have p1:=((HBX.out.grown G5.out.1 HNE.out).grown hg6.1 (own_ne G5.out HNE.out HZX.out)).cell (i:=1) (by simp);simp only [List.getElem_cons_zero,List.getElem_cons_succ] at p1;have HM6:=Lib.hid hm6;clear hm6 hg6))
     all_goals
      obtain ⟨D6,hD6⟩:∃ D6,D6=D1++partP ql:=⟨_,rfl⟩
      rw [<-hD6] at HM6
      have ED6:=Lib.hid hD6
      have hfit6:Hid (n6+(partP vl).length<=140737488000000):=by
       show _<=_
       have h1:=HM6.out.1
       rw [hD6,List.length_append,H5.out.1] at h1
       have:=hfit.out;omega
      clear hD6
      go_wp2_with fail
      refine (appendPart_any w w6 A6 D6 n6 c6 vA vl vn vc HM6.out HVN.out HSV.out (by have:=hfit6.out;omega)).mono ?_
      rintro e w7 ⟨A7,n7,c7,rfl,hm7,_⟩
      have HM7:=Lib.hid hm7
      clear hm7
      go_wp2_with fail
      go_roundw
      case rel=>
       refine ⟨k+1,A7,n7,c7,by rw [HL.out];omega,by go_num,rfl,?_⟩
       have e:putL ps.length++putsV (valsOf (ps.take (k+1)))=D6++partP vl:=by rw [HN'.out,ED6.out,ED1.out,ED.out,HL.out];simp
       rw [e];exact HM7.out
      case measure=>simp [intOf];omega
  · obtain rfl:k=L:=by omega
    have e:D=batchL (valsOf ps):=by rw [HBE.out,ED.out,<-HL.out,List.take_length]
    go_wp2_with fail
    go_ret
    exact ⟨A2,n2,c2,rfl,by rw [<-e];exact HM.out⟩
end Go.Proofs.YtdaahapbpnjkfaaGreat
