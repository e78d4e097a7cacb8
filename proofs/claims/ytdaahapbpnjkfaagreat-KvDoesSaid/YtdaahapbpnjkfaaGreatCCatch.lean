/-
The deferred closure of Decode: what it makes of a panic of the reader's, and that it leaves all as it is where there is none. Condition: its variables can be written.
-/
import Derived.Test.YtdaahapbpnjkfaaGreatCRf
import Derived.Deep.AppendLies
import Derived.Deep.RegionLaw
import Derived.Deep.DrawnRows
import Derived.StillTailTactics
import Derived.Test.YtdaahapbpnjkfaaGreatCLgWrite
import Derived.Defers
import Derived.Recover
namespace Go.Proofs.YtdaahapbpnjkfaaGreat
open Go.RowKit
theorem spare1 (w:World) (r i:Nat) (u:Value):Spared w (w.setCell ⟨r,i,none⟩ u) (· =r):=Spared.setCell (F:=(· =r)) (.refl w _) rfl i u
theorem did_any (w:World) (r:Nat) (vK vM:Value) (PK:List Piece) (PM:List (Nat × Piece)) (armed:Bool) (left:Int) (G:Nat->Prop) (s:Dsk) (h:RefIn w r vK vM PK PM armed left G s) (hon:s.off=false) (hc:s.calls+1<9223372036854775808) (hl:s.left<9223372036854775808):
 Calls Tryz.prog 163 #[.pointer (some ⟨r,0,none⟩)] w fun e w'=>e= .returned (.tuple #[])/\(∃ armed' left',RefIn w' r vK vM PK PM armed' left' G s.did)/\Spared w w' G:=by
 obtain ⟨_,_,c2,c3,c4,c5⟩:=h.cells
 have f2:=h.blk.free 2
 have f3:=h.blk.free 3
 have f4:=h.blk.free 4
 have f5:=h.blk.free 5
 have H:=Lib.hid h
 have hG:=h.gr
 have e1:(s.calls:Int)+1=((s.calls+1:Nat):Int):=by omega
 have E1:=Lib.hid e1
 obtain ⟨ha,hb⟩:=h.arm hon
 by_cases h0:0<s.left
 · have e2:=hb h0
   rw [e2] at c4
   have e3:armed=true:=by rw [ha];exact decide_eq_true h0
   rw [e3] at c3
   have hbk:=(((h.blk.set 5 (.int .i64 ((s.calls+1:Nat):Int))).set 4 (.int .i64 ((s.left:Int)-1))).set 2 (.bool (decide ((s.left:Int)-1<=0)))).set 3 (.bool (!decide ((s.left:Int)-1<=0)))
   have hd:(s.did).off=decide ((s.left:Int)-1<=0):=by
    show (if 0<s.left then decide (s.left=1) else s.off)=_
    rw [if_pos h0,Bool.eq_iff_iff,decide_eq_true_iff,decide_eq_true_iff];omega
   have hfin:RefIn _ r vK vM PK PM (!decide ((s.left:Int)-1<=0)) ((s.left:Int)-1) G s.did:=h.recell (s':=s.did) (by rw [hd];exact hbk) (((((spare1 w r 5 _).setCell rfl 4 _).setCell rfl 2 _).setCell rfl 3 _)) rfl (.inl ⟨rfl,rfl,rfl⟩) (fun ho=>by
    rw [hd] at ho
    have: ¬ (s.left:Int)-1<=0:=of_decide_eq_false ho
    refine ⟨?_,fun _=>by show _=((s.left-1:Nat):Int);omega⟩
    rw [ho]
    show true=decide (0<s.left-1)
    exact (decide_eq_true (by omega)).symm)
   have HF:=Lib.hid hfin
   clear h ha hb e2 e3 hbk hd hfin e1
   go_enter Tryz.func163,Tryz.ntmps163
   go_wp2
   go_end0
   rw [E1.out]
   exact ⟨rfl,⟨_,_,HF.out⟩,((((Spared.refl w G).setCell hG 5 _).setCell hG 4 _).setCell hG 2 _).setCell hG 3 _⟩
 · have e3:armed=false:=by rw [ha];exact decide_eq_false h0
   rw [e3] at c3
   have hbk:=h.blk.set 5 (.int .i64 ((s.calls+1:Nat):Int))
   have hd:(s.did).off=s.off/\s.did.left=s.left:=⟨by simp [Dsk.did,h0],by show s.left-1=s.left;omega⟩
   have hfin:RefIn _ r vK vM PK PM armed left G s.did:=h.recell (s':=s.did) (by rw [hd.1];exact hbk) (spare1 w r 5 _) rfl (.inl ⟨rfl,rfl,rfl⟩) (fun ho=>by rw [hd.1] at ho;rw [hd.2];exact h.arm ho)
   have HF:=Lib.hid hfin
   clear h ha hb e3 hbk hd hfin e1
   go_enter Tryz.func163,Tryz.ntmps163
   go_wp2
   go_end0
   rw [E1.out]
   exact ⟨rfl,⟨_,_,HF.out⟩,(Spared.refl w G).setCell hG 5 _⟩
theorem refArm_any (w:World) (r:Nat) (G:Nat->Prop) (s:Dsk) (n:Int) (h:RefAt w r G s):
 Calls Tryz.prog 18 #[.pointer (some ⟨r,0,none⟩),.int .i64 n] w fun e w'=>e= .returned (.tuple #[])/\RMoved w r G (s.arm n) w':=by
 obtain ⟨vK,vM,PK,PM,armed,left,h⟩:=h
 obtain ⟨_,_,c2,c3,c4,_⟩:=h.cells
 have f2:=h.blk.free 2
 have f3:=h.blk.free 3
 have f4:=h.blk.free 4
 have hG:=h.gr
 by_cases hn:n<1
 · have hbk:=(((h.blk.set 3 (.bool true)).set 4 (.int .i64 n)).set 2 (.bool true)).set 3 (.bool false)
   have hoff:(s.arm n).off=true:=by
    unfold Dsk.arm
    split
    · rename_i ho;exact ho
    · exact decide_eq_true hn
   have hK:(s.arm n).K=s.K/\(s.arm n).M=s.M/\(s.arm n).calls=s.calls:=by unfold Dsk.arm;split<;>exact ⟨rfl,rfl,rfl⟩
   have HF:=Lib.hid (h.recell (s':=s.arm n) (armed':=false) (left':=n) (vM':=vM) (PM':=PM) (by rw [hoff,hK.2.2];exact hbk) (((((spare1 w r 3 _).setCell rfl 4 _).setCell rfl 2 _).setCell rfl 3 _)) hK.1 (.inl ⟨rfl,rfl,hK.2.1⟩) (fun ho=>by rw [hoff] at ho;cases ho))
   clear h hbk hoff hK
   go_enter Tryz.func18,Tryz.ntmps18
   go_wp2
   go_end0
   exact ⟨rfl,G,⟨_,_,_,_,_,_,HF.out⟩,((((Spared.refl w G).setCell hG 3 _).setCell hG 4 _).setCell hG 2 _).setCell hG 3 _,fun _ h=> .inl h⟩
 · have hbk:=(h.blk.set 3 (.bool true)).set 4 (.int .i64 n)
   have hoff:(s.arm n).off=s.off:=by
    unfold Dsk.arm
    split
    · rfl
    · rename_i ho
      have:s.off=false:=by cases hs:s.off<;>simp_all
      rw [this];exact decide_eq_false hn
   have hK:(s.arm n).K=s.K/\(s.arm n).M=s.M/\(s.arm n).calls=s.calls:=by unfold Dsk.arm;split<;>exact ⟨rfl,rfl,rfl⟩
   have HF:=Lib.hid (h.recell (s':=s.arm n) (armed':=true) (left':=n) (vM':=vM) (PM':=PM) (by rw [hoff,hK.2.2];exact hbk) ((spare1 w r 3 _).setCell rfl 4 _) hK.1 (.inl ⟨rfl,rfl,hK.2.1⟩) (fun ho=>by
    rw [hoff] at ho
    have e:(s.arm n).left=n.toNat:=by unfold Dsk.arm;rw [if_neg (by rw [ho];decide)]
    rw [e]
    exact ⟨(decide_eq_true (by omega)).symm,fun _=>by omega⟩))
   clear h hbk hoff hK
   go_enter Tryz.func18,Tryz.ntmps18
   go_wp2
   go_end0
   exact ⟨rfl,G,⟨_,_,_,_,_,_,HF.out⟩,((Spared.refl w G).setCell hG 3 _).setCell hG 4 _,fun _ h=> .inl h⟩
theorem pv_slice (q:Piece) (h:q.2.1.length=64):pv q= .slice q.1 64 q.2.2:=by unfold pv;rw [h]
set_option maxRecDepth 100000 in
set_option maxHeartbeats 400000 in
theorem refImage_any (w:World) (r:Nat) (G:Nat->Prop) (s:Dsk) (h:RefAt w r G s):
 Calls Tryz.prog 24 #[.pointer (some ⟨r,0,none⟩)] w fun e w'=>∃ v,e= .returned v/\Made 5 w s.K.flatten v w':=by
 obtain ⟨vK,vM,PK,PM,armed,left,h⟩:=h
 have hK4:=h.hi
 have HPL:=Lib.hid h.len.2.2.1
 have HL:=Lib.hid h.ok.len
 obtain ⟨i0,hi,hz0,hz1,hz2⟩:=info_parts info8d
 obtain ⟨⟨A,c,rfl,_⟩,_⟩:=h.forms
 have H:=Lib.hid h
 clear h
 go_enter Tryz.func24,Tryz.ntmps24
 go_wp2
 go_loopw [3,4] (fun v a wr=>∃ k:Nat,k<=s.K.length/\a= .int .i64 k/\Made 5 w (s.K.take k).flatten v wr) (fun _ a _=>s.K.length-(intOf a).toNat)
 case atStart=>exact ⟨0,Nat.zero_le _,rfl,Made.nil _ _⟩
 case round=>
  obtain ⟨k,hk,rfl,hm⟩:=hrel
  have HV:=Lib.hid hm
  have H1:=Lib.hid (H.out.still hm.2)
  clear hm
  obtain ⟨c0,_⟩:=H1.out.cells
  by_cases hlt:k<s.K.length
  · have hkl:(k:Int)<(s.K.length:Int):=by omega
    obtain ⟨kb,c',hv,ck,_⟩:=H1.out.kcell k (by rw [HPL.out];exact hlt)
    injection hv with hv _ _
    subst hv
    have hkP:k<PK.length:=by rw [HPL.out];exact hlt
    have hq:=H1.out.pK _ (List.getElem_mem hkP)
    have hqs:=hq.seen
    have hqe:PK[k].2.1=s.K[k]:=by have:=H1.out.eqK;simp only [<-this,List.getElem_map]
    rw [pv_slice _ hq.1] at ck
    rw [hqe] at hqs
    have h64:s.K[k].length=64:=HL.out _ (List.getElem_mem hlt)
    have ht:=take_flat hlt
    have hfl:=take_flat_length HL.out k hk
    generalize s.K[k]=p at *
    generalize hd1:(s.K.take k).flatten=d at *
    generalize PK[k].2.2=cq at ck
    generalize PK[k].1=Aq at ck hqs
    have HS:=Lib.hid hqs
    have HT:=Lib.hid ht
    have H64:=Lib.hid h64
    have HFL:=Lib.hid hfl
    clear ht h64 hfl hd1 hq hqs hqe hkP
    go_wp2_with (refine wpList_append_bytes _ rfl (.tmp 14) (.tmp 21) 22 rfl 5 i0 (.int .u8 0) Tryz.underlying22 hi hz0 hz1 hz2 rfl w _ d _ p cq rfl (by rw [H64.out];rfl) HV.out HS.out (by rw [HFL.out,H64.out];omega) ?_;intro v' w' hm' hb')
    have HM':=Lib.hid hm'
    clear hm' hb'
    go_roundw
    case rel=>exact ⟨k+1,by omega,by go_num,by rw [<-HT.out];exact HM'.out⟩
    case measure=>simp [intOf];omega
  · obtain rfl:k=s.K.length:=by omega
    rw [List.take_length] at HV
    go_wp2
    go_ret
    exact ⟨_,rfl,HV.out⟩
def ReadOut (s:Dsk) (i:Int) (w':World) (e:Ending):Prop:=
 (¬ (0<=i/\i<s.K.length)/\e= .returned (.tuple #[.slice none 0 0,.int .i64 1]))\/
 ((0<=i/\i<s.K.length)/\s.off=true/\e= .returned (.tuple #[.slice none 0 0,.int .i64 5]))\/
 ((0<=i/\i<s.K.length)/\s.off=false/\∃ x A c,s.Last i.toNat x/\Seen w' A x/\e= .returned (.tuple #[.slice A 64 c,.int .i64 0]))
set_option maxRecDepth 100000 in
set_option maxHeartbeats 400000 in
theorem refRead_any (w:World) (r:Nat) (G:Nat->Prop) (s:Dsk) (i:Int) (h:RefAt w r G s):
 Calls Tryz.prog 78 #[.pointer (some ⟨r,0,none⟩),.int .i64 i] w fun e w'=>Below w.heap.size w w'/\ReadOut s i w' e:=by
 obtain ⟨vK,vM,PK,PM,armed,left,h⟩:=h
 have HPL:=Lib.hid h.len.2.2
 obtain ⟨⟨A,c,rfl,hcm⟩,⟨A',c',rfl,hcm'⟩⟩:=h.forms
 have hM:s.M.length<=9223372036854775807:=by unfold maxLen at hcm';omega
 have hK4:=h.hi
 obtain ⟨c0,c1,c2,_⟩:=h.cells
 have H:=Lib.hid h
 clear h hcm hcm'
 by_cases h0:i<0
 · have hI:Hid (¬ (0<=i/\i<s.K.length)):=by show ¬ _;omega
   go_enter Tryz.func78,Tryz.ntmps78
   go_wp2
   go_ret2
   exact ⟨Below.refl _ _,.inl ⟨hI.out,rfl⟩⟩
 by_cases h1:i<s.K.length
 · obtain ⟨n,rfl⟩:∃ n:Nat,i=(n:Int):=⟨i.toNat,by omega⟩
   have hn:n<s.K.length:=by omega
   have hI:Hid (0<=(n:Int)/\(n:Int)<s.K.length):=by show _/\_;omega
   clear h0
   by_cases ho:s.off=true
   · rw [ho] at c2
     have HO:=Lib.hid ho
     clear ho
     go_enter Tryz.func78,Tryz.ntmps78
     go_wp2
     go_ret2
     exact ⟨Below.refl _ _,.inr (.inl ⟨hI.out,HO.out,rfl⟩)⟩
   · have ho':s.off=false:=by cases hs:s.off<;>simp_all
     rw [ho'] at c2
     have HO:=Lib.hid ho'
     clear ho ho'
     obtain ⟨i0,hi,hz0,hz1,hz2⟩:=info_parts info8d
     go_enter Tryz.func78,Tryz.ntmps78
     go_wp2
     go_loopw [6] (fun a wr=>wr=w/\∃ k:Nat,k<=s.M.length/\a= .int .i64 ((k:Int)-1)/\∀ j (hj:j<s.M.length),k<=j->s.M[j].1≠n) (fun a _=>(intOf a+1).toNat)
     case atStart=>exact ⟨rfl,s.M.length,Nat.le_refl _,rfl,fun j hj h=>by omega⟩
     case round=>
      obtain ⟨hwr,k,hk,rfl,hno⟩:=hrel
      obtain rfl:=hwr.symm
      by_cases hk0:0<k
      · obtain ⟨q,rfl⟩:∃ q,k=q+1:=⟨k-1,by omega⟩
        rw [show (((q+1:Nat):Int)-1)=(q:Int) by omega]
        have hq:q<s.M.length:=by omega
        have hqP:q<PM.length:=by rw [HPL.out.2];exact hq
        obtain ⟨mb,cm,hv,d0,d1⟩:=H.out.mcell q hqP
        injection hv with hv _ _
        subst hv
        have hh:=H.out.pM _ (List.getElem_mem hqP)
        have he:s.M[q]=(PM[q].1,PM[q].2.2.1):=by have:=H.out.eqM;simp only [<-this,List.getElem_map]
        rw [pv_slice _ hh.1] at d1
        have HSE:=Lib.hid hh.seen
        have H64:=Lib.hid hh.1
        have HNO:=Lib.hid hno
        have HE:=Lib.hid he
        clear hh he hno hk hk0
        generalize PM[q]=pq at *
        clear hqP
        obtain ⟨m,Aq,xq,cq⟩:=pq
        by_cases hm:m=n
        · subst hm
          have HLA:Hid (s.Last m xq):=Or.inl ⟨q,hq,by rw [HE.out],by rw [HE.out],fun j hj hlt=>HNO.out j hj (by omega)⟩
          clear HNO HE
          go_wp2_with (refine wpList_append_bytes _ rfl (.const (.slice none 0 0)) (.tmp 49) 22 rfl 5 i0 (.int .u8 0) Tryz.underlying22 hi hz0 hz1 hz2 rfl w _ [] Aq xq cq rfl (by rw [H64.out];rfl) (Made.nil _ _) HSE.out (by rw [H64.out];decide) ?_;intro v3 w3 hm3 hb3;obtain ⟨A3,c3,rfl,hm3⟩:=made_len hm3 (n:=64) (by rw [List.nil_append];exact H64.out);have HM3:=Lib.hid hm3)
          go_ret2
          exact ⟨HM3.out.2,.inr (.inr ⟨hI.out,HO.out,xq,_,_,HLA.out,HM3.out.at_len.2,rfl⟩)⟩
        · have hm': ¬ (m:Int)=(n:Int):=by omega
          have HN2:Hid (∀ j (hj:j<s.M.length),q<=j->s.M[j].1≠n):=fun j hj hle=>by
           rcases Nat.lt_or_ge q j with h | h
           · exact HNO.out j hj h
           · obtain rfl:j=q:=by omega
             rw [HE.out];exact hm
          clear HNO HE hm
          go_wp2
          go_roundw
          case rel=>exact ⟨trivial,q,by omega,rfl,HN2.out⟩
          case measure=>simp [intOf]
      · obtain rfl:k=0:=by omega
        have hno':∀ j (hj:j<s.M.length),s.M[j].1≠n:=fun j hj=>hno j hj (by omega)
        have HLA:Hid (s.Last n s.K[n]):=Or.inr ⟨hno',List.getElem?_eq_getElem hn⟩
        have hnP:n<PK.length:=by rw [HPL.out.1];exact hn
        obtain ⟨kb,ck,hv,d0,_⟩:=H.out.kcell n hnP
        injection hv with hv _ _
        subst hv
        have hh:=H.out.pK _ (List.getElem_mem hnP)
        have he:PK[n].2.1=s.K[n]:=by have:=H.out.eqK;simp only [<-this,List.getElem_map]
        rw [pv_slice _ hh.1] at d0
        rw [<-he] at HLA
        have HSE:=Lib.hid hh.seen
        have H64:=Lib.hid hh.1
        clear hh he hno hno' hk hk0
        generalize PK[n]=pq at *
        clear hnP
        obtain ⟨Aq,xq,cq⟩:=pq
        have e:((0:Nat):Int)-1= -1:=rfl
        rw [e]
        clear e
        go_wp2_with (refine wpList_append_bytes _ rfl (.const (.slice none 0 0)) (.tmp 57) 22 rfl 5 i0 (.int .u8 0) Tryz.underlying22 hi hz0 hz1 hz2 rfl w _ [] Aq xq cq rfl (by rw [H64.out];rfl) (Made.nil _ _) HSE.out (by rw [H64.out];decide) ?_;intro v3 w3 hm3 hb3;obtain ⟨A3,c3,rfl,hm3⟩:=made_len hm3 (n:=64) (by rw [List.nil_append];exact H64.out);have HM3:=Lib.hid hm3)
        go_ret2
        exact ⟨HM3.out.2,.inr (.inr ⟨hI.out,HO.out,xq,_,_,HLA.out,HM3.out.at_len.2,rfl⟩)⟩
 · have hI:Hid (¬ (0<=i/\i<s.K.length)):=by show ¬ _;omega
   go_enter Tryz.func78,Tryz.ntmps78
   go_wp2
   go_ret2
   exact ⟨Below.refl _ _,.inl ⟨hI.out,rfl⟩⟩
theorem infoW:(Tryz.prog.info? 117).map (fun i=>(i.zero,i.size,i.bytes))=some (some (.agg #[.int .i64 0,.slice none 0 0]),2,32):=by kernel_rfl
theorem refWrite_arg (w:World) (r:Nat) (G:Nat->Prop) (s:Dsk) (i:Int) (A:Option Addr) (n c:Nat) (h:RefAt w r G s) (_:n<=9223372036854775807) (hbad: ¬ ((0<=i/\i<s.K.length)/\n=64)):
 Calls Tryz.prog 140 #[.pointer (some ⟨r,0,none⟩),.int .i64 i,.slice A n c] w fun e w'=>e= .returned (.int .i64 1)/\w'=w:=by
 obtain ⟨vK,vM,PK,PM,armed,left,h⟩:=h
 obtain ⟨⟨A0,c0',rfl,_⟩,_⟩:=h.forms
 have hK4:=h.hi
 obtain ⟨c0,_⟩:=h.cells
 clear h
 by_cases h0:i<0
 · clear hbad
   go_enter Tryz.func140,Tryz.ntmps140
   go_wp2
   go_ret
   exact ⟨rfl,rfl⟩
 by_cases h1:i<s.K.length
 · have h64:((n:Int) != 64)=true:=by rw [bne_iff_ne];omega
   clear hbad
   go_enter Tryz.func140,Tryz.ntmps140
   go_wp2
   go_ret
   exact ⟨rfl,rfl⟩
 · clear hbad
   go_enter Tryz.func140,Tryz.ntmps140
   go_wp2
   go_ret
   exact ⟨rfl,rfl⟩
theorem refWrite_off (w:World) (r:Nat) (G:Nat->Prop) (s:Dsk) (i:Nat) (A:Option Addr) (c:Nat) (h:RefAt w r G s) (h0:i<s.K.length) (hoff:s.off=true):
 Calls Tryz.prog 140 #[.pointer (some ⟨r,0,none⟩),.int .i64 (i:Int),.slice A 64 c] w fun e w'=>e= .returned (.int .i64 5)/\w'=w:=by
 obtain ⟨vK,vM,PK,PM,armed,left,h⟩:=h
 obtain ⟨⟨A0,c0',rfl,_⟩,_⟩:=h.forms
 have hK4:=h.hi
 obtain ⟨c0,_,c2,_⟩:=h.cells
 rw [hoff] at c2
 clear h hoff
 go_enter Tryz.func140,Tryz.ntmps140
 go_wp2
 go_ret
 exact ⟨rfl,rfl⟩
theorem ref_wrote {w w4 w5:World} {r g4 cap4 gm cap' i:Nat} {vK vM:Value} {PK:List Piece} {PM:List (Nat × Piece)} {armed:Bool} {left:Int} {G:Nat->Prop} {s:Dsk} {l:List UInt8} (h:RefIn w r vK vM PK PM armed left G s) (hb:w.grownBy w4 none) (hl:l.length=64)
 (hown4:w4.ownsRow 0 5 1 (.slice (some ⟨g4,0,none⟩) (0+64) cap4) (0+64) ([]++l.map bv)) (hge:w.heap.size=g4) (hlt4:g4<w4.heap.size) (hi:i<s.K.length)
 (hgr:(w4.alloc (.cells #[.int .i64 (i:Int),.slice (some ⟨g4,0,none⟩) 64 cap4] 117)).grownBy w5 vM.ownBlock)
 (hown5:w5.ownsRow 0 117 2 (.slice (some ⟨gm,0,none⟩) (PM.length+1) cap') (PM.length+1) ((PM.map mcell).flatten++[.int .i64 (i:Int),.slice (some ⟨g4,0,none⟩) 64 cap4]))
 (hat:vM.ownBlock=some gm\/gm=w4.heap.size+1) (hlt:gm<w5.heap.size):
 RefIn (w5.setCell ⟨r,1,none⟩ (.slice (some ⟨gm,0,none⟩) (PM.length+1) cap')) r vK (.slice (some ⟨gm,0,none⟩) (PM.length+1) cap') PK (PM++[(i,((some ⟨g4,0,none⟩:Option Addr),l,cap4))]) armed left (fun k=>G k\/(w.heap.size<=k/\k<w5.heap.size)) { s with M:=s.M++[(i,l)] }/\
 Spared w (w5.setCell ⟨r,1,none⟩ (.slice (some ⟨gm,0,none⟩) (PM.length+1) cap')) G/\w5.cell? ⟨r,1,none⟩=some vM/\w5.frozen? ⟨r,1,none⟩=false:=by
 have hbl:Below w.heap.size w w4:=⟨hb.os,hb.tape,hb.output,hb.size,fun k hk=>hb.block k hk (by simp)⟩
 have hbl1:=hbl.alloc hb.size (.cells #[.int .i64 (i:Int),.slice (some ⟨g4,0,none⟩) 64 cap4] 117)
 refine ref_appended (q:=((some ⟨g4,0,none⟩:Option Addr),l,cap4)) h hbl1 hgr i hi hl ⟨g4,rfl,Nat.le_of_eq hge,?_,fun j hj=> ?_⟩ ?_ ?_ hlt
 · simp;omega
 · have hown4':w4.ownsRow 0 5 1 (.slice (some ⟨g4,0,none⟩) 64 cap4) l.length (l.map bv):=by rw [hl];exact hown4
   have hc:=own_bytes hown4' j hj
   rw [World.cell?_alloc_lt _ _ _ hlt4]
   exact hc
 · have e:mcell (i,((some ⟨g4,0,none⟩:Option Addr),l,cap4))=[.int .i64 (i:Int),.slice (some ⟨g4,0,none⟩) 64 cap4]:=by
    unfold mcell pv;rw [hl]
   rw [e]
   exact hown5
 · simpa using hat
set_option maxRecDepth 100000 in
set_option maxHeartbeats 1000000 in
theorem refWrite_ok (w:World) (r:Nat) (G:Nat->Prop) (s:Dsk) (i:Nat) (A:Option Addr) (l:List UInt8) (c:Nat) (h:RefAt w r G s) (h0:i<s.K.length) (hon:s.off=false) (hl:l.length=64) (hs:Seen w A l)
 (hcl:s.calls+1<9223372036854775808) (hlf:s.left<9223372036854775808) (hm:s.M.length<=1000000):
 Calls Tryz.prog 140 #[.pointer (some ⟨r,0,none⟩),.int .i64 (i:Int),.slice A 64 c] w fun e w'=>e= .returned (.int .i64 0)/\RMoved w r G (s.write i l) w':=by
 obtain ⟨vK,vM,PK,PM,armed,left,h⟩:=h
 obtain ⟨⟨A0,c0',rfl,_⟩,_⟩:=h.forms
 have hK4:=h.hi
 obtain ⟨c0,c1,c2,_⟩:=h.cells
 rw [hon] at c2
 have f1:=h.blk.free 1
 have hrlt:=h.blk.lt
 have hPM:PM.length<=1000000:=by rw [h.len.2.2.2];exact hm
 have HON:=Lib.hid hon
 obtain ⟨b,off,rfl,hb,hc⟩:∃ b off,A=some ⟨b,off,none⟩/\b<w.heap.size/\∀ j (h:j<l.length),w.cell? ⟨b,off+j,none⟩=some (.int .u8 (l[j].toNat:Int)):=by
  rcases hs with rfl | h
  · simp at hl
  · exact h
 have HNEWS:Hid (∀ j u,(l.map bv)[j]? =some u->w.drew.cell? ((⟨b,off,none⟩:Addr).add j)=some u):=fun j u hu=>by
  obtain ⟨hj,hju⟩:=List.getElem?_eq_some_iff.1 hu
  rw [List.length_map] at hj
  rw [add_plain,<-hju,List.getElem_map]
  exact hc j hj
 have HL:=Lib.hid hl
 have H:=Lib.hid h
 obtain ⟨i8,hi8,hz8,hs8,hb8⟩:=info_parts info8d
 obtain ⟨iW,hiW,hzW,hsW,hbW⟩:=info_parts infoW
 clear h hs hl hon hc hb hm
 go_enter Tryz.func140,Tryz.ntmps140
 go_wp2
 go_region_law (first
  | (
   refine step_append_lies w.drew rfl (.const (.slice none 0 0)) (.tmp 33) 22 rfl 0 5 i8 (.int .u8 0) 1 1 Tryz.underlying22 hi8 hz8 hs8 hb8 rfl (by decide) (.slice none 0 0) 0 [] (by simp [Act.eval]) (World.ownsRow_nil _ _ _ _) ⟨b,off,none⟩ 64 c (l.map bv) (by simp [Act.eval,Act.put]) (by rw [List.length_map,HL.out]) HNEWS.out (bytes_one l) (by decide) (by unfold maxLen;decide) (by decide) (Nat.zero_le _) _ rfl ?_;intro g4 cap4 w4 hown4 hgr4 hat4 hlt4
   have c14:w4.cell? ⟨r,1,none⟩=some vM:=(World.cell?_of_block (a:=⟨r,1,none⟩) (hgr4.block r hrlt (by simp [Value.ownBlock]))).trans c1
   have hr4:r<w4.heap.size:=Nat.lt_of_lt_of_le hrlt hgr4.size
   have HO4:=Lib.hid hown4
   have HG4:Hid (w.grownBy w4 none):=⟨hgr4.os,hgr4.tape,hgr4.output,hgr4.size,hgr4.block⟩
   have HA4:Hid (w.heap.size=g4):=(by rcases hat4 with e | e;(· cases e);(· exact e.symm))
   have HLT4:=Lib.hid hlt4
   clear hown4 hgr4 hat4 hlt4)
  | (
   refine step_append_lies (w4.alloc (.cells #[.int .i64 (i:Int),.slice (some ⟨g4,0,none⟩) 64 cap4] 117)) rfl (.tmp 31) (.tmp 36) 48 rfl 0 117 iW (.agg #[.int .i64 0,.slice none 0 0]) 2 32 Tryz.underlying48 hiW hzW hsW hbW rfl (by decide) vM PM.length (PM.map mcell).flatten (by simp [Act.eval]) (own_kept H.out.rowM (fun k e hlt=>(heap_alloc_old w4 _ (Nat.lt_of_lt_of_le hlt HG4.out.size)).trans (HG4.out.block k hlt (by simp)))) ⟨w4.heap.size,0,none⟩ 1 1 [.int .i64 (i:Int),.slice (some ⟨g4,0,none⟩) 64 cap4] (by simp [Act.eval]) rfl (World.news_of_block (heap_alloc_new w4 _)) (by intro u hu;rcases List.mem_cons.1 hu with rfl | hu;(· rfl);(· rw [List.mem_singleton.1 hu];rfl)) (by decide) (by unfold maxLen;omega) (by omega) (Nat.zero_le _) (w4.heap.size+1) (by simp) ?_;intro gm cap5 w5 hown5 hgr5 hat5 hlt5
   obtain ⟨D1,D2,c15,f15⟩:=ref_wrote H.out HG4.out HL.out HO4.out HA4.out HLT4.out h0 hgr5 hown5 hat5 hlt5
   have HD1:=Lib.hid D1
   have HD2:=Lib.hid D2
   clear D1 D2 hown5 hgr5 hat5 hlt5))
 all_goals go_wp2_with (go_at_call 163;refine (did_any _ r _ _ _ _ _ _ _ _ HD1.out HON.out hcl hlf).mono ?_;rintro e w7 ⟨rfl,⟨a7,l7,h7⟩,hs7⟩)
 all_goals go_ret
 all_goals exact ⟨rfl,_,⟨_,_,_,_,_,_,h7⟩,HD2.out.trans hs7 (fun k hk=>hk.elim .inl (fun h=> .inr h.1)),fun k hk=>hk.elim .inl (fun h=> .inr h.1)⟩
theorem refWrite_all (w:World) (r:Nat) (G:Nat->Prop) (s:Dsk) (i:Int) (A:Option Addr) (l:List UInt8) (n c:Nat) (h:RefAt w r G s) (hl:l.length=n) (hn:n<=9223372036854775807) (hs:Seen w A l) (hf:s.Few 1000000):
 Calls Tryz.prog 140 #[.pointer (some ⟨r,0,none⟩),.int .i64 i,.slice A n c] w fun e w'=>e= .returned (.int .i64 (s.werr i n))/\RMoved w r G (s.wput i l) w':=by
 by_cases h0:(0<=i/\i<s.K.length)/\n=64
 · obtain ⟨h0,rfl⟩:=h0
   obtain ⟨k,rfl⟩:∃ k:Nat,i=(k:Int):=⟨i.toNat,by omega⟩
   by_cases ho:s.off=true
   · have e1:s.werr k 64=5:=by unfold Dsk.werr;rw [if_pos ⟨h0,rfl⟩,if_pos ho]
     have e2:s.wput k l=s:=by unfold Dsk.wput;rw [hl,e1];rfl
     rw [e1,e2]
     refine (refWrite_off w r G s k A c h (by omega) ho).mono ?_
     rintro e w' ⟨rfl,rfl⟩
     exact ⟨rfl,.still h (Below.refl _ _)⟩
   · have ho':s.off=false:=by cases hs:s.off<;>simp_all
     have e1:s.werr k 64=0:=by unfold Dsk.werr;rw [if_pos ⟨h0,rfl⟩,if_neg ho]
     have e2:s.wput k l=s.write k l:=by unfold Dsk.wput;rw [hl,e1];rfl
     rw [e1,e2]
     exact refWrite_ok w r G s k A l c h (by omega) ho' hl hs (by have:=hf.1;omega) hf.2.2 hf.2.1
 · have e1:s.werr i n=1:=by unfold Dsk.werr;rw [if_neg h0]
   have e2:s.wput i l=s:=by unfold Dsk.wput;rw [hl,e1];rfl
   rw [e1,e2]
   refine (refWrite_arg w r G s i A n c h hn h0).mono ?_
   rintro e w' ⟨rfl,rfl⟩
   exact ⟨rfl,.still h (Below.refl _ _)⟩
set_option maxRecDepth 100000 in
set_option maxHeartbeats 1000000 in
theorem refSync_any (w:World) (r:Nat) (G:Nat->Prop) (s:Dsk) (h:RefAt w r G s) (hcl:s.calls+1<9223372036854775808) (hlf:s.left<9223372036854775808) (hon:s.off=false):
 Calls Tryz.prog 141 #[.pointer (some ⟨r,0,none⟩)] w fun e w'=>e= .returned (.int .i64 0)/\RMoved w r G s.sync w':=by
 obtain ⟨vK,vM,PK,PM,armed,left,h⟩:=h
 obtain ⟨⟨A,c,rfl,hcm⟩,⟨A',c',rfl,hcm'⟩⟩:=h.forms
 have hM:s.M.length<=9223372036854775807:=by unfold maxLen at hcm';omega
 have hK4:=h.hi
 have HPM:=Lib.hid h.len.2.2.2
 obtain ⟨c0,c1,c2,_⟩:=h.cells
 rw [hon] at c2
 have HON:=Lib.hid hon
 have H:=Lib.hid h
 clear h hcm hcm' hon
 go_enter Tryz.func141,Tryz.ntmps141
 go_wp2
 go_loopw [3] (fun a wr=>∃ k:Nat,a= .int .i64 k/\k<=s.M.length/\(∃ PKk,RefIn wr r (.slice A s.K.length c) (.slice A' s.M.length c') PKk PM armed left G { s with K:=kept (fun _=>true) s.M s.K k })/\Spared w wr G) (fun a _=>s.M.length-(intOf a).toNat)
 case atStart=>exact ⟨0,rfl,Nat.zero_le _,⟨PK,H.out⟩,.refl _ _⟩
 case round=>
  obtain ⟨k,rfl,hk,⟨PKk,hr⟩,hsp⟩:=hrel
  have HR:=Lib.hid hr
  have HS:=Lib.hid hsp
  clear hr hsp c0 c1 c2
  obtain ⟨c0,c1,_⟩:=HR.out.cells
  by_cases hlt:k<s.M.length
  · have hkl:(k:Int)<(s.M.length:Int):=by omega
    have hkP:k<PM.length:=by rw [HPM.out];exact hlt
    obtain ⟨mb,cm,hv,d0,d1⟩:=HR.out.mcell k hkP
    injection hv with hv _ _
    subst hv
    have hq:=HR.out.pM _ (List.getElem_mem hkP)
    have he:s.M[k]=(PM[k].1,PM[k].2.2.1):=by have:=H.out.eqM;simp only [<-this,List.getElem_map]
    have hnum:PM[k].1<s.K.length:=by have:=H.out.num _ (List.getElem_mem hlt);rw [he] at this;exact this
    have HST:=Lib.hid (kept_step (pick:=fun _=>true) (K:=s.K) hlt)
    have HE:=Lib.hid he
    have hnP:PM[k].1<PKk.length:=by rw [HR.out.len.2.2.1];show _<(kept _ _ _ _).length;rw [kept_length];exact hnum
    obtain ⟨kb,ck,hv,e0,e1⟩:=HR.out.kcell PM[k].1 hnP
    have hv':=hv
    injection hv with hv _ _
    subst hv
    obtain ⟨hsw,_⟩:=HR.out.swap PM[k].1 hnP PM[k].2 hq kb ck hv'
    have hspw:=HS.out.setCell (g:=kb) (HR.out.gK kb rfl).1 PM[k].1 (pv PM[k].2)
    rw [pv_slice _ hq.1] at d1 hsw hspw
    have HSW:=Lib.hid hsw
    have HSPW:=Lib.hid hspw
    have HSTE:Hid ((kept (fun _=>true) s.M s.K k).set PM[k].1 PM[k].2.2.1=kept (fun _=>true) s.M s.K (k+1)):=by show _=_;rw [HST.out,HE.out];rfl
    generalize pv PKk[PM[k].1]=oldv at e0
    have hml:(PM[k].1:Int)<(PKk.length:Int):=by omega
    clear he hq hsw hspw hv' hnP
    clear HST HE
    generalize PM[k]=pq at *
    clear hkP
    obtain ⟨m,aq,xq,cq⟩:=pq
    go_wp2
    go_still_tail 21,(by kernel_rfl)
    change wpList _ _ _ _ _ wr.drew
    go_wp2
    go_roundw
    case rel=>exact ⟨k+1,by go_num,by omega,⟨_,by rw [<-HSTE.out];exact HSW.out.still (Below.refl _ _).drew⟩,HSPW.out.drew⟩
    case measure=>simp [intOf];omega
  · obtain rfl:k=s.M.length:=by omega
    have f1:=HR.out.blk.free 1
    have hbk:=HR.out.blk.set 1 (.slice none 0 0)
    have HP:=Lib.hid (HR.out.recell (s':= { s with K:=kept (fun _=>true) s.M s.K s.M.length,M:=[] }) (armed':=armed) (left':=left) (vM':= .slice none 0 0) (PM':=[]) hbk (spare1 wr r 1 _) rfl (.inr ⟨rfl,rfl,rfl⟩) HR.out.arm)
    have HSP:=Lib.hid (HS.out.setCell HR.out.gr 1 (.slice none 0 0))
    clear hbk
    go_wp2_with (go_at_call 163;refine (did_any _ r _ _ _ _ _ _ _ _ HP.out HON.out hcl hlf).mono ?_;rintro e w4 ⟨rfl,⟨a4,l4,h4⟩,hs4⟩)
    go_ret
    exact ⟨rfl,G,⟨_,_,_,_,_,_,h4⟩,HSP.out.trans hs4 (fun _ h=> .inl h),fun _ h=> .inl h⟩
theorem refSync_all (w:World) (r:Nat) (G:Nat->Prop) (s:Dsk) (h:RefAt w r G s) (hf:s.Few 1000000):
 Calls Tryz.prog 141 #[.pointer (some ⟨r,0,none⟩)] w fun e w'=>e= .returned (.int .i64 (if s.off then 5 else 0))/\RMoved w r G s.sput w':=by
 unfold Dsk.sput
 by_cases ho:s.off=true
 · rw [if_pos ho,if_pos ho]
   have hat:=h
   obtain ⟨vK,vM,PK,PM,armed,left,h⟩:=h
   obtain ⟨_,_,c2,_⟩:=h.cells
   rw [ho] at c2
   have HAT:=Lib.hid hat
   clear h hat ho hf
   go_enter Tryz.func141,Tryz.ntmps141
   go_wp2
   go_ret
   exact ⟨rfl,.still HAT.out (Below.refl _ _)⟩
 · rw [if_neg ho,if_neg ho]
   exact refSync_any w r G s h (by have:=hf.1;omega) hf.2.2 (by cases hs:s.off<;>simp_all)
theorem kept_none {pick:Nat->Bool} (h:∀ k,pick k=false) (M:List (Nat × List UInt8)) (K:List (List UInt8)):∀ n,kept pick M K n=K
 | 0=>rfl
 | n+1=>by
  have ih:=kept_none h M K n
  simp only [kept,h n]
  split
  · exact ih
  · exact ih
set_option maxRecDepth 100000 in
set_option maxHeartbeats 1000000 in
theorem refCrash_any (w:World) (r:Nat) (G:Nat->Prop) (s:Dsk) (h:RefAt w r G s) (B:Option Addr) (l:List Int) (cl:Nat) (hl:IntsAway w G B l) (hb:∀ x ∈ l, -9223372036854775808<=x/\x<=9223372036854775807) (hll:l.length<=9223372036854775807):
 Calls Tryz.prog 20 #[.pointer (some ⟨r,0,none⟩),.slice B l.length cl] w fun e w'=>e= .returned (.tuple #[])/\RMoved w r G (s.crash (pickOf l)) w':=by
 obtain ⟨vK,vM,PK,PM,armed,left,h⟩:=h
 obtain ⟨⟨A,c,rfl,hcm⟩,⟨A',c',rfl,hcm'⟩⟩:=h.forms
 have hM:s.M.length<=9223372036854775807:=by unfold maxLen at hcm';omega
 have hK4:=h.hi
 have HPM:=Lib.hid h.len.2.2.2
 have H:=Lib.hid h
 have HI:=Lib.hid hl
 have HBD:=Lib.hid hb
 clear h hcm hcm' hl hb
 go_enter Tryz.func20,Tryz.ntmps20
 go_wp2
 go_loopw [4] (fun a wr=>∃ k:Nat,a= .int .i64 k/\k<=s.M.length/\(∃ PKk,RefIn wr r (.slice A s.K.length c) (.slice A' s.M.length c') PKk PM armed left G { s with K:=kept (pickOf l) s.M s.K k })/\Spared w wr G) (fun a _=>s.M.length-(intOf a).toNat)
 case atStart=>exact ⟨0,rfl,Nat.zero_le _,⟨PK,H.out⟩,.refl _ _⟩
 case round=>
  obtain ⟨k,rfl,hk,⟨PKk,hr⟩,hsp⟩:=hrel
  have HR:=Lib.hid hr
  have HS:=Lib.hid hsp
  clear hr hsp
  obtain ⟨c0,c1,_⟩:=HR.out.cells
  by_cases hlt:k<s.M.length
  · have hkl:(k:Int)<(s.M.length:Int):=by omega
    by_cases h0:0<l.length
    · have hlp:(0:Int)<(l.length:Int):=by omega
      have hj:k%l.length<l.length:=Nat.mod_lt _ h0
      have HI2:=HI.out.moved (G:=G) HS.out (fun _ h=> .inl h)
      obtain ⟨bb,off,rfl,hcc⟩:=HI2.at_ (k%l.length) hj
      have hbd:=HBD.out _ (List.getElem_mem hj)
      have hpk:pickOf l k=decide (l[k%l.length].tmod 2≠0):=by
       unfold pickOf
       rw [List.getD_eq_getElem?_getD,List.getElem?_eq_getElem hj]
       simp [h0]
      clear HI2
      generalize l[k%l.length]=y at *
      have e1:Int.tmod (k:Int) (l.length:Int)=((k%l.length:Nat):Int):=by rw [Int.tmod_eq_emod_of_nonneg (by omega)];rfl
      generalize k%l.length=mm at *
      have HST:=Lib.hid (kept_step (pick:=pickOf l) (K:=s.K) hlt)
      have HPK:=Lib.hid hpk
      clear hpk
      by_cases hy:y.tmod 2=0
      · have hpk':pickOf l k=false:=by rw [HPK.out];simpa using hy
        have HK1:Hid (kept (pickOf l) s.M s.K (k+1)=kept (pickOf l) s.M s.K k):=by show _=_;rw [HST.out,if_neg (by rw [hpk'];decide)]
        clear hpk' HPK HST
        go_wp2
        go_roundw
        case rel=>exact ⟨k+1,by go_num,by omega,⟨PKk,by rw [HK1.out];exact HR.out⟩,HS.out⟩
        case measure=>simp [intOf];omega
      · have hpk':pickOf l k=true:=by rw [HPK.out];simpa using hy
        have hkP:k<PM.length:=by rw [HPM.out];exact hlt
        obtain ⟨mb,cm,hv,d0,d1⟩:=HR.out.mcell k hkP
        injection hv with hv _ _
        subst hv
        have hq:=HR.out.pM _ (List.getElem_mem hkP)
        have he:s.M[k]=(PM[k].1,PM[k].2.2.1):=by have:=H.out.eqM;simp only [<-this,List.getElem_map]
        have hnum:PM[k].1<s.K.length:=by have:=H.out.num _ (List.getElem_mem hlt);rw [he] at this;exact this
        have hnP:PM[k].1<PKk.length:=by rw [HR.out.len.2.2.1];show _<(kept _ _ _ _).length;rw [kept_length];exact hnum
        obtain ⟨kb,ck,hv,e0,e2⟩:=HR.out.kcell PM[k].1 hnP
        have hv':=hv
        injection hv with hv _ _
        subst hv
        obtain ⟨hsw,_⟩:=HR.out.swap PM[k].1 hnP PM[k].2 hq kb ck hv'
        have hspw:=HS.out.setCell (g:=kb) (HR.out.gK kb rfl).1 PM[k].1 (pv PM[k].2)
        rw [pv_slice _ hq.1] at d1 hsw hspw
        have HSW:=Lib.hid hsw
        have HSPW:=Lib.hid hspw
        have HSTE:Hid ((kept (pickOf l) s.M s.K k).set PM[k].1 PM[k].2.2.1=kept (pickOf l) s.M s.K (k+1)):=by show _=_;rw [HST.out,if_pos hpk',he]
        generalize pv PKk[PM[k].1]=oldv at e0
        have hml:(PM[k].1:Int)<(PKk.length:Int):=by omega
        clear he hq hsw hspw hv' hnP HPK HST hpk'
        generalize PM[k]=pq at *
        clear hkP
        obtain ⟨m,aq,xq,cq⟩:=pq
        go_wp2
        go_still_tail 21,(by kernel_rfl)
        change wpList _ _ _ _ _ wr.drew
        go_wp2
        go_roundw
        case rel=>exact ⟨k+1,by go_num,by omega,⟨_,by rw [<-HSTE.out];exact HSW.out.still (Below.refl _ _).drew⟩,HSPW.out.drew⟩
        case measure=>simp [intOf];omega
    · have hl0:l.length=0:=by omega
      have hnone:∀ k,pickOf l k=false:=fun k=>by simp [pickOf,h0]
      have HKE:Hid (kept (pickOf l) s.M s.K k=kept (pickOf l) s.M s.K s.M.length):=by show _=_;rw [kept_none hnone,kept_none hnone]
      rw [hl0]
      clear hll h0 hnone
      have f1:=HR.out.blk.free 1
      have f2:=HR.out.blk.free 2
      have f3:=HR.out.blk.free 3
      obtain ⟨_,_,c2,c3,_⟩:=HR.out.cells
      have hbk:=((HR.out.blk.set 1 (.slice none 0 0)).set 2 (.bool false)).set 3 (.bool false)
      have HP:=Lib.hid (HR.out.recell (s':=s.crash (pickOf l)) (armed':=false) (left':=left) (vM':= .slice none 0 0) (PM':=[]) hbk (((spare1 wr r 1 _).setCell rfl 2 _).setCell rfl 3 _) HKE.out.symm (.inr ⟨rfl,rfl,rfl⟩) (fun _=>⟨rfl,fun h=>absurd h (by show ¬ 0<0;decide)⟩))
      have HSP:=Lib.hid (((HS.out.setCell HR.out.gr 1 (.slice none 0 0)).setCell HR.out.gr 2 (.bool false)).setCell HR.out.gr 3 (.bool false))
      clear hbk
      go_wp2
      go_end0
      exact ⟨rfl,G,⟨_,_,_,_,_,_,HP.out⟩,HSP.out,fun _ h=> .inl h⟩
  · obtain rfl:k=s.M.length:=by omega
    have HKE:Hid (kept (pickOf l) s.M s.K s.M.length=kept (pickOf l) s.M s.K s.M.length):=rfl
    have f1:=HR.out.blk.free 1
    have f2:=HR.out.blk.free 2
    have f3:=HR.out.blk.free 3
    obtain ⟨_,_,c2,c3,_⟩:=HR.out.cells
    have hbk:=((HR.out.blk.set 1 (.slice none 0 0)).set 2 (.bool false)).set 3 (.bool false)
    have HP:=Lib.hid (HR.out.recell (s':=s.crash (pickOf l)) (armed':=false) (left':=left) (vM':= .slice none 0 0) (PM':=[]) hbk (((spare1 wr r 1 _).setCell rfl 2 _).setCell rfl 3 _) HKE.out.symm (.inr ⟨rfl,rfl,rfl⟩) (fun _=>⟨rfl,fun h=>absurd h (by show ¬ 0<0;decide)⟩))
    have HSP:=Lib.hid (((HS.out.setCell HR.out.gr 1 (.slice none 0 0)).setCell HR.out.gr 2 (.bool false)).setCell HR.out.gr 3 (.bool false))
    clear hbk
    go_wp2
    go_end0
    exact ⟨rfl,G,⟨_,_,_,_,_,_,HP.out⟩,HSP.out,fun _ h=> .inl h⟩
theorem assert_none (w:World):(Instr.typeAssert Value.nilIface 20 27 true).run Tryz.prog w= .ok (.tuple #[.int .i64 0,.bool false]) w:=by kernel_rfl
theorem assert_errno (w:World):(Instr.typeAssert (.iface 27 (.int .i64 3)) 20 27 true).run Tryz.prog w= .ok (.tuple #[.int .i64 3,.bool true]) w:=by kernel_rfl
set_option maxHeartbeats 400000 in
theorem decodeCatch_idle (p q:Addr) (w:World):
 CallsD Tryz.prog 133 #[.pointer (some p),.pointer (some q)] .returning w fun e u' w'=>e= .returned (.tuple #[])/\u'= .returning/\w'=w:=by
 refine callsD_of_wpS Tryz.func133 rfl fun c₀ cs hu=> ?_
 have hta:=assert_none
 apply wpS_seq
 apply wpS_region
 simp [wpOpsS,go_sem,recoverD,hu,Tryz.ntmps133,Exit.thenS,hta]
 apply wpS_seq
 apply wpS_region
 simp [wpOpsS,go_sem,Exit.thenS]
 refine wpS_cond (t:=false) (by simp [Act.eval,Array.replicate]) ?_
 simp only [Bool.false_eq_true,if_false]
 refine wpS_of_wp (wp_skip ?_)
 cases c₀
 simp_all [bodyPostS,results,Tryz.results133]
theorem zeroFrame (w:World):(zeroValue 134).run Tryz.prog w= .ok (.agg #[.int .i64 0,.int .i64 0,.slice none 0 0]) w:=by kernel_rfl
set_option maxHeartbeats 800000 in
theorem decodeCatch_wrong (g h:Nat) (older:List PanicEntry) (w:World) (x y z:Value) (e0:Int) (hc0:w.cell? ⟨g,0,none⟩=some x) (hc1:w.cell? ⟨g,1,none⟩=some y) (hc2:w.cell? ⟨g,2,none⟩=some z) (hz0:w.frozen? ⟨g,0,none⟩=false) (hz1:w.frozen? ⟨g,1,none⟩=false) (hz2:w.frozen? ⟨g,2,none⟩=false)
 (hc':w.cell? ⟨h,0,none⟩=some (.int .i64 e0)) (hz':w.frozen? ⟨h,0,none⟩=false) (hne: ¬ h=g):
 CallsD Tryz.prog 133 #[.pointer (some ⟨g,0,none⟩),.pointer (some ⟨h,0,none⟩)] (.panicking ({ v:= .iface 27 (.int .i64 3),recovered:=false }::older)) w fun e u' w'=>
  e= .returned (.tuple #[])/\u'= .panicking ({ v:= .iface 27 (.int .i64 3),recovered:=true }::older)/\w'=(((w.setCell ⟨g,0,none⟩ (.int .i64 0)).setCell ⟨g,1,none⟩ (.int .i64 0)).setCell ⟨g,2,none⟩ (.slice none 0 0)).setCell ⟨h,0,none⟩ (.int .i64 0):=by
 refine callsD_of_wpS Tryz.func133 rfl fun c₀ cs hu=> ?_
 have hta:=assert_errno
 have hzf:=zeroFrame
 apply wpS_seq
 apply wpS_region
 simp [wpOpsS,go_sem,recoverD,hu,Tryz.ntmps133,Exit.thenS,hta]
 apply wpS_seq
 apply wpS_region
 simp [wpOpsS,go_sem,Exit.thenS]
 refine wpS_cond (t:=true) (by simp [Act.eval,Array.replicate]) ?_
 simp only [if_true]
 apply wpS_region
 simp [wpOpsS,go_sem,hzf,hc0,hc1,hc2,hz0,hz1,hz2,hc',hz',bodyPostS,results,Tryz.results133]
end Go.Proofs.YtdaahapbpnjkfaaGreat
