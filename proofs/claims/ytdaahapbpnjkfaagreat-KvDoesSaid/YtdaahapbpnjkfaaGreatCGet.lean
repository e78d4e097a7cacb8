/-
What Get, the program's and the document's, comes to: one Lean function of the bytes. No conditions beyond how the bytes lie in memory.
-/
import Derived.WalkKit
import Derived.Below
import Derived.Deep.OwnRows
import Derived.Deep.Draws
import Derived.Lib.Hide
import Derived.Laws.IdiomStrings
import Derived.Laws.BytesArg
import Derived.Test.YtdaahapbpnjkfaaGreatChecked
namespace Go.Proofs.YtdaahapbpnjkfaaGreat
open Go.RowKit
def bv (c:UInt8):Value:= .int .u8 (c.toNat:Int)
def Seen (w:World) (A:Option Addr) (l:List UInt8):Prop:=
 l=[]\/∃ b off,A=some ⟨b,off,none⟩/\b<w.heap.size/\∀ j (h:j<l.length),w.cell? ⟨b,off+j,none⟩=some (.int .u8 (l[j].toNat:Int))
section
variable {w w':World} {A:Option Addr} {l:List UInt8}
theorem Seen.at_ (h:Seen w A l) {k:Nat} (hk:k<l.length):
 ∃ b off,A=some ⟨b,off,none⟩/\b<w.heap.size/\w.cell? ⟨b,off+k,none⟩=some (.int .u8 (l[k].toNat:Int)):=by
 rcases h with rfl | ⟨b,off,rfl,hb,hc⟩
 · simp at hk
 · exact ⟨b,off,rfl,hb,hc k hk⟩
theorem Seen.keep (h:Seen w A l) (hs:w.heap.size<=w'.heap.size) (hk:∀ b o,b<w.heap.size->w'.cell? ⟨b,o,none⟩=w.cell? ⟨b,o,none⟩):Seen w' A l:=by
 rcases h with rfl | ⟨b,off,rfl,hb,hc⟩
 · exact .inl rfl
 · exact .inr ⟨b,off,rfl,by omega,fun j hj=>(hk _ _ hb).trans (hc j hj)⟩
theorem Seen.below (h:Seen w A l) (hb:Below w.heap.size w w'):Seen w' A l:=
 h.keep hb.size fun b o hlt=>hb.cell (p:=⟨b,o,none⟩) hlt
theorem Seen.alloc (h:Seen w A l) (o:Obj):Seen (w.alloc o) A l:=
 h.below ((Below.refl _ _).alloc (Nat.le_refl _) o)
theorem add_plain (g o j:Nat):(⟨g,o,none⟩:Addr).add j=⟨g,o+j,none⟩:=by
 unfold Addr.add;split<;>simp_all
theorem Seen.of_own {base n c:Nat} {e:TypeId} (h:w.ownsRow base e 1 (.slice A n c) n (l.map bv)):Seen w A l/\n=l.length:=by
 have hl:n=l.length:=by have:=h.1;simp at this;omega
 refine ⟨?_,hl⟩
 rcases Nat.eq_zero_or_pos n with h0 | h0
 · left;exact List.eq_nil_of_length_eq_zero (by omega)
 · rcases h.2 with ⟨_,hn⟩ | ⟨g,cap,cur,hv,hb,hg,_⟩
   · omega
   · injection hv with hA
     subst hA
     have hlt:g<w.heap.size:=by
      rcases Nat.lt_or_ge g w.heap.size with hlt | hge
      · exact hlt
      · rw [Array.getElem?_eq_none hge] at hg;cases hg
     refine .inr ⟨g,0,rfl,hlt,fun j hj=> ?_⟩
     have:=h.cells (g:=g) rfl j (bv l[j]) (by simp [hj])
     rw [add_plain] at this
     exact this
theorem Seen.of_row {b n:Nat} {t:TypeId} {f:Nat->Value} (h:w.rowIs b t n f) (hn:l.length<=n) (hf:∀ i (hi:i<l.length),f i= .int .u8 (l[i].toNat:Int)):Seen w (some ⟨b,0,none⟩) l:=
 .inr ⟨b,0,rfl,h.lt,fun j hj=>by rw [Nat.zero_add,h.cell (by omega),hf j hj]⟩
theorem Seen.text {P:Program} (h:Seen w A l) (src dst e:TypeId) (hs:P.underlying src=some (.slice e)) (he:P.underlying e=some (.int .u8)) (hd:P.underlying dst=some .string) (c:Nat):
 (convert src dst (.slice A l.length c)).run P w= .ok (.string ⟨l.toArray⟩) w:=by
 rcases h with rfl | ⟨b,off,rfl,_,hc⟩
 · rcases A with _ | a
   · rw [run_convert_bytes_nil w src e hs he _ _ dst hd];rfl
   · exact run_convert_bytes_back w src dst e a c [] hs he hd (fun j hj=>by simp at hj)
 · exact run_convert_bytes_back w src dst e _ c l hs he hd (fun j hj=>by rw [add_plain];exact hc j hj)
end
theorem hop {a b c:World} (h:Below a.heap.size a b) (k:Below b.heap.size b c):Below a.heap.size a c:=
 h.trans (k.mono h.size)
theorem below_drewN {B:Nat} {a w:World} (h:Below B a w) (n:Nat):Below B a (w.drewN n):=⟨h.os,h.tape,h.output,h.size,h.block⟩
theorem undrew {a w:World} (h:Below a.drew.heap.size a.drew w):Below a.heap.size a w:=⟨h.os,h.tape,h.output,h.size,h.block⟩
theorem ret_int {k:IntKind} {a b:Int} (h:a=b):Ending.returned (.int k a)= .returned (.int k b):=by rw [h]
def crcStep (x:Nat):Nat:=if x%2=1 then (x/2) ^^^ 3988292384 else x/2
def crcK (x:Nat):Nat->Nat
 | 0=>x
 | k+1=>crcStep (crcK x k)
def crcL:List UInt8->Nat->Nat
 | [],x=>x
 | c::r,x=>crcL r (crcK (x ^^^ c.toNat) 8)
def crcOf (l:List UInt8):Nat:=crcL l 4294967295 ^^^ 4294967295
theorem crcStep_lt {x:Nat} (h:x<4294967296):crcStep x<4294967296:=by
 unfold crcStep
 split
 · exact Nat.xor_lt_two_pow (n:=32) (by omega) (by omega)
 · omega
theorem crcK_lt {x:Nat} (h:x<4294967296):∀ k,crcK x k<4294967296
 | 0=>h
 | k+1=>crcStep_lt (crcK_lt h k)
theorem crcL_snoc (l:List UInt8) (c:UInt8):∀ x,crcL (l++[c]) x=crcK (crcL l x ^^^ c.toNat) 8:=by
 induction l with
 | nil=>intro x;rfl
 | cons d r ih=>intro x;simp only [List.cons_append,crcL];exact ih _
theorem xor_byte_lt {x:Nat} (h:x<4294967296) (c:UInt8):x ^^^ c.toNat<4294967296:=
 Nat.xor_lt_two_pow (n:=32) (by omega) (by have:=c.toNat_lt;omega)
theorem crcL_lt (l:List UInt8):∀ x,x<4294967296->crcL l x<4294967296:=by
 induction l with
 | nil=>intro x h;exact h
 | cons d r ih=>intro x h;exact ih _ (crcK_lt (xor_byte_lt h d) 8)
theorem take_more (l:List UInt8) (k:Nat) (h:k<l.length):l.take (k+1)=l.take k++[l[k]]:=by
 rw [List.take_succ_eq_append_getElem h]
set_option maxHeartbeats 400000 in
theorem crcByte_any (x:Nat) (hx:x<4294967296) (w:World):
 Calls Tryz.prog 142 #[.int .u32 (x:Int)] w fun e w'=>
  e= .returned (.int .u32 (crcK x 8:Nat))/\w=w':=by
 go_enter Tryz.func142,Tryz.ntmps142
 go_wp2
 go_loop [0,4] (fun s i=>∃ k y:Nat,k<=8/\i= .int .i64 k/\y<4294967296/\s= .int .u32 y/\Hid (y=crcK x k)) (fun _ i=>8-(intOf i).toNat)
 case atStart=>exact ⟨0,x,by omega,rfl,hx,rfl,rfl⟩
 case round=>
  obtain ⟨k,y,hk,rfl,hy,rfl,H⟩:=hrel
  have hn:Hid (crcK x (k+1)=crcStep y):=by show crcStep (crcK x k)=_;rw [H.out]
  by_cases hlt:k<8
  · have e1:bits .and .u32 (y:Int) 1=((y%2:Nat):Int):=by
     rw [show (1:Int)=((1:Nat):Int) from rfl,u32_and_nat y 1 hy (by omega),nat_mask1]
    have e2:bits .xor .u32 ((y:Int)/2) 3988292384=(((y/2) ^^^ 3988292384:Nat):Int):=by
     rw [show (3988292384:Int)=((3988292384:Nat):Int) from rfl,show (y:Int)/2=((y/2:Nat):Int) from by omega,u32_xor_nat (y/2) 3988292384 (by omega) (by omega)]
    by_cases ho:y%2=1
    · have t1:(((y%2:Nat):Int)==1)=true:=by rw [ho];rfl
      go_wp2
      go_round
      case rel=>exact ⟨k+1,crcStep y,by omega,by go_num,crcStep_lt hy,by rw [crcStep,if_pos ho],hn.out.symm⟩
      case measure=>simp [intOf];omega
    · have t1:(((y%2:Nat):Int)==1)=false:=by rw [show y%2=0 by omega];rfl
      go_wp2
      go_round
      case rel=>exact ⟨k+1,crcStep y,by omega,by go_num,crcStep_lt hy,by rw [crcStep,if_neg ho];go_num,hn.out.symm⟩
      case measure=>simp [intOf];omega
  · go_wp2
    go_ret
    exact ⟨ret_int (by rw [H.out,show k=8 by omega]),rfl⟩
set_option maxHeartbeats 400000 in
theorem crc_any (A:Option Addr) (l:List UInt8) (c:Nat) (w:World) (hl:l.length<=9223372036854775807) (hs:Seen w A l):
 Calls Tryz.prog 118 #[.slice A l.length c] w fun e w'=>
  e= .returned (.int .u32 (crcOf l:Nat))/\w=w':=by
 have HS:=Lib.hid hs
 clear hs
 go_enter Tryz.func118,Tryz.ntmps118
 go_wp2
 go_loop [3,8] (fun s i=>∃ k y:Nat,k<=l.length/\i= .int .i64 k/\y<4294967296/\s= .int .u32 y/\Hid (y=crcL (l.take k) 4294967295)) (fun _ i=>l.length-(intOf i).toNat)
 case atStart=>exact ⟨0,4294967295,by omega,rfl,by omega,rfl,rfl⟩
 case round=>
  obtain ⟨k,y,hk,rfl,hy,rfl,H⟩:=hrel
  by_cases hlt:k<l.length
  · obtain ⟨b,off,rfl,hb,hc⟩:=HS.out.at_ hlt
    have hn:Hid (crcL (l.take (k+1)) 4294967295=crcK (y ^^^ l[k].toNat) 8):=by
     rw [take_more l k hlt];show _=_;rw [crcL_snoc,H.out]
    have hx:=xor_byte_lt hy l[k]
    have h8:=l[k].toNat_lt
    generalize l[k].toNat=x at *
    have e2:bits .xor .u32 (y:Int) (x:Int)=((y ^^^ x:Nat):Int):=u32_xor_nat y x hy (by omega)
    go_wp2_with fail
    refine (crcByte_any (y ^^^ x) hx _).mono ?_
    rintro e w' ⟨rfl,rfl⟩
    go_wp2_with fail
    go_round
    case rel=>exact ⟨k+1,_,by omega,by go_num,crcK_lt hx 8,rfl,hn.out.symm⟩
    case measure=>simp [intOf];omega
  · have hk':l.take k=l:=List.take_of_length_le (by omega)
    have hn:Hid (bits .xor .u32 IntKind.u32.max (y:Int)=((crcOf l:Nat):Int)):=by
     show _=_
     rw [show IntKind.u32.max=((4294967295:Nat):Int) from by decide,u32_xor_nat 4294967295 y (by omega) hy,crcOf,Nat.xor_comm,H.out,hk']
    clear hk'
    go_wp2_with fail
    go_ret
    exact ⟨ret_int hn.out,rfl⟩
set_option maxHeartbeats 400000 in
theorem refCrc_any (A:Option Addr) (l:List UInt8) (c:Nat) (w:World) (hl:l.length<=9223372036854775807) (hs:Seen w A l):
 Calls Tryz.prog 138 #[.slice A l.length c] w fun e w'=>
  e= .returned (.int .u32 (crcOf l:Nat))/\w=w':=by
 have HS:=Lib.hid hs
 clear hs
 go_enter Tryz.func138,Tryz.ntmps138
 go_wp2
 go_loop [3,4] (fun s i=>∃ k y:Nat,k<=l.length/\i= .int .i64 k/\y<4294967296/\s= .int .u32 y/\Hid (y=crcL (l.take k) 4294967295)) (fun _ i=>l.length-(intOf i).toNat)
 case atStart=>exact ⟨0,4294967295,by omega,rfl,by omega,rfl,rfl⟩
 case round=>
  obtain ⟨k,y,hk,rfl,hy,rfl,H⟩:=hrel
  by_cases hlt:k<l.length
  · obtain ⟨b,off,rfl,hb,hc⟩:=HS.out.at_ hlt
    have hn:Hid (crcL (l.take (k+1)) 4294967295=crcK (y ^^^ l[k].toNat) 8):=by
     rw [take_more l k hlt];show _=_;rw [crcL_snoc,H.out]
    have hx:=xor_byte_lt hy l[k]
    have h8:=l[k].toNat_lt
    generalize l[k].toNat=x at *
    have e2:bits .xor .u32 (y:Int) (x:Int)=((y ^^^ x:Nat):Int):=u32_xor_nat y x hy (by omega)
    generalize y ^^^ x=z at *
    go_wp2_with fail
    go_loop [3,5] (fun s i=>∃ j y:Nat,j<=8/\i= .int .i64 j/\y<4294967296/\s= .int .u32 y/\Hid (y=crcK z j)) (fun _ i=>8-(intOf i).toNat)
    case atStart=>exact ⟨0,z,by omega,rfl,hx,rfl,rfl⟩
    case round=>
     obtain ⟨j,u,hj,rfl,hu,rfl,H2⟩:=hrel
     have hn2:Hid (crcK z (j+1)=crcStep u):=by show crcStep (crcK z j)=_;rw [H2.out]
     by_cases hlt2:j<8
     · have e3:bits .xor .u32 ((u:Int)/2) 3988292384=(((u/2) ^^^ 3988292384:Nat):Int):=by
        rw [show (3988292384:Int)=((3988292384:Nat):Int) from rfl,show (u:Int)/2=((u/2:Nat):Int) from by omega,u32_xor_nat (u/2) 3988292384 (by omega) (by omega)]
       by_cases ho:u%2=1
       · have t1:((u:Int)%2==1)=true:=by simp;omega
         go_wp2_with fail
         go_round
         case rel=>exact ⟨j+1,crcStep u,by omega,by go_num,crcStep_lt hu,by rw [crcStep,if_pos ho],hn2.out.symm⟩
         case measure=>simp [intOf];omega
       · have t1:((u:Int)%2==1)=false:=by simp;omega
         go_wp2_with fail
         go_round
         case rel=>exact ⟨j+1,crcStep u,by omega,by go_num,crcStep_lt hu,by rw [crcStep,if_neg ho];go_num,hn2.out.symm⟩
         case measure=>simp [intOf];omega
     · have hn3:Hid (crcL (l.take (k+1)) 4294967295=u):=by show _=_;rw [hn.out,H2.out,show j=8 by omega]
       go_wp2_with fail
       go_round
       case rel=>exact ⟨k+1,_,by omega,by go_num,hu,rfl,hn3.out.symm⟩
       case measure=>simp [intOf];omega
  · have hk':l.take k=l:=List.take_of_length_le (by omega)
    have hn:Hid (bits .xor .u32 (y:Int) 4294967295=((crcOf l:Nat):Int)):=by
     show _=_
     rw [show (4294967295:Int)=((4294967295:Nat):Int) from rfl,u32_xor_nat y 4294967295 hy (by omega),crcOf,H.out,hk']
    clear hk'
    go_wp2_with fail
    go_ret
    exact ⟨ret_int hn.out,rfl⟩
theorem info8:(Tryz.prog.info? 5).map (fun i=>(i.zero,i.size,i.bytes))=some (some (.int .u8 0),1,1):=by kernel_rfl
def nar:List UInt8->Nat->Nat
 | [],x=>x
 | c::r,x=>nar r (256*x+c.toNat)
theorem nar_snoc (l:List UInt8) (c:UInt8):∀ x,nar (l++[c]) x=256*nar l x+c.toNat:=by
 induction l with
 | nil=>intro x;rfl
 | cons d r ih=>intro x;simp only [List.cons_append,nar];exact ih _
theorem nar_lt (l:List UInt8):∀ x k,x<256 ^ k->nar l x<256 ^ (k+l.length):=by
 induction l with
 | nil=>intro x k h;exact h
 | cons d r ih=>
  intro x k h
  have:=ih (256*x+d.toNat) (k+1) (by have:=d.toNat_lt;rw [Nat.pow_succ];omega)
  simpa [nar,Nat.add_assoc,Nat.add_comm 1] using this
def wb (u j:Nat):Nat:=u/256 ^ (7-j)%256
def wideOf (u:Nat):List UInt8:=(List.range 8).map fun j=>UInt8.ofNat (wb u j)
theorem nar_small {l:List UInt8} {k:Nat} (h:k<=7):nar (l.take k) 0<72057594037927936:=by
 have h1:=nar_lt (l.take k) 0 0 (by omega)
 have h2:256 ^ (0+(l.take k).length)<=256 ^ 7:=Nat.pow_le_pow_right (by omega) (by have:=List.length_take_le k l;omega)
 have h3:256 ^ 7=72057594037927936:=by decide
 omega
theorem take_next (l:List UInt8) (k:Nat) (h:k<l.length):l.take (k+1)=l.take k++[l[k]]:=by
 rw [List.take_succ_eq_append_getElem h]
set_option maxHeartbeats 400000 in
theorem narrow_any (A:Option Addr) (l:List UInt8) (c:Nat) (w:World) (hl:l.length=8) (hs:Seen w A l):
 Calls Tryz.prog 167 #[.slice A l.length c] w fun e w'=>
  e= .returned (.tuple #[.int .i64 (wrap64 (nar l 0:Nat)),.int .i64 0])/\w=w':=by
 have HS:=Lib.hid hs
 have hle:l.length<=8:=by omega
 have hge:8<=l.length:=by omega
 have t0:((l.length:Int) != 8)=false:=by simp [hl]
 clear hs hl
 go_enter Tryz.func167,Tryz.ntmps167
 go_wp2
 go_loop [4,12] (fun s i=>∃ k y:Nat,k<=l.length/\i= .int .i64 k/\s= .int .u64 y/\Hid (y=nar (l.take k) 0)) (fun _ i=>l.length-(intOf i).toNat)
 case atStart=>exact ⟨0,0,by omega,rfl,rfl,rfl⟩
 case round=>
  obtain ⟨k,y,hk,rfl,rfl,H⟩:=hrel
  by_cases hlt:k<l.length
  · obtain ⟨b,off,rfl,hb,hc⟩:=HS.out.at_ hlt
    have hy:y<72057594037927936:=by rw [H.out];exact nar_small (by omega)
    have h8:=l[k].toNat_lt
    have hn:Hid (256*y+l[k].toNat=nar (l.take (k+1)) 0):=by rw [take_next l k hlt];show _=_;rw [nar_snoc,H.out]
    generalize l[k].toNat=x at *
    have e2:bits .or .u64 ((y:Int)*256) (x:Int)=((256*y+x:Nat):Int):=by
     rw [show (y:Int)*256=((y*256:Nat):Int) from by omega,u64_or_nat (y*256) x (by omega) (by omega),nat_join 8 (y*256) x (by omega) (by omega)];omega
    go_wp2_with fail
    go_round
    case rel=>exact ⟨k+1,_,by omega,by go_num,rfl,hn.out⟩
    case measure=>simp [intOf];omega
  · have hn:Hid (y=nar l 0):=by show _=_;rw [H.out,List.take_of_length_le (by omega)]
    go_wp2_with fail
    go_ret2
    exact ⟨by rw [<-hn.out];rfl,rfl⟩
set_option maxHeartbeats 400000 in
theorem refNarrow_any (A:Option Addr) (l:List UInt8) (c:Nat) (w:World) (hl:l.length=8) (hs:Seen w A l):
 Calls Tryz.prog 109 #[.slice A l.length c] w fun e w'=>
  e= .returned (.tuple #[.int .i64 (wrap64 (nar l 0:Nat)),.int .i64 0])/\w=w':=by
 have HS:=Lib.hid hs
 have hle:l.length<=8:=by omega
 have hge:8<=l.length:=by omega
 have t0:((l.length:Int) != 8)=false:=by simp [hl]
 clear hs hl
 go_enter Tryz.func109,Tryz.ntmps109
 go_wp2
 go_loop [4,5] (fun s i=>∃ k y:Nat,k<=8/\i= .int .i64 k/\s= .int .u64 y/\Hid (y=nar (l.take k) 0)) (fun _ i=>8-(intOf i).toNat)
 case atStart=>exact ⟨0,0,by omega,rfl,rfl,rfl⟩
 case round=>
  obtain ⟨k,y,hk,rfl,rfl,H⟩:=hrel
  by_cases hlt:k<8
  · have hlt':k<l.length:=by omega
    obtain ⟨b,off,rfl,hb,hc⟩:=HS.out.at_ hlt'
    have hy:y<72057594037927936:=by rw [H.out];exact nar_small (by omega)
    have h8:=l[k].toNat_lt
    have hn:Hid (256*y+l[k].toNat=nar (l.take (k+1)) 0):=by rw [take_next l k hlt'];show _=_;rw [nar_snoc,H.out]
    generalize l[k].toNat=x at *
    go_wp2_with fail
    go_round
    case rel=>exact ⟨k+1,256*y+x,by omega,by go_num,by go_num,hn.out⟩
    case measure=>simp [intOf];omega
  · have hn:Hid (y=nar l 0):=by show _=_;rw [H.out,List.take_of_length_le (by omega)]
    go_wp2_with fail
    go_ret2
    exact ⟨by rw [<-hn.out];rfl,rfl⟩
theorem make8 (w:World):(Instr.makeSlice 22 (.int .i64 8) (.int .i64 8)).run Tryz.prog w= .ok (.slice (some ⟨w.heap.size,0,none⟩) 8 8) (w.alloc (.cells (madeCells #[.int .u8 0] 8) 5)):=
 run_make_row' (P:=Tryz.prog) 22 5 (.int .u8 0) 1 Tryz.underlying22 info8 rfl .i64 .i64 8 (by omega) (by omega) w
def wcell (u k j:Nat):Value:=if 8<=k+j then .int .u8 (wb u j:Nat) else .int .u8 0
theorem wb_end (u k:Nat) (hk:k<8):wb u (7-k)=u/256 ^ k%256:=by
 unfold wb;rw [show 7-(7-k)=k by omega]
theorem wb_shift (u k:Nat) (hk:k<8):(u:Int)/2 ^ (8*k)%256=((wb u (7-k):Nat):Int):=by
 rw [wb_end u k hk,show 256 ^ k=2 ^ (8*k) from by rw [Nat.pow_mul],Int.natCast_emod,Int.natCast_ediv,Int.natCast_pow];rfl
theorem wcell_next (u k:Nat) (hk:k<8) (j:Nat) (_hj:j<8):(if j=7-k then Value.int .u8 (wb u (7-k):Nat) else wcell u k j)=wcell u (k+1) j:=by
 by_cases e:j=7-k
 · subst e;rw [if_pos rfl,wcell,if_pos (by omega)]
 · rw [if_neg e,wcell,wcell]
   by_cases h:8<=k+j
   · rw [if_pos h,if_pos (by omega)]
   · rw [if_neg h,if_neg (by omega)]
theorem wide_seen {w:World} {g:Nat} {t:TypeId} {u k:Nat} (h:w.rowIs g t 8 (wcell u k)) (hk:8<=k):Seen w (some ⟨g,0,none⟩) (wideOf u):=
 Seen.of_row h (by simp [wideOf]) (fun i hi=>by
  rw [wcell,if_pos (by omega)]
  simp [wideOf]
  have:wb u i<256:=Nat.mod_lt _ (by omega)
  omega)
set_option maxHeartbeats 400000 in
theorem wide_any (n:Int) (w:World):
 Calls Tryz.prog 117 #[.int .i64 n] w fun e w'=>
  ∃ A,e= .returned (.slice A 8 8)/\Seen w' A (wideOf (n%18446744073709551616).toNat)/\Below w.heap.size w w':=by
 have hmk:=make8
 obtain ⟨u,hu⟩:∃ u:Nat,u=(n%18446744073709551616).toNat:=⟨_,rfl⟩
 have ew:IntKind.u64.wrap n=(u:Int):=by rw [IntKind.wrap_u64];omega
 have hlt:u<18446744073709551616:=by omega
 have HU:=Lib.hid hu
 clear hu
 go_enter Tryz.func117,Tryz.ntmps117
 go_wp2_with fail
 clear hmk ew
 go_loopw [9] (fun i wr=>∃ k:Nat,k<=8/\i= .int .i64 k/\wr.rowIs w.heap.size 5 8 (wcell u k)/\Below w.heap.size w wr) (fun i _=>8-(intOf i).toNat)
 case atStart=>exact ⟨0,by omega,rfl,(World.rowIs_made w (.int .u8 0) 8 5).congr (fun i hi=>by rw [wcell,if_neg (by omega)]),(Below.refl _ _).alloc (Nat.le_refl _) _⟩
 case round=>
  obtain ⟨k,hk,rfl,hrow,hbel⟩:=hrel
  have HR:=Lib.hid hrow
  have HB:=Lib.hid hbel
  by_cases h8:k<8
  · have hc:wr.cell? ⟨w.heap.size,7-k,none⟩=some (wcell u k (7-k)):=hrow.cell (by omega)
    have hf:wr.frozen? ⟨w.heap.size,7-k,none⟩=false:=hrow.frozen _
    clear hrow hbel
    go_wp2_with fail
    go_roundw
    case rel=>
     rw [wb_shift u k h8]
     exact ⟨k+1,by omega,by go_num,(HR.out.set (7-k) _).congr (wcell_next u k h8),HB.out.setCell (Nat.le_refl _) _⟩
    case measure=>simp [intOf];omega
  · clear hrow hbel
    go_wp2_with fail
    go_ret
    exact ⟨_,rfl,by rw [<-HU.out];exact wide_seen HR.out (by omega),HB.out⟩
set_option maxHeartbeats 400000 in
theorem refWide_any (n:Int) (w:World):
 Calls Tryz.prog 139 #[.int .i64 n] w fun e w'=>
  ∃ A,e= .returned (.slice A 8 8)/\Seen w' A (wideOf (n%18446744073709551616).toNat)/\Below w.heap.size w w':=by
 have hmk:=make8
 obtain ⟨u,hu⟩:∃ u:Nat,u=(n%18446744073709551616).toNat:=⟨_,rfl⟩
 have ew:IntKind.u64.wrap n=(u:Int):=by rw [IntKind.wrap_u64];omega
 have hlt:u<18446744073709551616:=by omega
 have HU:=Lib.hid hu
 clear hu
 go_enter Tryz.func139,Tryz.ntmps139
 go_wp2_with fail
 clear hmk ew
 go_loopw [3,5] (fun s i wr=>∃ k y:Nat,k<=8/\i= .int .i64 (7-(k:Int))/\y<18446744073709551616/\s= .int .u64 y/\Hid (y=u/256 ^ k)/\wr.rowIs w.heap.size 5 8 (wcell u k)/\Below w.heap.size w wr) (fun _ i _=>(intOf i+1).toNat)
 case atStart=>exact ⟨0,u,by omega,rfl,hlt,rfl,by show _=_;simp,(World.rowIs_made w (.int .u8 0) 8 5).congr (fun i hi=>by rw [wcell,if_neg (by omega)]),(Below.refl _ _).alloc (Nat.le_refl _) _⟩
 case round=>
  obtain ⟨k,y,hk,rfl,hy,rfl,HY,hrow,hbel⟩:=hrel
  have HR:=Lib.hid hrow
  have HB:=Lib.hid hbel
  by_cases h8:k<8
  · have hc:wr.cell? ⟨w.heap.size,7-k,none⟩=some (wcell u k (7-k)):=hrow.cell (by omega)
    have hf:wr.frozen? ⟨w.heap.size,7-k,none⟩=false:=hrow.frozen _
    have HW:Hid ((y:Int)%256=((wb u (7-k):Nat):Int)):=by show _=_;rw [wb_end u k h8,<-HY.out,Int.natCast_emod];rfl
    have HN:Hid (y/256=u/256 ^ (k+1)):=by show _=_;rw [HY.out,Nat.div_div_eq_div_mul,Nat.pow_succ]
    clear hrow hbel
    go_wp2_with fail
    go_roundw
    case rel=>
     rw [HW.out]
     exact ⟨k+1,y/256,by omega,by go_num,by omega,by go_num,HN.out,(HR.out.set (7-k) _).congr (wcell_next u k h8),HB.out.setCell (Nat.le_refl _) _⟩
    case measure=>simp [intOf];omega
  · clear hrow hbel
    go_wp2_with fail
    go_ret
    exact ⟨_,rfl,by rw [<-HU.out];exact wide_seen HR.out (by omega),HB.out⟩
theorem nar_acc:∀ (a b:List UInt8) (x y:Nat),a.length=b.length->x<y->nar a x<nar b y
 | [],[],_,_,_,h=>h
 | [],_::_,_,_,h,_=>by simp at h
 | _::_,[],_,_,h,_=>by simp at h
 | c::a,d::b,x,y,h,hxy=>by
  have hc:=c.toNat_lt
  have hd:=d.toNat_lt
  exact nar_acc a b _ _ (by simpa using h) (by omega)
theorem nar_wide (u:Nat) (h:u<18446744073709551616):nar (wideOf u) 0=u:=by
 have e:List.range 8=[0,1,2,3,4,5,6,7]:=by decide
 unfold wideOf
 rw [e]
 simp only [List.map_cons,List.map_nil,nar,wb,UInt8.toNat_ofNat',Nat.reduceSub,Nat.reducePow,Nat.mod_mod]
 omega
theorem wideOf_length (u:Nat):(wideOf u).length=8:=by simp [wideOf]
def getL:List UInt8->Nat->Nat->Nat × Nat
 | [],_,_=>(0,0)
 | c::r,i,n=>
  if 9<=i then (0,0)
  else if 128<=c.toNat then getL r (i+1) (n+c.toNat%128*128 ^ i)
  else if c.toNat=0/\0<i then (0,0)
  else (n+c.toNat%128*128 ^ i,i+1)
theorem getL_nine (l:List UInt8) (i n:Nat) (h:9<=i):getL l i n=(0,0):=by
 cases l with
 | nil=>rfl
 | cons c r=>rw [getL,if_pos h]
theorem drop_cons (l:List UInt8) (k:Nat) (h:k<l.length):l.drop k=l[k]::l.drop (k+1):=by
 rw [List.drop_eq_getElem_cons h]
theorem group_lt {n x k:Nat} (hk:k<9) (hn:n<128 ^ k):n+x%128*128 ^ k<128 ^ (k+1)/\x%128*128 ^ k<=9223372036854775807/\n+x%128*128 ^ k<=9223372036854775807:=by
 have h1:x%128*128 ^ k<=127*128 ^ k:=Nat.mul_le_mul_right _ (by omega)
 have h2:128 ^ (k+1)=128 ^ k*128:=Nat.pow_succ ..
 have h3:128 ^ (k+1)<=128 ^ 9:=Nat.pow_le_pow_right (by omega) (by omega)
 have h4:128 ^ 9=9223372036854775808:=by decide
 omega
theorem group_or {n x k:Nat} (hn:n<128 ^ k):n ||| x%128*128 ^ k=n+x%128*128 ^ k:=by
 rw [Nat.or_comm,nat_join (7*k) (x%128*128 ^ k) n (by rw [Nat.pow_mul];exact Nat.mul_mod_left _ _) (by rw [Nat.pow_mul];exact hn),Nat.add_comm]
theorem or_i64 (a b:Nat) (ha:a<=9223372036854775807) (hb:b<=9223372036854775807):bits .or .i64 (a:Int) (b:Int)=((a ||| b:Nat):Int):=by
 have hx:a ||| b<2 ^ 63:=Nat.or_lt_two_pow (by omega) (by omega)
 show IntKind.i64.wrap ((BitVec.ofInt 64 (a:Int) ||| BitVec.ofInt 64 (b:Int)).toNat:Int)=_
 rw [BitVec.toNat_or,ofInt_u64 a (by omega),ofInt_u64 b (by omega),IntKind.wrap_i64]
 omega
theorem group_term {n x k:Nat} (hk:k<9) (hn:n<128 ^ k):bits .or .i64 (n:Int) (wrap64 ((x:Int)%128*2 ^ (7*k)))=((n+x%128*128 ^ k:Nat):Int):=by
 obtain ⟨_,q2,q3⟩:=group_lt (x:=x) hk hn
 have e:(x:Int)%128*2 ^ (7*k)=((x%128*128 ^ k:Nat):Int):=by
  rw [Int.natCast_mul,Int.natCast_pow,Int.natCast_emod,show ((128:Nat):Int) ^ k=2 ^ (7*k) from by rw [Int.pow_mul];rfl];rfl
 rw [e,IntWalk.wrap64_in _ ⟨by omega,by omega⟩,or_i64 _ _ (by omega) q2,group_or hn]
set_option maxHeartbeats 400000 in
set_option maxRecDepth 100000 in
theorem get_long (A:Option Addr) (l:List UInt8) (c:Nat) (w:World) (hl:l.length<=9223372036854775807) (h9:9<l.length) (hs:Seen w A l):
 Calls Tryz.prog 161 #[.slice A l.length c] w fun e w'=>
  e= .returned (.tuple #[.int .i64 ((getL l 0 0).1:Nat),.int .i64 ((getL l 0 0).2:Nat)])/\w=w':=by
 have HS:=Lib.hid hs
 clear hs
 go_enter Tryz.func161,Tryz.ntmps161
 go_wp2
 go_loop [4,9] (fun s i=>∃ k n:Nat,k<=9/\i= .int .i64 k/\s= .int .i64 n/\Hid (n<128 ^ k/\getL l 0 0=getL (l.drop k) k n)) (fun _ i=>9-(intOf i).toNat)
 case atStart=>exact ⟨0,0,by omega,rfl,rfl,by omega,rfl⟩
 case round=>
  obtain ⟨k,n,hk,rfl,rfl,H⟩:=hrel
  by_cases hlt:k<9
  · have hlt':k<l.length:=by omega
    have hlt9:k<9:=by omega
    obtain ⟨b,off,rfl,hb,hc⟩:=HS.out.at_ hlt'
    have hx:=l[k].toNat_lt
    have Q1:=Lib.hid (group_lt (x:=l[k].toNat) hlt9 H.out.1).1
    have HN:Hid (getL l 0 0=if 128<=l[k].toNat then getL (l.drop (k+1)) (k+1) (n+l[k].toNat%128*128 ^ k) else if l[k].toNat=0/\0<k then (0,0) else (n+l[k].toNat%128*128 ^ k,k+1)):=by
     show _=_;rw [H.out.2,drop_cons l k hlt',getL,if_neg (by omega)]
    have HO:=Lib.hid (group_term (x:=l[k].toNat) hlt9 H.out.1)
    generalize l[k].toNat=x at *
    have e1:bits .and .u8 (x:Int) 127=((x%128:Nat):Int):=by
     rw [show (127:Int)=((127:Nat):Int) from rfl,u8_and_nat x 127 hx (by omega),nat_mask7]
    by_cases h128:128<=x
    · have HG:Hid (getL l 0 0=getL (l.drop (k+1)) (k+1) (n+x%128*128 ^ k)):=by show _=_;rw [HN.out,if_pos h128]
      go_wp2_with fail
      go_round
      case rel=>exact ⟨k+1,n+x%128*128 ^ k,by omega,by go_num,by rw [HO.out],Q1.out,HG.out⟩
      case measure=>simp [intOf];omega
    · by_cases h0:x=0
      · by_cases hk0:0<k
        · have HG:Hid (getL l 0 0=(0,0)):=by show _=_;rw [HN.out,if_neg h128,if_pos ⟨h0,hk0⟩]
          have t0:((x:Int)==0)=true:=by simp [h0]
          clear h0
          go_wp2_with fail
          all_goals go_ret2
          all_goals exact ⟨by rw [HG.out];rfl,rfl⟩
        · have HG:Hid (getL l 0 0=(n+x%128*128 ^ k,k+1)):=by show _=_;rw [HN.out,if_neg h128,if_neg (fun h=>hk0 h.2)]
          have t0:((x:Int)==0)=true:=by simp [h0]
          have hkz:k<=0:=by omega
          clear h0 hk0
          go_wp2_with fail
          all_goals go_ret2
          all_goals exact ⟨by rw [HG.out,<-HO.out];rfl,rfl⟩
      · have HG:Hid (getL l 0 0=(n+x%128*128 ^ k,k+1)):=by show _=_;rw [HN.out,if_neg h128,if_neg (fun h=>h0 h.1)]
        have t0:((x:Int)==0)=false:=by simp;omega
        clear h0
        go_wp2_with fail
        all_goals go_ret2
        all_goals exact ⟨by rw [HG.out,<-HO.out];rfl,rfl⟩
  · have HG:Hid (getL l 0 0=(0,0)):=by show _=_;rw [H.out.2,getL_nine _ _ _ (by omega)]
    go_wp2_with fail
    go_ret2
    exact ⟨by rw [HG.out];rfl,rfl⟩
set_option maxHeartbeats 400000 in
set_option maxRecDepth 100000 in
theorem get_short (A:Option Addr) (l:List UInt8) (c:Nat) (w:World) (hl:l.length<=9223372036854775807) (h9:l.length<=9) (hs:Seen w A l):
 Calls Tryz.prog 161 #[.slice A l.length c] w fun e w'=>
  e= .returned (.tuple #[.int .i64 ((getL l 0 0).1:Nat),.int .i64 ((getL l 0 0).2:Nat)])/\w=w':=by
 have HS:=Lib.hid hs
 clear hs
 go_enter Tryz.func161,Tryz.ntmps161
 go_wp2
 go_loop [4,9] (fun s i=>∃ k n:Nat,k<=l.length/\i= .int .i64 k/\s= .int .i64 n/\Hid (n<128 ^ k/\getL l 0 0=getL (l.drop k) k n)) (fun _ i=>l.length-(intOf i).toNat)
 case atStart=>exact ⟨0,0,by omega,rfl,rfl,by omega,rfl⟩
 case round=>
  obtain ⟨k,n,hk,rfl,rfl,H⟩:=hrel
  by_cases hlt:k<l.length
  · have hlt':k<l.length:=by omega
    have hlt9:k<9:=by omega
    obtain ⟨b,off,rfl,hb,hc⟩:=HS.out.at_ hlt'
    have hx:=l[k].toNat_lt
    have Q1:=Lib.hid (group_lt (x:=l[k].toNat) hlt9 H.out.1).1
    have HN:Hid (getL l 0 0=if 128<=l[k].toNat then getL (l.drop (k+1)) (k+1) (n+l[k].toNat%128*128 ^ k) else if l[k].toNat=0/\0<k then (0,0) else (n+l[k].toNat%128*128 ^ k,k+1)):=by
     show _=_;rw [H.out.2,drop_cons l k hlt',getL,if_neg (by omega)]
    have HO:=Lib.hid (group_term (x:=l[k].toNat) hlt9 H.out.1)
    generalize l[k].toNat=x at *
    have e1:bits .and .u8 (x:Int) 127=((x%128:Nat):Int):=by
     rw [show (127:Int)=((127:Nat):Int) from rfl,u8_and_nat x 127 hx (by omega),nat_mask7]
    by_cases h128:128<=x
    · have HG:Hid (getL l 0 0=getL (l.drop (k+1)) (k+1) (n+x%128*128 ^ k)):=by show _=_;rw [HN.out,if_pos h128]
      go_wp2_with fail
      go_round
      case rel=>exact ⟨k+1,n+x%128*128 ^ k,by omega,by go_num,by rw [HO.out],Q1.out,HG.out⟩
      case measure=>simp [intOf];omega
    · by_cases h0:x=0
      · by_cases hk0:0<k
        · have HG:Hid (getL l 0 0=(0,0)):=by show _=_;rw [HN.out,if_neg h128,if_pos ⟨h0,hk0⟩]
          have t0:((x:Int)==0)=true:=by simp [h0]
          clear h0
          go_wp2_with fail
          all_goals go_ret2
          all_goals exact ⟨by rw [HG.out];rfl,rfl⟩
        · have HG:Hid (getL l 0 0=(n+x%128*128 ^ k,k+1)):=by show _=_;rw [HN.out,if_neg h128,if_neg (fun h=>hk0 h.2)]
          have t0:((x:Int)==0)=true:=by simp [h0]
          have hkz:k<=0:=by omega
          clear h0 hk0
          go_wp2_with fail
          all_goals go_ret2
          all_goals exact ⟨by rw [HG.out,<-HO.out];rfl,rfl⟩
      · have HG:Hid (getL l 0 0=(n+x%128*128 ^ k,k+1)):=by show _=_;rw [HN.out,if_neg h128,if_neg (fun h=>h0 h.1)]
        have t0:((x:Int)==0)=false:=by simp;omega
        clear h0
        go_wp2_with fail
        all_goals go_ret2
        all_goals exact ⟨by rw [HG.out,<-HO.out];rfl,rfl⟩
  · have HG:Hid (getL l 0 0=(0,0)):=by show _=_;rw [H.out.2,List.drop_eq_nil_of_le (by omega)];rfl
    go_wp2_with fail
    go_ret2
    exact ⟨by rw [HG.out];rfl,rfl⟩
theorem get_any (A:Option Addr) (l:List UInt8) (c:Nat) (w:World) (hl:l.length<=9223372036854775807) (hs:Seen w A l):
 Calls Tryz.prog 161 #[.slice A l.length c] w fun e w'=>
  e= .returned (.tuple #[.int .i64 ((getL l 0 0).1:Nat),.int .i64 ((getL l 0 0).2:Nat)])/\w=w':=by
 by_cases h:9<l.length
 · exact get_long A l c w hl h hs
 · exact get_short A l c w hl (by omega) hs
theorem group_sum {n x k:Nat} {F:Int} (hk:k<9) (hn:n<128 ^ k) (hF:F=((128 ^ k:Nat):Int)):wrap64 ((n:Int)+wrap64 ((x:Int)%128*F))=((n+x%128*128 ^ k:Nat):Int):=by
 obtain ⟨_,q2,q3⟩:=group_lt (x:=x) hk hn
 have e:(x:Int)%128*F=((x%128*128 ^ k:Nat):Int):=by
  rw [Int.natCast_mul,Int.natCast_emod,hF];rfl
 rw [e]
 clear e hF
 generalize x%128*128 ^ k=m at *
 rw [IntWalk.wrap64_in (m:Int) ⟨by omega,by omega⟩,IntWalk.wrap64_in ((n:Int)+(m:Int)) ⟨by omega,by omega⟩,Int.natCast_add]
theorem factor_next {k:Nat} {F:Int} (hk:k<9) (hF:F=((128 ^ k:Nat):Int)):k+1<9->wrap64 (F*128)=((128 ^ (k+1):Nat):Int):=by
 intro h
 have h3:128 ^ (k+1)<=128 ^ 8:=Nat.pow_le_pow_right (by omega) (by omega)
 have h4:128 ^ 8=72057594037927936:=by decide
 have e:F*128=((128 ^ (k+1):Nat):Int):=by rw [hF,Nat.pow_succ,Int.natCast_mul];rfl
 rw [e]
 clear e hF
 generalize 128 ^ (k+1)=m at *
 rw [IntWalk.wrap64_in (m:Int) ⟨by omega,by omega⟩]
set_option maxHeartbeats 400000 in
set_option maxRecDepth 100000 in
theorem refGet_any (A:Option Addr) (l:List UInt8) (c:Nat) (w:World) (hs:Seen w A l):
 Calls Tryz.prog 81 #[.slice A l.length c] w fun e w'=>
  e= .returned (.tuple #[.int .i64 ((getL l 0 0).1:Nat),.int .i64 ((getL l 0 0).2:Nat)])/\w=w':=by
 have HS:=Lib.hid hs
 clear hs
 go_enter Tryz.func81,Tryz.ntmps81
 go_wp2
 go_loop [4,5,6] (fun s f i=>∃ (k n:Nat) (F:Int),k<=9/\i= .int .i64 k/\s= .int .i64 n/\f= .int .i64 F/\Hid (n<128 ^ k/\getL l 0 0=getL (l.drop k) k n/\(k<9->F=((128 ^ k:Nat):Int)))) (fun _ _ i=>9-(intOf i).toNat)
 case atStart=>exact ⟨0,0,1,by omega,rfl,rfl,rfl,by omega,rfl,fun _=>rfl⟩
 case round=>
  obtain ⟨k,n,F,hk,rfl,rfl,rfl,H⟩:=hrel
  by_cases hlt:k<l.length/\k<9
  · obtain ⟨hlt',hlt9⟩:=hlt
    obtain ⟨b,off,rfl,hb,hc⟩:=HS.out.at_ hlt'
    have hx:=l[k].toNat_lt
    have Q1:=Lib.hid (group_lt (x:=l[k].toNat) hlt9 H.out.1).1
    have HN:Hid (getL l 0 0=if 128<=l[k].toNat then getL (l.drop (k+1)) (k+1) (n+l[k].toNat%128*128 ^ k) else if l[k].toNat=0/\0<k then (0,0) else (n+l[k].toNat%128*128 ^ k,k+1)):=by
     show _=_;rw [H.out.2.1,drop_cons l k hlt',getL,if_neg (by omega)]
    have HO:=Lib.hid (group_sum (x:=l[k].toNat) hlt9 H.out.1 (H.out.2.2 hlt9))
    have HF:=Lib.hid (factor_next hlt9 (H.out.2.2 hlt9))
    generalize l[k].toNat=x at *
    by_cases h128:128<=x
    · have HG:Hid (getL l 0 0=getL (l.drop (k+1)) (k+1) (n+x%128*128 ^ k)):=by show _=_;rw [HN.out,if_pos h128]
      go_wp2_with fail
      go_round
      case rel=>exact ⟨k+1,n+x%128*128 ^ k,_,by omega,by go_num,by rw [HO.out],rfl,Q1.out,HG.out,HF.out⟩
      case measure=>simp [intOf];omega
    · by_cases h0:x=0
      · by_cases hk0:0<k
        · have HG:Hid (getL l 0 0=(0,0)):=by show _=_;rw [HN.out,if_neg h128,if_pos ⟨h0,hk0⟩]
          have t0:((x:Int)==0)=true:=by simp [h0]
          clear h0
          go_wp2_with fail
          all_goals go_ret2
          all_goals exact ⟨by rw [HG.out];rfl,rfl⟩
        · have HG:Hid (getL l 0 0=(n+x%128*128 ^ k,k+1)):=by show _=_;rw [HN.out,if_neg h128,if_neg (fun h=>hk0 h.2)]
          have t0:((x:Int)==0)=true:=by simp [h0]
          have hkz:k<=0:=by omega
          clear h0 hk0
          go_wp2_with fail
          all_goals go_ret2
          all_goals exact ⟨by rw [HG.out,<-HO.out];rfl,rfl⟩
      · have HG:Hid (getL l 0 0=(n+x%128*128 ^ k,k+1)):=by show _=_;rw [HN.out,if_neg h128,if_neg (fun h=>h0 h.1)]
        have t0:((x:Int)==0)=false:=by simp;omega
        clear h0
        go_wp2_with fail
        all_goals go_ret2
        all_goals exact ⟨by rw [HG.out,<-HO.out];rfl,rfl⟩
  · have HG:Hid (getL l 0 0=(0,0)):=by
     show _=_
     rw [H.out.2.1]
     by_cases h9:9<=k
     · exact getL_nine _ _ _ h9
     · rw [List.drop_eq_nil_of_le (by omega)];rfl
    by_cases hkl:k<l.length
    · have hk9:9<=k:=by omega
      clear hlt
      go_wp2_with fail
      all_goals go_ret2
      all_goals exact ⟨by rw [HG.out];rfl,rfl⟩
    · clear hlt
      go_wp2_with fail
      all_goals go_ret2
      all_goals exact ⟨by rw [HG.out];rfl,rfl⟩
end Go.Proofs.YtdaahapbpnjkfaaGreat
