/-
  FileD, FileE, SetC, Shift in one text. Nothing here is trusted.
-/
import Derived.Test.YtjafgnohlkkopaaGreatDoorPart10
import Derived.Test.YtjafgnohlkkopaaGreatDoorPart09
import Derived.Test.YtjafgnohlkkopaaGreatDoorPart08
import Derived.Test.YtjafgnohlkkopaaGreatDoorPart03
set_option linter.unusedVariables false
namespace Go.Proofs.YtjafgnohlkkopaaGreatDoor
open Go.RowKit
theorem map_splice {α β:Type} (f:α→β) (L:List α) (off:Nat) (cs:List α):splice (L.map f) off (cs.map f)=(splice L off cs).map f:=by
 simp[splice]
def rowTo (key:Int) (L:Nat→List Int) (i:Nat):List Int:=(List.range 256).map fun k=>if k<4*i then (plain key (k / 4) (L (k / 4))).getD (k%4) 0 else 0
theorem rowTo_length (key:Int) (L:Nat→List Int) (i:Nat):(rowTo key L i).length=256:=by simp[rowTo]
theorem rowTo_getD (key:Int) (L:Nat→List Int) (i k:Nat) (hk:k<256):(rowTo key L i).getD k 0=if k<4*i then (plain key (k / 4) (L (k / 4))).getD (k%4) 0 else 0:=by simp[rowTo,List.getD,hk]
theorem rowTo_zero (key:Int) (L:Nat→List Int):rowTo key L 0=zeros 256:=by
 apply list_ext_getD
 ·rw[rowTo_length,zeros_length]
 ·intro k hk
  rw[rowTo_length] at hk
  rw[rowTo_getD _ _ _ _ hk,if_neg (by omega),zeros_getD]
theorem rowTo_all (key:Int) (L:Nat→List Int):rowTo key L 64=fileL key L:=by
 unfold rowTo fileL
 apply List.map_congr_left
 intro k hk
 rw[if_pos (by have:=List.mem_range.1 hk; omega)]
theorem zero4_getD (j:Nat):([0,0,0,0]:List Int).getD j 0=0:=by
 match j with
 | 0=>rfl
 | 1=>rfl
 | 2=>rfl
 | 3=>rfl
 | j+4=>rfl
theorem rowTo_skip (key:Int) (L:Nat→List Int) (i:Nat) (h:L i=[]):rowTo key L (i+1)=rowTo key L i:=by
 apply list_ext_getD
 ·rw[rowTo_length,rowTo_length]
 ·intro k hk
  rw[rowTo_length] at hk
  rw[rowTo_getD _ _ _ _ hk,rowTo_getD _ _ _ _ hk]
  by_cases h1:k<4*i
  ·rw[if_pos h1,if_pos (by omega)]
  ·rw[if_neg h1]
   by_cases h2:k<4*(i+1)
   ·rw[if_pos h2,show k / 4=i by omega,h,plain_nil,zero4_getD]
   ·rw[if_neg h2]
theorem rowTo_next (key:Int) (L:Nat→List Int) (i:Nat) (hi:i<64) (h:L i≠[]) (h4:(L i).length=4):splice (rowTo key L i) (4*i) (openL key (sealPlace i) (L i))=rowTo key L (i+1):=by
 have hl:(openL key (sealPlace i) (L i)).length=4:=by rw[openL_length,h4]
 apply list_ext_getD
 ·rw[length_splice _ _ _ (by rw[hl,rowTo_length]; omega),rowTo_length,rowTo_length]
 ·intro k hk
  rw[length_splice _ _ _ (by rw[hl,rowTo_length]; omega),rowTo_length] at hk
  rw[splice_getD _ _ _ (by rw[hl,rowTo_length]; omega),hl,rowTo_getD _ _ _ _ hk,rowTo_getD _ _ _ _ hk]
  by_cases h1:k<4*i
  ·rw[if_neg (by omega),if_pos h1,if_pos (by omega)]
  ·by_cases h2:k<4*(i+1)
   ·rw[if_pos ⟨by omega,by omega⟩,if_pos h2,show k / 4=i by omega,show k%4=k-4*i by omega]
    simp[plain,h]
   ·rw[if_neg (by omega),if_neg h1,if_neg h2]
theorem nums_of_cells {w:World} {g:Nat} {l:List Int} {t:TypeId} {Q:Nat→Prop} (hq:Q g) (hb:Bytes l) (h:CellsAt w g (l.map (Value.int .u8)).toArray t):NumsAt Q .u8 w (some ⟨g,0,none⟩) l.length l:=by
 refine⟨rfl,fun x hx=>wf_u8 (hb x hx),fun _=>⟨g,0,rfl,h.lt,hq,fun i hi=>?_⟩⟩
 rw[Nat.zero_add,h.cell i]
 simp[List.getD,hi]
structure OE (W wr:World) (g:Nat) (key:Int) (L:Nat→List Int) (i:Nat):Prop where
 row:CellsAt wr g ((rowTo key L i).map (Value.int .u8)).toArray 5
 bel:Below W.heap.size W wr
 form:∀ j,j<i→L j=[]∨plain key j (L j)≠[0,0,0,0]
def RetO (base:Nat) (e:Ending) (w:World) (n:Nat) (B:Nat→Blk) (key root size:Int):Prop:=
 (∃ e':Int,e=.returned (.tuple #[.slice none 0 0,.int .i64 e'])∧e'≠0∧¬FileOk n B key root size)∨
 (∃ g:Nat,e=.returned (.tuple #[.slice (some ⟨g,0,none⟩) 256 256,.int .i64 0])∧FileOk n B key root size∧base≤g∧CellsAt w g ((fileL key (leafAt B 3 root)).map (Value.int .u8)).toArray 5)
theorem keyB_zero {key:Int} (h:keyB key 0=true):0≤key∧key≤1000:=by have:=keyB_true h; omega
theorem keyB_not {key:Int} (h:keyB key 0=false):¬(0≤key∧key≤1000):=by have:=keyB_false h; omega
theorem sealPlace_eq (i:Nat):(i:Int)=sealPlace i:=rfl
theorem sealPlace_keyB {key:Int} (hk:0≤key∧key≤1000) {i:Nat} (hi:i<64):keyB key (i:Int)=true:=sealPlace_key hk hi
theorem Tryz.sizeByte:(Tryz.prog.info? 5).map (·.size)=some 1:=by kernel_rfl
theorem one_map (l:List Int):∀ v∈l.map (Value.int .u8),v.oneCell'=true:=by
 intro v hv
 obtain⟨x,_,rfl⟩:=List.mem_map.1 hv
 rfl
theorem src_map {w:World} {b off n:Nat} {l:List Int} {Q:Nat→Prop} (h:NumsAt Q .u8 w (some ⟨b,off,none⟩) n l) (hn:0<n):∀ j v,(l.map (Value.int .u8))[j]? =some v→w.cell? ((⟨b,off,none⟩:Addr).add j)=some v:=by
 intro j v hj
 have hjl:j<l.length:=by
  rcases Nat.lt_or_ge j l.length with h' | h'
  ·exact h'
  ·rw[List.getElem?_eq_none (by simpa using h')] at hj; cases hj
 obtain⟨b', off', he,hb,_,hc⟩:=h.2.2 hn
 cases he
 have ea:(⟨b,off,none⟩:Addr).add j=⟨b,off+j,none⟩:=by unfold Addr.add; split<;>simp_all
 rw[ea,hc j (by rw[←h.1]; exact hjl)]
 simp[hjl] at hj
 simp[List.getD,hjl,hj]
theorem copy_run {w w0:World} {B g off dLen dCap sLen sCap m:Nat} {sp:Option Addr} {t:TypeId} (Y X:List Value) (hY:CellsAt w g Y.toArray t) (hm:X.length=m) (hn:m=Nat.min sLen dLen)
 (hsrc:0<m→∃ ad,sp=some ad∧∀ j v,X[j]? =some v→w.cell? (ad.add j)=some v) (hfit:off+m≤Y.length) (h1:∀ v∈X,v.oneCell'=true) (hb:Below B w0 w) (hBg:B≤g):
 ∃ w', (∀ ty,(Builtin.copy_ #[28,28] ty #[.slice (some ⟨g,off,none⟩) dLen dCap,.slice sp sLen sCap]).run Tryz.prog w=.ok (goInt m) w')∧CellsAt w' g (splice Y off X).toArray t∧Below B w0 w':=by
 by_cases h0:m=0
 ·obtain rfl:X=[]:=List.eq_nil_of_length_eq_zero (by omega)
  subst h0
  exact⟨w,fun ty=>run_copy_none (P:=Tryz.prog) w 28 28 ty 5 _ sp dLen dCap sLen sCap Tryz.underlying28 Tryz.sizeByte hn.symm,by simpa [splice] using hY,hb⟩
 ·obtain⟨ad,rfl,hs⟩:=hsrc (by omega)
  refine⟨w.setRow g (Y.take off++(X++Y.drop (off+X.length))).toArray,fun ty=>?_,?_,below_setRow hb hBg _⟩
  ·have:=run_copy_row (P:=Tryz.prog) w 28 28 ty 5 g off dLen dCap ad sLen sCap Y.toArray t X Tryz.underlying28 Tryz.sizeByte hY (by omega) hs (by simp; omega) h1
   rw[←hm]
   rw[List.append_assoc] at this
   exact this
  ·exact setRow_heap w g _ _ t _ hY
theorem made_zero {w:World} {B g n:Nat} (h:w.ownsRow B 5 1 (.slice (some ⟨g,0,none⟩) n n) n (madeCells (Value.cells (.int .u8 0)) (n*1)).toList):CellsAt w g ((zeros n).map (Value.int .u8)).toArray 5:=by
 rw[made_bytes] at h
 exact cells_of_own h
theorem oe_start {w3 w4:World} {key:Int} {L:Nat→List Int} {B:Nat} (hown:w4.ownsRow B 5 1 (.slice (some ⟨w3.heap.size,0,none⟩) 256 256) 256 (madeCells (Value.cells (.int .u8 0)) (256*1)).toList) (hgr:w3.grownBy w4 none):OE w3 w4 w3.heap.size key L 0:=by
 refine⟨?_,⟨hgr.os,hgr.tape,hgr.output,hgr.size,fun k hk=>hgr.block k hk (by simp)⟩,fun j hj=>absurd hj (by omega)⟩
 rw[rowTo_zero]
 exact made_zero hown
set_option maxHeartbeats 4000000 in
set_option maxRecDepth 100000 in
theorem open_any (a:Option Addr) (n c:Nat) (B:Nat→Blk) (key root size:Int) (w:World) (h:StoreAt w a n B):
 Calls Tryz.prog 76 #[.agg #[.slice a n c],.int .i64 key,.agg #[.int .i64 root,.int .i64 size]] w fun e w'=>RetO w.heap.size e w' n B key root size∧Below w.heap.size w w':=by
 obtain⟨i0,hi0,hz0,hz1,hz2⟩:=info_parts Tryz.infoByte
 have b0:=(below_alloc w (.cells #[.slice a n c] 24)).alloc (by simp) (.cells #[.int .i64 root,.int .i64 size] 104)
 have ks:CellsAt _ w.heap.size #[.slice a n c] 24:=(cellsAt_alloc w _ _).below (below_alloc _ (.cells #[.int .i64 root,.int .i64 size] 104))
 have kf:CellsAt _ (w.heap.size+1) #[.int .i64 root,.int .i64 size] 104:=cellsAt_alloc2 w (.cells #[.slice a n c] 24) _ _
 replace b0:=hid b0
 replace ks:=hid ks
 replace kf:=hid kf
 replace h:=hid h
 by_cases hk:keyB key 0=true
 case neg=>
  have hk':keyB key 0=false:=by simpa using hk
  have hno:Hid (¬FileOk n B key root size):=hid fun f=>keyB_not hk' f.kb
  clear hk
  go_enter Tryz.func76,Tryz.ntmps76
  go_wp2_with fail
  generalize (w.alloc (.cells #[.slice a n c] 24)).alloc (.cells #[.int .i64 root,.int .i64 size] 104)=w0 at *
  refine(check_no key 0 w0 hk').mono ?_
  rintro e w1 ⟨rfl,rfl⟩
  go_wp2_with fail
  go_ret2
  exact⟨.inl ⟨3,rfl,by omega,hno.out⟩,b0.out⟩
 have hkb:=keyB_zero hk
 go_enter Tryz.func76,Tryz.ntmps76
 go_wp2_with fail
 generalize (w.alloc (.cells #[.slice a n c] 24)).alloc (.cells #[.int .i64 root,.int .i64 size] 104)=w0 at *
 refine(check_ok key 0 w0 hk).mono ?_
 rintro e w1 ⟨rfl,rfl⟩
 replace hkb:=hid hkb
 clear hk
 have s0:=ks.out.cell 0
 have f0:=kf.out.cell 0
 have f1:=kf.out.cell 1
 simp at s0 f0 f1
 by_cases hs:0≤size∧size≤256
 case neg=>
  have hno:Hid (¬FileOk n B key root size):=hid fun f=>hs f.sb
  go_wp2_with fail
  refine(isSize_no size _ hs).mono ?_
  rintro e w2 ⟨rfl,rfl⟩
  clear hs
  go_wp2_with fail
  go_ret2
  exact⟨.inl ⟨3,rfl,by omega,hno.out⟩,b0.out⟩
 go_wp2_with fail
 refine(isSize_ok size _ hs).mono ?_
 rintro e w2 ⟨rfl,rfl⟩
 obtain⟨sz,rfl⟩:∃ sz:Nat,size=(sz:Int):=⟨size.toNat,by omega⟩
 have hsz:sz≤256:=by omega
 clear hs
 go_wp2_with fail
 refine(treeAll_any a n c B root 3 w2 (h.out.below b0.out)).mono ?_
 rintro e w3 ⟨hA,b3⟩
 rcases hA with⟨e', rfl,he,hno⟩ | ⟨l,va,vc,rfl,hl,hl3,hR,hr,hW⟩
 ·have he':(e' == 0)=false:=by simp[he]
  have hno':Hid (¬FileOk n B key root sz):=hid fun f=>hno f.checked
  clear hno
  have bel:=Below.tr b0.out b3
  go_wp2_with fail
  go_ret2
  exact⟨.inl ⟨e', rfl,he,hno'.out⟩,bel⟩
 obtain rfl:l=3:=by omega
 have f1':=(kf.out.below b3).cell 1
 simp at f1'
 replace kf:=hid (kf.out.below b3)
 have bel:=hid (Below.tr b0.out b3)
 have h04:=fun i hi=>leafAt_04 hR 3 root hr i hi
 replace h04:=hid h04
 replace hR:=hid hR
 replace hr:=hid hr
 replace hW:=hid hW
 clear hl hl3 s0 f0 f1 b0 ks h
 have e64:pw 3=64:=rfl
 rw[e64]
 have hb3:=hid b3
 have hw3:w.heap.size≤w3.heap.size:=bel.out.size
 clear b3
 go_wp2_with (at_make; refine wpList_make_full _ rfl (.const (.int .i64 256)) (.const (.int .i64 256)) 28 rfl w.heap.size 5 i0 (.int .u8 0) 1 Tryz.underlying28 hi0 hz0 hz1 .i64 .i64 256 256 256 rfl rfl rfl rfl (by rw[hz2]; omega) (by unfold maxLen; omega) hw3 ?_; intro w4 hown hgr; replace hown:=hid hown; replace hgr:=hid hgr)
 have hE0:=hid (oe_start (key:=key) (L:=leafAt B 3 root) hown.out hgr.out)
 clear hown hgr
 go_loopw [38] (fun v wr=>∃ i:Nat,i≤64∧v=.int .i64 i∧OE w3 wr w3.heap.size key (leafAt B 3 root) i) (fun v _=>64-(Go.RowKit.intOf v).toNat)
 case atStart=>exact⟨0,Nat.zero_le _,rfl,hE0.out⟩
 case round=>
  clear hE0
  obtain⟨i,hi64,rfl,hE⟩:=hrel
  by_cases hlt:i<64
  ·obtain⟨rb,ro,x,ln,lc,rfl,hrb,hrc,hrN⟩:=(hW.out.below hE.bel).2 i hlt
   rw[leavesL_getD B 3 root i hlt] at hrN
   have hlen:=hrN.1
   rcases h04.out i hlt with h0 | h4
   ·have hn0:ln=0:=by rw[←hlen,h0]; rfl
    subst hn0
    have hE':Hid (OE w3 wr w3.heap.size key (leafAt B 3 root) (i+1)):=hid ⟨by rw[rowTo_skip _ _ _ h0]; exact hE.row,hE.bel,fun j hj=>by
     by_cases e:j=i
     ·subst e; exact .inl h0
     ·exact hE.form j (by omega)⟩
    clear hE hrN hlen h0
    go_wp2_with fail
    go_roundw
    case rel=>exact⟨i+1,by omega,by go_num,hE'.out⟩
    case measure=>simp[Go.RowKit.intOf]; omega
   ·have hn4:ln=4:=by omega
    subst hn4
    clear hlen
    replace hE:=hid hE
    replace hrN:=hid hrN
    replace h4:=hid h4
    go_wp2_with fail
    refine(open_ok key _ x 4 lc _ wr (sealPlace_keyB hkb.out hlt) (by omega) hrN.out.bytesAt).mono ?_
    rintro e w5 ⟨g5,rfl,hB5,b5⟩
    rw[sealPlace_eq i] at hB5
    have hne:Hid (leafAt B 3 root i≠[]):=hid fun f=>by have:=h4.out; rw[f] at this; simp at this
    have hpl:Hid (plain key i (leafAt B 3 root i)=openL key (sealPlace i) (leafAt B 3 root i)):=hid (if_neg hne.out)
    have hol:Hid ((openL key (sealPlace i) (leafAt B 3 root i)).length=4):=hid (by rw[openL_length]; exact h4.out)
    have hrow5:=hid (hE.out.row.below b5)
    have hE5:Hid (Below w3.heap.size w3 w5):=hid (hE.out.bel.trans (b5.mono hE.out.bel.size))
    have hnx:=hid (rowTo_next key (leafAt B 3 root) i hlt hne.out h4.out)
    have hN5:=hid hB5.nums
    have bel5:Hid (Below w.heap.size w w5):=hid (Below.tr bel.out hE5.out)
    clear hB5 b5
    generalize openL key (sealPlace i) (leafAt B 3 root i)=op at *
    go_wp2_with fail
    refine(isNoughts_any _ 4 _ op (fun _=>True) w5 (by omega) hN5.out).mono ?_
    rintro e w6 ⟨⟨rfl,hz⟩ | ⟨rfl,hz⟩,rfl⟩
    ·have hno:Hid (¬FileOk n B key root sz):=hid fun f=>by
      rcases f.form i hlt with h | h
      ·exact hne.out h
      ·exact h (by rw[hpl.out]; exact four_zero hol.out hz)
     clear hz
     go_wp2_with fail
     go_ret2
     exact⟨.inl ⟨4,rfl,by omega,hno.out⟩,bel5.out⟩
    ·have hE6:Hid (∀ w7,CellsAt w7 w3.heap.size (splice ((rowTo key (leafAt B 3 root) i).map (Value.int .u8)) (4*i) (op.map (Value.int .u8))).toArray 5→Below w3.heap.size w3 w7→OE w3 w7 w3.heap.size key (leafAt B 3 root) (i+1)):=hid fun w7 h1 h2=>⟨by rw[←hnx.out,←map_splice]; exact h1,h2,fun j hj=>by
      by_cases e:j=i
      ·subst e; exact .inr (by rw[hpl.out]; intro f; exact hz (by rw[f]; intro x hx; simp at hx; exact hx))
      ·exact hE.out.form j (by omega)⟩
     have hone:=hid (one_map op)
     have hsrc:=hid (src_map hN5.out (by omega))
     have hcl:Hid ((op.map (Value.int .u8)).length=4):=hid (by rw[List.length_map]; exact hol.out)
     have hrl:Hid (((rowTo key (leafAt B 3 root) i).map (Value.int .u8)).length=256):=hid (by rw[List.length_map,rowTo_length])
     clear hz hE hrN
     generalize op.map (Value.int .u8)=X at *
     generalize (rowTo key (leafAt B 3 root) i).map (Value.int .u8)=Y at *
     obtain⟨w7,hrun,hr7,b7⟩:=copy_run (off:=i*4) (dLen:=256-i*4) (dCap:=256-i*4) (sLen:=4) (sCap:=4) (sp:=some ⟨g5,0,none⟩) Y X hrow5.out hcl.out (by show 4=min 4 (256-i*4); omega) (fun _=>⟨_,rfl,hsrc.out⟩) (by rw[hrl.out]; omega) hone.out hE5.out (Nat.le_refl _)
     rw[Nat.mul_comm i 4] at hr7
     replace hr7:=hid (hE6.out w7 hr7 b7)
     clear b7 hE6 hrow5
     go_wp2_with fail
     go_roundw
     case rel=>exact⟨i+1,by omega,by go_num,hr7.out⟩
     case measure=>simp[Go.RowKit.intOf]; omega
  ·obtain rfl:i=64:=by omega
   have hrow:=hE.row
   rw[rowTo_all] at hrow
   have hform:=hid hE.form
   have bel6:=hid (Below.tr bel.out hE.bel)
   have hN:=nums_of_cells (Q:=fun _=>True) trivial (fileL_bytes key (leafAt B 3 root)) hrow
   rw[fileL_length] at hN
   have hpc:=hid (hN.piece (lo:=sz) (m:=256-sz) (by omega))
   have hfl:=fileL_length key (leafAt B 3 root)
   have f2:=(hE.bel.cell (p:=⟨w.heap.size+1,1,none⟩) kf.out.lt).trans f1'
   have hbeh:Hid ((∀ x∈((fileL key (leafAt B 3 root)).drop sz).take (256-sz),x=0)↔∀ k:Nat,(sz:Int)≤k→k<256→(fileL key (leafAt B 3 root)).getD k 0=0):=hid (by
    have hl2:(((fileL key (leafAt B 3 root)).drop sz).take (256-sz)).length=256-sz:=by simp[hfl]
    have hg:∀ j,j<256-sz→(((fileL key (leafAt B 3 root)).drop sz).take (256-sz)).getD j 0=(fileL key (leafAt B 3 root)).getD (sz+j) 0:=fun j hj=>by simp[List.getD,hj]
    rw[←getD_all hl2]
    constructor
    ·intro h k h1 h2
     have:=h (k-sz) (by omega)
     rw[hg _ (by omega),show sz+(k-sz)=k by omega] at this
     exact this
    ·intro h j hj
     rw[hg j hj]
     exact h (sz+j) (by omega) (by omega))
   replace hrow:=hid hrow
   replace hfl:=hid hfl
   clear hE hN
   have hok:Hid ((∀ x∈((fileL key (leafAt B 3 root)).drop sz).take (256-sz),x=0)↔FileOk n B key root sz):=hid ⟨fun f=>⟨hkb.out,by omega,hR.out,hr.out,hform.out,hbeh.out.1 f⟩,fun f=>hbeh.out.2 f.behind⟩
   generalize ((fileL key (leafAt B 3 root)).drop sz).take (256-sz)=tl at *
   clear hbeh hform
   rcases Nat.lt_or_ge sz 256 with hs2 | hs2
   ·rw[Nat.zero_add] at hpc
    go_wp2_with fail
    refine(isNoughts_any _ _ _ tl (fun _=>True) wr (by omega) hpc.out).mono ?_
    rintro e w6 ⟨⟨rfl,hz⟩ | ⟨rfl,hz⟩,rfl⟩
    ·rw[hok.out] at hz
     replace hz:=hid hz
     go_wp2_with fail
     go_ret2
     exact⟨.inr ⟨w3.heap.size,rfl,hz.out,hw3,hrow.out⟩,bel6.out⟩
    ·rw[hok.out] at hz
     replace hz:=hid hz
     go_wp2_with fail
     go_ret2
     exact⟨.inl ⟨4,rfl,by omega,hz.out⟩,bel6.out⟩
   ·obtain rfl:sz=256:=by omega
    have hp0:Hid (NumsAt (fun _=>True) .u8 wr (some ⟨w3.heap.size,0,none⟩) 0 tl):=hid ⟨by have:=hpc.out.1; omega,hpc.out.2.1,fun h=>absurd h (by omega)⟩
    clear hpc
    go_wp2_with fail
    refine(isNoughts_any _ 0 _ tl (fun _=>True) wr (by omega) hp0.out).mono ?_
    rintro e w6 ⟨⟨rfl,hz⟩ | ⟨rfl,hz⟩,rfl⟩
    ·rw[hok.out] at hz
     replace hz:=hid hz
     go_wp2_with fail
     go_ret2
     exact⟨.inr ⟨w3.heap.size,rfl,hz.out,hw3,hrow.out⟩,bel6.out⟩
    ·rw[hok.out] at hz
     replace hz:=hid hz
     go_wp2_with fail
     go_ret2
     exact⟨.inl ⟨4,rfl,by omega,hz.out⟩,bel6.out⟩
end Go.Proofs.YtjafgnohlkkopaaGreatDoor

namespace Go.Proofs.YtjafgnohlkkopaaGreatDoor
open Go.RowKit
theorem below_two (w:World) (o q:Obj):Below w.heap.size w ((w.alloc o).alloc q):=(below_alloc w o).alloc (by simp) q
theorem fileCheck_any (a:Option Addr) (n c:Nat) (B:Nat→Blk) (key root size:Int) (w:World) (h:StoreAt w a n B):
 Calls Tryz.prog 106 #[.agg #[.slice a n c],.int .i64 key,.agg #[.int .i64 root,.int .i64 size]] w fun e w'=>RetE e (FileOk n B key root size)∧Below w.heap.size w w':=by
 have b0:=hid (below_two w (.cells #[.slice a n c] 24) (.cells #[.int .i64 root,.int .i64 size] 104))
 replace h:=hid h
 go_enter Tryz.func106,Tryz.ntmps106
 go_wp2_with fail
 generalize (w.alloc (.cells #[.slice a n c] 24)).alloc (.cells #[.int .i64 root,.int .i64 size] 104)=w0 at *
 refine(open_any a n c B key root size w0 (h.out.below b0.out)).mono ?_
 rintro e w1 ⟨⟨e', rfl,he,hno⟩ | ⟨g,rfl,hok,hg,hrow⟩,b1⟩
 ·replace hno:=hid hno
  go_wp2_with fail
  go_ret
  exact⟨⟨e', rfl,fun f=>absurd f he,fun f=>absurd f hno.out⟩,Below.tr b0.out b1⟩
 ·replace hok:=hid hok
  replace hrow:=hid hrow
  go_wp2_with fail
  go_ret
  exact⟨⟨0,rfl,fun _=>hok.out,fun _=>rfl⟩,Below.tr b0.out b1⟩
def readL (O:List Int) (s at' m:Nat):List Int:=((O.take s).drop at').take m
theorem readL_getD (O:List Int) (s at' m k:Nat) (h:at'+k<s) (hk:k<m):(readL O s at' m).getD k 0=O.getD (at'+k) 0:=by simp[readL,List.getD,hk,h]
theorem readL_length (O:List Int) (s at' m:Nat) (hO:O.length=256) (hs:s≤256):(readL O s at' m).length=min m (s-at'):=by simp[readL,hO]; omega
theorem readL_cut (O:List Int) (s at' m lo ln:Nat) (hO:O.length=256) (hs:s≤256) (h:ln=min m (s-at')) (hlo:0<ln→lo=at'):(O.drop lo).take ln=readL O s at' m:=by
 by_cases h0:ln=0
 ·have h1:(readL O s at' m).length=0:=by rw[readL_length _ _ _ _ hO hs]; omega
  rw[List.eq_nil_of_length_eq_zero h1,h0]; simp
 ·have h2:=hlo (by omega)
  subst h2
  apply list_ext_getD
  ·rw[readL_length _ _ _ _ hO hs]; simp[hO]; omega
  ·intro k hk
   have hk':k<ln:=by simp[hO] at hk; omega
   rw[readL_getD _ _ _ _ _ (by omega) (by omega)]
   simp[List.getD,hk']
def RetRd (base:Nat) (e:Ending) (w:World) (n:Nat) (B:Nat→Blk) (key root size at' m:Int):Prop:=
 (∃ e':Int,e=.returned (.tuple #[.slice none 0 0,.int .i64 e'])∧e'≠0∧¬(FileOk n B key root size∧(0≤at'∧at'≤256)∧(0≤m∧m≤256)))∨
 (∃ (x:Option Addr) (ln lc:Nat),e=.returned (.tuple #[.slice x ln lc,.int .i64 0])∧FileOk n B key root size∧ln≤lc∧NumsAt (fun b=>base≤b) .u8 w x ln (readL (fileL key (leafAt B 3 root)) size.toNat at'.toNat m.toNat))
def RdWhy (e:Ending) (n:Nat) (B:Nat→Blk) (key root size at' m:Int):Prop:=FileOk n B key root size→((0≤at'∧at'≤256)∧(0≤m∧m≤256))∨e=.returned (.tuple #[.slice none 0 0,.int .i64 3])
set_option maxHeartbeats 4000000 in
set_option maxRecDepth 100000 in
theorem fileRead_full (a:Option Addr) (n c:Nat) (B:Nat→Blk) (key root size at' m:Int) (w:World) (h:StoreAt w a n B):
 Calls Tryz.prog 46 #[.agg #[.slice a n c],.int .i64 key,.agg #[.int .i64 root,.int .i64 size],.int .i64 at', .int .i64 m] w fun e w'=>(RetRd w.heap.size e w' n B key root size at' m∧RdWhy e n B key root size at' m)∧Below w.heap.size w w':=by
 have b0:=hid (below_two w (.cells #[.slice a n c] 24) (.cells #[.int .i64 root,.int .i64 size] 104))
 have kf:CellsAt _ (w.heap.size+1) #[.int .i64 root,.int .i64 size] 104:=cellsAt_alloc2 w (.cells #[.slice a n c] 24) _ _
 replace kf:=hid kf
 replace h:=hid h
 go_enter Tryz.func46,Tryz.ntmps46
 go_wp2_with fail
 generalize (w.alloc (.cells #[.slice a n c] 24)).alloc (.cells #[.int .i64 root,.int .i64 size] 104)=w0 at *
 refine(open_any a n c B key root size w0 (h.out.below b0.out)).mono ?_
 rintro e w1 ⟨⟨e', rfl,he,hno⟩ | ⟨g,rfl,hok,hg,hrow⟩,b1⟩
 ·have he':(e' == 0)=false:=by simp[he]
  replace hno:=hid hno
  go_wp2_with fail
  go_ret2
  exact⟨⟨.inl ⟨e', rfl,he,fun f=>hno.out f.1⟩,fun f=>absurd f hno.out⟩,Below.tr b0.out b1⟩
 have hs:=hok.sb
 obtain⟨sz,rfl⟩:∃ sz:Nat,size=(sz:Int):=⟨size.toNat,by omega⟩
 have hN:=nums_of_cells (Q:=fun b=>w.heap.size≤b) (Nat.le_trans b0.out.size hg) (fileL_bytes key (leafAt B 3 root)) hrow
 rw[fileL_length] at hN
 have hfl:=fileL_length key (leafAt B 3 root)
 have f1:=(kf.out.below b1).cell 1
 simp at f1
 have bel:=hid (Below.tr b0.out b1)
 have hcut:=hid (fun (at' m lo ln:Nat)=>readL_cut (fileL key (leafAt B 3 root)) sz at' m lo ln hfl (by omega))
 replace hN:=hid hN
 replace hok:=hid hok
 clear hrow b1 kf hfl b0 h hg
 by_cases ha:0≤at'∧at'≤256
 case neg=>
  go_wp2_with fail
  refine(isSize_no at' w1 ha).mono ?_
  rintro e w2 ⟨rfl,rfl⟩
  replace ha:=hid ha
  go_wp2_with fail
  go_ret2
  exact⟨⟨.inl ⟨3,rfl,by omega,fun f=>ha.out f.2.1⟩,fun _=>.inr rfl⟩,bel.out⟩
 go_wp2_with fail
 refine(isSize_ok at' w1 ha).mono ?_
 rintro e w2 ⟨rfl,rfl⟩
 obtain⟨A,rfl⟩:∃ A:Nat,at'=(A:Int):=⟨at'.toNat,by omega⟩
 have hA:A≤256:=by omega
 clear ha
 by_cases hm:0≤m∧m≤256
 case neg=>
  go_wp2_with fail
  refine(isSize_no m w2 hm).mono ?_
  rintro e w3 ⟨rfl,rfl⟩
  replace hm:=hid hm
  go_wp2_with fail
  go_ret2
  exact⟨⟨.inl ⟨3,rfl,by omega,fun f=>hm.out f.2.2⟩,fun _=>.inr rfl⟩,bel.out⟩
 go_wp2_with fail
 refine(isSize_ok m w2 hm).mono ?_
 rintro e w3 ⟨rfl,rfl⟩
 obtain⟨M,rfl⟩:∃ M:Nat,m=(M:Int):=⟨m.toNat,by omega⟩
 have hM:M≤256:=by omega
 have hsz:sz≤256:=by omega
 clear hm hs
 have fin:Hid (∀ (x:Option Addr) (ln lc lo:Nat),ln≤lc→ln=min M (sz-A)→(0<ln→x=some ⟨g,lo,none⟩∧lo=A∧lo+ln≤256)→RetRd w.heap.size (.returned (.tuple #[.slice x ln lc,.int .i64 0])) w3 n B key root sz A M):=hid (fun x ln lc lo h1 h2 h3=>.inr ⟨x,ln,lc,rfl,hok.out,h1,by
  rw[Int.toNat_natCast,Int.toNat_natCast,Int.toNat_natCast,←hcut.out A M lo ln h2 (fun h=>(h3 h).2.1)]
  by_cases h0:ln=0
  ·subst h0
   simp only[List.take_zero]
   exact numsAt_nil _ _ _ _
  ·obtain⟨rfl,_,h4⟩:=h3 (by omega)
   have:=hN.out.piece (lo:=lo) (m:=ln) h4
   rwa [Nat.zero_add] at this⟩)
 clear hN hcut
 by_cases h1:A<sz
 ·have h1':(A:Int)<(sz:Int):=by omega
  by_cases h2:A+M<sz
  ·have h2':(A:Int)+(M:Int)<(sz:Int):=by omega
   go_wp2_with fail
   all_goals (go_ret2; exact⟨⟨fin.out _ _ _ A (by omega) (by omega) (fun _=>⟨by simp,rfl,by omega⟩),fun _=>.inl (by omega)⟩,bel.out⟩)
  ·have h2':¬(A:Int)+(M:Int)<(sz:Int):=by omega
   go_wp2_with fail
   all_goals (go_ret2; exact⟨⟨fin.out _ _ _ A (by omega) (by omega) (fun _=>⟨by simp,rfl,by omega⟩),fun _=>.inl (by omega)⟩,bel.out⟩)
 ·have h1':¬(A:Int)<(sz:Int):=by omega
  have h2':¬(A:Int)+(M:Int)<(sz:Int):=by omega
  go_wp2_with fail
  all_goals (go_ret2; exact⟨⟨fin.out _ _ _ A (by omega) (by omega) (fun f=>absurd f (by omega)),fun _=>.inl (by omega)⟩,bel.out⟩)
end Go.Proofs.YtjafgnohlkkopaaGreatDoor

namespace Go.Proofs.YtjafgnohlkkopaaGreatDoor
open Go.RowKit
def Ahead {α:Type} (f:α→List UInt8) (l:List α) (j:Nat) (s:List UInt8):Prop:=(j=0∧s=[])∨∃ x,l[j-1]? =some x∧0<j∧s=f x
theorem ahead_next {α:Type} {f:α→List UInt8} {l:List α} {j:Nat} {x:α} (hx:l[j]? =some x):Ahead f l (j+1) (f x):=.inr ⟨x,hx,by omega,rfl⟩
theorem take_next {α:Type} {l:List α} {j:Nat} {x:α} (hx:l[j]? =some x):l.take (j+1)=l.take j++[x]:=by
 rw[List.take_add_one,hx]; rfl
theorem order_next {α:Type} {f:α→List UInt8} {l:List α} {j:Nat} {x:α} {s:List UInt8} (hx:l[j]? =some x) (ho:(l.take j).Pairwise fun a b=>f a<f b) (ha:Ahead f l j s) (hlt:s<f x):(l.take (j+1)).Pairwise fun a b=>f a<f b:=by
 rw[take_next hx,List.pairwise_append]
 refine⟨ho,by simp,fun a ha' b hb=>?_⟩
 rw[List.mem_singleton.1 hb]
 obtain⟨k,hk,rfl⟩:=List.mem_iff_getElem.1 ha'
 have hkj:=hk
 rw[List.length_take] at hkj
 rcases ha with⟨h0,_⟩ | ⟨y,hy,h0,rfl⟩
 ·omega
 ·obtain⟨hy1,hy2⟩:=List.getElem?_eq_some_iff.1 hy
  by_cases e:k=j-1
  ·subst e
   rw[List.getElem_take,hy2]
   exact hlt
  ·refine List.lt_trans ?_ hlt
   have:=List.pairwise_iff_getElem.1 ho k (j-1) hk (by rw[List.length_take]; omega) (by omega)
   rw[List.getElem_take (i:=j-1),hy2] at this
   exact this
theorem order_ahead {α:Type} {f:α→List UInt8} {l:List α} {j:Nat} {x:α} {s:List UInt8} (hx:l[j]? =some x) (ho:l.Pairwise fun a b=>f a<f b) (ha:Ahead f l j s) (hn:1≤(f x).length):s<f x:=by
 obtain⟨hj,rfl⟩:=List.getElem?_eq_some_iff.1 hx
 rcases ha with⟨h0,rfl⟩ | ⟨y,hy,h0,rfl⟩
 ·cases h:f l[j] with
  | nil=>rw[h] at hn; simp at hn
  | cons a b=>exact List.nil_lt_cons a b
 ·obtain⟨hy1,rfl⟩:=List.getElem?_eq_some_iff.1 hy
  exact List.pairwise_iff_getElem.1 ho (j-1) j hy1 hj (by omega)
structure FilesTo (n:Nat) (B:Nat→Blk) (key:Int) (l:List Ent) (j:Nat):Prop where
 names:∀ x∈l.take j,IsName x.name
 order:(l.take j).Pairwise fun a b=>a.nm<b.nm
 files:∀ x∈l.take j,FileOk n B key x.root x.size
theorem FilesTo.next {n:Nat} {B:Nat→Blk} {key:Int} {l:List Ent} {j:Nat} {x:Ent} {s:List UInt8} (h:FilesTo n B key l j) (hx:l[j]? =some x) (ha:Ahead Ent.nm l j s) (hn:IsName x.name∧s<x.name.data.toList) (hf:FileOk n B key x.root x.size):FilesTo n B key l (j+1):=by
 refine⟨fun y hy=>?_,order_next hx h.order ha hn.2,fun y hy=>?_⟩
 ·rw[take_next hx] at hy
  rcases List.mem_append.1 hy with hy | hy
  ·exact h.names y hy
  ·rw[List.mem_singleton.1 hy]; exact hn.1
 ·rw[take_next hx] at hy
  rcases List.mem_append.1 hy with hy | hy
  ·exact h.files y hy
  ·rw[List.mem_singleton.1 hy]; exact hf
set_option maxHeartbeats 2000000 in
set_option maxRecDepth 100000 in
theorem checkFiles_any (Q:Nat→Prop) (a:Option Addr) (n c:Nat) (B:Nat→Blk) (key:Int) (fa:Option Addr) (fn fc:Nat) (l:List Ent) (w:World) (h:StoreAt w a n B) (hE:EntsAt Q w fa fn l):
 Calls Tryz.prog 81 #[.agg #[.slice a n c],.int .i64 key,.slice fa fn fc] w fun e w'=>RetE e (FilesOk n B key l)∧Below w.heap.size w w':=by
 have b0:=below_alloc w (.cells #[.slice a n c] 24)
 have k0:CellsAt _ w.heap.size #[.slice a n c] 24:=cellsAt_alloc w _ _
 have hl:=hid hE.1
 replace h:=hid (h.below b0)
 replace hE:=hid (hE.below b0)
 replace k0:=hid k0
 go_enter Tryz.func81,Tryz.ntmps81
 by_cases h6:(6:Int)<(fn:Int)
 ·go_wp2_with fail
  go_ret
  exact⟨retE_no 2 (by omega) (fun f=>by have:=f.few; rw[hl.out] at this; omega),b0⟩
 ·go_wp2_with fail
  generalize w.alloc (.cells #[.slice a n c] 24)=w0 at *
  go_loopw [7,17] (fun u v wr=>∃ (j:Nat) (s:ByteArray),j≤fn∧v=.int .i64 j∧u=.string s∧Below w0.heap.size w0 wr∧Ahead Ent.nm l j s.data.toList∧FilesTo n B key l j) (fun _ v _=>fn-(Go.RowKit.intOf v).toNat)
  case atStart=>exact⟨0,⟨#[]⟩,Nat.zero_le _,rfl,rfl,Below.refl _ _,.inl ⟨rfl,rfl⟩,by simp,by simp,by simp⟩
  case round=>
   obtain⟨j,s,hj,rfl,rfl,hb,ha,hF⟩:=hrel
   replace ha:=hid ha
   replace hF:=hid hF
   by_cases hlt:j<fn
   ·have hjl:j<l.length:=by rw[hl.out]; exact hlt
    have hE':=hE.out.below hb
    obtain⟨eb,off,rfl⟩:∃ b off,fa=some ⟨b,off,none⟩:=by
     obtain⟨b,off,e,_⟩:=hE'.2.2 (by omega)
     exact⟨b,off,e⟩
    have hx:l[j]? =some (l.getD j Ent.zero):=by rw[List.getElem?_eq_getElem hjl]; simp[List.getD,hjl]
    have hok:=hE'.2.1 _ (hE'.getD hlt)
    have hA:=hE'.ent hlt
    have c0:=hA.c0
    have c1:=hA.c1
    have c2:=hA.c2
    replace hx:=hid hx
    have hsm:=hok.1
    clear hA hE' hok hjl
    generalize l.getD j Ent.zero=x at *
    go_wp2_with fail
    have b1:=below_alloc wr (.cells #[.string x.name,.int .i64 x.root,.int .i64 x.size] 106)
    have k1:CellsAt _ wr.heap.size #[.string x.name,.int .i64 x.root,.int .i64 x.size] 106:=cellsAt_alloc wr _ _
    clear c0 c1 c2
    replace hb:=Below.tr hb b1
    generalize wr.alloc (.cells #[.string x.name,.int .i64 x.root,.int .i64 x.size] 106)=w1 at *
    refine(checkName_any s x.name w1 hsm).mono ?_
    rintro e w2 ⟨⟨e', rfl,he⟩,rfl⟩
    have q0:=k1.cell 0
    have q1:=k1.cell 1
    have q2:=k1.cell 2
    have s0:=(hb.cell (p:=⟨w.heap.size,0,none⟩) k0.out.lt).trans (k0.out.cell 0)
    simp at q0 q1 q2 s0
    replace he:=hid he
    replace k1:=hid k1
    by_cases h0:e'=0
    ·have h0':(e' == 0)=true:=by simp[h0]
     have hN:=hid (he.out.1 h0)
     go_wp2_with fail
     refine(fileCheck_any a n c B key x.root x.size w2 (h.out.below hb)).mono ?_
     rintro e w3 ⟨⟨e2,rfl,he2⟩,b3⟩
     have q3:=(b3.cell (p:=⟨wr.heap.size,0,none⟩) k1.out.lt).trans q0
     replace he2:=hid he2
     replace hb:=Below.tr hb b3
     clear q0 q1 q2 s0
     by_cases h2:e2=0
     ·have h2':(e2 == 0)=true:=by simp[h2]
      have hf:=hid (he2.out.1 h2)
      go_wp2_with fail
      go_roundw
      case rel=>exact⟨j+1,x.name,by omega,by go_num,rfl,hb,ahead_next (f:=Ent.nm) hx.out,hF.out.next hx.out ha.out hN.out hf.out⟩
      case measure=>simp[Go.RowKit.intOf]; omega
     ·have h2':(e2 == 0)=false:=by simp[h2]
      go_wp2_with fail
      go_ret
      exact⟨retE_no e2 h2 (fun f=>h2 (he2.out.2 (f.files x (List.mem_of_getElem? hx.out)))),Below.tr b0 hb⟩
    ·have h0':(e' == 0)=false:=by simp[h0]
     go_wp2_with fail
     go_ret
     exact⟨retE_no e' h0 (fun f=>h0 (he.out.2 ⟨f.names x (List.mem_of_getElem? hx.out),order_ahead (f:=Ent.nm) hx.out f.order ha.out (f.names x (List.mem_of_getElem? hx.out)).1⟩)),Below.tr b0 hb⟩
   ·obtain rfl:j=fn:=by omega
    have e1:l.take j=l:=List.take_of_length_le (by rw[hl.out]; exact Nat.le_refl _)
    go_wp2_with fail
    go_ret
    refine⟨retE_yes ⟨by rw[hl.out]; omega,?_,?_,?_⟩,Below.tr b0 hb⟩
    ·have:=hF.out.names; rwa [e1] at this
    ·have:=hF.out.order; rwa [e1] at this
    ·have:=hF.out.files; rwa [e1] at this
structure SnapsTo (n:Nat) (B:Nat→Blk) (key:Int) (l:List SnapE) (j:Nat):Prop where
 names:∀ x∈l.take j,IsName x.name
 order:(l.take j).Pairwise fun a b=>a.nm<b.nm
 files:∀ x∈l.take j,FilesOk n B key x.files
theorem SnapsTo.next {n:Nat} {B:Nat→Blk} {key:Int} {l:List SnapE} {j:Nat} {x:SnapE} {s:List UInt8} (h:SnapsTo n B key l j) (hx:l[j]? =some x) (ha:Ahead SnapE.nm l j s) (hn:IsName x.name∧s<x.name.data.toList) (hf:FilesOk n B key x.files):SnapsTo n B key l (j+1):=by
 refine⟨fun y hy=>?_,order_next hx h.order ha hn.2,fun y hy=>?_⟩
 ·rw[take_next hx] at hy
  rcases List.mem_append.1 hy with hy | hy
  ·exact h.names y hy
  ·rw[List.mem_singleton.1 hy]; exact hn.1
 ·rw[take_next hx] at hy
  rcases List.mem_append.1 hy with hy | hy
  ·exact h.files y hy
  ·rw[List.mem_singleton.1 hy]; exact hf
set_option maxHeartbeats 4000000 in
set_option maxRecDepth 100000 in
theorem setCheck_any (Q:Nat→Prop) (a:Option Addr) (n c:Nat) (B:Nat→Blk) (key:Int) (v:SetV) (x:SetE) (w:World) (h:StoreAt w a n B) (hX:SetAt Q w v x):
 Calls Tryz.prog 52 #[.agg #[.slice a n c],.int .i64 key,v.val] w fun e w'=>RetE e (SetOk n B key x)∧Below w.heap.size w w':=by
 obtain⟨vn,fa,fn,fc,sa,sn,sc⟩:=v
 obtain⟨hnm,hsm,hFi,hSn,hcap⟩:=hX
 simp only at hnm hFi hSn
 subst hnm
 unfold SetV.val
 simp only
 have b0:=below_two w (.cells #[.slice a n c] 24) (.cells #[.string x.name,.slice fa fn fc,.slice sa sn sc] 84)
 have k0:CellsAt _ w.heap.size #[.slice a n c] 24:=(cellsAt_alloc w _ _).below (below_alloc _ (.cells #[.string x.name,.slice fa fn fc,.slice sa sn sc] 84))
 have k1:=cellsAt_alloc2 w (.cells #[.slice a n c] 24) #[.string x.name,.slice fa fn fc,.slice sa sn sc] 84
 have hsl:=hid hSn.1
 replace h:=hid (h.below b0)
 replace hFi:=hid (hFi.below b0)
 replace hSn:=hid (hSn.below b0)
 replace k0:=hid k0
 replace k1:=hid k1
 clear hcap
 go_enter Tryz.func52,Tryz.ntmps52
 go_wp2_with fail
 generalize (w.alloc (.cells #[.slice a n c] 24)).alloc (.cells #[.string x.name,.slice fa fn fc,.slice sa sn sc] 84)=w0 at *
 by_cases hk:keyB key 0=true
 ·have hkb:=keyB_true hk
  refine(check_ok key 0 w0 hk).mono ?_
  rintro e w1 ⟨rfl,rfl⟩
  have s0:=k0.out.cell 0
  have x0:=k1.out.cell 0
  have x1:=k1.out.cell 1
  have x2:=k1.out.cell 2
  simp at s0 x0 x1 x2
  clear hk
  go_wp2_with fail
  refine(check_any ⟨w.heap.size,0,none⟩ a n c B w1 ⟨k0.out.lt,s0,h.out⟩).mono ?_
  rintro e w2 ⟨⟨e', rfl,he⟩,b2⟩
  replace he:=hid he
  replace x0:=(b2.cell (p:=⟨w.heap.size+1,0,none⟩) k1.out.lt).trans x0
  replace x1:=(b2.cell (p:=⟨w.heap.size+1,1,none⟩) k1.out.lt).trans x1
  replace x2:=(b2.cell (p:=⟨w.heap.size+1,2,none⟩) k1.out.lt).trans x2
  replace s0:=(b2.cell (p:=⟨w.heap.size,0,none⟩) k0.out.lt).trans s0
  by_cases h0:e'=0
  ·have h0':(e' == 0)=true:=by simp[h0]
   have hR:=hid (he.out.1 h0)
   go_wp2_with fail
   refine(name_any x.name w2 hsm).mono ?_
   rintro e w3 ⟨⟨t,rfl,ht⟩,rfl⟩
   replace ht:=hid ht
   cases t
   ·go_wp2_with fail
    go_ret
    exact⟨retE_no 1 (by omega) (fun f=>Bool.false_ne_true (ht.out.2 f.name)),Below.tr b0 b2⟩
   ·have hNm:=hid (ht.out.1 rfl)
    go_wp2_with fail
    refine(checkFiles_any Q a n c B key fa fn fc x.files w3 (h.out.below b2) (hFi.out.below b2)).mono ?_
    rintro e w4 ⟨⟨e2,rfl,he2⟩,b4⟩
    replace he2:=hid he2
    replace x2:=(b4.cell (p:=⟨w.heap.size+1,2,none⟩) (Nat.lt_of_lt_of_le k1.out.lt b2.size)).trans x2
    replace s0:=(b4.cell (p:=⟨w.heap.size,0,none⟩) (Nat.lt_of_lt_of_le k0.out.lt b2.size)).trans s0
    replace b4:=Below.tr b2 b4
    clear x0 x1 b2
    by_cases h2:e2=0
    ·have h2':(e2 == 0)=true:=by simp[h2]
     have hFO:=hid (he2.out.1 h2)
     by_cases h3:(3:Int)<(sn:Int)
     ·go_wp2_with fail
      go_ret
      exact⟨retE_no 2 (by omega) (fun f=>by have:=f.fewS; rw[hsl.out] at this; omega),Below.tr b0 b4⟩
     ·go_wp2_with fail
      replace h:=hid (h.out.below b4)
      replace hSn:=hid (hSn.out.below b4)
      replace b4:=hid (Below.tr b0 b4)
      clear x2 he he2 ht
      go_loopw [10,43] (fun u v wr=>∃ (j:Nat) (s:ByteArray),j≤sn∧v=.int .i64 j∧u=.string s∧Below w4.heap.size w4 wr∧Ahead SnapE.nm x.snaps j s.data.toList∧SnapsTo n B key x.snaps j) (fun _ v _=>sn-(Go.RowKit.intOf v).toNat)
      case atStart=>exact⟨0,⟨#[]⟩,Nat.zero_le _,rfl,rfl,Below.refl _ _,.inl ⟨rfl,rfl⟩,by simp,by simp,by simp⟩
      case round=>
       obtain⟨j,s,hj,rfl,rfl,hb,ha,hF⟩:=hrel
       replace ha:=hid ha
       replace hF:=hid hF
       by_cases hlt:j<sn
       ·have hjl:j<x.snaps.length:=by rw[hsl.out]; exact hlt
        have hE':=hSn.out.below hb
        obtain⟨eb,off,rfl⟩:∃ b off,sa=some ⟨b,off,none⟩:=by
             obtain⟨b,off,e,_⟩:=hE'.2 (by omega)
             exact⟨b,off,e⟩
        have hx:x.snaps[j]? =some (x.snaps.getD j SnapE.zero):=by rw[List.getElem?_eq_getElem hjl]; simp[List.getD,hjl]
        obtain⟨ga,gn,gc,hA⟩:=hE'.snap hlt
        have c0:=hA.c0
        have c1:=hA.c1
        have hsz:=hA.small
        have hGf:=hid hA.files
        replace hx:=hid hx
        clear hA hE' hjl
        generalize x.snaps.getD j SnapE.zero=y at *
        go_wp2_with fail
        have b1:=below_alloc wr (.cells #[.string y.name,.slice ga gn gc] 113)
        have k2:CellsAt _ wr.heap.size #[.string y.name,.slice ga gn gc] 113:=cellsAt_alloc wr _ _
        clear c0 c1
        replace hGf:=hid (hGf.out.below b1)
        replace hb:=Below.tr hb b1
        generalize wr.alloc (.cells #[.string y.name,.slice ga gn gc] 113)=w5 at *
        refine(checkName_any s y.name w5 hsz).mono ?_
        rintro e w6 ⟨⟨e3,rfl,he3⟩,rfl⟩
        have q0:=k2.cell 0
        have q1:=k2.cell 1
        have s1:=(hb.cell (p:=⟨w.heap.size,0,none⟩) (cell_lt s0)).trans s0
        simp at q0 q1
        replace he3:=hid he3
        replace k2:=hid k2
        by_cases h5:e3=0
        ·have h5':(e3 == 0)=true:=by simp[h5]
         have hN:=hid (he3.out.1 h5)
         go_wp2_with fail
         refine(checkFiles_any Q a n c B key ga gn gc y.files w6 (h.out.below hb) hGf.out).mono ?_
         rintro e w7 ⟨⟨e4,rfl,he4⟩,b7⟩
         have q3:=(b7.cell (p:=⟨wr.heap.size,0,none⟩) k2.out.lt).trans q0
         replace he4:=hid he4
         replace hb:=Below.tr hb b7
         clear q0 q1 s1
         by_cases h7:e4=0
         ·have h7':(e4 == 0)=true:=by simp[h7]
          have hf:=hid (he4.out.1 h7)
          go_wp2_with fail
          go_roundw
          case rel=>exact⟨j+1,y.name,by omega,by go_num,rfl,hb,ahead_next (f:=SnapE.nm) hx.out,hF.out.next hx.out ha.out hN.out hf.out⟩
          case measure=>simp[Go.RowKit.intOf]; omega
         ·have h7':(e4 == 0)=false:=by simp[h7]
          go_wp2_with fail
          go_ret
          exact⟨retE_no e4 h7 (fun f=>h7 (he4.out.2 (f.filesS y (List.mem_of_getElem? hx.out)))),Below.tr b4.out hb⟩
        ·have h5':(e3 == 0)=false:=by simp[h5]
         go_wp2_with fail
         go_ret
         exact⟨retE_no e3 h5 (fun f=>h5 (he3.out.2 ⟨f.namesS y (List.mem_of_getElem? hx.out),order_ahead (f:=SnapE.nm) hx.out f.orderS ha.out (f.namesS y (List.mem_of_getElem? hx.out)).1⟩)),Below.tr b4.out hb⟩
       ·obtain rfl:j=sn:=by omega
        have e1:x.snaps.take j=x.snaps:=List.take_of_length_le (by rw[hsl.out]; exact Nat.le_refl _)
        have hTo:=hF.out
        go_wp2_with fail
        go_ret
        refine⟨retE_yes ⟨⟨hkb.1,hkb.2.1⟩,hR.out,hNm.out,hFO.out,by rw[hsl.out]; omega,?_,?_,?_⟩,Below.tr b4.out hb⟩
        ·have:=hTo.names; rwa [e1] at this
        ·have:=hTo.order; rwa [e1] at this
        ·have:=hTo.files; rwa [e1] at this
    ·have h2':(e2 == 0)=false:=by simp[h2]
     go_wp2_with fail
     go_ret
     exact⟨retE_no e2 h2 (fun f=>h2 (he2.out.2 f.files)),Below.tr b0 b4⟩
  ·have h0':(e' == 0)=false:=by simp[h0]
   go_wp2_with fail
   go_ret
   exact⟨retE_no e' h0 (fun f=>h0 (he.out.2 f.right)),Below.tr b0 b2⟩
 ·have hk':keyB key 0=false:=by simpa using hk
  have hno:=keyB_false hk'
  refine(check_no key 0 w0 hk').mono ?_
  rintro e w1 ⟨rfl,rfl⟩
  replace hno:=hid hno
  clear hk hk'
  go_wp2_with fail
  go_ret
  exact⟨retE_no 3 (by omega) (fun f=>hno.out ⟨f.kb.1,f.kb.2,by omega,by omega⟩),b0⟩
end Go.Proofs.YtjafgnohlkkopaaGreatDoor

namespace Go.Proofs.YtjafgnohlkkopaaGreatDoor
open Go.RowKit
def moreB (B:Nat→Blk) (K:List Int):Nat→Blk:=fun i=>{ B i with refs:=(B i).refs+(K.count ((i:Int)+1):Int) }
theorem moreB_nil (B:Nat→Blk):moreB B []=B:=by
 funext i
 unfold moreB
 simp
theorem moreB_refs (B:Nat→Blk) (K:List Int) (i:Nat):(moreB B K i).refs=(B i).refs+(K.count ((i:Int)+1):Int):=rfl
theorem moreB_zero (B:Nat→Blk) (K:List Int):moreB B (K++[0])=moreB B K:=by
 funext i
 unfold moreB
 rw[List.count_append,List.count_cons_of_ne (by omega)]
 simp
theorem moreB_one (B:Nat→Blk) (K:List Int) (m:Nat):moreB B (K++[(m:Int)+1])=upd (moreB B K) m { moreB B K m with refs:=(moreB B K m).refs+1 }:=by
 funext i
 by_cases e:i=m
 ·subst e
  rw[upd_same]
  unfold moreB
  rw[List.count_append,List.count_cons_self]
  simp
  omega
 ·rw[upd_other _ _ _ _ e]
  unfold moreB
  rw[List.count_append,List.count_cons_of_ne (by omega)]
  simp
theorem among_moreB (n:Nat) (B:Nat→Blk) (K:List Int) (x:Int):among n (moreB B K) x=among n B x:=among_congr x fun _ _=>rfl
theorem outs_moreB (n:Nat) (B:Nat→Blk) (K:List Int) (k:Nat):outs n (moreB B K) k=outs n B k+(K.count ((k:Int)+1):Int):=by
 unfold outs
 rw[among_moreB,moreB_refs]
 omega
theorem there_moreB {n:Nat} {B:Nat→Blk} {K:List Int} (hB:Right n B) {x:Int} (h:There n B x):There n (moreB B K) x:=by
 obtain⟨h1,h2,h3⟩:=h
 have:=(hB.one _ (ix h1 h2).1).bounds
 exact⟨h1,h2,by rw[moreB_refs]; omega⟩
theorem right_moreB {n:Nat} {B:Nat→Blk} {K:List Int} (hB:Right n B) (hK:∀ x∈K,x=0∨There n B x) (hc:∀ i,i<n→(B i).refs+(K.length:Int)≤1000000):Right n (moreB B K):=by
 refine⟨hB.small,fun i hi=>?_,fun i hi=>?_,fun k hk=>absurd hk (by simp)⟩
 ·have hb:=(hB.one i hi).bounds
  have hcl:=List.count_le_length (a:=(i:Int)+1) (l:=K)
  have hci:=hc i hi
  refine(hB.one i hi).turn (c:=moreB B K i) rfl rfl rfl ?_ fun k _ ht=>⟨there_moreB hB ht,rfl⟩
  by_cases e:(K.count ((i:Int)+1))=0
  ·left; rw[moreB_refs,e]; simp
  ·right
   have hm:((i:Int)+1)∈K:=List.count_pos_iff.1 (by omega)
   rcases hK _ hm with h | ⟨_,_,h⟩
   ·omega
   ·rw[show ((i:Int)+1-1).toNat=i by omega] at h
    rw[moreB_refs]
    omega
 ·rw[among_moreB,moreB_refs]
  have:=hB.held i hi
  simp at this ⊢
  omega
theorem grow_moreB {n:Nat} {B:Nat→Blk} {K:List Int} (hB:Right n B) (hK:∀ x∈K,x=0∨There n B x) (hc:∀ i,i<n→(B i).refs+(K.length:Int)≤1000000):Grow n B (moreB B K) K:=by
 refine⟨right_moreB hB hK hc,⟨fun k hk h0=>?_⟩,fun k _=>outs_moreB n B K k⟩
 have:=(hB.one k hk).bounds
 exact⟨by rw[moreB_refs]; omega,rfl,rfl,rfl⟩
theorem right_held_many {n:Nat} {B:Nat→Blk} {T:List Int} (hB:Right n B) (hT:HeldR n B T) (hb:∀ x∈T,x=0∨(1≤x∧x≤n)):RightT n B T:=by
 refine⟨hB.small,hB.one,fun i hi=>?_,hb⟩
 have:=hT i hi
 unfold outs at this
 omega
theorem fell_refs {n:Nat} {C D:Nat→Blk} {T:List Int} (hF:Fell n C D T):∀ k,k<n→(D k).refs≤(C k).refs-(T.count ((k:Int)+1):Int):=fun k hk=>by
 have h1:=hF.out k hk
 have h2:among n D ((k:Int)+1)≤among n C ((k:Int)+1):=by
  unfold among
  refine sumTo_le fun i hi=>?_
  rcases hF.same i hi with e | ⟨_,_,_,e,_⟩
  ·rw[e]; simp[Blk.zero]
  ·rw[e]; exact Nat.le_refl _
 omega
set_option maxHeartbeats 2000000 in
set_option maxRecDepth 100000 in
theorem shift_any (p:Addr) (g n:Nat) (B:Nat→Blk) (ma:Option Addr) (mn mc:Nat) (K:List Int) (la:Option Addr) (ln lc:Nat) (T:List Int) (w:World) (h:OwnPtr w p g n B)
 (hM:NumsAt (fun b=>b≠g) .i64 w ma mn K) (hL:NumsAt (fun b=>b≠g) .i64 w la ln T) (hln:ln≤1000) (hmn:mn≤1000) (hB:Right n B) (hK:∀ x∈K,x=0∨There n B x) (hc:∀ i,i<n→(B i).refs+(K.length:Int)≤1000000)
 (hT:∀ k,k<n→(T.count ((k:Int)+1):Int)≤outs n B k+(K.count ((k:Int)+1):Int)) (hTb:∀ x∈T,x=0∨(1≤x∧x≤n)):
 Calls Tryz.prog 95 #[.pointer (some p),.slice ma mn mc,.slice la ln lc] w fun e w'=>e=.returned (.tuple #[])∧Out g w w'∧∃ D,OwnPtr w' p g n D∧Right n D∧Fell n (moreB B K) D T:=by
 have hRT:RightT n (moreB B K) T:=right_held_many (right_moreB hB hK hc) (fun k hk=>by rw[outs_moreB]; exact hT k hk) hTb
 have hn:=hB.small
 have hKl:=hid hM.1
 have hbd:Hid (∀ i,i<n→0≤(B i).refs∧(B i).refs+(K.length:Int)≤1000000):=hid fun i hi=>⟨(hB.one i hi).bounds.1,hc i hi⟩
 replace hRT:=hid hRT
 replace hM:=hid hM
 replace hL:=hid hL
 replace h:=hid h
 replace hK:=hid hK
 clear hB hc hT hTb
 go_enter Tryz.func95,Tryz.ntmps95
 go_wp2_with fail
 go_loopw [10] (fun v wr=>∃ j:Nat,j≤mn∧v=.int .i64 j∧Kept g w wr∧OwnPtr wr p g n (moreB B (K.take j))) (fun v _=>mn-(Go.RowKit.intOf v).toNat)
 case atStart=>exact⟨0,Nat.zero_le _,rfl,Kept.refl _ _,by rw[List.take_zero,moreB_nil]; exact h.out⟩
 case round=>
  obtain⟨j,hjn,rfl,hkp,hP⟩:=hrel
  by_cases hlt:j<mn
  ·obtain⟨kb,ko,rfl,hkb,hgk,hcc⟩:=hM.out.2.2 (by omega)
   have hck:wr.cell? ⟨kb,ko+j,none⟩=some (.int .i64 (K.getD j 0)):=(hkp.cell (p:=⟨kb,ko+j,none⟩) hgk).trans (hcc j hlt)
   have hjl:j<K.length:=by rw[hKl.out]; exact hlt
   have hmem:K.getD j 0∈K:=hM.out.getD hlt
   have htk:=take_snoc hjl
   replace htk:=hid htk
   replace hmem:=hid hmem
   clear hcc
   generalize K.getD j 0=x at *
   by_cases hx0:x=0
   ·have hx0':(x == 0)=true:=by simp[hx0]
    have hP':Hid (OwnPtr wr p g n (moreB B (K.take (j+1)))):=hid (by rw[htk.out,hx0,moreB_zero]; exact hP)
    clear hP
    go_wp2_with fail
    go_roundw
    case rel=>exact⟨j+1,by omega,by go_num,hkp,hP'.out⟩
    case measure=>simp[Go.RowKit.intOf]; omega
   ·have hx0':(x == 0)=false:=by simp[hx0]
    have hth:=(hK.out x hmem.out).resolve_left hx0
    obtain⟨m,rfl⟩:∃ m:Nat,x=(m:Int)+1:=⟨(x-1).toNat,by have:=hth.1; omega⟩
    have hm:m<n:=by have:=hth.2.1; omega
    have hb1:=hbd.out m hm
    have hb2:0≤(moreB B (K.take j) m).refs∧(moreB B (K.take j) m).refs+1≤1000000:=by
     have:=List.count_le_length (a:=(m:Int)+1) (l:=K.take j)
     rw[List.length_take] at this
     rw[moreB_refs]
     omega
    have s2:=hP.cell
    obtain⟨ka,kn,kc,ba,bn,bc,hb⟩:=hP.own.cell hm
    have c0:=hb.c0
    have f0:=hP.own.free (m*4) (by omega)
    have J:Hid (∀ w', w'=wr.setCell ⟨g,m*4,none⟩ (.int .i64 ((moreB B (K.take j) m).refs+1))→∃ j':Nat,j'≤mn∧Value.int .i64 ((j:Int)+1)=.int .i64 j'∧Kept g w w'∧OwnPtr w' p g n (moreB B (K.take j'))):=hid (by
     intro w' hw
     subst hw
     have kk:Kept g wr (wr.setCell ⟨g,m*4,none⟩ (.int .i64 ((moreB B (K.take j) m).refs+1))):=Kept.setCell (g:=g) (Kept.refl _ _) (p:=⟨g,m*4,none⟩) rfl _
     refine⟨j+1,by omega,by go_num,hkp.trans kk,?_⟩
     rw[htk.out,moreB_one]
     exact hP.kept kk (hP.own.refs hm _ (by omega)))
    clear hb hP hth hb1
    generalize (moreB B (K.take j) m).refs=r at *
    go_wp2_with fail
    refine(at_own p g n n m _ hn s2 hm).mono ?_
    rintro e w1 ⟨rfl,rfl⟩
    go_wp2_with fail
    go_roundw
    case rel=>exact J.out _ rfl
    case measure=>simp[Go.RowKit.intOf]; omega
  ·obtain rfl:j=mn:=by omega
   have e2:K.take j=K:=List.take_of_length_le (by rw[hKl.out]; exact Nat.le_refl _)
   rw[e2] at hP
   have hL':=hL.out.kept (fun b h=>h) hkp
   replace hP:=hid hP
   replace hL':=hid hL'
   clear e2
   go_wp2_with fail
   refine(letGo_any p g n (moreB B K) la ln lc T wr hP.out hL'.out hln hRT.out).mono ?_
   rintro e w4 ⟨rfl,hk4,C,h4,hR4,hF4⟩
   replace h4:=hid h4
   replace hR4:=hid hR4
   replace hF4:=hid hF4
   replace hk4:=hid ((Out.of_kept (g:=g) hkp).trans hk4)
   go_wp2_with fail
   go_end0
   exact⟨rfl,hk4.out,C,h4.out,hR4.out,hF4.out⟩
end Go.Proofs.YtjafgnohlkkopaaGreatDoor
