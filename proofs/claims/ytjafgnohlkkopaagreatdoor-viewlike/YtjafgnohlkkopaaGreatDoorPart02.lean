/-
  Blocks2, Blocks3, Blocks4 in one text. Nothing here is trusted.
-/
import Derived.Test.YtjafgnohlkkopaaGreatDoorPart01
import Derived.Laws.ResultCell
import Derived.Lib.SliceRun
set_option linter.unusedVariables false
namespace Go.Proofs.YtjafgnohlkkopaaGreatDoor
open Go.RowKit
theorem Tryz.infoInt:(Tryz.prog.info? 3).map (fun i=>(i.zero,i.size,i.bytes))=some (some (.int .i64 0),1,8):=by kernel_rfl
theorem kid_ix {n:Nat} {B:Nat→Blk} {x:Int} {q:Prop} (h:x=0∨(There n B x∧q)) (h0:¬x=0):∃ m:Nat,x=(m:Int)+1∧m<n:=by
 rcases h with h | ⟨⟨h1,h2,_⟩,_⟩
 ·exact absurd h h0
 ·exact⟨(x-1).toNat,by omega,by omega⟩
def rowOf (n:Nat) (f:Nat→Int):List Value:=(List.range n).map fun k=>.int .i64 (f k)
theorem rowOf_congr {n:Nat} {f g:Nat→Int} (h:∀ k,k<n→f k=g k):rowOf n f=rowOf n g:=by
 unfold rowOf
 apply List.map_congr_left
 intro k hk
 rw[h k (by simpa using hk)]
theorem rowOf_set (n:Nat) (f:Nat→Int) (i:Nat) (v:Int):(rowOf n f).set i (.int .i64 v)=rowOf n (fun k=>if k=i then v else f k):=by
 unfold rowOf
 apply List.ext_getElem
 ·simp
 ·intro k h1 h2
  simp only[List.getElem_set,List.getElem_map,List.getElem_range]
  by_cases e:i=k
  ·subst e; simp
  ·simp[e,show ¬k=i by omega]
theorem made_ints (n:Nat):(madeCells (Value.cells (.int .i64 0)) (n*1)).toList=rowOf n (fun _=>0):=by
 apply List.ext_getElem
 ·simp[madeCells,rowOf]
 ·intro i h1 h2
  simp[madeCells,Value.cells,Nat.mod_one,rowOf]
def Row (w:World) (base g n:Nat) (f:Nat→Int):Prop:=w.ownsRow base 3 1 (.slice (some ⟨g,0,none⟩) n n) n (rowOf n f)
theorem Row.congr {w:World} {base g n:Nat} {f h:Nat→Int} (r:Row w base g n f) (e:∀ k,k<n→f k=h k):Row w base g n h:=by
 unfold Row at *
 rw[←rowOf_congr e]; exact r
theorem Row.cell {w:World} {base g n:Nat} {f:Nat→Int} (r:Row w base g n f) {k:Nat} (hk:k<n):w.cell? ⟨g,k,none⟩=some (.int .i64 (f k)):=by
 unfold Row at r
 rw[r.cellAt k (by omega)]
 simp[rowOf,hk]
theorem Row.frozen {w:World} {base g n:Nat} {f:Nat→Int} (r:Row w base g n f) (k:Nat):w.frozen? ⟨g,k,none⟩=false:=by
 unfold Row at r
 exact r.frozenAt k
theorem Row.set {w:World} {base g n:Nat} {f:Nat→Int} (r:Row w base g n f) (k:Nat) (v:Int):Row (w.setCell ⟨g,k,none⟩ (.int .i64 v)) base g n (fun j=>if j=k then v else f j):=by
 unfold Row at *
 rw[←rowOf_set]
 exact(r.stored k (.int .i64 v)).1
theorem Row.lt {w:World} {base g n:Nat} {f:Nat→Int} (r:Row w base g n f):base≤g∧g<w.heap.size:=by
 unfold Row at r
 exact r.lt g rfl
def cnt (B:Nat→Blk) (i j:Nat) (k:Nat):Int:=(among i B ((k:Int)+1):Int)+(((B i).kids.take j).count ((k:Int)+1):Int)
theorem cnt_zero (B:Nat→Blk) (k:Nat):cnt B 0 0 k=0:=by simp[cnt,among,sumTo]
theorem cnt_next (B:Nat→Blk) (i:Nat) (k:Nat) (j:Nat) (h:(B i).kids.length≤j):cnt B (i+1) 0 k=cnt B i j k:=by
 unfold cnt
 rw[List.take_of_length_le h]
 simp[among,sumTo]
theorem cnt_kid (B:Nat→Blk) (i j k:Nat) (h:j<(B i).kids.length):cnt B i (j+1) k=if (B i).kids.getD j 0=(k:Int)+1 then cnt B i j k+1 else cnt B i j k:=by
 unfold cnt
 rw[take_snoc h,List.count_append]
 by_cases e:(B i).kids.getD j 0=(k:Int)+1
 ·rw[e]; simp; omega
 ·rw[if_neg e,List.count_cons_of_ne e]; simp
theorem among_le {n:Nat} {B:Nat→Blk} (x:Int):∀ i,(∀ j,j<i→(B j).kids.length≤4)→among i B x≤4*i
 | 0,_=>by simp[among,sumTo]
 | i+1,h=>by
   have:=among_le (n:=n) (B:=B) x i (fun j hj=>h j (by omega))
   have h2:=h i (by omega)
   have h3:(B i).kids.count x≤(B i).kids.length:=List.count_le_length
   unfold among at this ⊢
   simp only[sumTo]
   omega
theorem cnt_bd {n:Nat} {B:Nat→Blk} (i j k:Nat) (hi:i<n) (h:∀ j,j<n→(B j).kids.length≤4):0≤cnt B i j k∧cnt B i j k≤4*i+4:=by
 have h1:=among_le (n:=n) (B:=B) ((k:Int)+1) i (fun j hj=>h j (by omega))
 have h2:((B i).kids.take j).count ((k:Int)+1)≤((B i).kids.take j).length:=List.count_le_length
 have h3:=h i hi
 simp at h2
 unfold cnt
 omega
theorem Form.few {n:Nat} {B:Nat→Blk} {b:Blk} (h:Form n B b):b.kids.length≤4:=by
 rcases h with⟨_,_,h,_⟩ | ⟨_,⟨_,h,_⟩ | ⟨_,h,_⟩⟩
 ·simp[h]
 ·simp[h]
 ·omega
set_option maxHeartbeats 1000000 in
set_option maxRecDepth 100000 in
theorem amongKids_any (p:Addr) (a:Option Addr) (n c:Nat) (B:Nat→Blk) (w:World)
 (hn:n≤400) (hp:p.block<w.heap.size) (hs:w.cell? p=some (.slice a n c)) (hS:StoreAt w a n B) (hF:∀ i,i<n→Form n B (B i)):
 Calls Tryz.prog 80 #[.pointer (some p)] w fun e w'=>e=.returned (.slice (some ⟨w.heap.size,0,none⟩) n n)∧Row w' w.heap.size w.heap.size n (fun k=>among n B ((k:Int)+1))∧Below w.heap.size w w':=by
 obtain⟨i0,hi,hz0,hz1,hz2⟩:=info_parts Tryz.infoInt
 have hlen:∀ j,j<n→(B j).kids.length≤4:=fun j hj=>(hF j hj).few
 go_enter Tryz.func80,Tryz.ntmps80
 go_wp2_with (at_make; refine wpList_make_full _ rfl (.tmp 11) (.tmp 11) 36 rfl w.heap.size 3 i0 (.int .i64 0) 1 Tryz.underlying36 hi hz0 hz1 .i64 .i64 n n n rfl rfl rfl rfl (by rw[hz2]; omega) (by unfold maxLen; omega) (by simp) ?_; intro w2 hown hgr; have hb2:Below w.heap.size w w2:=(Below.refl _ _).grown hgr (by simp) (by simp); have hs2:w2.cell? p=some (.slice a n c):=(hb2.cell hp).trans hs)
 rw[made_ints] at hown
 go_loopw [18] (fun v wr=>∃ i:Nat,i≤n∧v=.int .i64 i∧Row wr w.heap.size w.heap.size n (cnt B i 0)∧Below w.heap.size w wr) (fun v _=>n-(Go.RowKit.intOf v).toNat)
 case atStart=>exact⟨0,Nat.zero_le _,rfl,Row.congr (f:=fun _=>0) hown (fun k _=>(cnt_zero B k).symm),hb2⟩
 case round=>
  clear hown hgr hb2 hs2
  obtain⟨i,hin,rfl,hrow,hbel⟩:=hrel
  have hsr:wr.cell? p=some (.slice a n c):=(hbel.cell hp).trans hs
  by_cases hlt:i<n
  ·obtain⟨b,off,rfl,hb,hB⟩:=hS (by omega)
   obtain⟨ka,kn,kc,ba,bn,bc,hblk⟩:=hB i hlt
   have hK:=(hF i hlt).kids
   have hkn:=hblk.kids.1
   have hc2:wr.cell? ⟨b,off+i*4+2,none⟩=some (.slice ka kn kc):=(hbel.cell hb).trans hblk.c2
   have hkids:=hblk.kids
   have hkn4:kn≤4:=by rw[←hkn]; exact hlen i hlt
   clear hB hblk
   replace hK:=hid hK
   replace hkn:=hid hkn
   replace hkids:=hid hkids
   replace hrow:=hid hrow
   go_wp2_with fail
   go_loopw [30] (fun v wi=>∃ j:Nat,j≤kn∧v=.int .i64 j∧Row wi w.heap.size w.heap.size n (cnt B i j)∧Below w.heap.size w wi) (fun v _=>kn-(Go.RowKit.intOf v).toNat)
   case atStart=>exact⟨0,Nat.zero_le _,rfl,hrow.out,hbel⟩
   case round=>
    clear hrow hbel hsr hc2
    obtain⟨j,hjn,rfl,hrow,hbel⟩:=hrel
    by_cases hjlt:j<kn
    ·obtain⟨kb,ko,rfl,hkb,_,hc⟩:=hkids.out.2.2 (by omega)
     have hck:wr.cell? ⟨kb,ko+j,none⟩=some (.int .i64 ((B i).kids.getD j 0)):=(hbel.cell hkb).trans (hc j hjlt)
     have hjl:j<(B i).kids.length:=by rw[hkn.out]; exact hjlt
     have hmem:(B i).kids.getD j 0∈(B i).kids:=hkids.out.getD hjlt
     have hkk:=hK.out _ hmem
     have hstep:=hid (fun k=>cnt_kid B i j k hjl)
     clear hc hmem hjl
     generalize (B i).kids.getD j 0=x at *
     by_cases hx0:x=0
     ·have hx0':(x == 0)=true:=by simp[hx0]
      have hrow':=hid (hrow.congr (h:=cnt B i (j+1)) (fun k _=>by rw[hstep.out,if_neg (by omega)]))
      clear hrow hkk hstep
      go_wp2_with fail
      go_roundw
      case rel=>exact⟨j+1,by omega,by go_num,hrow'.out,hbel⟩
      case measure=>simp[Go.RowKit.intOf]; omega
     ·obtain⟨m,rfl,hm⟩:=kid_ix hkk hx0
      have hx0':(((m:Int)+1) == 0)=false:=by simp[hx0]
      have hrc:=hrow.cell hm
      have hrf:=hrow.frozen m
      have hbd:=cnt_bd (n:=n) (B:=B) i j m hlt hlen
      have hrow':=hid ((hrow.set m (cnt B i j m+1)).congr (h:=cnt B i (j+1)) (fun k _=>by
          rw[hstep.out]
          by_cases e:k=m
          ·subst e; simp
          ·rw[if_neg e,if_neg (by omega)]))
      clear hrow hkk hstep
      generalize cnt B i j m=cv at *
      go_wp2_with fail
      go_roundw
      case rel=>exact⟨j+1,by omega,by go_num,hrow'.out,hbel.setCell (Nat.le_refl _) _⟩
      case measure=>simp[Go.RowKit.intOf]; omega
    ·obtain rfl:j=kn:=by omega
     have hrow':=hid (hrow.congr (h:=cnt B (i+1) 0) (fun k _=>(cnt_next B i k j (by rw[hkn.out]; exact Nat.le_refl _)).symm))
     clear hrow
     go_wp2_with fail
     go_roundw
     case rel=>exact⟨i+1,by omega,by go_num,hrow'.out,hbel⟩
     case measure=>simp[Go.RowKit.intOf]; omega
  ·obtain rfl:i=n:=by omega
   replace hrow:=hid hrow
   go_wp2_with fail
   go_ret
   exact⟨rfl,hrow.out.congr (fun k _=>by simp[cnt]),hbel⟩
structure PtrAt (w:World) (p:Addr) (a:Option Addr) (n c:Nat) (B:Nat→Blk):Prop where
 lt:p.block<w.heap.size
 cell:w.cell? p=some (.slice a n c)
 store:StoreAt w a n B
theorem PtrAt.below {w w':World} {p:Addr} {a:Option Addr} {n c:Nat} {B:Nat→Blk} (h:PtrAt w p a n c B) (hb:Below w.heap.size w w'):PtrAt w' p a n c B:=
 ⟨Nat.lt_of_lt_of_le h.lt hb.size,(hb.cell h.lt).trans h.cell,h.store.below hb⟩
theorem right_iff {n:Nat} {B:Nat→Blk} (hn:n≤400) (hF:∀ i,i<n→Form n B (B i)):Right n B↔∀ i,i<n→((among n B ((i:Int)+1):Nat):Int)≤(B i).refs:=
 ⟨fun h i hi=>by have:=h.held i hi; simpa using this,fun h=>⟨hn,hF,fun i hi=>by simpa using h i hi,by simp⟩⟩
set_option maxHeartbeats 1000000 in
set_option maxRecDepth 100000 in
theorem check_any (p:Addr) (a:Option Addr) (n c:Nat) (B:Nat→Blk) (w:World) (h:PtrAt w p a n c B):
 Calls Tryz.prog 50 #[.pointer (some p)] w fun e w'=>RetE e (Right n B)∧Below w.heap.size w w':=by
 have hs:=h.cell
 by_cases hn:n≤400
 ·go_enter Tryz.func50,Tryz.ntmps50
  go_wp2_with fail
  go_loopw [18] (fun v wr=>∃ i:Nat,i≤n∧v=.int .i64 i∧(∀ k,k<i→Form n B (B k))∧Below w.heap.size w wr) (fun v _=>n-(Go.RowKit.intOf v).toNat)
  case atStart=>exact⟨0,Nat.zero_le _,rfl,fun k hk=>absurd hk (by omega),Below.refl _ _⟩
  case round=>
   obtain⟨i,hin,rfl,hF,hbel⟩:=hrel
   replace h:=h.below hbel
   replace hs:=h.cell
   replace hF:=hid hF
   by_cases hlt:i<n
   ·obtain⟨b,off,rfl,hb,hB⟩:=h.store (by omega)
    obtain⟨ka,kn,kc,ba,bn,bc,hblk⟩:=hB i hlt
    clear hB
    replace hblk:=hid hblk
    go_wp2_with fail
    refine(checkBlock_any p (some ⟨b,off,none⟩) n c B b (off+i*4) _ (B i) ka kn kc ba bn bc _ hn hs h.store hblk.out).mono ?_
    rintro e w1 ⟨⟨c,rfl,hc⟩,m,rfl⟩
    replace hc:=hid hc
    by_cases hc0:c=0
    ·have hc0':(c == 0)=true:=by simp[hc0]
     go_wp2_with fail
     go_roundw
     case rel=>exact⟨i+1,by omega,by go_num,fun k hk=>by rcases Nat.lt_or_ge k i with h' | h'; exact hF.out k h'; obtain rfl:k=i:=by omega
                                                         exact hc.out.1 hc0,hbel.trans (below_drewN _ _ _)⟩
     case measure=>simp[Go.RowKit.intOf]; omega
    ·have hc0':(c == 0)=false:=by simp[hc0]
     go_wp2_with fail
     go_ret
     exact⟨retE_no c hc0 (fun e=>hc0 (hc.out.2 (e.one i hlt))),hbel.trans (below_drewN _ _ _)⟩
   ·obtain rfl:i=n:=by omega
    go_wp2_with fail
    refine(amongKids_any p a i c B _ hn h.lt hs h.store hF.out).mono ?_
    rintro e w1 ⟨rfl,hrow,hb1⟩
    replace hbel:=Below.tr hbel hb1
    replace h:=h.below hb1
    replace hs:=h.cell
    clear hb1
    generalize wr.heap.size=g at *
    replace hrow:=hid hrow
    go_wp2_with fail
    go_loopw [36] (fun v wi=>∃ j:Nat,j≤i∧v=.int .i64 j∧(∀ k,k<j→((among i B ((k:Int)+1):Nat):Int)≤(B k).refs)∧wi=w1) (fun v _=>i-(Go.RowKit.intOf v).toNat)
    case atStart=>exact⟨0,Nat.zero_le _,rfl,fun k hk=>absurd hk (by omega),rfl⟩
    case round=>
     obtain⟨j,hji,rfl,hH,rfl⟩:=hrel
     replace hH:=hid hH
     by_cases hjlt:j<i
     ·have hrc:=hrow.out.cell hjlt
      obtain⟨b,off,rfl,hb,hB⟩:=h.store (by omega)
      obtain⟨ka,kn,kc,ba,bn,bc,hblk⟩:=hB j hjlt
      have hrefs:=hblk.c0
      clear hB hblk hb
      have J:=hid ((right_iff hn hF.out).1)
      have J2:Hid (((among i B ((j:Int)+1):Nat):Int)≤(B j).refs→∀ k,k<j+1→((among i B ((k:Int)+1):Nat):Int)≤(B k).refs):=hid (fun e k hk=>by
       rcases Nat.lt_or_ge k j with h' | h'
       ·exact hH.out k h'
       ·obtain rfl:k=j:=by omega
        exact e)
      have J3:Hid (¬((among i B ((j:Int)+1):Nat):Int)≤(B j).refs→¬Right i B):=hid (fun e f=>e (J.out f j hjlt))
      clear J
      generalize ((among i B ((j:Int)+1):Nat):Int)=am at *
      generalize (B j).refs=rf at *
      by_cases hle:am≤rf
      ·have hle':¬rf<am:=by omega
       go_wp2_with fail
       go_roundw
       case rel=>exact⟨j+1,by omega,by go_num,J2.out hle,trivial⟩
       case measure=>simp[Go.RowKit.intOf]; omega
      ·have hle':rf<am:=by omega
       go_wp2_with fail
       go_ret
       exact⟨retE_no 7 (by omega) (J3.out (by omega)),hbel⟩
     ·obtain rfl:j=i:=by omega
      go_wp2_with fail
      go_ret
      exact⟨retE_yes ((right_iff hn hF.out).2 hH.out),hbel⟩
 ·have J:Hid (¬Right n B):=hid fun e=>hn e.small
  go_enter Tryz.func50,Tryz.ntmps50
  go_wp2_with fail
  go_ret
  exact⟨retE_no 2 (by omega) J.out,Below.refl _ _⟩
end Go.Proofs.YtjafgnohlkkopaaGreatDoor

namespace Go.Proofs.YtjafgnohlkkopaaGreatDoor
open Go.RowKit
def RetS (base:Nat) (e:Ending) (w:World) (n:Nat) (B:Nat→Blk):Prop:=∃ g c,e=.returned (.tuple #[.agg #[.slice (some ⟨g,0,none⟩) n c],.int .i64 0])∧base≤g∧g<w.heap.size∧Blocks (fun b=>base≤b) w g 0 n B
def outs (n:Nat) (B:Nat→Blk) (k:Nat):Int:=(B k).refs-((among n B ((k:Int)+1):Nat):Int)
theorem ownsRow_base {w:World} {B B':Nat} {e:TypeId} {size:Nat} {v:Value} {n:Nat} {xs:List Value} (hB:B'≤B) (h:w.ownsRow B e size v n xs):w.ownsRow B' e size v n xs:=by
 refine⟨h.1,?_⟩
 rcases h.2 with h2 | ⟨g,cap,cur,hv,hg,r⟩
 ·exact .inl h2
 ·exact .inr ⟨g,cap,cur,hv,Nat.le_trans hB hg,r⟩
theorem Row.base {w:World} {base base' g n:Nat} {f:Nat→Int} (r:Row w base g n f) (h:base'≤base):Row w base' g n f:=ownsRow_base h r
theorem among_bd {n:Nat} {B:Nat→Blk} (h:Right n B) (k:Nat) (hk:k<n):0≤((among n B ((k:Int)+1):Nat):Int)∧((among n B ((k:Int)+1):Nat):Int)≤1000000:=by
 have h1:=h.held k hk
 have h2:=(h.one k hk).bounds
 simp at h1
 omega
set_option maxHeartbeats 1000000 in
set_option maxRecDepth 100000 in
theorem outside_any (p:Addr) (a:Option Addr) (n c:Nat) (B:Nat→Blk) (w:World) (h:PtrAt w p a n c B):
 Calls Tryz.prog 85 #[.pointer (some p)] w fun e w'=>Below w.heap.size w w'∧
  ((∃ e', e=.returned (.tuple #[.slice none 0 0,.int .i64 e'])∧e'≠0∧¬Right n B)∨(Right n B∧∃ g,e=.returned (.tuple #[.slice (some ⟨g,0,none⟩) n n,.int .i64 0])∧Row w' w.heap.size g n (outs n B))):=by
 have hs:=h.cell
 go_enter Tryz.func85,Tryz.ntmps85
 go_wp2_with fail
 refine(check_any p a n c B w h).mono ?_
 rintro e w1 ⟨⟨e', rfl,he⟩,hb1⟩
 replace h:=h.below hb1
 replace hs:=h.cell
 replace he:=hid he
 by_cases h0:e'=0
 ·have h0':(e' == 0)=true:=by simp[h0]
  have hR:=he.out.1 h0
  have hn:=hR.small
  have hF:=hR.one
  replace hR:=hid hR
  replace hF:=hid hF
  go_wp2_with fail
  refine(amongKids_any p a n c B _ hn h.lt hs h.store hF.out).mono ?_
  rintro e w2 ⟨rfl,hrow,hb2⟩
  replace hrow:=hid hrow
  replace hs:=(h.below hb2).cell
  go_wp2_with fail
  go_loopw [17] (fun v wr=>∃ i:Nat,i≤n∧v=.int .i64 i∧Row wr w1.heap.size w1.heap.size n (fun k=>if k<i then outs n B k else ((among n B ((k:Int)+1):Nat):Int))∧Below w1.heap.size w1 wr) (fun v _=>n-(Go.RowKit.intOf v).toNat)
  case atStart=>exact⟨0,Nat.zero_le _,rfl,hrow.out.congr (fun k _=>by simp),hb2⟩
  case round=>
   clear hrow hb2
   obtain⟨i,hin,rfl,hrow,hbel⟩:=hrel
   replace h:=h.below hbel
   replace hs:=h.cell
   by_cases hlt:i<n
   ·obtain⟨b,off,rfl,hb,hB⟩:=h.store (by omega)
    obtain⟨ka,kn,kc,ba,bn,bc,hblk⟩:=hB i hlt
    have hrc:=hrow.cell hlt
    have hrf:=hrow.frozen i
    rw[if_neg (Nat.lt_irrefl i)] at hrc
    have hc0:=hblk.c0
    have hbd1:=among_bd hR.out i hlt
    have hbd2:=(hF.out i hlt).bounds
    have hrow':=hid ((hrow.set i (outs n B i)).congr (h:=fun k=>if k<i+1 then outs n B k else ((among n B ((k:Int)+1):Nat):Int)) (fun k _=>by
     by_cases e:k=i
     ·subst e; simp
     ·by_cases e2:k<i
      ·simp[e,e2,show k<i+1 by omega]
      ·simp[e,e2,show ¬k<i+1 by omega]))
    unfold outs at hrow'
    clear hrow hB hblk
    generalize ((among n B ((i:Int)+1):Nat):Int)=am at *
    generalize (B i).refs=rf at *
    go_wp2_with fail
    go_roundw
    case rel=>exact⟨i+1,by omega,by go_num,hrow'.out,hbel.setCell (Nat.le_refl _) _⟩
    case measure=>simp[Go.RowKit.intOf]; omega
   ·obtain rfl:i=n:=by omega
    replace hrow:=hid hrow
    go_wp2_with fail
    go_ret2
    exact⟨Below.tr hb1 hbel,.inr ⟨hR.out,_,rfl,(hrow.out.congr (fun k hk=>by simp[hk])).base hb1.size⟩⟩
 ·have h0':(e' == 0)=false:=by simp[h0]
  go_wp2_with fail
  go_ret2
  exact⟨hb1,.inl ⟨e', rfl,h0,fun f=>h0 (he.out.2 f)⟩⟩
theorem ptr_boxed (a:Option Addr) (n c:Nat) (B:Nat→Blk) (w:World) (t:TypeId) (h:StoreAt w a n B):PtrAt (w.alloc (.cells #[.slice a n c] t)) ⟨w.heap.size,0,none⟩ a n c B:=by
 refine⟨by simp,?_,h.below (below_alloc _ _)⟩
 rw[World.cell?_alloc_at _ _ _ _ rfl]
 rfl
theorem storeCheck_any (a:Option Addr) (n c:Nat) (B:Nat→Blk) (w:World) (h:StoreAt w a n B):
 Calls Tryz.prog 24 #[.agg #[.slice a n c]] w fun e w'=>RetE e (Right n B)∧Below w.heap.size w w':=by
 go_enter Tryz.func24,Tryz.ntmps24
 go_wp2_with fail
 refine(check_any _ a n c B _ (ptr_boxed a n c B w _ h)).mono ?_
 rintro e w1 ⟨⟨e', rfl,he⟩,hb1⟩
 replace he:=hid he
 go_wp2_with fail
 go_ret
 exact⟨⟨e', rfl,he.out⟩,Below.tr (below_alloc _ _) hb1⟩
theorem storeOutside_any (a:Option Addr) (n c:Nat) (B:Nat→Blk) (w:World) (h:StoreAt w a n B):
 Calls Tryz.prog 55 #[.agg #[.slice a n c]] w fun e w'=>Below w.heap.size w w'∧
  ((∃ e', e=.returned (.tuple #[.slice none 0 0,.int .i64 e'])∧e'≠0∧¬Right n B)∨(Right n B∧∃ g,e=.returned (.tuple #[.slice (some ⟨g,0,none⟩) n n,.int .i64 0])∧Row w' w.heap.size g n (outs n B))):=by
 go_enter Tryz.func55,Tryz.ntmps55
 go_wp2_with fail
 refine(outside_any _ a n c B _ (ptr_boxed a n c B w _ h)).mono ?_
 rintro e w1 ⟨hb1,⟨e', rfl,he,hR⟩ | ⟨hR,g,rfl,hrow⟩⟩
 ·replace hR:=hid hR
  go_wp2_with fail
  go_ret2
  exact⟨Below.tr (below_alloc _ _) hb1,.inl ⟨e', rfl,he,hR.out⟩⟩
 ·replace hR:=hid hR
  replace hrow:=hid (hrow.base (by simp):Row w1 w.heap.size g n (outs n B))
  go_wp2_with fail
  go_ret2
  exact⟨Below.tr (below_alloc _ _) hb1,.inr ⟨hR.out,g,rfl,hrow.out⟩⟩
def usedTo (B:Nat→Blk) (i:Nat):Nat:=sumTo (fun k=>if 0<(B k).refs then 1 else 0) i
theorem usedTo_succ (B:Nat→Blk) (i:Nat):usedTo B (i+1)=usedTo B i+if 0<(B i).refs then 1 else 0:=rfl
theorem Tryz.infoBlk:(Tryz.prog.info? 135).map (fun i=>(i.zero,i.size,i.bytes))=some (some (.agg #[.int .i64 0,.int .i64 0,.slice none 0 0,.slice none 0 0]),4,64):=by kernel_rfl
theorem blkAt_zero {w:World} {g off:Nat} {Q:Nat→Prop} (h:∀ k,k<4→w.cell? ⟨g,off+k,none⟩=(#[Value.int .i64 0,.int .i64 0,.slice none 0 0,.slice none 0 0])[k]?):BlkAt Q w g off Blk.zero none 0 0 none 0 0:=
 ⟨h 0 (by omega),h 1 (by omega),h 2 (by omega),h 3 (by omega),numsAt_nil _ _ _ _,numsAt_nil _ _ _ _,by simp[Blk.zero],by simp[Blk.zero],by omega⟩
theorem made_blks (n i k:Nat) (hi:i<n) (hk:k<4):(madeCells (Value.agg #[.int .i64 0,.int .i64 0,.slice none 0 0,.slice none 0 0]).cells (n*4)).toList[i*4+k]? =(#[Value.int .i64 0,.int .i64 0,.slice none 0 0,.slice none 0 0])[k]? :=by
 have h:i*4+k<n*4:=by omega
 have e:(i*4+k)%4=k:=by omega
 simp[madeCells,Value.cells,h,e]
 match k,hk with
 | 0,_=>rfl
 | 1,_=>rfl
 | 2,_=>rfl
 | 3,_=>rfl
theorem blocks_made {w:World} {base g n:Nat} {Q:Nat→Prop} (hown:w.ownsRow base 135 4 (.slice (some ⟨g,0,none⟩) n n) n (madeCells (Value.agg #[.int .i64 0,.int .i64 0,.slice none 0 0,.slice none 0 0]).cells (n*4)).toList):
 Blocks Q w g 0 n (fun _=>Blk.zero):=by
 intro i hi
 refine⟨none,0,0,none,0,0,blkAt_zero fun k hk=>?_⟩
 rw[show 0+i*4+k=i*4+k by omega,hown.cellAt _ (by omega)]
 exact made_blks n i k hi hk
set_option maxHeartbeats 1000000 in
set_option maxRecDepth 100000 in
theorem storeNew_ok (n:Nat) (w:World) (hn:n≤400):
 Calls Tryz.prog 60 #[.int .i64 n] w fun e w'=>RetS w.heap.size e w' n (fun _=>Blk.zero)∧Below w.heap.size w w':=by
 obtain⟨i0,hi,hz0,hz1,hz2⟩:=info_parts Tryz.infoBlk
 have h1:¬(n:Int)<0:=by omega
 have h2:¬400<(n:Int):=by omega
 go_enter Tryz.func60,Tryz.ntmps60
 go_wp2_with (at_make; refine wpList_make_full _ rfl (.tmp 11) (.tmp 11) 22 rfl (w.heap.size+1) 135 i0 _ 4 Tryz.underlying22 hi hz0 hz1 .i64 .i64 n n n rfl rfl rfl rfl (by rw[hz2]; omega) (by unfold maxLen; omega) (by simp) ?_; intro w2 hown hgr; have hone:w2.heap[w.heap.size]? =some (.cells #[.slice none 0 0] 24 (0,0)):=(by rw[hgr.block w.heap.size (by simp) (by simp)]; exact heap_alloc_new w _); have hrc:=cell_of_one hone; have hrf:=free_of_one hone)
 have hb:Below w.heap.size w w2:=((Below.refl _ _).alloc (Nat.le_refl _) _).grown hgr (by simp) (by simp)
 refine bodyPost_ret (v:=.tuple #[.agg #[.slice (some ⟨w.heap.size+1,0,none⟩) n n],.int .i64 0]) (by rw[results_cell_tmp rfl]; go_simp) rfl ⟨⟨_,_,rfl,by omega,?_⟩,hb.setCell (Nat.le_refl _) _⟩
 have hown':w2.ownsRow (w.heap.size+1) 135 4 (.slice (some ⟨w.heap.size+1,0,none⟩) n n) n (madeCells (Value.agg #[.int .i64 0,.int .i64 0,.slice none 0 0,.slice none 0 0]).cells (n*4)).toList:=by simpa using hown
 refine⟨by have:=(hown'.lt _ rfl).2; simpa using this,?_⟩
 exact Blocks.weaken (Blocks.kept (g:=w.heap.size) (blocks_made hown' (Q:=fun b=>w.heap.size<b)) (by omega) (fun b h=>by omega) (Kept.setCell (g:=w.heap.size) (Kept.refl _ _) (p:=⟨w.heap.size,0,none⟩) rfl _)) (fun b _ h=>by omega)
end Go.Proofs.YtjafgnohlkkopaaGreatDoor

namespace Go.Proofs.YtjafgnohlkkopaaGreatDoor
open Go.RowKit
theorem Tryz.infoByte:(Tryz.prog.info? 5).map (fun i=>(i.zero,i.size,i.bytes))=some (some (.int .u8 0),1,1):=by kernel_rfl
theorem numsAt_own {w:World} {k:IntKind} {B:Nat} {e:TypeId} {v:Value} {n:Nat} {l:List Int} (hl:∀ x∈l,(Lit.int k x).wf=true) (h:w.ownsRow B e 1 v n (l.map (Value.int k))):
 ∃ a c,v=.slice a n c∧n≤c∧NumsAt (fun b=>B≤b) k w a n l:=by
 have hn:l.length=n:=by have:=h.1; simpa using this
 rcases h.2 with⟨hv,h0⟩ | ⟨g,cap,cur,hv,hg,hh,hnc,_⟩
 ·subst hv h0
  exact⟨none,0,rfl,Nat.le_refl _,hn,hl,fun hp=>absurd hp (by omega)⟩
 ·subst hv
  refine⟨_,_,rfl,hnc,hn,hl,fun hp=>⟨g,0,rfl,(h.lt g rfl).2,hg,fun i hi=>?_⟩⟩
  rw[Nat.zero_add,h.cellAt i (by omega)]
  simp[hn,hi]
set_option maxHeartbeats 400000 in
theorem cloneInts_any (a:Option Addr) (n c:Nat) (l:List Int) (Q:Nat→Prop) (w:World) (hn:n≤4) (h:NumsAt Q .i64 w a n l):
 Calls Tryz.prog 87 #[.slice a n c] w fun e w'=>
  Below w.heap.size w w'∧∃ a' c', e=.returned (.slice a' n c')∧n≤c'∧NumsAt (fun b=>w.heap.size≤b) .i64 w' a' n l:=by
 obtain⟨i0,hi,hz0,hz1,hz2⟩:=info_parts Tryz.infoInt
 have qn:∀ (w:World) (a:Option Addr) (n c n' c':Nat),(binOp .eql 36 (.slice a n c) (.slice none n' c')).run Tryz.prog w=.ok (.bool a.isNone) w:=fun w a n c n' c'=>Lib.run_eql_slice_nil w _ _ a n c n' c' Tryz.underlying36
 cases a with
 | none=>
   have hn0:n=0:=by
    rcases Nat.eq_zero_or_pos n with h0 | h0
    ·exact h0
    ·obtain⟨_,_,h1,_⟩:=h.2.2 h0
     cases h1
   subst hn0
   have hl:=h.1
   replace h:=hid h
   go_enter Tryz.func87,Tryz.ntmps87
   go_wp2_with fail
   go_ret
   exact⟨Below.refl _ _,_,_,rfl,Nat.le_refl _,by rw[List.eq_nil_of_length_eq_zero hl]; exact numsAt_nil _ _ _ _⟩
 | some x=>
   have hl:=h.1
   have hcn:∀ j u,(l.map (Value.int .i64))[j]? =some u→(w.alloc (.cells #[] 3)).cell? (x.add j)=some u:=by
    intro j u hj
    have hjl:j<l.length:=by
     rcases Nat.lt_or_ge j l.length with h | h
     ·exact h
     ·simp[List.getElem?_eq_none h] at hj
    obtain⟨b,off,he,hb,_,hc⟩:=h.2.2 (by omega)
    obtain rfl:x=⟨b,off,none⟩:=by simpa using he
    have ea:(⟨b,off,none⟩:Addr).add j=⟨b,off+j,none⟩:=by unfold Addr.add; split<;>simp_all
    rw[ea,World.cell?_alloc_past _ _ _ hb,hc j (by omega)]
    simp[hjl] at hj
    simp[List.getD,hjl,hj]
   have A:=hid hcn
   have hwf:=hid h.2.1
   replace hl:=hid hl
   clear hcn h
   go_enter Tryz.func87,Tryz.ntmps87
   go_wp2_with (at_builtin; refine wpList_append_own _ rfl _ _ 36 rfl w.heap.size 3 i0 (.int .i64 0) 1 8 Tryz.underlying36 hi hz0 hz1 hz2 rfl (by decide) _ _ _ rfl (World.ownsRow_made w #[] 0 (Nat.le_refl _) (Nat.zero_le _) (by simp)) x n c (l.map (Value.int .i64)) rfl ?qc1 ?qc2 ?qc3 ?qc4 ?qc5 ?qc6 ?_)
   case qc1=>simp[hl.out]
   case qc2=>exact A.out
   case qc3=>intro u hu; simp at hu; obtain⟨x,_,rfl⟩:=hu; rfl
   case qc4=>unfold maxLen; omega
   case qc5=>omega
   case qc6=>simp
   intro v' w1 hown hgrow hnil
   have hown':w1.ownsRow w.heap.size 3 1 v' n (l.map (Value.int .i64)):=by simpa using hown
   have hbel:=((Below.refl _ w).alloc (Nat.le_refl _) _).grown hgrow (by simp) (by intro k hk; simp[Value.ownBlock] at hk; omega)
   clear hown hgrow A hnil
   obtain⟨a', c', rfl,hnc,hN⟩:=numsAt_own hwf.out hown'
   replace hN:=hid hN
   clear hown'
   go_wp2_with fail
   go_ret
   exact⟨hbel,a', c', rfl,hnc,hN.out⟩
set_option maxHeartbeats 400000 in
theorem cloneBytes_any (a:Option Addr) (n c:Nat) (l:List Int) (Q:Nat→Prop) (w:World) (hn:n≤4) (h:NumsAt Q .u8 w a n l):
 Calls Tryz.prog 29 #[.slice a n c] w fun e w'=>
  Below w.heap.size w w'∧∃ a' c', e=.returned (.slice a' n c')∧n≤c'∧NumsAt (fun b=>w.heap.size≤b) .u8 w' a' n l:=by
 obtain⟨i0,hi,hz0,hz1,hz2⟩:=info_parts Tryz.infoByte
 have qn:∀ (w:World) (a:Option Addr) (n c n' c':Nat),(binOp .eql 28 (.slice a n c) (.slice none n' c')).run Tryz.prog w=.ok (.bool a.isNone) w:=fun w a n c n' c'=>Lib.run_eql_slice_nil w _ _ a n c n' c' Tryz.underlying28
 cases a with
 | none=>
   have hn0:n=0:=by
    rcases Nat.eq_zero_or_pos n with h0 | h0
    ·exact h0
    ·obtain⟨_,_,h1,_⟩:=h.2.2 h0
     cases h1
   subst hn0
   have hl:=h.1
   replace h:=hid h
   go_enter Tryz.func29,Tryz.ntmps29
   go_wp2_with fail
   go_ret
   exact⟨Below.refl _ _,_,_,rfl,Nat.le_refl _,by rw[List.eq_nil_of_length_eq_zero hl]; exact numsAt_nil _ _ _ _⟩
 | some x=>
   have hl:=h.1
   have hcn:∀ j u,(l.map (Value.int .u8))[j]? =some u→(w.alloc (.cells #[] 5)).cell? (x.add j)=some u:=by
    intro j u hj
    have hjl:j<l.length:=by
     rcases Nat.lt_or_ge j l.length with h | h
     ·exact h
     ·simp[List.getElem?_eq_none h] at hj
    obtain⟨b,off,he,hb,_,hc⟩:=h.2.2 (by omega)
    obtain rfl:x=⟨b,off,none⟩:=by simpa using he
    have ea:(⟨b,off,none⟩:Addr).add j=⟨b,off+j,none⟩:=by unfold Addr.add; split<;>simp_all
    rw[ea,World.cell?_alloc_past _ _ _ hb,hc j (by omega)]
    simp[hjl] at hj
    simp[List.getD,hjl,hj]
   have A:=hid hcn
   have hwf:=hid h.2.1
   replace hl:=hid hl
   clear hcn h
   go_enter Tryz.func29,Tryz.ntmps29
   go_wp2_with (at_builtin; refine wpList_append_own _ rfl _ _ 28 rfl w.heap.size 5 i0 (.int .u8 0) 1 1 Tryz.underlying28 hi hz0 hz1 hz2 rfl (by decide) _ _ _ rfl (World.ownsRow_made w #[] 0 (Nat.le_refl _) (Nat.zero_le _) (by simp)) x n c (l.map (Value.int .u8)) rfl ?qc1 ?qc2 ?qc3 ?qc4 ?qc5 ?qc6 ?_)
   case qc1=>simp[hl.out]
   case qc2=>exact A.out
   case qc3=>intro u hu; simp at hu; obtain⟨x,_,rfl⟩:=hu; rfl
   case qc4=>unfold maxLen; omega
   case qc5=>omega
   case qc6=>simp
   intro v' w1 hown hgrow hnil
   have hown':w1.ownsRow w.heap.size 5 1 v' n (l.map (Value.int .u8)):=by simpa using hown
   have hbel:=((Below.refl _ w).alloc (Nat.le_refl _) _).grown hgrow (by simp) (by intro k hk; simp[Value.ownBlock] at hk; omega)
   clear hown hgrow A hnil
   obtain⟨a', c', rfl,hnc,hN⟩:=numsAt_own hwf.out hown'
   replace hN:=hid hN
   clear hown'
   go_wp2_with fail
   go_ret
   exact⟨hbel,a', c', rfl,hnc,hN.out⟩
theorem cellsAt_alloc2 (w:World) (o:Obj) (cs:Array Value) (t:TypeId):CellsAt ((w.alloc o).alloc (.cells cs t)) (w.heap.size+1) cs t:=heap_alloc2_new w _ _
def RetK (B:Nat) (e:Ending) (w:World) (K:Blk):Prop:=
 ∃ ka kn kc ba bn bc,e=.returned (.agg #[.int .i64 K.refs,.int .i64 K.level,.slice ka kn kc,.slice ba bn bc])∧NumsAt (fun b=>B≤b) .i64 w ka kn K.kids∧NumsAt (fun b=>B≤b) .u8 w ba bn K.bytes∧kn≤kc∧bn≤bc
set_option maxHeartbeats 1000000 in
set_option maxRecDepth 100000 in
theorem copyBlock_any (K:Blk) (ka:Option Addr) (kn kc:Nat) (ba:Option Addr) (bn bc:Nat) (Q:Nat→Prop) (w:World) (hk:NumsAt Q .i64 w ka kn K.kids) (hb:NumsAt Q .u8 w ba bn K.bytes) (h4:kn≤4∧bn≤4):
 Calls Tryz.prog 63 #[.agg #[.int .i64 K.refs,.int .i64 K.level,.slice ka kn kc,.slice ba bn bc]] w fun e w'=>RetK w.heap.size e w' K∧Below w.heap.size w w':=by
 have b0:=(below_alloc w (.cells #[.int .i64 K.refs,.int .i64 K.level,.slice ka kn kc,.slice ba bn bc] 135)).alloc (by simp) (.cells #[.int .i64 0,.int .i64 0,.slice none 0 0,.slice none 0 0] 135)
 have k1:CellsAt _ w.heap.size #[.int .i64 K.refs,.int .i64 K.level,.slice ka kn kc,.slice ba bn bc] 135:=(cellsAt_alloc w _ _).below (below_alloc _ (.cells #[.int .i64 0,.int .i64 0,.slice none 0 0,.slice none 0 0] 135))
 have k2:=cellsAt_alloc2 w (.cells #[.int .i64 K.refs,.int .i64 K.level,.slice ka kn kc,.slice ba bn bc] 135) #[.int .i64 0,.int .i64 0,.slice none 0 0,.slice none 0 0] 135
 have hsz:w.heap.size+2=((w.alloc (.cells #[.int .i64 K.refs,.int .i64 K.level,.slice ka kn kc,.slice ba bn bc] 135)).alloc (.cells #[.int .i64 0,.int .i64 0,.slice none 0 0,.slice none 0 0] 135)).heap.size:=by simp
 replace hk:=hk.below b0
 replace hb:=(hb.weaken (R:=fun b=>b<w.heap.size) (fun b h _=>h)).below b0
 replace k1:=hid k1
 replace k2:=hid k2
 replace hsz:=hid hsz
 go_enter Tryz.func63,Tryz.ntmps63
 go_wp2_with fail
 generalize (w.alloc (.cells #[.int .i64 K.refs,.int .i64 K.level,.slice ka kn kc,.slice ba bn bc] 135)).alloc (.cells #[.int .i64 0,.int .i64 0,.slice none 0 0,.slice none 0 0] 135)=w0 at *
 refine(cloneInts_any ka kn kc K.kids Q w0 h4.1 hk).mono ?_
 rintro e w1 ⟨b1,ka', kc', rfl,hkc,hK⟩
 have hsz1:w.heap.size+2≤w1.heap.size:=by have:=hsz.out; have:=b1.size; omega
 replace hb:=hb.below b1
 replace hK:=hK.weaken (R:=fun b=>w.heap.size+2≤b) (fun b _ h=>by have:=hsz.out; omega)
 replace k1:=hid (k1.out.below b1)
 replace k2:=hid (k2.out.below b1)
 replace b1:=Below.tr b0 b1
 clear hk b0 hsz
 have c0:=k1.out.cell 0
 have c1:=k1.out.cell 1
 have c2:=k1.out.cell 2
 have c3:=k1.out.cell 3
 have f2:=k1.out.frozen 2
 simp at c0 c1 c2 c3
 go_wp2_with fail
 clear c0 c1 c2 c3 f2
 have kk:=Kept.setCell (g:=w.heap.size) (Kept.refl _ w1) (p:=⟨w.heap.size,2,none⟩) rfl (.slice ka' kn kc')
 replace k1:=k1.out.set 2 (.slice ka' kn kc')
 replace k2:=k2.out.past (a:=⟨w.heap.size,2,none⟩) (by simp) (.slice ka' kn kc')
 replace hb:=hb.kept (fun b h=>by omega) kk
 replace hK:=hK.kept (fun b h=>by omega) kk
 replace b1:=b1.trans (kk.below (Nat.le_refl _))
 have hsz2:=hid kk.size
 clear kk
 simp at k1
 generalize w1.setCell ⟨w.heap.size,2,none⟩ (.slice ka' kn kc')=w2 at *
 refine(cloneBytes_any ba bn bc K.bytes _ w2 h4.2 hb).mono ?_
 rintro e w3 ⟨b3,ba', bc', rfl,hbc,hB⟩
 replace hB:=hB.weaken (R:=fun b=>w.heap.size+2≤b) (fun b _ h=>by have:=hsz2.out; omega)
 replace hK:=hK.below b3
 replace k1:=k1.below b3
 replace k2:=k2.below b3
 replace b1:=Below.tr b1 b3
 have c0:=k1.cell 0
 have c1:=k1.cell 1
 have c2:=k1.cell 2
 have c3:=k1.cell 3
 have f3:=k1.frozen 3
 simp at c0 c1 c2 c3
 have d0:=k2.cell 0
 have d1:=k2.cell 1
 have d2:=k2.cell 2
 have d3:=k2.cell 3
 have e0:=k2.frozen 0
 have e1:=k2.frozen 1
 have e2:=k2.frozen 2
 have e3:=k2.frozen 3
 simp at d0 d1 d2 d3
 replace k2:=hid k2
 clear k1 hb b3 hsz2
 go_wp2_with fail
 clear c0 c1 c2 c3 f3 d0 d1 d2 d3 e0 e1 e2 e3
 have kk1:=Kept.setCell (g:=w.heap.size) (Kept.refl _ w3) (p:=⟨w.heap.size,3,none⟩) rfl (.slice ba' bn bc')
 have kk2:=kept_put4 (w3.setCell ⟨w.heap.size,3,none⟩ (.slice ba' bn bc')) (w.heap.size+1) 0 (.int .i64 K.refs) (.int .i64 K.level) (.slice ka' kn kc') (.slice ba' bn bc')
 have k3:=((((k2.out.past (a:=⟨w.heap.size,3,none⟩) (by simp) (.slice ba' bn bc')).set 0 (.int .i64 K.refs)).set 1 (.int .i64 K.level)).set 2 (.slice ka' kn kc')).set 3 (.slice ba' bn bc')
 simp only[List.setIfInBounds_toArray,List.set_cons_succ,List.set_cons_zero] at k3
 refine bodyPost_ret (v:=.agg #[.int .i64 K.refs,.int .i64 K.level,.slice ka' kn kc', .slice ba' bn bc']) ?_ rfl ⟨⟨ka', kn,kc', ba', bn,bc', rfl,?_,?_,hkc,hbc⟩,?_⟩
 ·exact results_cell_row rfl _ _ (w.heap.size+1) _ _ _ _ rfl k3 Tryz.underlying135 rfl (by kernel_rfl)
 ·exact((hK.kept (fun b h=>by omega) kk1).kept (fun b h=>by omega) kk2).weaken (fun b _ h=>by omega)
 ·exact((hB.kept (fun b h=>by omega) kk1).kept (fun b h=>by omega) kk2).weaken (fun b _ h=>by omega)
 ·exact(b1.trans (kk1.below (Nat.le_refl _))).trans (kk2.below (by omega))
structure OwnPtr (w:World) (p:Addr) (g n:Nat) (B:Nat→Blk):Prop where
 lt:p.block<w.heap.size
 ne:p.block≠g
 cell:w.cell? p=some (.slice (some ⟨g,0,none⟩) n n)
 own:Own w g n B
set_option maxHeartbeats 1000000 in
set_option maxRecDepth 100000 in
theorem copy_any (p:Addr) (a:Option Addr) (n c:Nat) (B:Nat→Blk) (w:World) (h:PtrAt w p a n c B) (hn:n≤400) (hF:∀ i,i<n→(B i).kids.length≤4∧(B i).bytes.length≤4):
 Calls Tryz.prog 34 #[.pointer (some p)] w fun e w'=>Below w.heap.size w w'∧∃ g,e=.returned (.agg #[.slice (some ⟨g,0,none⟩) n n])∧w.heap.size≤g∧Own w' g n B:=by
 obtain⟨i0,hi,hz0,hz1,hz2⟩:=info_parts Tryz.infoBlk
 have hs:=h.cell
 have hp:=h.lt
 go_enter Tryz.func34,Tryz.ntmps34
 go_wp2_with (at_make; refine wpList_make_full _ rfl (.tmp 10) (.tmp 10) 22 rfl (w.heap.size+1) 135 i0 _ 4 Tryz.underlying22 hi hz0 hz1 .i64 .i64 n n n rfl rfl rfl rfl (by rw[hz2]; omega) (by unfold maxLen; omega) (by simp) ?_; intro w2 hown hgr; have hres:CellsAt w2 w.heap.size #[.slice none 0 0] 24:=(by unfold CellsAt; rw[hgr.block w.heap.size (by simp) (by simp)]; exact heap_alloc_new w _); have hb2:Below w.heap.size w w2:=((Below.refl _ _).alloc (Nat.le_refl _) _).grown hgr (by simp) (by simp); have hs2:w2.cell? p=some (.slice a n c):=(hb2.cell hp).trans hs)
 have hown':w2.ownsRow (w.heap.size+1) 135 4 (.slice (some ⟨w.heap.size+1,0,none⟩) n n) n (madeCells (Value.agg #[.int .i64 0,.int .i64 0,.slice none 0 0,.slice none 0 0]).cells (n*4)).toList:=by simpa using hown
 have hO:Own w2 (w.heap.size+1) n (fun _=>Blk.zero):=⟨(hown'.lt _ rfl).2,blocks_made hown', fun i _=>hown'.frozenAt i⟩
 clear hown hown' hgr hs2
 have hs2:w2.cell? p=some (.slice a n c):=(hb2.cell hp).trans hs
 go_loopw [17] (fun v wr=>∃ i:Nat,i≤n∧v=.int .i64 i∧Own wr (w.heap.size+1) n (fun k=>if k<i then B k else Blk.zero)∧CellsAt wr w.heap.size #[.slice none 0 0] 24∧Below w.heap.size w wr) (fun v _=>n-(Go.RowKit.intOf v).toNat)
 case atStart=>exact⟨0,Nat.zero_le _,rfl,hO.congr (fun k _=>by simp),hres,hb2⟩
 case round=>
  clear hO hres hb2 hs2
  obtain⟨i,hin,rfl,hO,hres,hbel⟩:=hrel
  replace h:=h.below hbel
  by_cases hlt:i<n
  ·obtain⟨b,off,rfl,hb,hB⟩:=h.store (by omega)
   obtain⟨ka,kn,kc,ba,bn,bc,hblk⟩:=hB i hlt
   have c0:=hblk.c0
   have c1:=hblk.c1
   have c2:=hblk.c2
   have c3:=hblk.c3
   have hk4:kn≤4∧bn≤4:=by rw[←hblk.kids.1,←hblk.bytes.1]; exact hF i hlt
   have hr:=hid hblk.refs
   have hl:=hid hblk.level
   have hkk:=hid hblk.kids
   have hbb:=hid hblk.bytes
   replace hO:=hid hO
   replace hres:=hid hres
   clear hB hblk hF
   generalize hKdef:B i=K at *
   replace hKdef:=hid hKdef
   go_wp2_with fail
   clear c0 c1 c2 c3
   have ba0:=below_alloc wr (.cells #[.int .i64 K.refs,.int .i64 K.level,.slice ka kn kc,.slice ba bn bc] 135)
   replace hkk:=hkk.out.below ba0
   replace hbb:=hbb.out.below ba0
   replace hO:=hO.out.below ba0
   replace hres:=hres.out.below ba0
   replace hbel:=Below.tr hbel ba0
   clear ba0 h hs hp hb
   generalize wr.alloc (.cells #[.int .i64 K.refs,.int .i64 K.level,.slice ka kn kc,.slice ba bn bc] 135)=wa at *
   refine(copyBlock_any K ka kn kc ba bn bc _ wa hkk hbb hk4).mono ?_
   rintro e w1 ⟨⟨ka', kn', kc', ba', bn', bc', rfl,hK', hB', hc1', hc2'⟩,b1⟩
   have hlt1:=hO.lt
   replace hK':=hid (hK'.weaken (R:=fun b=>w.heap.size+1<b) (fun b _ h=>by omega))
   replace hB':=hid (hB'.weaken (R:=fun b=>w.heap.size+1<b) (fun b _ h=>by omega))
   replace hO:=hO.below b1
   replace hres:=hid (hres.below b1)
   replace hbel:=Below.tr hbel b1
   obtain⟨xa,xn,xc,ya,yn,yc,hx⟩:=hO.cell hlt
   have d0:=hx.c0
   have d1:=hx.c1
   have d2:=hx.c2
   have d3:=hx.c3
   have e0:=hO.free (i*4) (by omega)
   have e1:=hO.free (i*4+1) (by omega)
   have e2:=hO.free (i*4+2) (by omega)
   have e3:=hO.free (i*4+3) (by omega)
   simp only[Nat.lt_irrefl,if_false] at d0 d1 d2 d3
   replace hO:=hid hO
   clear hx hkk hbb b1 hlt1
   go_wp2_with fail
   clear d0 d1 d2 d3 e0 e1 e2 e3
   have hput:=hO.out.put hlt K ka' kn' kc' ba' bn' bc' hK'.out hB'.out hr.out hl.out ⟨hc1', hc2'⟩
   have hkp:=kept_put4 w1 (w.heap.size+1) (i*4) (.int .i64 K.refs) (.int .i64 K.level) (.slice ka' kn' kc') (.slice ba' bn' bc')
   go_roundw
   case rel=>
    refine⟨i+1,by omega,by go_num,hput.congr (fun k hk=>?_),?_,hbel.trans (hkp.below (by omega))⟩
    ·by_cases e:k=i
     ·subst e; rw[upd_same]; simp[hKdef.out]
     ·rw[upd_other _ _ _ _ e]
      by_cases e2:k<i
      ·simp[e2,show k<i+1 by omega]
      ·simp[e2,show ¬k<i+1 by omega]
    ·unfold CellsAt
     rw[hkp.block _ (by omega)]
     exact hres.out
   case measure=>simp[Go.RowKit.intOf]; omega
  ·obtain rfl:i=n:=by omega
   have r0:=hres.cell 0
   have r1:=hres.frozen 0
   simp at r0
   replace hO:=hid (hO.congr (C:=B) (fun k hk=>by simp[hk]))
   replace hres:=hid hres
   go_wp2_with fail
   have kk:=Kept.setCell (g:=w.heap.size) (Kept.refl _ wr) (p:=⟨w.heap.size,0,none⟩) rfl (.slice (some ⟨w.heap.size+1,0,none⟩) i i)
   have k3:=hres.out.set 0 (.slice (some ⟨w.heap.size+1,0,none⟩) i i)
   simp only[List.setIfInBounds_toArray,List.set_cons_zero] at k3
   refine bodyPost_ret (v:=.agg #[.slice (some ⟨w.heap.size+1,0,none⟩) i i]) ?_ rfl ⟨hbel.trans (kk.below (Nat.le_refl _)),w.heap.size+1,rfl,by omega,?_⟩
   ·exact results_cell_row rfl _ _ w.heap.size _ _ _ _ rfl k3 Tryz.underlying24 rfl (by kernel_rfl)
   ·exact⟨by simpa using hO.out.lt,hO.out.blocks.kept (by omega) (fun b h=>by omega) kk,fun k hk=>by simpa using hO.out.free k hk⟩
end Go.Proofs.YtjafgnohlkkopaaGreatDoor
