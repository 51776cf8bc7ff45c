/-
  Blocks5, Blocks6, DropS, MakeB, MakeS, Sto2, Stored, Back1, Clo, Reach1 in one text. Nothing here is trusted.
-/
import Derived.Test.YtjafgnohlkkopaaGreatDoorPart02
import Derived.Laws.EntriesVeiled
import Derived.Deep.RegionWith
import Derived.Deep.Cut
import Derived.Laws.BytesArg
import Derived.Maps.Own
import Derived.Maps.OwnOps
import Derived.Lib.SlKeysI
set_option linter.unusedVariables false
namespace Go.Proofs.YtjafgnohlkkopaaGreatDoor
open Go.RowKit
theorem at_own (p:Addr) (g n c i:Nat) (w:World) (hn:n≤400) (hs:w.cell? p=some (.slice (some ⟨g,0,none⟩) n c)) (hi:i<n):
 Calls Tryz.prog 109 #[.pointer (some p),.int .i64 ((i:Int)+1)] w fun e w'=>e=.returned (.pointer (some ⟨g,i*4,none⟩))∧w'=w:=by
 have:=at_ptr p g 0 n c i w hn hs hi
 rwa [Nat.zero_add] at this
structure Env (w:World) (p:Addr) (sb lb g n:Nat):Prop where
 s:w.cell? ⟨sb,0,none⟩=some (.pointer (some p))
 l:w.cell? ⟨lb,0,none⟩=some (.func (.func 147) #[] #[.pointer (some ⟨sb,0,none⟩),.pointer (some ⟨lb,0,none⟩)])
 q:w.cell? p=some (.slice (some ⟨g,0,none⟩) n n)
 ns:sb≠g
 nl:lb≠g
 np:p.block≠g
theorem Env.kept {w w':World} {p:Addr} {sb lb g n:Nat} (h:Env w p sb lb g n) (k:Kept g w w'):Env w' p sb lb g n:=
 ⟨(k.cell (p:=⟨sb,0,none⟩) h.ns).trans h.s,(k.cell (p:=⟨lb,0,none⟩) h.nl).trans h.l,(k.cell h.np).trans h.q,h.ns,h.nl,h.np⟩
theorem upd_upd (B:Nat→Blk) (i:Nat) (b c:Blk):upd (upd B i b) i c=upd B i c:=by
 funext j; unfold upd; split<;>rfl
theorem fell_zero {n:Nat} {B:Nat→Blk} (h:∀ i,i<n→Form n B (B i)):Fell n B B [0]:=(fell_nil h).skip
def Less (w:World) (g n:Nat) (B:Nat→Blk) (ks T:List Int) (w':World):Prop:=Kept g w w'∧∃ C,Own w' g n C∧RightT n C T∧Fell n B C ks
set_option maxHeartbeats 2000000 in
set_option maxRecDepth 100000 in
theorem less_any (p:Addr) (sb lb g n:Nat) (hn:n≤400) (f:Nat):∀ (B:Nat→Blk) (la:Option Addr) (ln lc:Nat) (ks T:List Int) (w:World),NumsAt (fun b=>b≠g) .i64 w la ln ks→ln≤1000→RightT n B (ks++T)→(∀ k:Nat,((k:Int)+1)∈ks→(B k).level<f)→Env w p sb lb g n→Own w g n B→
 Calls Tryz.prog 147 #[.slice la ln lc,.pointer (some ⟨sb,0,none⟩),.pointer (some ⟨lb,0,none⟩)] w fun e w'=>e=.returned (.tuple #[])∧Less w g n B ks T w':=by
 induction f using Nat.strongRecOn with
 | _ f ih=>
   intro B la ln lc ks T w hN hln hR hlev hE hO
   have hks:=hid hN.1
   replace hN:=hid hN
   replace hR:=hid hR
   replace hO:=hid hO
   replace hlev:=hid hlev
   replace hE:=hid hE
   replace ih:=hid ih
   go_enter Tryz.func147,Tryz.ntmps147
   go_wp2_with fail
   go_loopw [10] (fun v wr=>∃ j:Nat,j≤ln∧v=.int .i64 j∧Kept g w wr∧∃ C,Own wr g n C∧RightT n C (ks.drop j++T)∧Fell n B C (ks.take j)) (fun v _=>ln-(Go.RowKit.intOf v).toNat)
   case atStart=>exact⟨0,Nat.zero_le _,rfl,Kept.refl _ _,_,hO.out,hR.out,by simpa using fell_nil hR.out.one⟩
   case round=>
    clear hO hR
    obtain⟨j,hjn,rfl,hkp,C,hO,hR,hF⟩:=hrel
    by_cases hlt:j<ln
    ·obtain⟨kb,ko,rfl,hkb,hgk,hc⟩:=hN.out.2.2 (by omega)
     have hck:wr.cell? ⟨kb,ko+j,none⟩=some (.int .i64 (ks.getD j 0)):=(hkp.cell (p:=⟨kb,ko+j,none⟩) hgk).trans (hc j hlt)
     have hjl:j<ks.length:=by rw[hks.out]; exact hlt
     have hmem:ks.getD j 0∈ks:=hN.out.getD hlt
     have htk:=take_snoc hjl
     have hdr:ks.drop j=ks.getD j 0::ks.drop (j+1):=by
      rw[List.drop_eq_getElem_cons hjl]; simp[List.getD,hjl]
     rw[hdr] at hR
     replace htk:=hid htk
     replace hmem:=hid hmem
     clear hc hdr hjl
     generalize ks.getD j 0=x at *
     by_cases hx0:x=0
     ·have hx0':(x == 0)=true:=by simp[hx0]
      have hF':Hid (Fell n B C (ks.take (j+1))):=hid (by rw[htk.out,hx0]; exact hF.trans (fell_zero hR.one))
      have hR1:Hid (RightT n C (ks.drop (j+1)++T)):=hid (by rw[hx0] at hR; exact hR.skip)
      replace hO:=hid hO
      clear hF hR
      go_wp2_with fail
      go_roundw
      case rel=>exact⟨j+1,by omega,by go_num,hkp,C,hO.out,hR1.out,hF'.out⟩
      case measure=>simp[Go.RowKit.intOf]; omega
     ·have hx0':(x == 0)=false:=by simp[hx0]
      have hR1:RightT n C (x::(ks.drop (j+1)++T)):=hR
      have hth:=hR1.there (List.mem_cons_self ..) hx0
      obtain⟨m,rfl⟩:∃ m:Nat,x=(m:Int)+1:=⟨(x-1).toNat,by have:=hth.1.1; omega⟩
      have hm:m<n:=by have:=hth.1.2.1; omega
      have em:((m:Int)+1-1).toNat=m:=by omega
      have hlm:(C m).level<f:=by
       have h1:=hF.level hth.1
       rw[em] at h1
       have h3:=hlev.out m hmem.out
       omega
      have hge:1≤(C m).refs:=by have:=hth.2; rwa [em] at this
      have hbd:=(hR1.one m hm).bounds
      have hE':=hE.out.kept hkp
      have s1:=hE'.s
      have s2:=hE'.q
      have l1:=hE'.l
      obtain⟨ka,kn,kc,ba,bn,bc,hb⟩:=hO.cell hm
      have c0:=hb.c0
      have c1:=hb.c1
      have c2:=hb.c2
      have c3:=hb.c3
      have f0:=hO.free (m*4) (by omega)
      have f1:=hO.free (m*4+1) (by omega)
      have f2:=hO.free (m*4+2) (by omega)
      have f3:=hO.free (m*4+3) (by omega)
      by_cases hr:1<(C m).refs
      ·have J:Hid (∀ w', w'=wr.setCell ⟨g,m*4,none⟩ (.int .i64 ((C m).refs-1))→∃ j':Nat,j'≤ln∧Value.int .i64 ((j:Int)+1)=.int .i64 j'∧Kept g w w'∧∃ C,Own w' g n C∧RightT n C (ks.drop j'++T)∧Fell n B C (ks.take j')):=hid (by
        intro w' hw
        subst hw
        refine⟨j+1,by omega,by go_num,hkp.trans (Kept.setCell (g:=g) (Kept.refl _ _) (p:=⟨g,m*4,none⟩) rfl _),_,hO.refs hm ((C m).refs-1) (by omega),?_,?_⟩
        ·have:=step_more hR1 (by omega) (by omega) (by rw[em]; exact hr); rwa [em] at this
        ·have:=fell_more hR1.one (a:=(m:Int)+1) (by omega) (by omega) (by rw[em]; exact hr)
         rw[em] at this
         rw[htk.out]
         exact hF.trans this)
       have hr':(0:Int)<(C m).refs-1:=by omega
       clear hO hR hR1 hF hE' hb hth hr hlm
       generalize (C m).refs=r at *
       go_wp2_with fail
       refine(at_own p g n n m _ hn s2 hm).mono ?_
       rintro e w1 ⟨rfl,rfl⟩
       go_wp2_with fail
       go_roundw
       case rel=>exact J.out _ rfl
       case measure=>simp[Go.RowKit.intOf]; omega
      ·have hr1:(C m).refs=1:=by omega
       obtain⟨hR', hrr,ha0⟩:=step_free hR1 (by omega) (by omega) (by rw[em]; exact hr)
       rw[em] at hR'
       clear hrr
       have hO1:=(hO.refs hm 0 (by omega)).put hm Blk.zero none 0 0 none 0 0 (numsAt_nil _ _ _ _) (numsAt_nil _ _ _ _) (by simp[Blk.zero]) (by simp[Blk.zero]) (by omega)
       rw[upd_upd] at hO1
       have hkp1:Kept g wr (put4 (wr.setCell ⟨g,m*4,none⟩ (.int .i64 0)) g (m*4) (.int .i64 0) (.int .i64 0) (.slice none 0 0) (.slice none 0 0)):=(Kept.setCell (g:=g) (Kept.refl _ wr) (p:=⟨g,m*4,none⟩) rfl (.int .i64 0)).trans (kept_put4 _ _ _ _ _ _ _)
       have hlev1:∀ k:Nat,((k:Int)+1)∈(C m).kids→(upd C m Blk.zero k).level<((C m).level.toNat:Int):=by
        intro k hk
        have hl0:=(hR1.one m hm).live hk
        rcases(hR1.one m hm).kids _ hk with h | ⟨_,h⟩
        ·omega
        ·rw[show ((k:Int)+1-1).toNat=k by omega] at h
         by_cases ek:k=m
         ·subst ek; rw[upd_same]; show (0:Int)<_; omega
         ·rw[upd_other _ _ _ _ ek]; omega
       have hvf:(C m).level.toNat<f:=by omega
       have hdone:∀ D,Fell n (upd C m Blk.zero) D (C m).kids→Fell n B D (ks.take (j+1)):=by
        intro D hD
        rw[htk.out]
        exact hF.trans (fell_free hR1.one (by omega) (by omega) (by rw[em]; exact hr1) ha0 (by rw[em]; exact hD))
       have hkids:=(hb.kids.weaken (R:=fun b=>b≠g) (fun b _ h=>by omega)).kept (fun b h=>h) hkp1
       have hkn4:kn≤4:=by rw[←hb.kids.1]; exact(hR1.one m hm).few
       have hE1:=hE'.kept hkp1
       have l2:=hE1.l
       have hr0:(1:Int)-1=0:=rfl
       have hz:¬((0:Int)>0):=by omega
       rw[hr1] at c0
       clear hb hR hR1 ha0 hlm hbd hge hr hO hth hE' hF
       generalize (C m).kids=cks at *
       generalize (C m).refs=rf at *
       generalize (C m).level=lv at *
       replace hO1:=hid hO1
       replace hlev1:=hid hlev1
       replace hdone:=hid hdone
       replace hkids:=hid hkids
       replace hR':=hid hR'
       replace hE1:=hid hE1
       replace hkp1:=hid hkp1
       clear hr1
       go_wp2_with fail
       refine(at_own p g n n m _ hn s2 hm).mono ?_
       rintro e w1 ⟨rfl,rfl⟩
       go_wp2_with fail
       refine(ih.out lv.toNat hvf (upd C m Blk.zero) ka kn kc cks (ks.drop (j+1)++T) _ hkids.out (by omega) hR'.out hlev1.out hE1.out hO1.out).mono ?_
       rintro e w2 ⟨rfl,hk2,D,hO2,hR2,hF2⟩
       replace hO2:=hid hO2
       replace hR2:=hid hR2
       replace hF2:=hid hF2
       go_wp2_with fail
       go_roundw
       case rel=>exact⟨j+1,by omega,by go_num,(hkp.trans hkp1.out).trans hk2,D,hO2.out,hR2.out,hdone.out D hF2.out⟩
       case measure=>simp[Go.RowKit.intOf]; omega
    ·obtain rfl:j=ln:=by omega
     have e1:ks.drop j=[]:=List.drop_of_length_le (by rw[hks.out]; exact Nat.le_refl _)
     have e2:ks.take j=ks:=List.take_of_length_le (by rw[hks.out]; exact Nat.le_refl _)
     rw[e1,List.nil_append] at hR
     rw[e2] at hF
     replace hO:=hid hO
     replace hF:=hid hF
     replace hR:=hid hR
     clear e1 e2
     go_wp2_with fail
     go_end0
     exact⟨rfl,hkp,C,hO.out,hR.out,hF.out⟩
theorem checkThere_any (p:Addr) (a:Option Addr) (n c:Nat) (B:Nat→Blk) (x:Int) (w:World) (h:PtrAt w p a n c B):
 Calls Tryz.prog 195 #[.pointer (some p),.int .i64 x] w fun e w'=>RetE e (Right n B∧There n B x)∧Below w.heap.size w w':=by
 go_enter Tryz.func195,Tryz.ntmps195
 go_wp2_with fail
 refine(check_any p a n c B w h).mono ?_
 rintro e w1 ⟨⟨e', rfl,he⟩,hb1⟩
 replace h:=h.below hb1
 have hs:=h.cell
 replace he:=hid he
 replace h:=hid h
 by_cases h0:e'=0
 ·have h0':(e' == 0)=true:=by simp[h0]
  have hR:=hid (he.out.1 h0)
  go_wp2_with fail
  refine(there_any p a n c B x _ hR.out.small hs h.out.store).mono ?_
  rintro e w1 ⟨⟨t,rfl,ht⟩,rfl⟩
  replace ht:=hid ht
  cases t
  ·go_wp2_with fail
   go_ret
   exact⟨retE_no 5 (by omega) (fun e=>by simpa using ht.out.2 e.2),hb1⟩
  ·go_wp2_with fail
   go_ret
   exact⟨retE_yes ⟨hR.out,by simpa using ht.out⟩,hb1⟩
 ·have h0':(e' == 0)=false:=by simp[h0]
  go_wp2_with fail
  go_ret
  exact⟨retE_no e' h0 (fun f=>h0 (he.out.2 f.1)),hb1⟩
theorem OwnPtr.ptr {w:World} {p:Addr} {g n:Nat} {B:Nat→Blk} (h:OwnPtr w p g n B):PtrAt w p (some ⟨g,0,none⟩) n n B:=⟨h.lt,h.cell,h.own.store⟩
theorem OwnPtr.below {w w':World} {p:Addr} {g n:Nat} {B:Nat→Blk} (h:OwnPtr w p g n B) (hb:Below w.heap.size w w'):OwnPtr w' p g n B:=
 ⟨Nat.lt_of_lt_of_le h.lt hb.size,h.ne,(hb.cell h.lt).trans h.cell,h.own.below hb⟩
theorem OwnPtr.kept {w w':World} {p:Addr} {g n:Nat} {B C:Nat→Blk} (h:OwnPtr w p g n B) (hk:Kept g w w') (ho:Own w' g n C):OwnPtr w' p g n C:=
 ⟨by rw[hk.size]; exact h.lt,h.ne,(hk.cell h.ne).trans h.cell,ho⟩
structure Out (g:Nat) (w w':World):Prop where
 os:w'.os=w.os
 tape:w'.tape=w.tape
 output:w'.output=w.output
 size:w.heap.size≤w'.heap.size
 block:∀ k,k<w.heap.size→k≠g→w'.heap[k]? =w.heap[k]?
theorem Out.of_below {g:Nat} {w w':World} (h:Below w.heap.size w w'):Out g w w':=⟨h.os,h.tape,h.output,h.size,fun k hk _=>h.block k hk⟩
theorem Out.of_kept {g:Nat} {w w':World} (h:Kept g w w'):Out g w w':=⟨h.os,h.tape,h.output,Nat.le_of_eq h.size.symm,fun k _ hk=>h.block k hk⟩
theorem Out.trans {g:Nat} {a b c:World} (h:Out g a b) (k:Out g b c):Out g a c:=
 ⟨k.os.trans h.os,k.tape.trans h.tape,k.output.trans h.output,Nat.le_trans h.size k.size,fun i hi hg=>(k.block i (Nat.lt_of_lt_of_le hi h.size) hg).trans (h.block i hi hg)⟩
theorem Out.below {g B:Nat} {w w':World} (h:Out g w w') (hB:B≤g) (hs:B≤w.heap.size):Below B w w':=⟨h.os,h.tape,h.output,h.size,fun k hk=>h.block k (by omega) (by omega)⟩
theorem Out.cell {g:Nat} {w w':World} (h:Out g w w') {p:Addr} (hp:p.block<w.heap.size) (hg:p.block≠g):w'.cell? p=w.cell? p:=World.cell?_of_block (w:=w) (h.block p.block hp hg)
set_option maxHeartbeats 2000000 in
set_option maxRecDepth 100000 in
theorem letGo_any (p:Addr) (g n:Nat) (B:Nat→Blk) (la:Option Addr) (ln lc:Nat) (ks:List Int) (w:World) (h:OwnPtr w p g n B) (hN:NumsAt (fun b=>b≠g) .i64 w la ln ks) (hln:ln≤1000) (hR:RightT n B ks):
 Calls Tryz.prog 117 #[.pointer (some p),.slice la ln lc] w fun e w'=>e=.returned (.tuple #[])∧Out g w w'∧∃ C,OwnPtr w' p g n C∧Right n C∧Fell n B C ks:=by
 have hmf:∀ (fn:Fn) (first cap:Array Value) (w:World),(Instr.makeFunc fn first cap).run Tryz.prog w=.ok (.func fn first cap) w:=fun _ _ _ _=>rfl
 have hg0:g<w.heap.size:=h.own.lt
 have b0:=(below_alloc w (.cells #[.pointer (some p)] 60)).alloc (by simp) (.cells #[.func (.func 147) #[] #[.pointer (some ⟨w.heap.size,0,none⟩),.pointer (some ⟨w.heap.size+1,0,none⟩)]] 183)
 have k0:CellsAt _ w.heap.size #[.pointer (some p)] 60:=(cellsAt_alloc w _ _).below (below_alloc _ (.cells #[.func (.func 147) #[] #[.pointer (some ⟨w.heap.size,0,none⟩),.pointer (some ⟨w.heap.size+1,0,none⟩)]] 183))
 have k1:=cellsAt_alloc2 w (.cells #[.pointer (some p)] 60) #[.func (.func 147) #[] #[.pointer (some ⟨w.heap.size,0,none⟩),.pointer (some ⟨w.heap.size+1,0,none⟩)]] 183
 have hn:=hR.small
 replace h:=h.below b0
 replace hN:=hN.below b0
 replace hR:=hid hR
 replace hN:=hid hN
 replace h:=hid h
 replace k0:=hid k0
 replace k1:=hid k1
 go_enter Tryz.func117,Tryz.ntmps117
 go_wp2_with fail
 generalize (w.alloc (.cells #[.pointer (some p)] 60)).alloc (.cells #[.func (.func 147) #[] #[.pointer (some ⟨w.heap.size,0,none⟩),.pointer (some ⟨w.heap.size+1,0,none⟩)]] 183)=w3 at *
 have e0:=k0.out.cell 0
 have e1:=k1.out.cell 0
 simp at e0 e1
 have hE:Env w3 p w.heap.size (w.heap.size+1) g n:=⟨e0,e1,h.out.cell,by omega,by omega,h.out.ne⟩
 have hT:RightT n B (ks++[]):=by rw[List.append_nil]; exact hR.out
 refine(less_any p w.heap.size (w.heap.size+1) g n hn 4 B la ln lc ks [] w3 hN.out hln hT (fun k hk=>?_) hE h.out.own).mono ?_
 ·rcases hR.out.pend _ hk with h0 | ⟨h1,h2⟩
  ·omega
  ·have:=(hR.out.one k (by omega)).bounds; omega
 rintro e w4 ⟨rfl,hk4,C,hO4,hR4,hF4⟩
 have h4:=h.out.kept hk4 hO4
 replace h4:=hid h4
 replace hR4:=hid hR4
 replace hF4:=hid hF4
 replace b0:=hid ((Out.of_below (g:=g) b0).trans (Out.of_kept hk4))
 clear hk4 hO4 hE e0 e1 hT
 go_wp2_with fail
 go_end0
 exact⟨rfl,b0.out,C,h4.out,hR4.out,hF4.out⟩
end Go.Proofs.YtjafgnohlkkopaaGreatDoor

namespace Go.Proofs.YtjafgnohlkkopaaGreatDoor
open Go.RowKit
theorem below_drew (B:Nat) (w:World):Below B w w.drew:=⟨rfl,rfl,rfl,Nat.le_refl _,fun _ _=>rfl⟩
def Dropped (e:Ending) (w:World) (p:Addr) (g n:Nat) (B:Nat→Blk) (a:Int) (w':World):Prop:=
 (∃ e':Int,e=.returned (.int .i64 e')∧e'≠0∧¬(Right n B∧There n B a∧(B (a-1).toNat).refs≠(among n B a:Int)))∨
 (e=.returned (.int .i64 0)∧(Right n B∧There n B a∧(B (a-1).toNat).refs≠(among n B a:Int))∧∃ C,OwnPtr w' p g n C∧Right n C∧Fell n B C [a])
set_option maxHeartbeats 2000000 in
set_option maxRecDepth 100000 in
theorem drop_any (p:Addr) (g n:Nat) (B:Nat→Blk) (a:Int) (w:World) (h:OwnPtr w p g n B):
 Calls Tryz.prog 198 #[.pointer (some p),.int .i64 a] w fun e w'=>Dropped e w p g n B a w'∧Out g w w':=by
 have hg0:g<w.heap.size:=h.own.lt
 go_enter Tryz.func198,Tryz.ntmps198
 go_wp2_with fail
 refine(checkThere_any p _ n n B a w h.ptr).mono ?_
 rintro e w1 ⟨⟨e', rfl,he⟩,hb⟩
 replace h:=h.below hb
 replace he:=hid he
 replace h:=hid h
 by_cases h0:e'=0
 ·have h0':(e' == 0)=true:=by simp[h0]
  obtain⟨hR,ht⟩:=he.out.1 h0
  obtain⟨i,rfl⟩:∃ i:Nat,a=(i:Int)+1:=⟨(a-1).toNat,by have:=ht.1; omega⟩
  have ei:((i:Int)+1-1).toNat=i:=by omega
  have hi:i<n:=by have:=ht.2.1; omega
  have hn:=hR.small
  have s1:=h.out.cell
  have hp:=h.out.lt
  obtain⟨ka,kn,kc,ba,bn,bc,hbk⟩:=h.out.own.cell hi
  have c0:=hbk.c0
  replace hR:=hid hR
  replace ht:=hid ht
  clear hbk
  generalize hrf:(B i).refs=rf at *
  replace hrf:=hid hrf
  go_wp2_with fail
  have hiI:(i:Int)<(n:Int):=by omega
  have hiI0:(0:Int)≤(i:Int):=by omega
  have hiI1:IntKind.i64.wrap (i:Int)=i:=by rw[IntKind.wrap_i64]; omega
  have hiI2:IntKind.i64.wrap ((i:Int)+1-1)=i:=by rw[IntKind.wrap_i64]; omega
  go_cut [24] from 12 (fun t wc=>t=.bool (rf == ((among n B ((i:Int)+1):Nat):Int))∧Below w1.heap.size w1 wc)
  case first=>
   go_region_with (first
    | (go_at_call 109; refine(at_own p g n n i _ hn ?_ hi).mono ?_; exact s1; rintro e w' ⟨rfl,rfl⟩)
    | (go_at_call 80; refine(amongKids_any p (some ⟨g,0,none⟩) n n B _ hn ?_ ?_ ?_ ?_).mono ?_; exact hp; exact s1; exact h.out.own.store.below (below_drew _ _); exact hR.out.one; rintro e w2 ⟨rfl,hrow,hb2⟩; have q1:=(hb2.cell (p:=p) hp).trans s1; have q2:=(hb2.cell (p:=⟨g,i*4,none⟩) h.out.own.lt).trans c0; have hrc:w2.cell? ⟨w1.heap.size,i,none⟩=some (.int .i64 ((among n B ((i:Int)+1):Nat):Int)):=hrow.cell hi; replace hrow:=hid hrow; replace hb2:Hid (Below w1.heap.size w1 w2):=hid ((below_drew _ _).trans hb2)))
   all_goals (go_wp2_with fail; go_meet; exact⟨rfl,hb2.out⟩)
  case rest=>
   obtain⟨rfl,hb2⟩:=hcut
   replace h:=h.out.below hb2
   replace hb:=Below.tr hb hb2
   clear hb2 s1 c0 hp hiI hiI0 hiI1 hiI2
   generalize ham:((among n B ((i:Int)+1):Nat):Int)=am at *
   replace ham:=hid ham
   replace h:=hid h
   by_cases heq:rf=am
   ·have heq':(rf == am)=true:=by simp[heq]
    go_wp2_with fail
    go_ret
    exact⟨.inl ⟨7,rfl,by omega,fun f=>f.2.2 (by rw[ei,hrf.out,ham.out,heq])⟩,Out.of_below hb⟩
   ·have heq':(rf == am)=false:=by simp[heq]
    have hT:RightT n B [(i:Int)+1]:=right_held hR.out (by omega) (by omega) (by rw[ei,hrf.out,ham.out]; exact heq)
    replace hT:=hid hT
    go_wp2_with fail
    have b3:=below_alloc wc (.cells #[.int .i64 ((i:Int)+1)] 3)
    have k3:=cellsAt_alloc wc #[.int .i64 ((i:Int)+1)] 3
    have hgl:g≠wc.heap.size:=Nat.ne_of_lt h.out.own.lt
    have h3:=h.out.below b3
    replace hb:=Below.tr hb b3
    generalize wc.alloc (.cells #[.int .i64 ((i:Int)+1)] 3)=w3 at *
    have hN:NumsAt (fun b=>b≠g) .i64 w3 (some ⟨wc.heap.size,0,none⟩) 1 [(i:Int)+1]:=by
     refine⟨rfl,fun x hx=>?_,fun _=>⟨_,_,rfl,k3.lt,fun e=>hgl e.symm,fun j hj=>?_⟩⟩
     ·rw[List.mem_singleton.1 hx]; exact WalkArith.wf_i64 (by omega)
     ·obtain rfl:j=0:=by omega
      rw[Nat.zero_add,k3.cell 0]
      rfl
    refine(letGo_any p g n B (some ⟨wc.heap.size,0,none⟩) 1 1 [(i:Int)+1] w3 h3 hN (by omega) hT.out).mono ?_
    rintro e w4 ⟨rfl,hk4,C,h4,hR4,hF4⟩
    replace h4:=hid h4
    replace hR4:=hid hR4
    replace hF4:=hid hF4
    replace hb:=hid ((Out.of_below (g:=g) hb).trans hk4)
    clear hk4 h3 hN k3
    go_wp2_with fail
    go_ret
    exact⟨.inr ⟨rfl,⟨hR.out,ht.out,by rw[ei,hrf.out,ham.out]; exact heq⟩,C,h4.out,hR4.out,hF4.out⟩,hb.out⟩
 ·have h0':(e' == 0)=false:=by simp[h0]
  go_wp2_with fail
  go_ret
  exact⟨.inl ⟨e', rfl,h0,fun f=>h0 (he.out.2 ⟨f.1,f.2.1⟩)⟩,Out.of_below hb⟩
end Go.Proofs.YtjafgnohlkkopaaGreatDoor

namespace Go.Proofs.YtjafgnohlkkopaaGreatDoor
open Go.RowKit
theorem Form.few2 {n:Nat} {B:Nat→Blk} {b:Blk} (h:Form n B b):b.bytes.length≤4:=by
 rcases h with⟨_,_,_,h⟩ | ⟨_,⟨_,_,h⟩ | ⟨_,_,h,_⟩⟩
 ·simp[h]
 ·omega
 ·simp[h]
theorem cellsAt_alloc3 (w:World) (o q:Obj) (cs:Array Value) (t:TypeId):CellsAt (((w.alloc o).alloc q).alloc (.cells cs t)) (w.heap.size+2) cs t:=by
 have:=cellsAt_alloc2 (w.alloc o) q cs t
 simpa using this
def Droppable (n:Nat) (B:Nat→Blk) (a:Int):Prop:=Right n B∧There n B a∧(B (a-1).toNat).refs≠(among n B a:Int)
end Go.Proofs.YtjafgnohlkkopaaGreatDoor

namespace Go.Proofs.YtjafgnohlkkopaaGreatDoor
open Go.RowKit
theorem isFree_any (r lv:Int) (ka:Option Addr) (kn kc:Nat) (ba:Option Addr) (bn bc:Nat) (w:World):
 Calls Tryz.prog 208 #[.agg #[.int .i64 r,.int .i64 lv,.slice ka kn kc,.slice ba bn bc]] w fun e w'=>e=.returned (.bool (r == 0))∧Below w.heap.size w w':=by
 go_enter Tryz.func208,Tryz.ntmps208
 go_wp2_with fail
 go_ret
 exact⟨rfl,below_alloc _ _⟩
def RetIx (e:Ending) (n:Nat) (B:Nat→Blk):Prop:=
 (e=.returned (.int .i64 (-1))∧∀ k,k<n→(B k).refs≠0)∨(∃ i:Nat,i<n∧e=.returned (.int .i64 i)∧(B i).refs=0∧∀ k,k<i→(B k).refs≠0)
set_option maxHeartbeats 1000000 in
set_option maxRecDepth 100000 in
theorem indexFree_any (a:Option Addr) (n c:Nat) (B:Nat→Blk) (w:World) (hn:n≤400) (h:StoreAt w a n B):
 Calls Tryz.prog 207 #[.slice a n c,.func (.func 208) #[] #[]] w fun e w'=>RetIx e n B∧Below w.heap.size w w':=by
 go_enter Tryz.func207,Tryz.ntmps207
 go_wp2_with fail
 go_loopw [8] (fun v wr=>∃ i:Nat,i≤n∧v=.int .i64 i∧(∀ k,k<i→(B k).refs≠0)∧Below w.heap.size w wr) (fun v _=>n-(Go.RowKit.intOf v).toNat)
 case atStart=>exact⟨0,Nat.zero_le _,rfl,fun k hk=>absurd hk (by omega),Below.refl _ _⟩
 case round=>
  obtain⟨i,hin,rfl,hno,hbel⟩:=hrel
  replace hno:=hid hno
  by_cases hlt:i<n
  ·obtain⟨b,off,rfl,hb,hB⟩:=(h.below hbel) (by omega)
   obtain⟨ka,kn,kc,ba,bn,bc,hblk⟩:=hB i hlt
   have c0:=hblk.c0
   have c1:=hblk.c1
   have c2:=hblk.c2
   have c3:=hblk.c3
   clear hB hblk
   generalize hrf:(B i).refs=rf at *
   replace hrf:=hid hrf
   generalize (B i).level=lv at *
   go_wp2_with fail
   refine(isFree_any rf lv ka kn kc ba bn bc wr).mono ?_
   rintro e w1 ⟨rfl,b1⟩
   replace hbel:=Below.tr hbel b1
   by_cases h0:rf=0
   ·have h0':(rf == 0)=true:=by simp[h0]
    go_wp2_with fail
    go_ret
    exact⟨.inr ⟨i,hlt,rfl,by rw[hrf.out]; exact h0,hno.out⟩,hbel⟩
   ·have h0':(rf == 0)=false:=by simp[h0]
    go_wp2_with fail
    go_roundw
    case rel=>
     refine⟨i+1,by omega,by go_num,fun k hk=>?_,hbel⟩
     rcases Nat.lt_or_ge k i with h' | h'
     ·exact hno.out k h'
     ·obtain rfl:k=i:=by omega
      rw[hrf.out]; exact h0
    case measure=>simp[Go.RowKit.intOf]; omega
  ·obtain rfl:i=n:=by omega
   go_wp2_with fail
   go_ret
   exact⟨.inl ⟨rfl,hno.out⟩,hbel⟩
def Makeable (n:Nat) (B:Nat→Blk) (K:Blk):Prop:=Right n B∧Form n B { K with refs:=1 }∧∃ i,i<n∧(B i).refs=0
def made (B:Nat→Blk) (K:Blk) (i:Nat):Nat→Blk:=fun k=>if k=i then { K with refs:=1 } else { B k with refs:=(B k).refs+(K.kids.count ((k:Int)+1):Int) }
def bump (B:Nat→Blk) (ks:List Int) (j:Nat):Nat→Blk:=fun k=>{ B k with refs:=(B k).refs+((ks.take j).count ((k:Int)+1):Int) }
theorem bump_zero (B:Nat→Blk) (ks:List Int):bump B ks 0=B:=by
 funext k; unfold bump; simp
theorem bump_skip (B:Nat→Blk) (ks:List Int) (j:Nat) (hj:j<ks.length) (h:ks.getD j 0=0):bump B ks (j+1)=bump B ks j:=by
 funext k; unfold bump
 rw[take_snoc hj,List.count_append,h,List.count_cons_of_ne (by omega)]
 simp
theorem bump_next (B:Nat→Blk) (ks:List Int) (j m:Nat) (hj:j<ks.length) (h:ks.getD j 0=(m:Int)+1):bump B ks (j+1)=upd (bump B ks j) m { bump B ks j m with refs:=(bump B ks j m).refs+1 }:=by
 funext k
 unfold upd
 by_cases e:k=m
 ·subst e
  rw[if_pos rfl]
  unfold bump
  rw[take_snoc hj,List.count_append,h]
  simp; omega
 ·rw[if_neg e]
  unfold bump
  rw[take_snoc hj,List.count_append,h,List.count_cons_of_ne (by omega)]
  simp
theorem bump_bd {n:Nat} (B:Nat→Blk) (ks:List Int) (j:Nat) (h:∀ k,k<n→0≤(B k).refs∧(B k).refs≤1000000):∀ k,k<n→0≤(bump B ks j k).refs∧(bump B ks j k).refs≤1000000+(ks.length:Int):=by
 intro k hk
 have h1:=h k hk
 have h2:(ks.take j).count ((k:Int)+1)≤(ks.take j).length:=List.count_le_length
 simp at h2
 show 0≤(B k).refs+((ks.take j).count ((k:Int)+1):Int)∧(B k).refs+((ks.take j).count ((k:Int)+1):Int)≤_
 omega
theorem bump_made (B:Nat→Blk) (K:Blk) (i n:Nat) (hi:i<n) (h0:(B i).refs=0) (hF:Form n B { K with refs:=1 }) (k:Nat):bump (upd B i { K with refs:=1 }) K.kids K.kids.length k=made B K i k:=by
 unfold bump made
 rw[List.take_length]
 by_cases e:k=i
 ·subst e
  rw[upd_same,if_pos rfl]
  have:K.kids.count ((k:Int)+1)=0:=by
   apply List.count_eq_zero.2
   intro hm
   rcases hF.kids _ hm with h | ⟨⟨_,_,h⟩,_⟩
   ·omega
   ·rw[show ((k:Int)+1-1).toNat=k by omega] at h; exact h h0
  rw[this]; simp
 ·rw[upd_other _ _ _ _ e,if_neg e]
theorem put_own {w4 w5:World} {p:Addr} {g n i:Nat} {B:Nat→Blk} (h:OwnPtr w4 p g n B) (b5:Below w4.heap.size w4 w5) (hi:i<n) (K:Blk) {ka:Option Addr} {kn kc:Nat} {ba:Option Addr} {bn bc:Nat}
 (hK:NumsAt (fun b=>w4.heap.size≤b) .i64 w5 ka kn K.kids) (hB:NumsAt (fun b=>w4.heap.size≤b) .u8 w5 ba bn K.bytes) (hr:-9223372036854775808≤K.refs∧K.refs≤9223372036854775807) (hl:-9223372036854775808≤K.level∧K.level≤9223372036854775807) (hc:kn≤kc∧bn≤bc):
 OwnPtr (put4 w5 g (i*4) (.int .i64 K.refs) (.int .i64 K.level) (.slice ka kn kc) (.slice ba bn bc)) p g n (upd B i K):=by
 have hlt:=h.own.lt
 have h5:=h.below b5
 exact h5.kept (kept_put4 _ _ _ _ _ _ _) (h5.own.put hi K ka kn kc ba bn bc (hK.weaken fun b _ h=>by omega) (hB.weaken fun b _ h=>by omega) hr hl hc)
theorem put_cells {w5:World} {g o q:Nat} {cs:Array Value} {t:TypeId} {v0 v1 v2 v3:Value} (k:CellsAt w5 q cs t) (hq:q≠g):CellsAt (put4 w5 g o v0 v1 v2 v3) q cs t:=by
 unfold CellsAt
 rw[(kept_put4 w5 g o v0 v1 v2 v3).block q hq]
 exact k
theorem put_out {w w4 w5:World} {g o:Nat} {v0 v1 v2 v3:Value} (b1:Below w.heap.size w w4) (b5:Below w4.heap.size w4 w5) (_:w.heap.size<w4.heap.size):Out g w (put4 w5 g o v0 v1 v2 v3):=
 (Out.of_below (Below.tr b1 b5)).trans (Out.of_kept (kept_put4 w5 g o v0 v1 v2 v3))
def NotMade (n:Nat) (B:Nat→Blk) (K:Blk) (e':Int):Prop:=¬Makeable n B K∧(Right n B→Form n B { K with refs:=1 }→e'=8)
def Made (e:Ending) (p:Addr) (g n:Nat) (B:Nat→Blk) (K:Blk) (w:World):Prop:=
 (∃ e':Int,e=.returned (.tuple #[.int .i64 0,.int .i64 e'])∧e'≠0∧NotMade n B K e')∨
 (∃ i:Nat,i<n∧e=.returned (.tuple #[.int .i64 ((i:Int)+1),.int .i64 0])∧Makeable n B K∧(B i).refs=0∧(∀ k,k<i→(B k).refs≠0)∧OwnPtr w p g n (made B K i))
end Go.Proofs.YtjafgnohlkkopaaGreatDoor

namespace Go.Proofs.YtjafgnohlkkopaaGreatDoor
open Go.RowKit
theorem Out.setNew {g:Nat} {w w':World} (h:Out g w w') {a:Addr} (ha:w.heap.size≤a.block) {v:Value}:Out g w (w'.setCell a v):=
 ⟨h.os,h.tape,h.output,by simpa using h.size,fun k hk hg=>by rw[Below.heap_setCell _ _ _ _ (by omega)]; exact h.block k hk hg⟩
theorem results_cell_tmps {fn:Func} {p u v:Tmp} {ty:TypeId} (h:fn.results=#[.cell p ty,.tmp u,.tmp v]) (tmps:Array Value) (P:Program) (w:World):
 (results fn tmps).run P w=
   ((asAddr (tmps.getD p undef)).run P w).andThen fun a w₁=>((loadVar ty a).run P w₁).andThen fun x w₂=>.ok (.tuple #[x,tmps.getD u undef,tmps.getD v undef]) w₂:=by
 simp only[results,h]
 simp[Sem.run_bind,Result.andThen]
theorem cellsAt_alloc4 (w:World) (o q r:Obj) (cs:Array Value) (t:TypeId):CellsAt ((((w.alloc o).alloc q).alloc r).alloc (.cells cs t)) (w.heap.size+3) cs t:=by
 have:=cellsAt_alloc3 (w.alloc o) q r cs t
 simpa [Nat.add_assoc,Nat.add_comm,Nat.add_left_comm] using this
end Go.Proofs.YtjafgnohlkkopaaGreatDoor

namespace Go.Proofs.YtjafgnohlkkopaaGreatDoor
theorem kid_free {n:Nat} {B:Nat→Blk} {K:Blk} {i:Nat} (hF:Form n B { K with refs:=1 }) (h0:(B i).refs=0):K.kids.count ((i:Int)+1)=0:=by
 apply List.count_eq_zero.2
 intro hm
 rcases hF.kids _ hm with h | ⟨⟨_,_,h⟩,_⟩
 ·omega
 ·rw[show ((i:Int)+1-1).toNat=i by omega] at h; exact h h0
theorem made_same (B:Nat→Blk) (K:Blk) (i:Nat):made B K i i={ K with refs:=1 }:=by simp[made]
theorem made_other (B:Nat→Blk) (K:Blk) {i k:Nat} (h:k≠i):made B K i k={ B k with refs:=(B k).refs+(K.kids.count ((k:Int)+1):Int) }:=by simp[made,h]
theorem among_made {n:Nat} {B:Nat→Blk} {K:Blk} {i:Nat} (hi:i<n) (hz:Form n B (B i)) (h0:(B i).refs=0) (x:Int):among n (made B K i) x=among n B x+K.kids.count x:=by
 have h1:among n (made B K i) x=among n (upd B i { K with refs:=1 }) x:=among_congr x fun k hk=>by
  by_cases e:k=i
  ·subst e; rw[made_same,upd_same]
  ·rw[made_other _ _ e,upd_other _ _ _ _ e]
 have h2:=among_upd (n:=n) (B:=B) (i:=i) { K with refs:=1 } x hi
 rw[hz.zero h0] at h2
 have h3:Blk.zero.kids.count x=0:=by simp[Blk.zero]
 rw[h3] at h2
 rw[h1]
 simpa using h2
theorem outs_made {n:Nat} {B:Nat→Blk} {K:Blk} {i:Nat} (hR:Right n B) (hF:Form n B { K with refs:=1 }) (hi:i<n) (h0:(B i).refs=0) (k:Nat) (hk:k<n):outs n (made B K i) k=if k=i then 1 else outs n B k:=by
 have hm:=among_made (K:=K) hi (hR.one i hi) h0 ((k:Int)+1)
 unfold outs
 by_cases e:k=i
 ·subst e
  have h1:=hR.held k hk
  have h2:=kid_free hF h0
  simp at h1
  rw[made_same,if_pos rfl,hm,h2]
  show (1:Int)-_=1
  omega
 ·rw[made_other _ _ e,if_neg e,hm]
  show (B k).refs+_-_=_
  omega
theorem right_made {n:Nat} {B:Nat→Blk} {K:Blk} {i:Nat} (hR:Right n B) (hF:Form n B { K with refs:=1 }) (hi:i<n) (h0:(B i).refs=0) (hm:∀ k,k<n→(made B K i k).refs≤1000000):Right n (made B K i):=by
 have hth:∀ x,There n B x→There n (made B K i) x∧(made B K i (x-1).toNat).level=(B (x-1).toNat).level:=by
  intro x ⟨x1,x2,x3⟩
  have hne:(x-1).toNat≠i:=fun e=>x3 (by rw[e]; exact h0)
  have hb:=(hR.one _ (ix x1 x2).1).bounds
  refine⟨⟨x1,x2,?_⟩,by rw[made_other _ _ hne]⟩
  rw[made_other _ _ hne]
  show (B (x-1).toNat).refs+_≠0
  omega
 refine⟨hR.small,fun k hk=>?_,fun k hk=>?_,by simp⟩
 ·by_cases e:k=i
  ·subst e
   rw[made_same]
   exact hF.turn rfl rfl rfl (.inl rfl) fun x _=>hth x
  ·have hb:=(hR.one k hk).bounds
   have hmk:=hm k hk
   refine(hR.one k hk).turn (by rw[made_other _ _ e]) (by rw[made_other _ _ e]) (by rw[made_other _ _ e]) ?_ fun x _=>hth x
   rw[made_other _ _ e] at hmk ⊢
   by_cases e0:(B k).refs=0
   ·have:=kid_free hF e0
    left
    show (B k).refs+_=_
    omega
   ·right
    refine⟨e0,?_,hmk⟩
    show 1≤(B k).refs+_
    omega
 ·have h1:=outs_made hR hF hi h0 k hk
  have h2:=hR.held k hk
  simp at h2 ⊢
  unfold outs at h1
  split at h1<;>omega
theorem right_zero (n:Nat) (hn:n≤400):Right n (fun _=>Blk.zero):=by
 refine⟨hn,fun i _=>form_zero _ _,fun i hi=>?_,by simp⟩
 have:among n (fun _=>Blk.zero) ((i:Int)+1)=0:=by
  have:=among_le (n:=n) (B:=fun _=>Blk.zero) ((i:Int)+1)
  unfold among
  rw[sumTo_congr (g:=fun _=>0) (fun k _=>by simp[Blk.zero])]
  clear this hi hn
  induction n with
  | zero=>rfl
  | succ n ih=>simp[sumTo,ih]
 rw[this]
 simp[Blk.zero]
theorem outs_zero (n k:Nat):outs n (fun _=>Blk.zero) k=0:=by
 unfold outs among
 rw[sumTo_congr (g:=fun _=>0) (fun k _=>by simp[Blk.zero])]
 have:sumTo (fun _=>0) n=0:=by
  induction n with
  | zero=>rfl
  | succ n ih=>simp[sumTo,ih]
 rw[this]
 simp[Blk.zero]
def leafK:Blk:=⟨0,0,[],[1,2,3,4]⟩
def nodeK:Blk:=⟨0,1,[0,1,0,1],[]⟩
def B1:Nat→Blk:=made (fun _=>Blk.zero) leafK 0
def B2:Nat→Blk:=made B1 nodeK 1
theorem Fell.outs {n:Nat} {B C:Nat→Blk} {T:List Int} (h:Fell n B C T) (k:Nat) (hk:k<n):outs n C k=outs n B k-(T.count ((k:Int)+1):Int):=h.out k hk
theorem droppable_of {n:Nat} {B:Nat→Blk} (hR:Right n B) {i:Nat} (hi:i<n) (ho:0<outs n B i):Droppable n B ((i:Int)+1):=by
 have e:((i:Int)+1-1).toNat=i:=by omega
 unfold Droppable There
 rw[e]
 unfold outs at ho
 exact⟨hR,⟨by omega,by omega,by omega⟩,by omega⟩
end Go.Proofs.YtjafgnohlkkopaaGreatDoor

namespace Go.Proofs.YtjafgnohlkkopaaGreatDoor
open Go.RowKit
theorem Row.nums {w:World} {base g n:Nat} {f:Nat→Int} (r:Row w base g n f) (hf:∀ k,k<n→-9223372036854775808≤f k∧f k≤9223372036854775807):NumsAt (fun b=>base≤b) .i64 w (some ⟨g,0,none⟩) n ((List.range n).map f):=by
 refine⟨by simp,?_,fun hn=>⟨g,0,rfl,r.lt.2,r.lt.1,fun i hi=>?_⟩⟩
 ·intro x hx
  simp only[List.mem_map,List.mem_range] at hx
  obtain⟨k,hk,rfl⟩:=hx
  exact WalkArith.wf_i64 (hf k hk)
 ·rw[Nat.zero_add,r.cell hi]
  simp[List.getD,hi]
end Go.Proofs.YtjafgnohlkkopaaGreatDoor

namespace Go.Proofs.YtjafgnohlkkopaaGreatDoor
open Go.RowKit
def Keepable (n:Nat) (B:Nat→Blk) (a:Int):Prop:=Right n B∧There n B a
def keptB (B:Nat→Blk) (a:Int):Nat→Blk:=upd B (a-1).toNat { B (a-1).toNat with refs:=(B (a-1).toNat).refs+1 }
def Keeped (e:Ending) (w:World) (p:Addr) (g n:Nat) (B:Nat→Blk) (a:Int) (w':World):Prop:=
 (∃ e':Int,e=.returned (.int .i64 e')∧e'≠0∧¬Keepable n B a)∨(e=.returned (.int .i64 0)∧Keepable n B a∧∃ C,OwnPtr w' p g n C∧C=keptB B a)
set_option maxHeartbeats 1000000 in
set_option maxRecDepth 100000 in
theorem keep_any (p:Addr) (g n:Nat) (B:Nat→Blk) (a:Int) (w:World) (h:OwnPtr w p g n B):
 Calls Tryz.prog 185 #[.pointer (some p),.int .i64 a] w fun e w'=>Keeped e w p g n B a w'∧Out g w w':=by
 go_enter Tryz.func185,Tryz.ntmps185
 go_wp2_with fail
 refine(checkThere_any p _ n n B a w h.ptr).mono ?_
 rintro e w1 ⟨⟨e', rfl,he⟩,b1⟩
 replace h:=h.below b1
 replace he:=hid he
 by_cases h0:e'=0
 ·have h0':(e' == 0)=true:=by simp[h0]
  obtain⟨hR,ht⟩:=he.out.1 h0
  obtain⟨i,rfl⟩:∃ i:Nat,a=(i:Int)+1:=⟨(a-1).toNat,by have:=ht.1; omega⟩
  have ei:((i:Int)+1-1).toNat=i:=by omega
  have hi:i<n:=by have:=ht.2.1; omega
  have hn:=hR.small
  have hbd:=(hR.one i hi).bounds
  obtain⟨ka,kn,kc,ba,bn,bc,hbk⟩:=h.own.cell hi
  have c0:=hbk.c0
  have f0:=h.own.free (i*4) (by omega)
  have s1:=h.cell
  have J:Hid (∀ w', w'=w1.setCell ⟨g,i*4,none⟩ (.int .i64 ((B i).refs+1))→OwnPtr w' p g n (keptB B ((i:Int)+1))∧Out g w w'):=hid (by
   intro w' hw
   subst hw
   have kk:=Kept.setCell (g:=g) (Kept.refl _ w1) (p:=⟨g,i*4,none⟩) rfl (.int .i64 ((B i).refs+1))
   refine⟨h.kept kk ?_,(Out.of_below b1).trans (Out.of_kept kk)⟩
   unfold keptB
   rw[ei]
   exact h.own.refs hi _ (by omega))
  replace hR:=hid hR
  replace ht:=hid ht
  clear hbk h
  generalize (B i).refs=rf at *
  go_wp2_with fail
  refine(at_own p g n n i _ hn s1 hi).mono ?_
  rintro e w2 ⟨rfl,rfl⟩
  go_wp2_with fail
  go_ret
  exact⟨.inr ⟨rfl,⟨hR.out,ht.out⟩,_,(J.out _ rfl).1,rfl⟩,(J.out _ rfl).2⟩
 ·have h0':(e' == 0)=false:=by simp[h0]
  replace h:=hid h
  go_wp2_with fail
  go_ret
  exact⟨.inl ⟨e', rfl,h0,fun f=>h0 (he.out.2 f)⟩,Out.of_below b1⟩
theorem run_string_of {Q:Nat→Prop} (w:World) {a:Option Addr} {n:Nat} {l:List Int} (c:Nat) (h:NumsAt Q .u8 w a n l):
 (convert 28 9 (.slice a n c)).run Tryz.prog w=.ok (.string (strOfNums l)) w:=by
 rcases Nat.eq_zero_or_pos n with hn | hn
 ·subst hn
  obtain rfl:l=[]:=List.eq_nil_of_length_eq_zero h.1
  rw[run_convert_bytes_string w 28 9 5 _ 0 c Tryz.underlying28 Tryz.underlying5 Tryz.underlying9]
  cases a<;>simp[Conv.bytesToString,loadCells]
  all_goals rfl
 ·obtain⟨b,off,rfl,_,_,hc⟩:=h.2.2 hn
  exact run_convert_bytes_arg w 28 5 Tryz.underlying28 Tryz.underlying5 b off n c l h.1 hc 9 Tryz.underlying9
theorem bytesEqual_same (a1 a2:Option Addr) (n c m d:Nat) (Q1 Q2:Nat→Prop) (l:List Int) (w:World) (h1:NumsAt Q1 .u8 w a1 n l) (h2:NumsAt Q2 .u8 w a2 m l):
 Calls Tryz.prog 22 #[.slice a1 n c,.slice a2 m d] w fun e w'=>e=.returned (.bool true)∧w'=w:=by
 have g1:=run_string_of w c h1
 have g2:=run_string_of w d h2
 clear h1 h2
 go_enter Tryz.func22,Tryz.ntmps22
 go_wp2
 go_ret
 exact⟨by simp,rfl⟩
end Go.Proofs.YtjafgnohlkkopaaGreatDoor

namespace Go.Proofs.YtjafgnohlkkopaaGreatDoor
open Go.RowKit Go.Maps
def Clo (B:Nat→Blk) (l:List Int) (x:Int):Prop:=
 ∀ S:Int→Prop,(∀ r∈l,r≠0→S r)→(∀ y,S y→∀ k∈(B (y-1).toNat).kids,k≠0→S k)→S x
theorem Clo.root {B:Nat→Blk} {l:List Int} {x:Int} (h:x∈l) (h0:x≠0):Clo B l x:=fun S h1 _=>h1 x h h0
theorem Clo.kid {B:Nat→Blk} {l:List Int} {x k:Int} (h:Clo B l x) (hk:k∈(B (x-1).toNat).kids) (h0:k≠0):Clo B l k:=fun S h1 h2=>h2 x (h S h1 h2) k hk h0
theorem Clo.mono {B:Nat→Blk} {l m:List Int} {x:Int} (h:Clo B l x) (hs:∀ r∈l,r≠0→Clo B m r):Clo B m x:=
 h _ hs fun y hy k hk h0=>hy.kid hk h0
theorem Clo.nil {B:Nat→Blk} {x:Int} (h:Clo B [] x):False:=h (fun _=>False) (by simp) (by simp)
def RootsOk (n:Nat) (B:Nat→Blk) (l:List Int):Prop:=∀ r∈l,r=0∨There n B r
theorem Clo.there {n:Nat} {B:Nat→Blk} {l:List Int} {x:Int} (hR:Right n B) (hl:RootsOk n B l) (h:Clo B l x):There n B x:=by
 refine h (There n B) (fun r hr h0=>(hl r hr).resolve_left h0) fun y hy k hk h0=>?_
 rcases(hR.one _ (ix hy.1 hy.2.1).1).kids k hk with h | ⟨h,_⟩
 ·exact absurd h h0
 ·exact h
theorem pigeon:∀ (n:Nat) (V:List Int),V.Nodup→(∀ x∈V,1≤x∧x≤n)→V.length≤n
 | 0,V,_,h=>by
   cases V with
   | nil=>simp
   | cons x r=>have:=h x (by simp); omega
 | n+1,V,hn,h=>by
   by_cases hm:((n:Int)+1)∈V
   ·have h1:=pigeon n (V.erase ((n:Int)+1)) (hn.erase _) (fun x hx=>by
     have hx':=(hn.mem_erase_iff).1 hx
     have:=h x hx'.2
     have:=hx'.1
     omega)
    have h2:=List.length_erase_of_mem hm
    have h3:0<V.length:=List.length_pos_of_mem hm
    omega
   ·have:=pigeon n V hn (fun x hx=>by
     have h1:=h x hx
     have:x≠(n:Int)+1:=fun e=>hm (e▸hx)
     omega)
    omega
theorem law3:Keyed Tryz.prog 3:=int_keyed Tryz.underlying3
theorem zeroInt (w:World):(zeroValue 3).run Tryz.prog w=.ok (.int .i64 0) w:=by kernel_rfl
def Seen (w:World) (b:Nat) (V:List Int):Prop:=
 ∃ D:DataW Unit,w.ownsMap Tryz.prog 3 (plainElem Tryz.prog 3) b V.length D∧IsMap D∧V.Nodup∧(∀ x,x∈V↔has D (.int .i64 x)=true)∧∀ x∈V,∀ z,D.atKey (.int .i64 x) z=.lit (.int .i64 1)
theorem Seen.out {w w':World} {b:Nat} {V:List Int} (h:Seen w b V) (hb:w'.heap[b]? =w.heap[b]?):Seen w' b V:=by
 obtain⟨D,⟨es,clock,h1,h2,h3,h4⟩,r⟩:=h
 exact⟨D,⟨es,clock,hb.trans h1,h2,h3,h4⟩,r⟩
theorem isKeyLit_int (x:Int):WideAt.IsKeyLit (.int .i64 x):=by first | exact⟨_,_,rfl⟩ | trivial | (unfold WideAt.IsKeyLit; simp)
theorem seen_put {D:DataW Unit} {V:List Int} {x:Int} (hD:IsMap D) (hn:V.Nodup) (hx:x∉V) (hm:∀ x,x∈V↔has D (.int .i64 x)=true) (ha:∀ x∈V,∀ z,D.atKey (.int .i64 x) z=.lit (.int .i64 1)):
 IsMap (D.put (.int .i64 x) (.lit (.int .i64 1)))∧(V++[x]).Nodup∧(∀ y,y∈V++[x]↔has (D.put (.int .i64 x) (.lit (.int .i64 1))) (.int .i64 y)=true)∧∀ y∈V++[x],∀ z,(D.put (.int .i64 x) (.lit (.int .i64 1))).atKey (.int .i64 y) z=.lit (.int .i64 1):=by
 refine⟨hD.put _ _,List.nodup_append.2 ⟨hn,by simp,fun a ha b hb=>by simp at hb; subst hb; exact fun e=>hx (e▸ha)⟩,fun y=>?_,fun y hy z=>?_⟩
 ·by_cases e:y=x
  ·subst e; simp[has_put_same hD (isKeyLit_int y)]
  ·rw[has_put_other (by simpa using e)]
   simp[hm y,e]
 ·by_cases e:y=x
  ·subst e; rw[atKey_put_same hD (isKeyLit_int y)]
  ·rw[atKey_put_other (by simpa using e)]
   exact ha y (by simpa [e] using hy) z
end Go.Proofs.YtjafgnohlkkopaaGreatDoor

namespace Go.Proofs.YtjafgnohlkkopaaGreatDoor
open Go.RowKit Go.Maps
structure RE (W w:World) (mb wb sb:Nat):Prop where
 bel:Below W.heap.size W w
 m:CellsAt w mb #[.map (some W.heap.size)] 70
 l:CellsAt w wb #[.func (.func 108) #[] #[.pointer (some ⟨mb,0,none⟩),.pointer (some ⟨wb,0,none⟩),.pointer (some ⟨sb,0,none⟩)]] 183
 nm:mb≠W.heap.size
 nw:wb≠W.heap.size
theorem RE.grown {W w w':World} {mb wb sb:Nat} (h:RE W w mb wb sb) (hg:w.grownBy w' (some W.heap.size)):RE W w' mb wb sb:=by
 refine⟨h.bel.grown hg h.bel.size (fun k hk=>by cases hk; exact Nat.le_refl _),?_,?_,h.nm,h.nw⟩
 ·unfold CellsAt
  rw[hg.block mb h.m.lt (by simp; exact h.nm)]
  exact h.m
 ·unfold CellsAt
  rw[hg.block wb h.l.lt (by simp; exact h.nw)]
  exact h.l
theorem RE.drew {W w:World} {mb wb sb:Nat} (h:RE W w mb wb sb):RE W w.drew mb wb sb:=⟨h.bel.drew,h.m,h.l,h.nm,h.nw⟩
structure Got (n:Nat) (B:Nat→Blk) (l l':List Int) (V V':List Int):Prop where
 there:∀ x∈V', There n B x
 sub:∀ x∈V,x∈V'
 all:∀ x∈l', x≠0→x∈V'
 clo:∀ x∈V', x∈V∨Clo B l x
 shut:∀ x∈V', x∉V→∀ k∈(B (x-1).toNat).kids,k≠0→k∈V'
theorem Got.start {n:Nat} {B:Nat→Blk} (l:List Int) {V:List Int} (h:∀ x∈V,There n B x):Got n B l [] V V:=⟨h,fun x hx=>hx,by simp,fun x hx=>.inl hx,fun x hx hn=>absurd hx hn⟩
theorem Got.skip {n:Nat} {B:Nat→Blk} {l l' V V':List Int} (h:Got n B l l' V V') {x:Int} (hx:x=0∨x∈V'):Got n B l (l'++[x]) V V':=
 ⟨h.there,h.sub,fun y hy h0=>by
   rcases List.mem_append.1 hy with hy | hy
   ·exact h.all y hy h0
   ·simp at hy
    subst hy
    exact hx.resolve_left h0,h.clo,h.shut⟩
theorem Got.next {n:Nat} {B:Nat→Blk} {l l' V V' V'':List Int} (h:Got n B l l' V V') {x:Int} (hx0:x≠0) (hxl:x∈l) (hxt:There n B x)
 (k:Got n B (B (x-1).toNat).kids (B (x-1).toNat).kids (V'++[x]) V''):Got n B l (l'++[x]) V V'':=by
 have hxin:x∈V'':=k.sub x (by simp)
 refine⟨k.there,fun y hy=>k.sub y (by simp[h.sub y hy]),fun y hy h0=>?_,fun y hy=>?_,fun y hy hn=>?_⟩
 ·rcases List.mem_append.1 hy with hy | hy
  ·exact k.sub y (by simp[h.all y hy h0])
  ·simp at hy; subst hy; exact hxin
 ·rcases k.clo y hy with h1 | h1
  ·rcases List.mem_append.1 h1 with h2 | h2
   ·exact h.clo y h2
   ·simp at h2; subst h2; exact .inr (Clo.root hxl hx0)
  ·exact .inr (h1.mono fun r hr h0=>(Clo.root hxl hx0).kid hr h0)
 ·intro z hz h0
  by_cases e:y=x
  ·subst e; exact k.all z hz h0
  ·by_cases e2:y∈V'
   ·exact k.sub z (by simp[h.shut y e2 hn z hz h0])
   ·exact k.shut y hy (by simp[e,e2]) z hz h0
def Walked (W:World) (mb wb sb n:Nat) (B:Nat→Blk) (l V:List Int) (w':World):Prop:=∃ V', RE W w' mb wb sb∧Seen w' W.heap.size V'∧Got n B l l V V'
set_option maxHeartbeats 4000000 in
set_option maxRecDepth 100000 in
theorem walk_any (W:World) (p:Addr) (a:Option Addr) (n c:Nat) (B:Nat→Blk) (sb mb wb:Nat) (hP:PtrAt W p a n c B) (hs:W.cell? ⟨sb,0,none⟩=some (.pointer (some p))) (hsb:sb<W.heap.size) (hR:Right n B) (f:Nat):
 ∀ (l:List Int) (la:Option Addr) (ln lc:Nat) (V:List Int) (w:World),NumsAt (fun _=>True) .i64 W la ln l→(∀ x∈l,x=0∨(There n B x∧(B (x-1).toNat).level<f))→(∀ x∈V,There n B x)→RE W w mb wb sb→Seen w W.heap.size V→ln<9223372036854775807→
 Calls Tryz.prog 108 #[.slice la ln lc,.pointer (some ⟨mb,0,none⟩),.pointer (some ⟨wb,0,none⟩),.pointer (some ⟨sb,0,none⟩)] w fun e w'=>e=.returned (.tuple #[])∧Walked W mb wb sb n B l V w':=by
 induction f using Nat.strongRecOn with
 | _ f ih=>
   intro l la ln lc V w hN hl hV hE hS hln
   have hn:=hR.small
   replace ih:=hid ih
   replace hN:=hid hN
   replace hl:=hid hl
   replace hV:=hid hV
   replace hR:=hid hR
   replace hE:=hid hE
   replace hS:=hid hS
   go_enter Tryz.func108,Tryz.ntmps108
   go_wp2_with fail
   go_loopw [9] (fun v wr=>∃ j:Nat,j≤ln∧v=.int .i64 j∧∃ Vj,RE W wr mb wb sb∧Seen wr W.heap.size Vj∧Got n B l (l.take j) V Vj) (fun v _=>ln-(Go.RowKit.intOf v).toNat)
   case atStart=>exact⟨0,Nat.zero_le _,rfl,V,hE.out,hS.out,by simpa using Got.start l hV.out⟩
   case round=>
    clear hE hS
    obtain⟨j,hjn,rfl,Vj,hE,hS,hG⟩:=hrel
    by_cases hlt:j<ln
    ·obtain⟨kb,ko,rfl,hkb,_,hc⟩:=hN.out.2.2 (by omega)
     have hck:wr.cell? ⟨kb,ko+j,none⟩=some (.int .i64 (l.getD j 0)):=(hE.bel.cell (p:=⟨kb,ko+j,none⟩) hkb).trans (hc j hlt)
     have hjl:j<l.length:=by rw[hN.out.1]; exact hlt
     have hmem:l.getD j 0∈l:=hN.out.getD hlt
     have htk:=hid (take_snoc hjl)
     have hwf:(Lit.int .i64 (l.getD j 0)).wf=true:=hN.out.2.1 _ hmem
     have hkid:=hid (hl.out _ hmem)
     have m0:=hE.m.cell 0
     have l0:=hE.l.cell 0
     simp at m0 l0
     replace hmem:=hid hmem
     clear hc hjl
     generalize l.getD j 0=x at *
     by_cases hx0:x=0
     ·have hx0':(x == 0)=true:=by simp[hx0]
      have hG':Hid (Got n B l (l.take (j+1)) V Vj):=hid (by rw[htk.out]; exact hG.skip (.inl hx0))
      replace hE:=hid hE
      replace hS:=hid hS
      clear hG
      go_wp2_with fail
      go_roundw
      case rel=>exact⟨j+1,by omega,by go_num,Vj,hE.out,hS.out,hG'.out⟩
      case measure=>simp[Go.RowKit.intOf]; omega
     ·have hx0':(x == 0)=false:=by simp[hx0]
      obtain⟨D,hown,hD,hnd,hm,hat⟩:=hS
      obtain⟨cv,hrun,hcv,hwc⟩:=hown.lookup_int law3 Tryz.underlying70 Tryz.underlying3 (zeroInt _) (keyOf_int_mk Tryz.underlying3 hwf)
      by_cases hin:x∈Vj
      ·have hc1:cv=1:=by
        rw[hat x hin] at hcv
        simpa using hcv.symm
       subst hc1
       have hG':Hid (Got n B l (l.take (j+1)) V Vj):=hid (by rw[htk.out]; exact hG.skip (.inr hin))
       have hS:Hid (Seen wr W.heap.size Vj):=hid ⟨D,hown,hD,hnd,hm,hat⟩
       replace hE:=hid hE
       clear hG hown hD hnd hm hat hcv hin
       go_wp2_with fail
       go_roundw
       case rel=>exact⟨j+1,by omega,by go_num,Vj,hE.out,hS.out,hG'.out⟩
       case measure=>simp[Go.RowKit.intOf]; omega
      ·have hc0:cv=0:=by
        have h1:has D (.int .i64 x)=false:=by
            cases h2:has D (.int .i64 x)
            ·rfl
            ·exact absurd ((hm x).2 h2) hin
        rw[atKey_of_not_has h1] at hcv
        simpa using hcv.symm
       subst hc0
       have hlen:Vj.length≤n:=pigeon n Vj hnd (fun y hy=>⟨(hG.there y hy).1,(hG.there y hy).2.1⟩)
       have hput:=hid (seen_put hD hnd hin hm hat)
       have hxt:=hkid.out.resolve_left hx0
       obtain⟨i,rfl⟩:∃ i:Nat,x=(i:Int)+1:=⟨(x-1).toNat,by have:=hxt.1.1; omega⟩
       have ei:((i:Int)+1-1).toNat=i:=by omega
       have hi:i<n:=by have:=hxt.1.2.1; omega
       replace hE:=hid hE
       replace hG:=hid hG
       replace hcv:=hid hcv
       clear hnd hm hat hD hkid
       go_wp2_with (at_mapUpdate; refine wpList_mapUpdate_own _ rfl _ _ _ 70 rfl 3 3 law3 Tryz.underlying70 _ W.heap.size Vj.length _ rfl hown (by unfold maxLen; omega) _ _ _ rfl rfl (keyOf_int_mk Tryz.underlying3 hwf) _ [] (plainElem_int Tryz.underlying3 (WalkArith.wf_i64 (by omega))) ?_; intro w1 hown1 hgrow1)
       replace hE:=hE.out.grown hgrow1
       have hlen1:(Vj++[(i:Int)+1]).length=Vj.length+1:=by simp
       have hS1:Seen w1 W.heap.size (Vj++[(i:Int)+1]):=⟨_,by rw[hlen1]; exact hown1,hput.out.1,hput.out.2.1,hput.out.2.2.1,hput.out.2.2.2⟩
       clear hown1 hgrow1 hput hown hrun hcv hwc m0 l0 hck hlen1
       obtain⟨b', off', rfl,hb', hB'⟩:=hP.store (by omega)
       obtain⟨ka,kn,kc,ba,bn,bc,hbk⟩:=hB' i hi
       have s0:=(hE.bel.cell (p:=⟨sb,0,none⟩) hsb).trans hs
       have q0:=(hE.bel.cell (p:=p) hP.lt).trans hP.cell
       have c2:=(hE.bel.cell (p:=⟨b', off'+i*4+2,none⟩) hb').trans hbk.c2
       have l0:=hE.l.cell 0
       simp at l0
       have hkn:kn<9223372036854775807:=by
        have h1:=hbk.kids.1
        have h2:=(hR.out.one i hi).few
        omega
       have hkids:=hid hbk.kids
       have hlev:Hid (∀ x∈(B i).kids,x=0∨(There n B x∧(B (x-1).toNat).level<(((B i).level.toNat:Nat):Int))):=hid (fun x hx=>by
        rcases(hR.out.one i hi).kids x hx with h | ⟨h1,h2⟩
        ·exact .inl h
        ·have h3:=(hR.out.one i hi).live hx
         exact .inr ⟨h1,by omega⟩)
       have hless:(B i).level.toNat<f:=by
        have h1:=hxt.2
        rw[ei] at h1
        have h2:=(hR.out.one i hi).bounds
        omega
       have hV1:Hid (∀ x∈Vj++[(i:Int)+1],There n B x):=hid (fun x hx=>by
        rcases List.mem_append.1 hx with h | h
        ·exact hG.out.there x h
        ·simp at h; subst h; exact hxt.1)
       have hend:Hid (∀ V'', Got n B (B i).kids (B i).kids (Vj++[(i:Int)+1]) V''→Got n B l (l.take (j+1)) V V''):=hid (fun V'' hk=>by
        rw[htk.out]
        exact hG.out.next hx0 hmem.out hxt.1 (by rw[ei]; exact hk))
       replace hE:=hid hE
       replace hS1:=hid hS1
       replace hP:=hid hP
       replace hxt:=hid hxt
       clear hbk hB' hb' ei hG
       go_upto_region 5 with fail
       go_region_with (first
        | (go_at_call 109; refine(at_ptr p b' off' n c i _ hn ?_ hi).mono ?_; exact q0; rintro e w' ⟨rfl,rfl⟩)
        | (go_at_call 108; refine(ih.out (B i).level.toNat hless (B i).kids ka kn kc (Vj++[(i:Int)+1]) _ hkids.out hlev.out hV1.out ?_ ?_ hkn).mono ?_; exact hE.out.drew; exact hS1.out.out rfl; rintro e w' ⟨rfl,V'', hE2,hS2,hG2⟩; replace hE2:=hid hE2; replace hS2:=hid hS2; replace hG2:=hid hG2))
       all_goals (clear s0 q0 c2 l0; go_wp2_with fail; go_roundw)
       all_goals first
        | exact⟨j+1,by omega,by go_num,V'', hE2.out,hS2.out,hend.out V'' hG2.out⟩
        | (simp[Go.RowKit.intOf]; omega)
    ·obtain rfl:j=ln:=by omega
     have hG':Hid (Got n B l l V Vj):=hid (by rw[List.take_of_length_le (by rw[hN.out.1]; exact Nat.le_refl _)] at hG; exact hG)
     replace hE:=hid hE
     replace hS:=hid hS
     clear hG
     go_wp2_with fail
     go_end0
     exact⟨rfl,Vj,hE.out,hS.out,hG'.out⟩
end Go.Proofs.YtjafgnohlkkopaaGreatDoor
