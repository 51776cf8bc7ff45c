import Derived.Test.YtjafgnohlkkopaaGreatDoorPart01
import Derived.Laws.ResultCell
import Derived.Lib.SliceRun
import Derived.Laws.EntriesVeiled
import Derived.Deep.RegionWith
import Derived.Deep.Cut
import Derived.Laws.BytesArg
set_option linter.unusedVariables false
set_option maxHeartbeats 8000000
set_option maxRecDepth 100000
namespace Go.Proofs.YtjafgnohlkkopaaGreatDoor
open Go.RowKit
def cX1 (base:Nat)(e:Ending)(w:World)(n:Nat)(B:Nat->Blk):Prop:=∃ g c,e=.returned (.tuple #[.agg #[.slice (some ⟨g,0,none⟩) n c],.int .i64 0])/\base<=g/\g<w.heap.size/\dO (fun b=>base<=b) w g 0 n B
def outs (n:Nat)(B:Nat->Blk)(k:Nat):Int:=(B k).refs-((among n B ((k:Int)+1):Nat):Int)
theorem dE {w:World}{B B':Nat}{e:TypeId}{size:Nat}{v:Value}{n:Nat}{xs:List Value}(hB:B'<=B)(h:w.ownsRow B e size v n xs):w.ownsRow B' e size v n xs:=by
 refine⟨h.1,?_⟩
 rcases h.2 with h2 | ⟨g,cap,cur,hv,hg,r⟩
 ·exact .inl h2
 ·exact .inr ⟨g,cap,cur,hv,Nat.le_trans hB hg,r⟩
theorem Row.base {w:World}{base base' g n:Nat}{f:Nat->Int}(r:Row w base g n f)(h:base'<=base):Row w base' g n f:=dE h r
theorem cF6 {n:Nat}{B:Nat->Blk}(h:Right n B)(k:Nat)(hk:k<n):0<=((among n B ((k:Int)+1):Nat):Int)/\((among n B ((k:Int)+1):Nat):Int)<=1000000:=by
 have h1:=h.held k hk
 have h2:=(h.one k hk).bounds
 simp at h1
 omega
theorem xE (p:Addr)(a:Option Addr)(n c:Nat)(B:Nat->Blk)(w:World)(h:kU w p a n c B):
 Calls Tryz.prog 85 #[.pointer (some p)] w fun e w'=>Below w.heap.size w w'/\
  ((∃ e', e=.returned (.tuple #[.slice none 0 0,.int .i64 e'])/\e'≠0/\¬Right n B)\/(Right n B/\∃ g,e=.returned (.tuple #[.slice (some ⟨g,0,none⟩) n n,.int .i64 0])/\Row w' w.heap.size g n (outs n B))):=by
 have hs:=h.cell
 go_enter Tryz.func85,Tryz.ntmps85
 go_wp2_with fail
 refine(mH p a n c B w h).mono ?_
 rintro e w1 ⟨⟨e', rfl,he⟩,hb1⟩
 replace h:=h.below hb1
 replace hs:=h.cell
 replace he:=hid he
 by_cases h0:e'=0
 ·have h0':(e' == 0)=true:=by simp[h0]
  have hR:=he.out.1 h0
  have hn:=hR.small
  have hF:=hR.one
  replace hR:=hid hR
  replace hF:=hid hF
  go_wp2_with fail
  refine(nH p a n c B _ hn h.lt hs h.store hF.out).mono ?_
  rintro e w2 ⟨rfl,hrow,hb2⟩
  replace hrow:=hid hrow
  replace hs:=(h.below hb2).cell
  go_wp2_with fail
  go_loopw [17] (fun v wr=>∃ i:Nat,i<=n/\v=.int .i64 i/\Row wr w1.heap.size w1.heap.size n (fun k=>if k<i then outs n B k else ((among n B ((k:Int)+1):Nat):Int))/\Below w1.heap.size w1 wr) (fun v _=>n-(Go.RowKit.intOf v).toNat)
  case atStart=>exact⟨0,Nat.zero_le _,rfl,hrow.out.congr (fun k _=>by simp),hb2⟩
  case round=>
   clear hrow hb2
   obtain⟨i,hin,rfl,hrow,hbel⟩:=hrel
   replace h:=h.below hbel
   replace hs:=h.cell
   by_cases hlt:i<n
   ·obtain⟨b,off,rfl,hb,hB⟩:=h.store (by omega)
    obtain⟨ka,kn,kc,ba,bn,bc,hblk⟩:=hB i hlt
    have hrc:=hrow.cell hlt
    have hrf:=hrow.frozen i
    rw[if_neg (Nat.lt_irrefl i)] at hrc
    have hc0:=hblk.c0
    have hbd1:=cF6 hR.out i hlt
    have hbd2:=(hF.out i hlt).bounds
    have hrow':=hid ((hrow.set i (outs n B i)).congr (h:=fun k=>if k<i+1 then outs n B k else ((among n B ((k:Int)+1):Nat):Int)) (fun k _=>by
     by_cases e:k=i
     ·subst e; simp
     ·by_cases e2:k<i
      ·simp[e,e2,show k<i+1 by omega]
      ·simp[e,e2,show ¬k<i+1 by omega]))
    unfold outs at hrow'
    clear hrow hB hblk
    generalize ((among n B ((i:Int)+1):Nat):Int)=am at *
    generalize (B i).refs=rf at *
    go_wp2_with fail
    go_roundw
    case rel=>exact⟨i+1,by omega,by go_num,hrow'.out,hbel.setCell (Nat.le_refl _) _⟩
    case measure=>simp[Go.RowKit.intOf]; omega
   ·obtain rfl:i=n:=by omega
    replace hrow:=hid hrow
    go_wp2_with fail
    go_ret2
    exact⟨Below.tr hb1 hbel,.inr ⟨hR.out,_,rfl,(hrow.out.congr (fun k hk=>by simp[hk])).base hb1.size⟩⟩
 ·have h0':(e' == 0)=false:=by simp[h0]
  go_wp2_with fail
  go_ret2
  exact⟨hb1,.inl ⟨e', rfl,h0,fun f=>h0 (he.out.2 f)⟩⟩
theorem lV (a:Option Addr)(n c:Nat)(B:Nat->Blk)(w:World)(t:TypeId)(h:aN w a n B):kU (w.alloc (.cells #[.slice a n c] t)) ⟨w.heap.size,0,none⟩ a n c B:=by
 refine⟨by simp,?_,h.below (aA _ _)⟩
 rw[World.cell?_alloc_at _ _ _ _ rfl]
 rfl
theorem aJ7 (a:Option Addr)(n c:Nat)(B:Nat->Blk)(w:World)(h:aN w a n B):
 Calls Tryz.prog 24 #[.agg #[.slice a n c]] w fun e w'=>zB e (Right n B) (cQ9 n B)/\Below w.heap.size w w':=by
 go_enter Tryz.func24,Tryz.ntmps24
 go_wp2_with fail
 refine(bW5 _ a n c B _ (lV a n c B w _ h)).mono ?_
 rintro e w1 ⟨⟨e', rfl,he,hs2⟩,hb1⟩
 replace he:=hid he
 replace hs2:=hid hs2
 go_wp2_with fail
 go_ret
 exact⟨⟨e', rfl,he.out,hs2.out⟩,Below.tr (aA _ _) hb1⟩
theorem uW (a:Option Addr)(n c:Nat)(B:Nat->Blk)(w:World)(h:aN w a n B):
 Calls Tryz.prog 55 #[.agg #[.slice a n c]] w fun e w'=>Below w.heap.size w w'/\
  ((∃ e', e=.returned (.tuple #[.slice none 0 0,.int .i64 e'])/\e'≠0/\¬Right n B)\/(Right n B/\∃ g,e=.returned (.tuple #[.slice (some ⟨g,0,none⟩) n n,.int .i64 0])/\Row w' w.heap.size g n (outs n B))):=by
 go_enter Tryz.func55,Tryz.ntmps55
 go_wp2_with fail
 refine(xE _ a n c B _ (lV a n c B w _ h)).mono ?_
 rintro e w1 ⟨hb1,⟨e', rfl,he,hR⟩ | ⟨hR,g,rfl,hrow⟩⟩
 ·replace hR:=hid hR
  go_wp2_with fail
  go_ret2
  exact⟨Below.tr (aA _ _) hb1,.inl ⟨e', rfl,he,hR.out⟩⟩
 ·replace hR:=hid hR
  replace hrow:=hid (hrow.base (by simp):Row w1 w.heap.size g n (outs n B))
  go_wp2_with fail
  go_ret2
  exact⟨Below.tr (aA _ _) hb1,.inr ⟨hR.out,g,rfl,hrow.out⟩⟩
def cO (B:Nat->Blk)(i:Nat):Nat:=sumTo (fun k=>if 0<(B k).refs then 1 else 0) i
theorem dW (B:Nat->Blk)(i:Nat):cO B (i+1)=cO B i+if 0<(B i).refs then 1 else 0:=rfl
theorem Tryz.infoBlk:(Tryz.prog.info? 135).map (fun i=>(i.zero,i.size,i.bytes))=some (some (.agg #[.int .i64 0,.int .i64 0,.slice none 0 0,.slice none 0 0]),4,64):=by kernel_rfl
theorem bK6 {w:World}{g off:Nat}{Q:Nat->Prop}(h:∀ k,k<4->w.cell? ⟨g,off+k,none⟩=(#[Value.int .i64 0,.int .i64 0,.slice none 0 0,.slice none 0 0])[k]?):pQ Q w g off Blk.zero none 0 0 none 0 0:=
 ⟨h 0 (by omega),h 1 (by omega),h 2 (by omega),h 3 (by omega),dL _ _ _ _,dL _ _ _ _,by simp[Blk.zero],by simp[Blk.zero],by omega⟩
theorem aM5 (n i k:Nat)(hi:i<n)(hk:k<4):(madeCells (Value.agg #[.int .i64 0,.int .i64 0,.slice none 0 0,.slice none 0 0]).cells (n*4)).toList[i*4+k]? =(#[Value.int .i64 0,.int .i64 0,.slice none 0 0,.slice none 0 0])[k]? :=by
 have h:i*4+k<n*4:=by omega
 have e:(i*4+k)%4=k:=by omega
 simp[madeCells,Value.cells,h,e]
 match k,hk with
 | 0,_=>rfl
 | 1,_=>rfl
 | 2,_=>rfl
 | 3,_=>rfl
theorem yP {w:World}{base g n:Nat}{Q:Nat->Prop}(hown:w.ownsRow base 135 4 (.slice (some ⟨g,0,none⟩) n n) n (madeCells (Value.agg #[.int .i64 0,.int .i64 0,.slice none 0 0,.slice none 0 0]).cells (n*4)).toList):
 dO Q w g 0 n (fun _=>Blk.zero):=by
 intro i hi
 refine⟨none,0,0,none,0,0,bK6 fun k hk=>?_⟩
 rw[show 0+i*4+k=i*4+k by omega,hown.cellAt _ (by omega)]
 exact aM5 n i k hi hk
theorem aS3 (n:Nat)(w:World)(hn:n<=400):
 Calls Tryz.prog 60 #[.int .i64 n] w fun e w'=>cX1 w.heap.size e w' n (fun _=>Blk.zero)/\Below w.heap.size w w':=by
 obtain⟨i0,hi,hz0,hz1,hz2⟩:=info_parts Tryz.infoBlk
 have h1:¬(n:Int)<0:=by omega
 have h2:¬400<(n:Int):=by omega
 go_enter Tryz.func60,Tryz.ntmps60
 go_wp2_with (at_make; refine wpList_make_full _ rfl (.tmp 11) (.tmp 11) 22 rfl (w.heap.size+1) 135 i0 _ 4 Tryz.underlying22 hi hz0 hz1 .i64 .i64 n n n rfl rfl rfl rfl (by rw[hz2]; omega) (by unfold maxLen; omega) (by simp) ?_; intro w2 hown hgr; have hone:w2.heap[w.heap.size]? =some (.cells #[.slice none 0 0] 24 (0,0)):=(by rw[hgr.block w.heap.size (by simp) (by simp)]; exact heap_alloc_new w _); have hrc:=cell_of_one hone; have hrf:=free_of_one hone)
 have hb:Below w.heap.size w w2:=((Below.refl _ _).alloc (Nat.le_refl _) _).grown hgr (by simp) (by simp)
 refine bodyPost_ret (v:=.tuple #[.agg #[.slice (some ⟨w.heap.size+1,0,none⟩) n n],.int .i64 0]) (by rw[results_cell_tmp rfl]; go_simp) rfl ⟨⟨_,_,rfl,by omega,?_⟩,hb.setCell (Nat.le_refl _) _⟩
 have hown':w2.ownsRow (w.heap.size+1) 135 4 (.slice (some ⟨w.heap.size+1,0,none⟩) n n) n (madeCells (Value.agg #[.int .i64 0,.int .i64 0,.slice none 0 0,.slice none 0 0]).cells (n*4)).toList:=by simpa using hown
 refine⟨by have:=(hown'.lt _ rfl).2; simpa using this,?_⟩
 exact dO.weaken (dO.kept (g:=w.heap.size) (yP hown' (Q:=fun b=>w.heap.size<b)) (by omega) (fun b h=>by omega) (Kept.setCell (g:=w.heap.size) (Kept.refl _ _) (p:=⟨w.heap.size,0,none⟩) rfl _)) (fun b _ h=>by omega)
theorem Tryz.infoByte:(Tryz.prog.info? 5).map (fun i=>(i.zero,i.size,i.bytes))=some (some (.int .u8 0),1,1):=by kernel_rfl
theorem gH {w:World}{k:IntKind}{B:Nat}{e:TypeId}{v:Value}{n:Nat}{l:List Int}(hl:∀ x∈l,(Lit.int k x).wf=true)(h:w.ownsRow B e 1 v n (l.map (Value.int k))):
 ∃ a c,v=.slice a n c/\n<=c/\aI (fun b=>B<=b) k w a n l:=by
 have hn:l.length=n:=by have:=h.1; simpa using this
 rcases h.2 with⟨hv,h0⟩ | ⟨g,cap,cur,hv,hg,hh,hnc,_⟩
 ·subst hv h0
  exact⟨none,0,rfl,Nat.le_refl _,hn,hl,fun hp=>absurd hp (by omega)⟩
 ·subst hv
  refine⟨_,_,rfl,hnc,hn,hl,fun hp=>⟨g,0,rfl,(h.lt g rfl).2,hg,fun i hi=>?_⟩⟩
  rw[Nat.zero_add,h.cellAt i (by omega)]
  simp[hn,hi]
theorem aH4 (a:Option Addr)(n c:Nat)(l:List Int)(Q:Nat->Prop)(w:World)(hn:n<=4)(h:aI Q .i64 w a n l):
 Calls Tryz.prog 87 #[.slice a n c] w fun e w'=>
  Below w.heap.size w w'/\∃ a' c', e=.returned (.slice a' n c')/\n<=c'/\aI (fun b=>w.heap.size<=b) .i64 w' a' n l:=by
 obtain⟨i0,hi,hz0,hz1,hz2⟩:=info_parts Tryz.infoInt
 have qn:∀ (w:World) (a:Option Addr) (n c n' c':Nat),(binOp .eql 36 (.slice a n c) (.slice none n' c')).run Tryz.prog w=.ok (.bool a.isNone) w:=fun w a n c n' c'=>Lib.run_eql_slice_nil w _ _ a n c n' c' Tryz.underlying36
 cases a with
 | none=>
   have hn0:n=0:=by
    rcases Nat.eq_zero_or_pos n with h0 | h0
    ·exact h0
    ·obtain⟨_,_,h1,_⟩:=h.2.2 h0
     cases h1
   subst hn0
   have hl:=h.1
   replace h:=hid h
   go_enter Tryz.func87,Tryz.ntmps87
   go_wp2_with fail
   go_ret
   exact⟨Below.refl _ _,_,_,rfl,Nat.le_refl _,by rw[List.eq_nil_of_length_eq_zero hl]; exact dL _ _ _ _⟩
 | some x=>
   have hl:=h.1
   have hcn:∀ j u,(l.map (Value.int .i64))[j]? =some u->(w.alloc (.cells #[] 3)).cell? (x.add j)=some u:=by
    intro j u hj
    have hjl:j<l.length:=by
     rcases Nat.lt_or_ge j l.length with h | h
     ·exact h
     ·simp[List.getElem?_eq_none h] at hj
    obtain⟨b,off,he,hb,_,hc⟩:=h.2.2 (by omega)
    obtain rfl:x=⟨b,off,none⟩:=by simpa using he
    have ea:(⟨b,off,none⟩:Addr).add j=⟨b,off+j,none⟩:=by unfold Addr.add; split<;>simp_all
    rw[ea,World.cell?_alloc_past _ _ _ hb,hc j (by omega)]
    simp[hjl] at hj
    simp[List.getD,hjl,hj]
   have A:=hid hcn
   have hwf:=hid h.2.1
   replace hl:=hid hl
   clear hcn h
   go_enter Tryz.func87,Tryz.ntmps87
   go_wp2_with (at_builtin; refine wpList_append_own _ rfl _ _ 36 rfl w.heap.size 3 i0 (.int .i64 0) 1 8 Tryz.underlying36 hi hz0 hz1 hz2 rfl (by decide) _ _ _ rfl (World.ownsRow_made w #[] 0 (Nat.le_refl _) (Nat.zero_le _) (by simp)) x n c (l.map (Value.int .i64)) rfl ?qc1 ?qc2 ?qc3 ?qc4 ?qc5 ?qc6 ?_)
   case qc1=>simp[hl.out]
   case qc2=>exact A.out
   case qc3=>intro u hu; simp at hu; obtain⟨x,_,rfl⟩:=hu; rfl
   case qc4=>unfold maxLen; omega
   case qc5=>omega
   case qc6=>simp
   intro v' w1 hown hgrow hnil
   have hown':w1.ownsRow w.heap.size 3 1 v' n (l.map (Value.int .i64)):=by simpa using hown
   have hbel:=((Below.refl _ w).alloc (Nat.le_refl _) _).grown hgrow (by simp) (by intro k hk; simp[Value.ownBlock] at hk; omega)
   clear hown hgrow A hnil
   obtain⟨a', c', rfl,hnc,hN⟩:=gH hwf.out hown'
   replace hN:=hid hN
   clear hown'
   go_wp2_with fail
   go_ret
   exact⟨hbel,a', c', rfl,hnc,hN.out⟩
theorem pY (a:Option Addr)(n c:Nat)(l:List Int)(Q:Nat->Prop)(w:World)(hn:n<=4)(h:aI Q .u8 w a n l):
 Calls Tryz.prog 29 #[.slice a n c] w fun e w'=>
  Below w.heap.size w w'/\∃ a' c', e=.returned (.slice a' n c')/\n<=c'/\aI (fun b=>w.heap.size<=b) .u8 w' a' n l:=by
 obtain⟨i0,hi,hz0,hz1,hz2⟩:=info_parts Tryz.infoByte
 have qn:∀ (w:World) (a:Option Addr) (n c n' c':Nat),(binOp .eql 28 (.slice a n c) (.slice none n' c')).run Tryz.prog w=.ok (.bool a.isNone) w:=fun w a n c n' c'=>Lib.run_eql_slice_nil w _ _ a n c n' c' Tryz.underlying28
 cases a with
 | none=>
   have hn0:n=0:=by
    rcases Nat.eq_zero_or_pos n with h0 | h0
    ·exact h0
    ·obtain⟨_,_,h1,_⟩:=h.2.2 h0
     cases h1
   subst hn0
   have hl:=h.1
   replace h:=hid h
   go_enter Tryz.func29,Tryz.ntmps29
   go_wp2_with fail
   go_ret
   exact⟨Below.refl _ _,_,_,rfl,Nat.le_refl _,by rw[List.eq_nil_of_length_eq_zero hl]; exact dL _ _ _ _⟩
 | some x=>
   have hl:=h.1
   have hcn:∀ j u,(l.map (Value.int .u8))[j]? =some u->(w.alloc (.cells #[] 5)).cell? (x.add j)=some u:=by
    intro j u hj
    have hjl:j<l.length:=by
     rcases Nat.lt_or_ge j l.length with h | h
     ·exact h
     ·simp[List.getElem?_eq_none h] at hj
    obtain⟨b,off,he,hb,_,hc⟩:=h.2.2 (by omega)
    obtain rfl:x=⟨b,off,none⟩:=by simpa using he
    have ea:(⟨b,off,none⟩:Addr).add j=⟨b,off+j,none⟩:=by unfold Addr.add; split<;>simp_all
    rw[ea,World.cell?_alloc_past _ _ _ hb,hc j (by omega)]
    simp[hjl] at hj
    simp[List.getD,hjl,hj]
   have A:=hid hcn
   have hwf:=hid h.2.1
   replace hl:=hid hl
   clear hcn h
   go_enter Tryz.func29,Tryz.ntmps29
   go_wp2_with (at_builtin; refine wpList_append_own _ rfl _ _ 28 rfl w.heap.size 5 i0 (.int .u8 0) 1 1 Tryz.underlying28 hi hz0 hz1 hz2 rfl (by decide) _ _ _ rfl (World.ownsRow_made w #[] 0 (Nat.le_refl _) (Nat.zero_le _) (by simp)) x n c (l.map (Value.int .u8)) rfl ?qc1 ?qc2 ?qc3 ?qc4 ?qc5 ?qc6 ?_)
   case qc1=>simp[hl.out]
   case qc2=>exact A.out
   case qc3=>intro u hu; simp at hu; obtain⟨x,_,rfl⟩:=hu; rfl
   case qc4=>unfold maxLen; omega
   case qc5=>omega
   case qc6=>simp
   intro v' w1 hown hgrow hnil
   have hown':w1.ownsRow w.heap.size 5 1 v' n (l.map (Value.int .u8)):=by simpa using hown
   have hbel:=((Below.refl _ w).alloc (Nat.le_refl _) _).grown hgrow (by simp) (by intro k hk; simp[Value.ownBlock] at hk; omega)
   clear hown hgrow A hnil
   obtain⟨a', c', rfl,hnc,hN⟩:=gH hwf.out hown'
   replace hN:=hid hN
   clear hown'
   go_wp2_with fail
   go_ret
   exact⟨hbel,a', c', rfl,hnc,hN.out⟩
theorem aF (w:World)(o:Obj)(cs:Array Value)(t:TypeId):aC ((w.alloc o).alloc (.cells cs t)) (w.heap.size+1) cs t:=heap_alloc2_new w _ _
def cX3 (B:Nat)(e:Ending)(w:World)(K:Blk):Prop:=
 ∃ ka kn kc ba bn bc,e=.returned (.agg #[.int .i64 K.refs,.int .i64 K.level,.slice ka kn kc,.slice ba bn bc])/\aI (fun b=>B<=b) .i64 w ka kn K.kids/\aI (fun b=>B<=b) .u8 w ba bn K.bytes/\kn<=kc/\bn<=bc
theorem rX (K:Blk)(ka:Option Addr)(kn kc:Nat)(ba:Option Addr)(bn bc:Nat)(Q:Nat->Prop)(w:World)(hk:aI Q .i64 w ka kn K.kids)(hb:aI Q .u8 w ba bn K.bytes)(h4:kn<=4/\bn<=4):
 Calls Tryz.prog 63 #[.agg #[.int .i64 K.refs,.int .i64 K.level,.slice ka kn kc,.slice ba bn bc]] w fun e w'=>cX3 w.heap.size e w' K/\Below w.heap.size w w':=by
 have b0:=(aA w (.cells #[.int .i64 K.refs,.int .i64 K.level,.slice ka kn kc,.slice ba bn bc] 135)).alloc (by simp) (.cells #[.int .i64 0,.int .i64 0,.slice none 0 0,.slice none 0 0] 135)
 have k1:aC _ w.heap.size #[.int .i64 K.refs,.int .i64 K.level,.slice ka kn kc,.slice ba bn bc] 135:=(aB w _ _).below (aA _ (.cells #[.int .i64 0,.int .i64 0,.slice none 0 0,.slice none 0 0] 135))
 have k2:=aF w (.cells #[.int .i64 K.refs,.int .i64 K.level,.slice ka kn kc,.slice ba bn bc] 135) #[.int .i64 0,.int .i64 0,.slice none 0 0,.slice none 0 0] 135
 have hsz:w.heap.size+2=((w.alloc (.cells #[.int .i64 K.refs,.int .i64 K.level,.slice ka kn kc,.slice ba bn bc] 135)).alloc (.cells #[.int .i64 0,.int .i64 0,.slice none 0 0,.slice none 0 0] 135)).heap.size:=by simp
 replace hk:=hk.below b0
 replace hb:=(hb.weaken (R:=fun b=>b<w.heap.size) (fun b h _=>h)).below b0
 replace k1:=hid k1
 replace k2:=hid k2
 replace hsz:=hid hsz
 go_enter Tryz.func63,Tryz.ntmps63
 go_wp2_with fail
 generalize (w.alloc (.cells #[.int .i64 K.refs,.int .i64 K.level,.slice ka kn kc,.slice ba bn bc] 135)).alloc (.cells #[.int .i64 0,.int .i64 0,.slice none 0 0,.slice none 0 0] 135)=w0 at *
 refine(aH4 ka kn kc K.kids Q w0 h4.1 hk).mono ?_
 rintro e w1 ⟨b1,ka', kc', rfl,hkc,hK⟩
 have hsz1:w.heap.size+2<=w1.heap.size:=by have:=hsz.out; have:=b1.size; omega
 replace hb:=hb.below b1
 replace hK:=hK.weaken (R:=fun b=>w.heap.size+2<=b) (fun b _ h=>by have:=hsz.out; omega)
 replace k1:=hid (k1.out.below b1)
 replace k2:=hid (k2.out.below b1)
 replace b1:=Below.tr b0 b1
 clear hk b0 hsz
 have c0:=k1.out.cell 0
 have c1:=k1.out.cell 1
 have c2:=k1.out.cell 2
 have c3:=k1.out.cell 3
 have f2:=k1.out.frozen 2
 simp at c0 c1 c2 c3
 go_wp2_with fail
 clear c0 c1 c2 c3 f2
 have kk:=Kept.setCell (g:=w.heap.size) (Kept.refl _ w1) (p:=⟨w.heap.size,2,none⟩) rfl (.slice ka' kn kc')
 replace k1:=k1.out.set 2 (.slice ka' kn kc')
 replace k2:=k2.out.past (a:=⟨w.heap.size,2,none⟩) (by simp) (.slice ka' kn kc')
 replace hb:=hb.kept (fun b h=>by omega) kk
 replace hK:=hK.kept (fun b h=>by omega) kk
 replace b1:=b1.trans (kk.below (Nat.le_refl _))
 have hsz2:=hid kk.size
 clear kk
 simp at k1
 generalize w1.setCell ⟨w.heap.size,2,none⟩ (.slice ka' kn kc')=w2 at *
 refine(pY ba bn bc K.bytes _ w2 h4.2 hb).mono ?_
 rintro e w3 ⟨b3,ba', bc', rfl,hbc,hB⟩
 replace hB:=hB.weaken (R:=fun b=>w.heap.size+2<=b) (fun b _ h=>by have:=hsz2.out; omega)
 replace hK:=hK.below b3
 replace k1:=k1.below b3
 replace k2:=k2.below b3
 replace b1:=Below.tr b1 b3
 have c0:=k1.cell 0
 have c1:=k1.cell 1
 have c2:=k1.cell 2
 have c3:=k1.cell 3
 have f3:=k1.frozen 3
 simp at c0 c1 c2 c3
 have d0:=k2.cell 0
 have d1:=k2.cell 1
 have d2:=k2.cell 2
 have d3:=k2.cell 3
 have e0:=k2.frozen 0
 have e1:=k2.frozen 1
 have e2:=k2.frozen 2
 have e3:=k2.frozen 3
 simp at d0 d1 d2 d3
 replace k2:=hid k2
 clear k1 hb b3 hsz2
 go_wp2_with fail
 clear c0 c1 c2 c3 f3 d0 d1 d2 d3 e0 e1 e2 e3
 have kk1:=Kept.setCell (g:=w.heap.size) (Kept.refl _ w3) (p:=⟨w.heap.size,3,none⟩) rfl (.slice ba' bn bc')
 have kk2:=jG (w3.setCell ⟨w.heap.size,3,none⟩ (.slice ba' bn bc')) (w.heap.size+1) 0 (.int .i64 K.refs) (.int .i64 K.level) (.slice ka' kn kc') (.slice ba' bn bc')
 have k3:=((((k2.out.past (a:=⟨w.heap.size,3,none⟩) (by simp) (.slice ba' bn bc')).set 0 (.int .i64 K.refs)).set 1 (.int .i64 K.level)).set 2 (.slice ka' kn kc')).set 3 (.slice ba' bn bc')
 simp only[List.setIfInBounds_toArray,List.set_cons_succ,List.set_cons_zero] at k3
 refine bodyPost_ret (v:=.agg #[.int .i64 K.refs,.int .i64 K.level,.slice ka' kn kc', .slice ba' bn bc']) ?_ rfl ⟨⟨ka', kn,kc', ba', bn,bc', rfl,?_,?_,hkc,hbc⟩,?_⟩
 ·exact results_cell_row rfl _ _ (w.heap.size+1) _ _ _ _ rfl k3 Tryz.underlying135 rfl (by kernel_rfl)
 ·exact((hK.kept (fun b h=>by omega) kk1).kept (fun b h=>by omega) kk2).weaken (fun b _ h=>by omega)
 ·exact((hB.kept (fun b h=>by omega) kk1).kept (fun b h=>by omega) kk2).weaken (fun b _ h=>by omega)
 ·exact(b1.trans (kk1.below (Nat.le_refl _))).trans (kk2.below (by omega))
structure dF (w:World)(p:Addr)(g n:Nat)(B:Nat->Blk):Prop where
 lt:p.block<w.heap.size
 ne:p.block≠g
 cell:w.cell? p=some (.slice (some ⟨g,0,none⟩) n n)
 own:Own w g n B
theorem pE (p:Addr)(a:Option Addr)(n c:Nat)(B:Nat->Blk)(w:World)(h:kU w p a n c B)(hn:n<=400)(hF:∀ i,i<n->(B i).kids.length<=4/\(B i).bytes.length<=4):
 Calls Tryz.prog 34 #[.pointer (some p)] w fun e w'=>Below w.heap.size w w'/\∃ g,e=.returned (.agg #[.slice (some ⟨g,0,none⟩) n n])/\w.heap.size<=g/\Own w' g n B:=by
 obtain⟨i0,hi,hz0,hz1,hz2⟩:=info_parts Tryz.infoBlk
 have hs:=h.cell
 have hp:=h.lt
 go_enter Tryz.func34,Tryz.ntmps34
 go_wp2_with (at_make; refine wpList_make_full _ rfl (.tmp 10) (.tmp 10) 22 rfl (w.heap.size+1) 135 i0 _ 4 Tryz.underlying22 hi hz0 hz1 .i64 .i64 n n n rfl rfl rfl rfl (by rw[hz2]; omega) (by unfold maxLen; omega) (by simp) ?_; intro w2 hown hgr; have hres:aC w2 w.heap.size #[.slice none 0 0] 24:=(by unfold aC; rw[hgr.block w.heap.size (by simp) (by simp)]; exact heap_alloc_new w _); have hb2:Below w.heap.size w w2:=((Below.refl _ _).alloc (Nat.le_refl _) _).grown hgr (by simp) (by simp); have hs2:w2.cell? p=some (.slice a n c):=(hb2.cell hp).trans hs)
 have hown':w2.ownsRow (w.heap.size+1) 135 4 (.slice (some ⟨w.heap.size+1,0,none⟩) n n) n (madeCells (Value.agg #[.int .i64 0,.int .i64 0,.slice none 0 0,.slice none 0 0]).cells (n*4)).toList:=by simpa using hown
 have hO:Own w2 (w.heap.size+1) n (fun _=>Blk.zero):=⟨(hown'.lt _ rfl).2,yP hown', fun i _=>hown'.frozenAt i⟩
 clear hown hown' hgr hs2
 have hs2:w2.cell? p=some (.slice a n c):=(hb2.cell hp).trans hs
 go_loopw [17] (fun v wr=>∃ i:Nat,i<=n/\v=.int .i64 i/\Own wr (w.heap.size+1) n (fun k=>if k<i then B k else Blk.zero)/\aC wr w.heap.size #[.slice none 0 0] 24/\Below w.heap.size w wr) (fun v _=>n-(Go.RowKit.intOf v).toNat)
 case atStart=>exact⟨0,Nat.zero_le _,rfl,hO.congr (fun k _=>by simp),hres,hb2⟩
 case round=>
  clear hO hres hb2 hs2
  obtain⟨i,hin,rfl,hO,hres,hbel⟩:=hrel
  replace h:=h.below hbel
  by_cases hlt:i<n
  ·obtain⟨b,off,rfl,hb,hB⟩:=h.store (by omega)
   obtain⟨ka,kn,kc,ba,bn,bc,hblk⟩:=hB i hlt
   have c0:=hblk.c0
   have c1:=hblk.c1
   have c2:=hblk.c2
   have c3:=hblk.c3
   have hk4:kn<=4/\bn<=4:=by rw[<-hblk.kids.1,<-hblk.bytes.1]; exact hF i hlt
   have hr:=hid hblk.refs
   have hl:=hid hblk.level
   have hkk:=hid hblk.kids
   have hbb:=hid hblk.bytes
   replace hO:=hid hO
   replace hres:=hid hres
   clear hB hblk hF
   generalize hKdef:B i=K at *
   replace hKdef:=hid hKdef
   go_wp2_with fail
   clear c0 c1 c2 c3
   have ba0:=aA wr (.cells #[.int .i64 K.refs,.int .i64 K.level,.slice ka kn kc,.slice ba bn bc] 135)
   replace hkk:=hkk.out.below ba0
   replace hbb:=hbb.out.below ba0
   replace hO:=hO.out.below ba0
   replace hres:=hres.out.below ba0
   replace hbel:=Below.tr hbel ba0
   clear ba0 h hs hp hb
   generalize wr.alloc (.cells #[.int .i64 K.refs,.int .i64 K.level,.slice ka kn kc,.slice ba bn bc] 135)=wa at *
   refine(rX K ka kn kc ba bn bc _ wa hkk hbb hk4).mono ?_
   rintro e w1 ⟨⟨ka', kn', kc', ba', bn', bc', rfl,hK', hB', hc1', hc2'⟩,b1⟩
   have hlt1:=hO.lt
   replace hK':=hid (hK'.weaken (R:=fun b=>w.heap.size+1<b) (fun b _ h=>by omega))
   replace hB':=hid (hB'.weaken (R:=fun b=>w.heap.size+1<b) (fun b _ h=>by omega))
   replace hO:=hO.below b1
   replace hres:=hid (hres.below b1)
   replace hbel:=Below.tr hbel b1
   obtain⟨xa,xn,xc,ya,yn,yc,hx⟩:=hO.cell hlt
   have d0:=hx.c0
   have d1:=hx.c1
   have d2:=hx.c2
   have d3:=hx.c3
   have e0:=hO.free (i*4) (by omega)
   have e1:=hO.free (i*4+1) (by omega)
   have e2:=hO.free (i*4+2) (by omega)
   have e3:=hO.free (i*4+3) (by omega)
   simp only[Nat.lt_irrefl,if_false] at d0 d1 d2 d3
   replace hO:=hid hO
   clear hx hkk hbb b1 hlt1
   go_wp2_with fail
   clear d0 d1 d2 d3 e0 e1 e2 e3
   have hput:=hO.out.put hlt K ka' kn' kc' ba' bn' bc' hK'.out hB'.out hr.out hl.out ⟨hc1', hc2'⟩
   have hkp:=jG w1 (w.heap.size+1) (i*4) (.int .i64 K.refs) (.int .i64 K.level) (.slice ka' kn' kc') (.slice ba' bn' bc')
   go_roundw
   case rel=>
    refine⟨i+1,by omega,by go_num,hput.congr (fun k hk=>?_),?_,hbel.trans (hkp.below (by omega))⟩
    ·by_cases e:k=i
     ·subst e; rw[upd_same]; simp[hKdef.out]
     ·rw[bI _ _ _ _ e]
      by_cases e2:k<i
      ·simp[e2,show k<i+1 by omega]
      ·simp[e2,show ¬k<i+1 by omega]
    ·unfold aC
     rw[hkp.block _ (by omega)]
     exact hres.out
   case measure=>simp[Go.RowKit.intOf]; omega
  ·obtain rfl:i=n:=by omega
   have r0:=hres.cell 0
   have r1:=hres.frozen 0
   simp at r0
   replace hO:=hid (hO.congr (C:=B) (fun k hk=>by simp[hk]))
   replace hres:=hid hres
   go_wp2_with fail
   have kk:=Kept.setCell (g:=w.heap.size) (Kept.refl _ wr) (p:=⟨w.heap.size,0,none⟩) rfl (.slice (some ⟨w.heap.size+1,0,none⟩) i i)
   have k3:=hres.out.set 0 (.slice (some ⟨w.heap.size+1,0,none⟩) i i)
   simp only[List.setIfInBounds_toArray,List.set_cons_zero] at k3
   refine bodyPost_ret (v:=.agg #[.slice (some ⟨w.heap.size+1,0,none⟩) i i]) ?_ rfl ⟨hbel.trans (kk.below (Nat.le_refl _)),w.heap.size+1,rfl,by omega,?_⟩
   ·exact results_cell_row rfl _ _ w.heap.size _ _ _ _ rfl k3 Tryz.underlying24 rfl (by kernel_rfl)
   ·exact⟨by simpa using hO.out.lt,hO.out.blocks.kept (by omega) (fun b h=>by omega) kk,fun k hk=>by simpa using hO.out.free k hk⟩
theorem yR (p:Addr)(g n c i:Nat)(w:World)(hn:n<=400)(hs:w.cell? p=some (.slice (some ⟨g,0,none⟩) n c))(hi:i<n):
 Calls Tryz.prog 109 #[.pointer (some p),.int .i64 ((i:Int)+1)] w fun e w'=>e=.returned (.pointer (some ⟨g,i*4,none⟩))/\w'=w:=by
 have:=uT p g 0 n c i w hn hs hi
 rwa [Nat.zero_add] at this
structure Env (w:World)(p:Addr)(sb lb g n:Nat):Prop where
 s:w.cell? ⟨sb,0,none⟩=some (.pointer (some p))
 l:w.cell? ⟨lb,0,none⟩=some (.func (.func 147) #[] #[.pointer (some ⟨sb,0,none⟩),.pointer (some ⟨lb,0,none⟩)])
 q:w.cell? p=some (.slice (some ⟨g,0,none⟩) n n)
 ns:sb≠g
 nl:lb≠g
 np:p.block≠g
theorem Env.kept {w w':World}{p:Addr}{sb lb g n:Nat}(h:Env w p sb lb g n)(k:Kept g w w'):Env w' p sb lb g n:=
 ⟨(k.cell (p:=⟨sb,0,none⟩) h.ns).trans h.s,(k.cell (p:=⟨lb,0,none⟩) h.nl).trans h.l,(k.cell h.np).trans h.q,h.ns,h.nl,h.np⟩
theorem cJ0 (B:Nat->Blk)(i:Nat)(b c:Blk):upd (upd B i b) i c=upd B i c:=by
 funext j; unfold upd; split<;>rfl
theorem bU5 {n:Nat}{B:Nat->Blk}(h:∀ i,i<n->Form n B (B i)):iU n B B [0]:=(vS h).skip
def Less (w:World)(g n:Nat)(B:Nat->Blk)(ks T:List Int)(w':World):Prop:=Kept g w w'/\∃ C,Own w' g n C/\fG n C T/\iU n B C ks
theorem cC3 (p:Addr)(sb lb g n:Nat)(hn:n<=400)(f:Nat):∀ (B:Nat->Blk) (la:Option Addr) (ln lc:Nat) (ks T:List Int) (w:World),aI (fun b=>b≠g) .i64 w la ln ks->ln<=1000->fG n B (ks++T)->(∀ k:Nat,((k:Int)+1)∈ks->(B k).level<f)->Env w p sb lb g n->Own w g n B->
 Calls Tryz.prog 147 #[.slice la ln lc,.pointer (some ⟨sb,0,none⟩),.pointer (some ⟨lb,0,none⟩)] w fun e w'=>e=.returned (.tuple #[])/\Less w g n B ks T w':=by
 induction f using Nat.strongRecOn with
 | _ f ih=>
   intro B la ln lc ks T w hN hln hR hlev hE hO
   have hks:=hid hN.1
   replace hN:=hid hN
   replace hR:=hid hR
   replace hO:=hid hO
   replace hlev:=hid hlev
   replace hE:=hid hE
   replace ih:=hid ih
   go_enter Tryz.func147,Tryz.ntmps147
   go_wp2_with fail
   go_loopw [10] (fun v wr=>∃ j:Nat,j<=ln/\v=.int .i64 j/\Kept g w wr/\∃ C,Own wr g n C/\fG n C (ks.drop j++T)/\iU n B C (ks.take j)) (fun v _=>ln-(Go.RowKit.intOf v).toNat)
   case atStart=>exact⟨0,Nat.zero_le _,rfl,Kept.refl _ _,_,hO.out,hR.out,by simpa using vS hR.out.one⟩
   case round=>
    clear hO hR
    obtain⟨j,hjn,rfl,hkp,C,hO,hR,hF⟩:=hrel
    by_cases hlt:j<ln
    ·obtain⟨kb,ko,rfl,hkb,hgk,hc⟩:=hN.out.2.2 (by omega)
     have hck:wr.cell? ⟨kb,ko+j,none⟩=some (.int .i64 (ks.getD j 0)):=(hkp.cell (p:=⟨kb,ko+j,none⟩) hgk).trans (hc j hlt)
     have hjl:j<ks.length:=by rw[hks.out]; exact hlt
     have hmem:ks.getD j 0∈ks:=hN.out.getD hlt
     have htk:=fJ hjl
     have hdr:ks.drop j=ks.getD j 0::ks.drop (j+1):=by
      rw[List.drop_eq_getElem_cons hjl]; simp[List.getD,hjl]
     rw[hdr] at hR
     replace htk:=hid htk
     replace hmem:=hid hmem
     clear hc hdr hjl
     generalize ks.getD j 0=x at *
     by_cases hx0:x=0
     ·have hx0':(x == 0)=true:=by simp[hx0]
      have hF':Hid (iU n B C (ks.take (j+1))):=hid (by rw[htk.out,hx0]; exact hF.trans (bU5 hR.one))
      have hR1:Hid (fG n C (ks.drop (j+1)++T)):=hid (by rw[hx0] at hR; exact hR.skip)
      replace hO:=hid hO
      clear hF hR
      go_wp2_with fail
      go_roundw
      case rel=>exact⟨j+1,by omega,by go_num,hkp,C,hO.out,hR1.out,hF'.out⟩
      case measure=>simp[Go.RowKit.intOf]; omega
     ·have hx0':(x == 0)=false:=by simp[hx0]
      have hR1:fG n C (x::(ks.drop (j+1)++T)):=hR
      have hth:=hR1.there (List.mem_cons_self ..) hx0
      obtain⟨m,rfl⟩:∃ m:Nat,x=(m:Int)+1:=⟨(x-1).toNat,by have:=hth.1.1; omega⟩
      have hm:m<n:=by have:=hth.1.2.1; omega
      have em:((m:Int)+1-1).toNat=m:=by omega
      have hlm:(C m).level<f:=by
       have h1:=hF.level hth.1
       rw[em] at h1
       have h3:=hlev.out m hmem.out
       omega
      have hge:1<=(C m).refs:=by have:=hth.2; rwa [em] at this
      have hbd:=(hR1.one m hm).bounds
      have hE':=hE.out.kept hkp
      have s1:=hE'.s
      have s2:=hE'.q
      have l1:=hE'.l
      obtain⟨ka,kn,kc,ba,bn,bc,hb⟩:=hO.cell hm
      have c0:=hb.c0
      have c1:=hb.c1
      have c2:=hb.c2
      have c3:=hb.c3
      have f0:=hO.free (m*4) (by omega)
      have f1:=hO.free (m*4+1) (by omega)
      have f2:=hO.free (m*4+2) (by omega)
      have f3:=hO.free (m*4+3) (by omega)
      by_cases hr:1<(C m).refs
      ·have J:Hid (∀ w', w'=wr.setCell ⟨g,m*4,none⟩ (.int .i64 ((C m).refs-1))->∃ j':Nat,j'<=ln/\Value.int .i64 ((j:Int)+1)=.int .i64 j'/\Kept g w w'/\∃ C,Own w' g n C/\fG n C (ks.drop j'++T)/\iU n B C (ks.take j')):=hid (by
        intro w' hw
        subst hw
        refine⟨j+1,by omega,by go_num,hkp.trans (Kept.setCell (g:=g) (Kept.refl _ _) (p:=⟨g,m*4,none⟩) rfl _),_,hO.refs hm ((C m).refs-1) (by omega),?_,?_⟩
        ·have:=aJ8 hR1 (by omega) (by omega) (by rw[em]; exact hr); rwa [em] at this
        ·have:=bU8 hR1.one (a:=(m:Int)+1) (by omega) (by omega) (by rw[em]; exact hr)
         rw[em] at this
         rw[htk.out]
         exact hF.trans this)
       have hr':(0:Int)<(C m).refs-1:=by omega
       clear hO hR hR1 hF hE' hb hth hr hlm
       generalize (C m).refs=r at *
       go_wp2_with fail
       refine(yR p g n n m _ hn s2 hm).mono ?_
       rintro e w1 ⟨rfl,rfl⟩
       go_wp2_with fail
       go_roundw
       case rel=>exact J.out _ rfl
       case measure=>simp[Go.RowKit.intOf]; omega
      ·have hr1:(C m).refs=1:=by omega
       obtain⟨hR', hrr,ha0⟩:=bN3 hR1 (by omega) (by omega) (by rw[em]; exact hr)
       rw[em] at hR'
       clear hrr
       have hO1:=(hO.refs hm 0 (by omega)).put hm Blk.zero none 0 0 none 0 0 (dL _ _ _ _) (dL _ _ _ _) (by simp[Blk.zero]) (by simp[Blk.zero]) (by omega)
       rw[cJ0] at hO1
       have hkp1:Kept g wr (cA0 (wr.setCell ⟨g,m*4,none⟩ (.int .i64 0)) g (m*4) (.int .i64 0) (.int .i64 0) (.slice none 0 0) (.slice none 0 0)):=(Kept.setCell (g:=g) (Kept.refl _ wr) (p:=⟨g,m*4,none⟩) rfl (.int .i64 0)).trans (jG _ _ _ _ _ _ _)
       have hlev1:∀ k:Nat,((k:Int)+1)∈(C m).kids->(upd C m Blk.zero k).level<((C m).level.toNat:Int):=by
        intro k hk
        have hl0:=(hR1.one m hm).live hk
        rcases(hR1.one m hm).kids _ hk with h | ⟨_,h⟩
        ·omega
        ·rw[show ((k:Int)+1-1).toNat=k by omega] at h
         by_cases ek:k=m
         ·subst ek; rw[upd_same]; show (0:Int)<_; omega
         ·rw[bI _ _ _ _ ek]; omega
       have hvf:(C m).level.toNat<f:=by omega
       have hdone:∀ D,iU n (upd C m Blk.zero) D (C m).kids->iU n B D (ks.take (j+1)):=by
        intro D hD
        rw[htk.out]
        exact hF.trans (bV0 hR1.one (by omega) (by omega) (by rw[em]; exact hr1) ha0 (by rw[em]; exact hD))
       have hkids:=(hb.kids.weaken (R:=fun b=>b≠g) (fun b _ h=>by omega)).kept (fun b h=>h) hkp1
       have hkn4:kn<=4:=by rw[<-hb.kids.1]; exact(hR1.one m hm).few
       have hE1:=hE'.kept hkp1
       have l2:=hE1.l
       have hr0:(1:Int)-1=0:=rfl
       have hz:¬((0:Int)>0):=by omega
       rw[hr1] at c0
       clear hb hR hR1 ha0 hlm hbd hge hr hO hth hE' hF
       generalize (C m).kids=cks at *
       generalize (C m).refs=rf at *
       generalize (C m).level=lv at *
       replace hO1:=hid hO1
       replace hlev1:=hid hlev1
       replace hdone:=hid hdone
       replace hkids:=hid hkids
       replace hR':=hid hR'
       replace hE1:=hid hE1
       replace hkp1:=hid hkp1
       clear hr1
       go_wp2_with fail
       refine(yR p g n n m _ hn s2 hm).mono ?_
       rintro e w1 ⟨rfl,rfl⟩
       go_wp2_with fail
       refine(ih.out lv.toNat hvf (upd C m Blk.zero) ka kn kc cks (ks.drop (j+1)++T) _ hkids.out (by omega) hR'.out hlev1.out hE1.out hO1.out).mono ?_
       rintro e w2 ⟨rfl,hk2,D,hO2,hR2,hF2⟩
       replace hO2:=hid hO2
       replace hR2:=hid hR2
       replace hF2:=hid hF2
       go_wp2_with fail
       go_roundw
       case rel=>exact⟨j+1,by omega,by go_num,(hkp.trans hkp1.out).trans hk2,D,hO2.out,hR2.out,hdone.out D hF2.out⟩
       case measure=>simp[Go.RowKit.intOf]; omega
    ·obtain rfl:j=ln:=by omega
     have e1:ks.drop j=[]:=List.drop_of_length_le (by rw[hks.out]; exact Nat.le_refl _)
     have e2:ks.take j=ks:=List.take_of_length_le (by rw[hks.out]; exact Nat.le_refl _)
     rw[e1,List.nil_append] at hR
     rw[e2] at hF
     replace hO:=hid hO
     replace hF:=hid hF
     replace hR:=hid hR
     clear e1 e2
     go_wp2_with fail
     go_end0
     exact⟨rfl,hkp,C,hO.out,hR.out,hF.out⟩
theorem qA (p:Addr)(a:Option Addr)(n c:Nat)(B:Nat->Blk)(x:Int)(w:World)(h:kU w p a n c B):
 Calls Tryz.prog 195 #[.pointer (some p),.int .i64 x] w fun e w'=>aY1 e (Right n B/\There n B x)/\Below w.heap.size w w':=by
 go_enter Tryz.func195,Tryz.ntmps195
 go_wp2_with fail
 refine(mH p a n c B w h).mono ?_
 rintro e w1 ⟨⟨e', rfl,he⟩,hb1⟩
 replace h:=h.below hb1
 have hs:=h.cell
 replace he:=hid he
 replace h:=hid h
 by_cases h0:e'=0
 ·have h0':(e' == 0)=true:=by simp[h0]
  have hR:=hid (he.out.1 h0)
  go_wp2_with fail
  refine(nM p a n c B x _ hR.out.small hs h.out.store).mono ?_
  rintro e w1 ⟨⟨t,rfl,ht⟩,rfl⟩
  replace ht:=hid ht
  cases t
  ·go_wp2_with fail
   go_ret
   exact⟨aE2 5 (by omega) (fun e=>by simpa using ht.out.2 e.2),hb1⟩
  ·go_wp2_with fail
   go_ret
   exact⟨bA4 ⟨hR.out,by simpa using ht.out⟩,hb1⟩
 ·have h0':(e' == 0)=false:=by simp[h0]
  go_wp2_with fail
  go_ret
  exact⟨aE2 e' h0 (fun f=>h0 (he.out.2 f.1)),hb1⟩
theorem dF.ptr {w:World}{p:Addr}{g n:Nat}{B:Nat->Blk}(h:dF w p g n B):kU w p (some ⟨g,0,none⟩) n n B:=⟨h.lt,h.cell,h.own.store⟩
theorem dF.below {w w':World}{p:Addr}{g n:Nat}{B:Nat->Blk}(h:dF w p g n B)(hb:Below w.heap.size w w'):dF w' p g n B:=
 ⟨Nat.lt_of_lt_of_le h.lt hb.size,h.ne,(hb.cell h.lt).trans h.cell,h.own.below hb⟩
theorem dF.kept {w w':World}{p:Addr}{g n:Nat}{B C:Nat->Blk}(h:dF w p g n B)(hk:Kept g w w')(ho:Own w' g n C):dF w' p g n C:=
 ⟨by rw[hk.size]; exact h.lt,h.ne,(hk.cell h.ne).trans h.cell,ho⟩
structure Out (g:Nat)(w w':World):Prop where
 os:w'.os=w.os
 tape:w'.tape=w.tape
 output:w'.output=w.output
 size:w.heap.size<=w'.heap.size
 block:∀ k,k<w.heap.size->k≠g->w'.heap[k]? =w.heap[k]?
theorem Out.of_below {g:Nat}{w w':World}(h:Below w.heap.size w w'):Out g w w':=⟨h.os,h.tape,h.output,h.size,fun k hk _=>h.block k hk⟩
theorem Out.of_kept {g:Nat}{w w':World}(h:Kept g w w'):Out g w w':=⟨h.os,h.tape,h.output,Nat.le_of_eq h.size.symm,fun k _ hk=>h.block k hk⟩
theorem Out.trans {g:Nat}{a b c:World}(h:Out g a b)(k:Out g b c):Out g a c:=
 ⟨k.os.trans h.os,k.tape.trans h.tape,k.output.trans h.output,Nat.le_trans h.size k.size,fun i hi hg=>(k.block i (Nat.lt_of_lt_of_le hi h.size) hg).trans (h.block i hi hg)⟩
theorem Out.below {g B:Nat}{w w':World}(h:Out g w w')(hB:B<=g)(hs:B<=w.heap.size):Below B w w':=⟨h.os,h.tape,h.output,h.size,fun k hk=>h.block k (by omega) (by omega)⟩
theorem Out.cell {g:Nat}{w w':World}(h:Out g w w'){p:Addr}(hp:p.block<w.heap.size)(hg:p.block≠g):w'.cell? p=w.cell? p:=World.cell?_of_block (w:=w) (h.block p.block hp hg)
theorem aM8 (p:Addr)(g n:Nat)(B:Nat->Blk)(la:Option Addr)(ln lc:Nat)(ks:List Int)(w:World)(h:dF w p g n B)(hN:aI (fun b=>b≠g) .i64 w la ln ks)(hln:ln<=1000)(hR:fG n B ks):
 Calls Tryz.prog 117 #[.pointer (some p),.slice la ln lc] w fun e w'=>e=.returned (.tuple #[])/\Out g w w'/\∃ C,dF w' p g n C/\Right n C/\iU n B C ks:=by
 have hmf:∀ (fn:Fn) (first cap:Array Value) (w:World),(Instr.makeFunc fn first cap).run Tryz.prog w=.ok (.func fn first cap) w:=fun _ _ _ _=>rfl
 have hg0:g<w.heap.size:=h.own.lt
 have b0:=(aA w (.cells #[.pointer (some p)] 60)).alloc (by simp) (.cells #[.func (.func 147) #[] #[.pointer (some ⟨w.heap.size,0,none⟩),.pointer (some ⟨w.heap.size+1,0,none⟩)]] 183)
 have k0:aC _ w.heap.size #[.pointer (some p)] 60:=(aB w _ _).below (aA _ (.cells #[.func (.func 147) #[] #[.pointer (some ⟨w.heap.size,0,none⟩),.pointer (some ⟨w.heap.size+1,0,none⟩)]] 183))
 have k1:=aF w (.cells #[.pointer (some p)] 60) #[.func (.func 147) #[] #[.pointer (some ⟨w.heap.size,0,none⟩),.pointer (some ⟨w.heap.size+1,0,none⟩)]] 183
 have hn:=hR.small
 replace h:=h.below b0
 replace hN:=hN.below b0
 replace hR:=hid hR
 replace hN:=hid hN
 replace h:=hid h
 replace k0:=hid k0
 replace k1:=hid k1
 go_enter Tryz.func117,Tryz.ntmps117
 go_wp2_with fail
 generalize (w.alloc (.cells #[.pointer (some p)] 60)).alloc (.cells #[.func (.func 147) #[] #[.pointer (some ⟨w.heap.size,0,none⟩),.pointer (some ⟨w.heap.size+1,0,none⟩)]] 183)=w3 at *
 have e0:=k0.out.cell 0
 have e1:=k1.out.cell 0
 simp at e0 e1
 have hE:Env w3 p w.heap.size (w.heap.size+1) g n:=⟨e0,e1,h.out.cell,by omega,by omega,h.out.ne⟩
 have hT:fG n B (ks++[]):=by rw[List.append_nil]; exact hR.out
 refine(cC3 p w.heap.size (w.heap.size+1) g n hn 4 B la ln lc ks [] w3 hN.out hln hT (fun k hk=>?_) hE h.out.own).mono ?_
 ·rcases hR.out.pend _ hk with h0 | ⟨h1,h2⟩
  ·omega
  ·have:=(hR.out.one k (by omega)).bounds; omega
 rintro e w4 ⟨rfl,hk4,C,hO4,hR4,hF4⟩
 have h4:=h.out.kept hk4 hO4
 replace h4:=hid h4
 replace hR4:=hid hR4
 replace hF4:=hid hF4
 replace b0:=hid ((Out.of_below (g:=g) b0).trans (Out.of_kept hk4))
 clear hk4 hO4 hE e0 e1 hT
 go_wp2_with fail
 go_end0
 exact⟨rfl,b0.out,C,h4.out,hR4.out,hF4.out⟩
theorem aD (B:Nat)(w:World):Below B w w.drew:=⟨rfl,rfl,rfl,Nat.le_refl _,fun _ _=>rfl⟩
def Dropped (e:Ending)(w:World)(p:Addr)(g n:Nat)(B:Nat->Blk)(a:Int)(w':World):Prop:=
 (∃ e':Int,e=.returned (.int .i64 e')/\e'≠0/\¬(Right n B/\There n B a/\(B (a-1).toNat).refs≠(among n B a:Int)))\/
 (e=.returned (.int .i64 0)/\(Right n B/\There n B a/\(B (a-1).toNat).refs≠(among n B a:Int))/\∃ C,dF w' p g n C/\Right n C/\iU n B C [a])
theorem bD2 (p:Addr)(g n:Nat)(B:Nat->Blk)(a:Int)(w:World)(h:dF w p g n B):
 Calls Tryz.prog 198 #[.pointer (some p),.int .i64 a] w fun e w'=>Dropped e w p g n B a w'/\Out g w w':=by
 have hg0:g<w.heap.size:=h.own.lt
 go_enter Tryz.func198,Tryz.ntmps198
 go_wp2_with fail
 refine(qA p _ n n B a w h.ptr).mono ?_
 rintro e w1 ⟨⟨e', rfl,he⟩,hb⟩
 replace h:=h.below hb
 replace he:=hid he
 replace h:=hid h
 by_cases h0:e'=0
 ·have h0':(e' == 0)=true:=by simp[h0]
  obtain⟨hR,ht⟩:=he.out.1 h0
  obtain⟨i,rfl⟩:∃ i:Nat,a=(i:Int)+1:=⟨(a-1).toNat,by have:=ht.1; omega⟩
  have ei:((i:Int)+1-1).toNat=i:=by omega
  have hi:i<n:=by have:=ht.2.1; omega
  have hn:=hR.small
  have s1:=h.out.cell
  have hp:=h.out.lt
  obtain⟨ka,kn,kc,ba,bn,bc,hbk⟩:=h.out.own.cell hi
  have c0:=hbk.c0
  replace hR:=hid hR
  replace ht:=hid ht
  clear hbk
  generalize hrf:(B i).refs=rf at *
  replace hrf:=hid hrf
  go_wp2_with fail
  have hiI:(i:Int)<(n:Int):=by omega
  have hiI0:(0:Int)<=(i:Int):=by omega
  have hiI1:IntKind.i64.wrap (i:Int)=i:=by rw[IntKind.wrap_i64]; omega
  have hiI2:IntKind.i64.wrap ((i:Int)+1-1)=i:=by rw[IntKind.wrap_i64]; omega
  go_cut [24] from 12 (fun t wc=>t=.bool (rf == ((among n B ((i:Int)+1):Nat):Int))/\Below w1.heap.size w1 wc)
  case first=>
   go_region_with (first
    | (go_at_call 109; refine(yR p g n n i _ hn ?_ hi).mono ?_; exact s1; rintro e w' ⟨rfl,rfl⟩)
    | (go_at_call 80; refine(nH p (some ⟨g,0,none⟩) n n B _ hn ?_ ?_ ?_ ?_).mono ?_; exact hp; exact s1; exact h.out.own.store.below (aD _ _); exact hR.out.one; rintro e w2 ⟨rfl,hrow,hb2⟩; have q1:=(hb2.cell (p:=p) hp).trans s1; have q2:=(hb2.cell (p:=⟨g,i*4,none⟩) h.out.own.lt).trans c0; have hrc:w2.cell? ⟨w1.heap.size,i,none⟩=some (.int .i64 ((among n B ((i:Int)+1):Nat):Int)):=hrow.cell hi; replace hrow:=hid hrow; replace hb2:Hid (Below w1.heap.size w1 w2):=hid ((aD _ _).trans hb2)))
   all_goals (go_wp2_with fail; go_meet; exact⟨rfl,hb2.out⟩)
  case rest=>
   obtain⟨rfl,hb2⟩:=hcut
   replace h:=h.out.below hb2
   replace hb:=Below.tr hb hb2
   clear hb2 s1 c0 hp hiI hiI0 hiI1 hiI2
   generalize ham:((among n B ((i:Int)+1):Nat):Int)=am at *
   replace ham:=hid ham
   replace h:=hid h
   by_cases heq:rf=am
   ·have heq':(rf == am)=true:=by simp[heq]
    go_wp2_with fail
    go_ret
    exact⟨.inl ⟨7,rfl,by omega,fun f=>f.2.2 (by rw[ei,hrf.out,ham.out,heq])⟩,Out.of_below hb⟩
   ·have heq':(rf == am)=false:=by simp[heq]
    have hT:fG n B [(i:Int)+1]:=aA2 hR.out (by omega) (by omega) (by rw[ei,hrf.out,ham.out]; exact heq)
    replace hT:=hid hT
    go_wp2_with fail
    have b3:=aA wc (.cells #[.int .i64 ((i:Int)+1)] 3)
    have k3:=aB wc #[.int .i64 ((i:Int)+1)] 3
    have hgl:g≠wc.heap.size:=Nat.ne_of_lt h.out.own.lt
    have h3:=h.out.below b3
    replace hb:=Below.tr hb b3
    generalize wc.alloc (.cells #[.int .i64 ((i:Int)+1)] 3)=w3 at *
    have hN:aI (fun b=>b≠g) .i64 w3 (some ⟨wc.heap.size,0,none⟩) 1 [(i:Int)+1]:=by
     refine⟨rfl,fun x hx=>?_,fun _=>⟨_,_,rfl,k3.lt,fun e=>hgl e.symm,fun j hj=>?_⟩⟩
     ·rw[List.mem_singleton.1 hx]; exact WalkArith.wf_i64 (by omega)
     ·obtain rfl:j=0:=by omega
      rw[Nat.zero_add,k3.cell 0]
      rfl
    refine(aM8 p g n B (some ⟨wc.heap.size,0,none⟩) 1 1 [(i:Int)+1] w3 h3 hN (by omega) hT.out).mono ?_
    rintro e w4 ⟨rfl,hk4,C,h4,hR4,hF4⟩
    replace h4:=hid h4
    replace hR4:=hid hR4
    replace hF4:=hid hF4
    replace hb:=hid ((Out.of_below (g:=g) hb).trans hk4)
    clear hk4 h3 hN k3
    go_wp2_with fail
    go_ret
    exact⟨.inr ⟨rfl,⟨hR.out,ht.out,by rw[ei,hrf.out,ham.out]; exact heq⟩,C,h4.out,hR4.out,hF4.out⟩,hb.out⟩
 ·have h0':(e' == 0)=false:=by simp[h0]
  go_wp2_with fail
  go_ret
  exact⟨.inl ⟨e', rfl,h0,fun f=>h0 (he.out.2 ⟨f.1,f.2.1⟩)⟩,Out.of_below hb⟩
theorem Form.few2 {n:Nat}{B:Nat->Blk}{b:Blk}(h:Form n B b):b.bytes.length<=4:=by
 rcases h with⟨_,_,_,h⟩ | ⟨_,⟨_,_,h⟩ | ⟨_,_,h,_⟩⟩
 ·simp[h]
 ·omega
 ·simp[h]
theorem eY (w:World)(o q:Obj)(cs:Array Value)(t:TypeId):aC (((w.alloc o).alloc q).alloc (.cells cs t)) (w.heap.size+2) cs t:=by
 have:=aF (w.alloc o) q cs t
 simpa using this
def mM (n:Nat)(B:Nat->Blk)(a:Int):Prop:=Right n B/\There n B a/\(B (a-1).toNat).refs≠(among n B a:Int)
theorem bJ0 (r lv:Int)(ka:Option Addr)(kn kc:Nat)(ba:Option Addr)(bn bc:Nat)(w:World):
 Calls Tryz.prog 208 #[.agg #[.int .i64 r,.int .i64 lv,.slice ka kn kc,.slice ba bn bc]] w fun e w'=>e=.returned (.bool (r == 0))/\Below w.heap.size w w':=by
 go_enter Tryz.func208,Tryz.ntmps208
 go_wp2_with fail
 go_ret
 exact⟨rfl,aA _ _⟩
def cV2 (e:Ending)(n:Nat)(B:Nat->Blk):Prop:=
 (e=.returned (.int .i64 (-1))/\∀ k,k<n->(B k).refs≠0)\/(∃ i:Nat,i<n/\e=.returned (.int .i64 i)/\(B i).refs=0/\∀ k,k<i->(B k).refs≠0)
theorem aG4 (a:Option Addr)(n c:Nat)(B:Nat->Blk)(w:World)(hn:n<=400)(h:aN w a n B):
 Calls Tryz.prog 207 #[.slice a n c,.func (.func 208) #[] #[]] w fun e w'=>cV2 e n B/\Below w.heap.size w w':=by
 go_enter Tryz.func207,Tryz.ntmps207
 go_wp2_with fail
 go_loopw [8] (fun v wr=>∃ i:Nat,i<=n/\v=.int .i64 i/\(∀ k,k<i->(B k).refs≠0)/\Below w.heap.size w wr) (fun v _=>n-(Go.RowKit.intOf v).toNat)
 case atStart=>exact⟨0,Nat.zero_le _,rfl,fun k hk=>absurd hk (by omega),Below.refl _ _⟩
 case round=>
  obtain⟨i,hin,rfl,hno,hbel⟩:=hrel
  replace hno:=hid hno
  by_cases hlt:i<n
  ·obtain⟨b,off,rfl,hb,hB⟩:=(h.below hbel) (by omega)
   obtain⟨ka,kn,kc,ba,bn,bc,hblk⟩:=hB i hlt
   have c0:=hblk.c0
   have c1:=hblk.c1
   have c2:=hblk.c2
   have c3:=hblk.c3
   clear hB hblk
   generalize hrf:(B i).refs=rf at *
   replace hrf:=hid hrf
   generalize (B i).level=lv at *
   go_wp2_with fail
   refine(bJ0 rf lv ka kn kc ba bn bc wr).mono ?_
   rintro e w1 ⟨rfl,b1⟩
   replace hbel:=Below.tr hbel b1
   by_cases h0:rf=0
   ·have h0':(rf == 0)=true:=by simp[h0]
    go_wp2_with fail
    go_ret
    exact⟨.inr ⟨i,hlt,rfl,by rw[hrf.out]; exact h0,hno.out⟩,hbel⟩
   ·have h0':(rf == 0)=false:=by simp[h0]
    go_wp2_with fail
    go_roundw
    case rel=>
     refine⟨i+1,by omega,by go_num,fun k hk=>?_,hbel⟩
     rcases Nat.lt_or_ge k i with h' | h'
     ·exact hno.out k h'
     ·obtain rfl:k=i:=by omega
      rw[hrf.out]; exact h0
    case measure=>simp[Go.RowKit.intOf]; omega
  ·obtain rfl:i=n:=by omega
   go_wp2_with fail
   go_ret
   exact⟨.inl ⟨rfl,hno.out⟩,hbel⟩
def vX (n:Nat)(B:Nat->Blk)(K:Blk):Prop:=Right n B/\Form n B { K with refs:=1 }/\∃ i,i<n/\(B i).refs=0
def made (B:Nat->Blk)(K:Blk)(i:Nat):Nat->Blk:=fun k=>if k=i then { K with refs:=1 } else { B k with refs:=(B k).refs+(K.kids.count ((k:Int)+1):Int) }
def bump (B:Nat->Blk)(ks:List Int)(j:Nat):Nat->Blk:=fun k=>{ B k with refs:=(B k).refs+((ks.take j).count ((k:Int)+1):Int) }
theorem bW6 (B:Nat->Blk)(ks:List Int):bump B ks 0=B:=by
 funext k; unfold bump; simp
theorem bW7 (B:Nat->Blk)(ks:List Int)(j:Nat)(hj:j<ks.length)(h:ks.getD j 0=0):bump B ks (j+1)=bump B ks j:=by
 funext k; unfold bump
 rw[fJ hj,List.count_append,h,List.count_cons_of_ne (by omega)]
 simp
theorem bW8 (B:Nat->Blk)(ks:List Int)(j m:Nat)(hj:j<ks.length)(h:ks.getD j 0=(m:Int)+1):bump B ks (j+1)=upd (bump B ks j) m { bump B ks j m with refs:=(bump B ks j m).refs+1 }:=by
 funext k
 unfold upd
 by_cases e:k=m
 ·subst e
  rw[if_pos rfl]
  unfold bump
  rw[fJ hj,List.count_append,h]
  simp; omega
 ·rw[if_neg e]
  unfold bump
  rw[fJ hj,List.count_append,h,List.count_cons_of_ne (by omega)]
  simp
theorem cL7 {n:Nat}(B:Nat->Blk)(ks:List Int)(j:Nat)(h:∀ k,k<n->0<=(B k).refs/\(B k).refs<=1000000):∀ k,k<n->0<=(bump B ks j k).refs/\(bump B ks j k).refs<=1000000+(ks.length:Int):=by
 intro k hk
 have h1:=h k hk
 have h2:(ks.take j).count ((k:Int)+1)<=(ks.take j).length:=List.count_le_length
 simp at h2
 show 0<=(B k).refs+((ks.take j).count ((k:Int)+1):Int)/\(B k).refs+((ks.take j).count ((k:Int)+1):Int)<=_
 omega
theorem bW9 (B:Nat->Blk)(K:Blk)(i n:Nat)(hi:i<n)(h0:(B i).refs=0)(hF:Form n B { K with refs:=1 })(k:Nat):bump (upd B i { K with refs:=1 }) K.kids K.kids.length k=made B K i k:=by
 unfold bump made
 rw[List.take_length]
 by_cases e:k=i
 ·subst e
  rw[upd_same,if_pos rfl]
  have:K.kids.count ((k:Int)+1)=0:=by
   apply List.count_eq_zero.2
   intro hm
   rcases hF.kids _ hm with h | ⟨⟨_,_,h⟩,_⟩
   ·omega
   ·rw[show ((k:Int)+1-1).toNat=k by omega] at h; exact h h0
  rw[this]; simp
 ·rw[bI _ _ _ _ e,if_neg e]
theorem cJ8 {w4 w5:World}{p:Addr}{g n i:Nat}{B:Nat->Blk}(h:dF w4 p g n B)(b5:Below w4.heap.size w4 w5)(hi:i<n)(K:Blk){ka:Option Addr}{kn kc:Nat}{ba:Option Addr}{bn bc:Nat}
 (hK:aI (fun b=>w4.heap.size<=b) .i64 w5 ka kn K.kids) (hB:aI (fun b=>w4.heap.size<=b) .u8 w5 ba bn K.bytes) (hr:-9223372036854775808<=K.refs/\K.refs<=9223372036854775807) (hl:-9223372036854775808<=K.level/\K.level<=9223372036854775807) (hc:kn<=kc/\bn<=bc):
 dF (cA0 w5 g (i*4) (.int .i64 K.refs) (.int .i64 K.level) (.slice ka kn kc) (.slice ba bn bc)) p g n (upd B i K):=by
 have hlt:=h.own.lt
 have h5:=h.below b5
 exact h5.kept (jG _ _ _ _ _ _ _) (h5.own.put hi K ka kn kc ba bn bc (hK.weaken fun b _ h=>by omega) (hB.weaken fun b _ h=>by omega) hr hl hc)
theorem bP0 {w5:World}{g o q:Nat}{cs:Array Value}{t:TypeId}{v0 v1 v2 v3:Value}(k:aC w5 q cs t)(hq:q≠g):aC (cA0 w5 g o v0 v1 v2 v3) q cs t:=by
 unfold aC
 rw[(jG w5 g o v0 v1 v2 v3).block q hq]
 exact k
theorem cJ9 {w w4 w5:World}{g o:Nat}{v0 v1 v2 v3:Value}(b1:Below w.heap.size w w4)(b5:Below w4.heap.size w4 w5)(_:w.heap.size<w4.heap.size):Out g w (cA0 w5 g o v0 v1 v2 v3):=
 (Out.of_below (Below.tr b1 b5)).trans (Out.of_kept (jG w5 g o v0 v1 v2 v3))
def aY2 (n:Nat)(B:Nat->Blk)(K:Blk)(e':Int):Prop:=¬vX n B K/\(Right n B->Form n B { K with refs:=1 }->e'=8)
def Made (e:Ending)(p:Addr)(g n:Nat)(B:Nat->Blk)(K:Blk)(w:World):Prop:=
 (∃ e':Int,e=.returned (.tuple #[.int .i64 0,.int .i64 e'])/\e'≠0/\aY2 n B K e')\/
 (∃ i:Nat,i<n/\e=.returned (.tuple #[.int .i64 ((i:Int)+1),.int .i64 0])/\vX n B K/\(B i).refs=0/\(∀ k,k<i->(B k).refs≠0)/\dF w p g n (made B K i))
theorem Out.setNew {g:Nat}{w w':World}(h:Out g w w'){a:Addr}(ha:w.heap.size<=a.block){v:Value}:Out g w (w'.setCell a v):=
 ⟨h.os,h.tape,h.output,by simpa using h.size,fun k hk hg=>by rw[Below.heap_setCell _ _ _ _ (by omega)]; exact h.block k hk hg⟩
theorem bG {fn:Func}{p u v:Tmp}{ty:TypeId}(h:fn.results=#[.cell p ty,.tmp u,.tmp v])(tmps:Array Value)(P:Program)(w:World):
 (results fn tmps).run P w=
   ((asAddr (tmps.getD p undef)).run P w).andThen fun a w₁=>((loadVar ty a).run P w₁).andThen fun x w₂=>.ok (.tuple #[x,tmps.getD u undef,tmps.getD v undef]) w₂:=by
 simp only[results,h]
 simp[Sem.run_bind,Result.andThen]
theorem qB (w:World)(o q r:Obj)(cs:Array Value)(t:TypeId):aC ((((w.alloc o).alloc q).alloc r).alloc (.cells cs t)) (w.heap.size+3) cs t:=by
 have:=eY (w.alloc o) q r cs t
 simpa [Nat.add_assoc,Nat.add_comm,Nat.add_left_comm] using this
end Go.Proofs.YtjafgnohlkkopaaGreatDoor
namespace Go.Proofs.YtjafgnohlkkopaaGreatDoor
theorem rT {n:Nat}{B:Nat->Blk}{K:Blk}{i:Nat}(hF:Form n B { K with refs:=1 })(h0:(B i).refs=0):K.kids.count ((i:Int)+1)=0:=by
 apply List.count_eq_zero.2
 intro hm
 rcases hF.kids _ hm with h | ⟨⟨_,_,h⟩,_⟩
 ·omega
 ·rw[show ((i:Int)+1-1).toNat=i by omega] at h; exact h h0
theorem bJ (B:Nat->Blk)(K:Blk)(i:Nat):made B K i i={ K with refs:=1 }:=by simp[made]
theorem dA (B:Nat->Blk)(K:Blk){i k:Nat}(h:k≠i):made B K i k={ B k with refs:=(B k).refs+(K.kids.count ((k:Int)+1):Int) }:=by simp[made,h]
theorem bL0 {n:Nat}{B:Nat->Blk}{K:Blk}{i:Nat}(hi:i<n)(hz:Form n B (B i))(h0:(B i).refs=0)(x:Int):among n (made B K i) x=among n B x+K.kids.count x:=by
 have h1:among n (made B K i) x=among n (upd B i { K with refs:=1 }) x:=gY x fun k hk=>by
  by_cases e:k=i
  ·subst e; rw[bJ,upd_same]
  ·rw[dA _ _ e,bI _ _ _ _ e]
 have h2:=yT (n:=n) (B:=B) (i:=i) { K with refs:=1 } x hi
 rw[hz.zero h0] at h2
 have h3:Blk.zero.kids.count x=0:=by simp[Blk.zero]
 rw[h3] at h2
 rw[h1]
 simpa using h2
theorem xG {n:Nat}{B:Nat->Blk}{K:Blk}{i:Nat}(hR:Right n B)(hF:Form n B { K with refs:=1 })(hi:i<n)(h0:(B i).refs=0)(k:Nat)(hk:k<n):outs n (made B K i) k=if k=i then 1 else outs n B k:=by
 have hm:=bL0 (K:=K) hi (hR.one i hi) h0 ((k:Int)+1)
 unfold outs
 by_cases e:k=i
 ·subst e
  have h1:=hR.held k hk
  have h2:=rT hF h0
  simp at h1
  rw[bJ,if_pos rfl,hm,h2]
  show (1:Int)-_=1
  omega
 ·rw[dA _ _ e,if_neg e,hm]
  show (B k).refs+_-_=_
  omega
theorem aA1 {n:Nat}{B:Nat->Blk}{K:Blk}{i:Nat}(hR:Right n B)(hF:Form n B { K with refs:=1 })(hi:i<n)(h0:(B i).refs=0)(hm:∀ k,k<n->(made B K i k).refs<=1000000):Right n (made B K i):=by
 have hth:∀ x,There n B x->There n (made B K i) x/\(made B K i (x-1).toNat).level=(B (x-1).toNat).level:=by
  intro x ⟨x1,x2,x3⟩
  have hne:(x-1).toNat≠i:=fun e=>x3 (by rw[e]; exact h0)
  have hb:=(hR.one _ (ix x1 x2).1).bounds
  refine⟨⟨x1,x2,?_⟩,by rw[dA _ _ hne]⟩
  rw[dA _ _ hne]
  show (B (x-1).toNat).refs+_≠0
  omega
 refine⟨hR.small,fun k hk=>?_,fun k hk=>?_,by simp⟩
 ·by_cases e:k=i
  ·subst e
   rw[bJ]
   exact hF.turn rfl rfl rfl (.inl rfl) fun x _=>hth x
  ·have hb:=(hR.one k hk).bounds
   have hmk:=hm k hk
   refine(hR.one k hk).turn (by rw[dA _ _ e]) (by rw[dA _ _ e]) (by rw[dA _ _ e]) ?_ fun x _=>hth x
   rw[dA _ _ e] at hmk ⊢
   by_cases e0:(B k).refs=0
   ·have:=rT hF e0
    left
    show (B k).refs+_=_
    omega
   ·right
    refine⟨e0,?_,hmk⟩
    show 1<=(B k).refs+_
    omega
 ·have h1:=xG hR hF hi h0 k hk
  have h2:=hR.held k hk
  simp at h2 ⊢
  unfold outs at h1
  split at h1<;>omega
theorem bG3 (n:Nat)(hn:n<=400):Right n (fun _=>Blk.zero):=by
 refine⟨hn,fun i _=>aO3 _ _,fun i hi=>?_,by simp⟩
 have:among n (fun _=>Blk.zero) ((i:Int)+1)=0:=by
  have:=vW (n:=n) (B:=fun _=>Blk.zero) ((i:Int)+1)
  unfold among
  rw[sumTo_congr (g:=fun _=>0) (fun k _=>by simp[Blk.zero])]
  clear this hi hn
  induction n with
  | zero=>rfl
  | succ n ih=>simp[sumTo,ih]
 rw[this]
 simp[Blk.zero]
theorem bP8 (n k:Nat):outs n (fun _=>Blk.zero) k=0:=by
 unfold outs among
 rw[sumTo_congr (g:=fun _=>0) (fun k _=>by simp[Blk.zero])]
 have:sumTo (fun _=>0) n=0:=by
  induction n with
  | zero=>rfl
  | succ n ih=>simp[sumTo,ih]
 rw[this]
 simp[Blk.zero]
def cT7:Blk:=⟨0,0,[],[1,2,3,4]⟩
def cT6:Blk:=⟨0,1,[0,1,0,1],[]⟩
def B1:Nat->Blk:=made (fun _=>Blk.zero) cT7 0
def B2:Nat->Blk:=made B1 cT6 1
theorem iU.outs {n:Nat}{B C:Nat->Blk}{T:List Int}(h:iU n B C T)(k:Nat)(hk:k<n):outs n C k=outs n B k-(T.count ((k:Int)+1):Int):=h.out k hk
theorem aP1 {n:Nat}{B:Nat->Blk}(hR:Right n B){i:Nat}(hi:i<n)(ho:0<outs n B i):mM n B ((i:Int)+1):=by
 have e:((i:Int)+1-1).toNat=i:=by omega
 unfold mM There
 rw[e]
 unfold outs at ho
 exact⟨hR,⟨by omega,by omega,by omega⟩,by omega⟩
end Go.Proofs.YtjafgnohlkkopaaGreatDoor
namespace Go.Proofs.YtjafgnohlkkopaaGreatDoor
open Go.RowKit
theorem Row.nums {w:World}{base g n:Nat}{f:Nat->Int}(r:Row w base g n f)(hf:∀ k,k<n->-9223372036854775808<=f k/\f k<=9223372036854775807):aI (fun b=>base<=b) .i64 w (some ⟨g,0,none⟩) n ((List.range n).map f):=by
 refine⟨by simp,?_,fun hn=>⟨g,0,rfl,r.lt.2,r.lt.1,fun i hi=>?_⟩⟩
 ·intro x hx
  simp only[List.mem_map,List.mem_range] at hx
  obtain⟨k,hk,rfl⟩:=hx
  exact WalkArith.wf_i64 (hf k hk)
 ·rw[Nat.zero_add,r.cell hi]
  simp[List.getD,hi]
def aI1 (n:Nat)(B:Nat->Blk)(a:Int):Prop:=Right n B/\There n B a
def lN (B:Nat->Blk)(a:Int):Nat->Blk:=upd B (a-1).toNat { B (a-1).toNat with refs:=(B (a-1).toNat).refs+1 }
def cS6 (e:Ending)(w:World)(p:Addr)(g n:Nat)(B:Nat->Blk)(a:Int)(w':World):Prop:=
 (∃ e':Int,e=.returned (.int .i64 e')/\e'≠0/\¬aI1 n B a)\/(e=.returned (.int .i64 0)/\aI1 n B a/\∃ C,dF w' p g n C/\C=lN B a)
theorem cC4 (p:Addr)(g n:Nat)(B:Nat->Blk)(a:Int)(w:World)(h:dF w p g n B):
 Calls Tryz.prog 185 #[.pointer (some p),.int .i64 a] w fun e w'=>cS6 e w p g n B a w'/\Out g w w':=by
 go_enter Tryz.func185,Tryz.ntmps185
 go_wp2_with fail
 refine(qA p _ n n B a w h.ptr).mono ?_
 rintro e w1 ⟨⟨e', rfl,he⟩,b1⟩
 replace h:=h.below b1
 replace he:=hid he
 by_cases h0:e'=0
 ·have h0':(e' == 0)=true:=by simp[h0]
  obtain⟨hR,ht⟩:=he.out.1 h0
  obtain⟨i,rfl⟩:∃ i:Nat,a=(i:Int)+1:=⟨(a-1).toNat,by have:=ht.1; omega⟩
  have ei:((i:Int)+1-1).toNat=i:=by omega
  have hi:i<n:=by have:=ht.2.1; omega
  have hn:=hR.small
  have hbd:=(hR.one i hi).bounds
  obtain⟨ka,kn,kc,ba,bn,bc,hbk⟩:=h.own.cell hi
  have c0:=hbk.c0
  have f0:=h.own.free (i*4) (by omega)
  have s1:=h.cell
  have J:Hid (∀ w', w'=w1.setCell ⟨g,i*4,none⟩ (.int .i64 ((B i).refs+1))->dF w' p g n (lN B ((i:Int)+1))/\Out g w w'):=hid (by
   intro w' hw
   subst hw
   have kk:=Kept.setCell (g:=g) (Kept.refl _ w1) (p:=⟨g,i*4,none⟩) rfl (.int .i64 ((B i).refs+1))
   refine⟨h.kept kk ?_,(Out.of_below b1).trans (Out.of_kept kk)⟩
   unfold lN
   rw[ei]
   exact h.own.refs hi _ (by omega))
  replace hR:=hid hR
  replace ht:=hid ht
  clear hbk h
  generalize (B i).refs=rf at *
  go_wp2_with fail
  refine(yR p g n n i _ hn s1 hi).mono ?_
  rintro e w2 ⟨rfl,rfl⟩
  go_wp2_with fail
  go_ret
  exact⟨.inr ⟨rfl,⟨hR.out,ht.out⟩,_,(J.out _ rfl).1,rfl⟩,(J.out _ rfl).2⟩
 ·have h0':(e' == 0)=false:=by simp[h0]
  replace h:=hid h
  go_wp2_with fail
  go_ret
  exact⟨.inl ⟨e', rfl,h0,fun f=>h0 (he.out.2 f)⟩,Out.of_below b1⟩
theorem iK {Q:Nat->Prop}(w:World){a:Option Addr}{n:Nat}{l:List Int}(c:Nat)(h:aI Q .u8 w a n l):
 (convert 28 9 (.slice a n c)).run Tryz.prog w=.ok (.string (strOfNums l)) w:=by
 rcases Nat.eq_zero_or_pos n with hn | hn
 ·subst hn
  obtain rfl:l=[]:=List.eq_nil_of_length_eq_zero h.1
  rw[run_convert_bytes_string w 28 9 5 _ 0 c Tryz.underlying28 Tryz.underlying5 Tryz.underlying9]
  cases a<;>simp[Conv.bytesToString,loadCells]
  all_goals rfl
 ·obtain⟨b,off,rfl,_,_,hc⟩:=h.2.2 hn
  exact run_convert_bytes_arg w 28 5 Tryz.underlying28 Tryz.underlying5 b off n c l h.1 hc 9 Tryz.underlying9
theorem kN (a1 a2:Option Addr)(n c m d:Nat)(Q1 Q2:Nat->Prop)(l:List Int)(w:World)(h1:aI Q1 .u8 w a1 n l)(h2:aI Q2 .u8 w a2 m l):
 Calls Tryz.prog 22 #[.slice a1 n c,.slice a2 m d] w fun e w'=>e=.returned (.bool true)/\w'=w:=by
 have g1:=iK w c h1
 have g2:=iK w d h2
 clear h1 h2
 go_enter Tryz.func22,Tryz.ntmps22
 go_wp2
 go_ret
 exact⟨by simp,rfl⟩
end Go.Proofs.YtjafgnohlkkopaaGreatDoor
