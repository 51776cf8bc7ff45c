/-
  SlT, PoolM, SlN in one text. Nothing here is trusted.
-/
import Derived.Test.YtjafgnohlkkopaaGreatDoorPart15
import Derived.Lib.SliceRun
import Derived.Laws.Externs
import Derived.Maps.AppendAt
import Derived.Test.YtjafgnohlkkopaaGreatDoorPart13
import Derived.Test.YtjafgnohlkkopaaGreatDoorPart17
set_option linter.unusedVariables false
namespace Go.Proofs.YtjafgnohlkkopaaGreatDoor
open Go.RowKit
theorem Tryz.infoT:(Tryz.prog.info? 84).map (fun i=>(i.zero,i.size,i.bytes))=some (some (.agg #[.string ⟨#[]⟩,.slice none 0 0,.slice none 0 0]),3,64):=by kernel_rfl
set_option maxHeartbeats 400000 in
theorem cloneT_any (a:Option Addr) (n c:Nat) (cs:List Value) (w:World) (hn:n≤1000) (hl:cs.length=n*3) (h1:∀ v∈cs,v.oneCell'=true)
 (hc:0<n→∃ b off,a=some ⟨b,off,none⟩∧b<w.heap.size∧∀ j u,cs[j]? =some u→w.cell? ⟨b,off+j,none⟩=some u):
 Calls Tryz.prog 32 #[.slice a n c] w fun e w'=>
  Below w.heap.size w w'∧∃ a' c', e=.returned (.slice a' n c')∧n≤c'∧w'.ownsRow w.heap.size 84 3 (.slice a' n c') n cs:=by
 obtain⟨i0,hi,hz0,hz1,hz2⟩:=info_parts Tryz.infoT
 have qn:∀ (w:World) (a:Option Addr) (n c n' c':Nat),(binOp .eql 62 (.slice a n c) (.slice none n' c')).run Tryz.prog w=.ok (.bool a.isNone) w:=fun w a n c n' c'=>Lib.run_eql_slice_nil w _ _ a n c n' c' Tryz.underlying62
 cases a with
 | none=>
   have hn0:n=0:=by
    rcases Nat.eq_zero_or_pos n with h0 | h0
    ·exact h0
    ·obtain⟨_,_,h1,_⟩:=hc h0
     cases h1
   subst hn0
   replace hl:=hid hl
   replace hc:=hid hc
   replace h1:=hid h1
   go_enter Tryz.func32,Tryz.ntmps32
   go_wp2_with fail
   go_ret
   have e0:cs=[]:=List.eq_nil_of_length_eq_zero (by have:=hl.out; omega)
   exact⟨Below.refl _ _,_,_,rfl,Nat.le_refl _,by rw[e0]; exact World.ownsRow_nil _ _ _ _⟩
 | some x=>
   have hcn:∀ j u,cs[j]? =some u→(w.alloc (.cells #[] 84)).cell? (x.add j)=some u:=by
    intro j u hj
    have hjl:j<cs.length:=by
     rcases Nat.lt_or_ge j cs.length with h | h
     ·exact h
     ·simp[List.getElem?_eq_none h] at hj
    obtain⟨b,off,he,hb,hcc⟩:=hc (by omega)
    obtain rfl:x=⟨b,off,none⟩:=by simpa using he
    have ea:(⟨b,off,none⟩:Addr).add j=⟨b,off+j,none⟩:=by unfold Addr.add; split<;>simp_all
    rw[ea,World.cell?_alloc_past _ _ _ hb]
    exact hcc j u hj
   have A:=hid hcn
   have H1:=hid h1
   have Hl:=hid hl
   clear hcn hc h1 hl
   go_enter Tryz.func32,Tryz.ntmps32
   go_wp2_with (at_builtin; refine wpList_append_own _ rfl _ _ 62 rfl w.heap.size 84 i0 _ 3 64 Tryz.underlying62 hi hz0 hz1 hz2 rfl (by decide) _ _ _ rfl (World.ownsRow_made w #[] 0 (Nat.le_refl _) (Nat.zero_le _) (by simp)) x n c cs rfl ?qc1 ?qc2 ?qc3 ?qc4 ?qc5 ?qc6 ?_)
   case qc1=>exact Hl.out
   case qc2=>exact A.out
   case qc3=>exact H1.out
   case qc4=>unfold maxLen; omega
   case qc5=>omega
   case qc6=>simp
   intro v' w1 hown hgrow hnil
   have hown':w1.ownsRow w.heap.size 84 3 v' n cs:=by simpa using hown
   have hbel:=((Below.refl _ w).alloc (Nat.le_refl _) _).grown hgrow (by simp) (by intro k hk; simp[Value.ownBlock] at hk; omega)
   clear hown hgrow A hnil
   obtain⟨a', c', rfl,hnc⟩:∃ a' c', v'=.slice a' n c'∧n≤c':=by
    rcases hown'.2 with⟨hv,h0⟩ | ⟨g,cap,cur,hv,_,_,hnc,_⟩
    ·exact⟨none,0,by rw[hv,h0],by omega⟩
    ·exact⟨_,_,hv,hnc⟩
   replace hown':=hid hown'
   go_wp2_with fail
   go_ret
   exact⟨hbel,a', c', rfl,hnc,hown'.out⟩
set_option maxHeartbeats 4000000 in
set_option maxRecDepth 100000 in
theorem deleteT_any (g n cap i j:Nat) (cur:Array Value) (w:World) (hij:i<j) (hj:j≤n) (hnc:n≤cap) (hcm:cap≤maxLen) (hsz:cur.size=cap*3) (hg:CellsAt w g cur 84) (hone:∀ v∈cur.toList.take (n*3),v.oneCell'=true):
 Calls Tryz.prog 71 #[.slice (some ⟨g,0,none⟩) n cap,.int .i64 i,.int .i64 j] w fun e w'=>
  e=.returned (.slice (some ⟨g,0,none⟩) (i+(n-j)) cap)∧Kept g w w'∧∃ cur':Array Value,CellsAt w' g cur' 84∧cur'.size=cap*3∧cur'.toList.take ((i+(n-j))*3)=cur.toList.take (i*3)++(cur.toList.take (n*3)).drop (j*3):=by
 obtain⟨i0,hi0,hz0,hz1,hz2⟩:=info_parts Tryz.infoT
 obtain⟨news,hnews⟩:∃ news,news=(cur.toList.take (n*3)).drop (j*3):=⟨_,rfl⟩
 have hlen:news.length=(n-j)*3:=by
  rw[hnews,List.length_drop,List.length_take,Array.length_toList,hsz,Nat.sub_mul]
  omega
 have hcg:∀ t u,news[t]? =some u→w.drew.cell? ⟨g,j*3+t,none⟩=some u:=by
  intro t u hu
  have ht:t<news.length:=(List.getElem?_eq_some_iff.1 hu).1
  show w.cell? ⟨g,j*3+t,none⟩=some u
  rw[hg.cell,←hu,hnews,List.getElem?_drop,List.getElem?_take,if_pos (by omega),Array.getElem?_toList]
 obtain⟨A,hA,hsrc⟩:∃ A:Addr,(if cap=j then some (⟨g,0,none⟩:Addr) else some ⟨g,j*3,none⟩)=some A∧Hid (∀ t u,news[t]? =some u→w.drew.cell? (A.add t)=some u):=by
  by_cases h:cap=j
  ·refine⟨⟨g,0,none⟩,by simp[h],fun t u hu=>?_⟩
   have h0:news.length=0:=by rw[hlen]; omega
   rw[List.length_eq_zero_iff.1 h0] at hu
   simp at hu
  ·refine⟨⟨g,j*3,none⟩,by simp[h],fun t u hu=>?_⟩
   rw[Addr.add_lit]
   exact hcg t u hu
 have s1:Hid (news.length=(n-j)*3):=hlen
 have s2:Hid (∀ u∈news,u.oneCell'=true):=by
  intro u hu
  rw[hnews] at hu
  exact hone u (List.mem_of_mem_drop hu)
 have s3:Hid (∀ t,t<news.length→(w.drew.cell? ⟨g,0+i*3+t,none⟩).isSome=true∧w.drew.frozen? ⟨g,0+i*3+t,none⟩=false):=by
  intro t ht
  rw[hlen] at ht
  refine⟨?_,hg.frozen _⟩
  show (w.cell? _).isSome=true
  rw[hg.cell,Array.getElem?_eq_getElem (by rw[hsz]; omega)]
  rfl
 have hfit:i*3+news.length≤cur.size:=by rw[hlen,hsz]; omega
 obtain⟨W1,hW1⟩:∃ W1,W1=w.drew.setCells g (0+i*3) news:=⟨_,rfl⟩
 have hk1:Kept g w W1:=by
  rw[hW1]
  exact(show Kept g w w.drew from⟨rfl,rfl,rfl,rfl,fun _ _=>rfl⟩).trans (setCells_kept g news _ _)
 have hc1:CellsAt W1 g (layAt cur (i*3) news) 84:=by
  rw[hW1,Nat.zero_add]
  exact setCells_cells news (i*3) w.drew cur hg hfit
 have hs1:(layAt cur (i*3) news).size=cap*3:=by rw[layAt_size hfit,hsz]
 have ht1:(layAt cur (i*3) news).toList.take ((i+(n-j))*3)=cur.toList.take (i*3)++news:=by
  rw[←layAt_take2 hfit,hlen,Nat.add_mul]
 generalize layAt cur (i*3) news=cur1 at *
 obtain⟨vs,hvl,hclr⟩:=run_clear_rowk (P:=Tryz.prog) W1 62 84 84 (.agg #[.string ⟨#[]⟩,.slice none 0 0,.slice none 0 0]) 3 g ((i+(n-j))*3) (n-(i+(n-j))) (cap-(i+(n-j))) cur1 Tryz.underlying62 (fun w=>by simp[Go.zeroValue,typeInfo,hi0,hz0]) rfl (by simp[Value.cells]; decide) (by omega) hc1 (by rw[hs1]; omega)
 have hfin:Hid (Kept g w (W1.setRow g (layAt cur1 ((i+(n-j))*3) vs))∧∃ cur':Array Value,CellsAt (W1.setRow g (layAt cur1 ((i+(n-j))*3) vs)) g cur' 84∧cur'.size=cap*3∧cur'.toList.take ((i+(n-j))*3)=cur.toList.take (i*3)++(cur.toList.take (n*3)).drop (j*3)):=by
  have hf:(i+(n-j))*3+vs.length≤cur1.size:=by rw[hvl,hs1]; omega
  exact⟨hk1.trans (setRow_kept _ _ _),_,setRow_cells hc1,by rw[layAt_size hf,hs1],by rw[layAt_take hf (Nat.le_refl _),ht1,hnews]⟩
 have hW:Hid (W1=w.drew.setCells g (0+i*3) news):=hW1
 have hic:i≤cap:=by omega
 have hjc:j≤cap:=by omega
 have hin:i≤n:=by omega
 have hcm':cap≤9223372036854775807:=by unfold maxLen at hcm; omega
 clear hW1 hk1 hc1 hs1 ht1 hcg hfit hvl hlen hnews hsz hg hone hcm
 go_enter Tryz.func71,Tryz.ntmps71
 go_wp2_with fail
 go_region_law (refine step_append_room rfl (.tmp 22) (.tmp 25) 62 rfl 84 i0 3 Tryz.underlying62 hi0 hz1 g 0 i cap (by simp[Act.eval,Act.put]) A (n-j) (cap-j) news (by simp[Act.eval,Act.put]) s1.out hsrc.out s2.out (by omega) s3.out ?_; rw[←hW.out])
 go_wp2
 go_ret
 exact⟨rfl,hfin.out⟩
set_option maxHeartbeats 1000000 in
set_option maxRecDepth 100000 in
theorem insertT_end (sa:Option Addr) (n c vb m vc base:Nat) (cs vs:List Value) (w:World) (hm:0<m) (hn:n+m≤1000) (hs:w.ownsRow base 84 3 (.slice sa n c) n cs) (hb:base≤w.heap.size) (hvl:vs.length=m*3)
 (hvs:∀ j u,vs[j]? =some u→w.cell? ⟨vb,j,none⟩=some u) (h1:∀ v∈vs,v.oneCell'=true) (hcn:n≤c) (hc63:c≤maxLen):
 Calls Tryz.prog 65 #[.slice sa n c,.int .i64 n,.slice (some ⟨vb,0,none⟩) m vc] w fun e w'=>
  ∃ a' c', e=.returned (.slice a' (n+m) c')∧w'.ownsRow base 84 3 (.slice a' (n+m) c') (n+m) (cs++vs)∧w.grownBy w' (Value.slice sa n c).ownBlock∧((Value.slice a' (n+m) c').ownBlock=(Value.slice sa n c).ownBlock∨(Value.slice a' (n+m) c').ownBlock=some w.heap.size):=by
 obtain⟨i0,hi0,hz0,hz1,hz2⟩:=info_parts Tryz.infoT
 have hz:¬((m:Int)=0):=by omega
 have A:Hid (∀ j u,vs[j]? =some u→w.cell? ((⟨vb,0,none⟩:Addr).add j)=some u):=hid (fun j u hj=>by rw[Addr.add_lit,Nat.zero_add]; exact hvs j u hj)
 have H1:=hid h1
 have Hl:=hid hvl
 have Hs:=hid hs
 have hcm':c≤9223372036854775807:=by unfold maxLen at hc63; omega
 clear hvs h1 hvl hs hc63
 by_cases hcc:c=n
 ·subst hcc
  go_enter Tryz.func65,Tryz.ntmps65
  go_wp2_with (at_builtin; refine wpList_append_own_at _ rfl _ _ 62 rfl base 84 i0 _ 3 64 Tryz.underlying62 hi0 hz0 hz1 hz2 rfl (by decide) _ _ _ rfl Hs.out ⟨vb,0,none⟩ m vc vs rfl Hl.out A.out H1.out (by unfold maxLen; omega) (by omega) hb ?_)
  intro v' w1 hown hgrow hnil hat
  clear A hnil
  obtain⟨a', c', rfl⟩:∃ a' c', v'=.slice a' (c+m) c':=by
   rcases hown.2 with⟨hv,h0⟩ | ⟨g,cap,cur,hv,_⟩
   ·omega
   ·exact⟨_,_,hv⟩
  replace hown:=hid hown
  replace hgrow:=hid hgrow
  replace hat:=hid hat
  go_wp2_with fail
  go_ret
  exact⟨a', c', rfl,hown.out,hgrow.out,hat.out⟩
 ·go_enter Tryz.func65,Tryz.ntmps65
  go_wp2_with (at_builtin; refine wpList_append_own_at _ rfl _ _ 62 rfl base 84 i0 _ 3 64 Tryz.underlying62 hi0 hz0 hz1 hz2 rfl (by decide) _ _ _ rfl Hs.out ⟨vb,0,none⟩ m vc vs rfl Hl.out A.out H1.out (by unfold maxLen; omega) (by omega) hb ?_)
  intro v' w1 hown hgrow hnil hat
  clear A hnil
  obtain⟨a', c', rfl⟩:∃ a' c', v'=.slice a' (n+m) c':=by
   rcases hown.2 with⟨hv,h0⟩ | ⟨g,cap,cur,hv,_⟩
   ·omega
   ·exact⟨_,_,hv⟩
  replace hown:=hid hown
  replace hgrow:=hid hgrow
  replace hat:=hid hat
  go_wp2_with fail
  go_ret
  exact⟨a', c', rfl,hown.out,hgrow.out,hat.out⟩
theorem CellsAt.shapeT {w:World} {g:Nat} {cs:Array Value} {t:TypeId} (h:CellsAt w g cs t):w.shape? g=some (t,cs.size):=by
 unfold CellsAt at h
 simp[World.shape?,h]
set_option maxHeartbeats 4000000 in
set_option maxRecDepth 100000 in
theorem insertT_shift (g n cap i vb m vc:Nat) (cur:Array Value) (vs:List Value) (vt:TypeId) (vcur:Array Value) (w:World) (hi:i<n) (hm:0<m) (hroom:n+m≤cap) (hcm:cap≤maxLen) (hvb:vb≠g) (hsz:cur.size=cap*3) (hg:CellsAt w g cur 84)
 (hv:CellsAt w vb vcur vt) (hvl:vs.length=m*3) (hvs:∀ j u,vs[j]? =some u→w.cell? ⟨vb,j,none⟩=some u) (h1c:∀ v∈cur.toList.take (n*3),v.oneCell'=true) (h1v:∀ v∈vs,v.oneCell'=true):
 Calls Tryz.prog 65 #[.slice (some ⟨g,0,none⟩) n cap,.int .i64 i,.slice (some ⟨vb,0,none⟩) m vc] w fun e w'=>
  e=.returned (.slice (some ⟨g,0,none⟩) (n+m) cap)∧Kept g w w'∧∃ cur':Array Value,CellsAt w' g cur' 84∧cur'.size=cap*3∧cur'.toList.take ((n+m)*3)=cur.toList.take (i*3)++(vs++(cur.toList.take (n*3)).drop (i*3)):=by
 obtain⟨i0,hi0,hz0,hz1,hz2⟩:=info_parts Tryz.infoT
 have hzi:¬((m:Int)=0):=by omega
 have hz2':¬((i:Int)=(n:Int)):=by omega
 have hsize:(Tryz.prog.info? 84).map (·.size)=some 3:=by rw[hi0]; simp[hz1]
 have hzs:∀ w,(Go.sizeOf 84).run Tryz.prog w=.ok 3 w:=fun w=>by simp[Go.sizeOf,typeInfo,hi0,hz1]
 have hov:∀ lb cb,(callFunc 89 #[.slice (some ⟨vb,0,none⟩) m vc,.slice (some ⟨g,(i+m)*3,none⟩) lb cb]).run Tryz.prog w=.ok (.value (.bool false)) w:=fun lb cb=>by
  rw[run_callFunc_extern Tryz.func89 (by kernel_rfl) (by kernel_rfl) (by kernel_rfl) (e:=Extern.SlicesOverlaps.overlaps #[62,62] #[4]) (by kernel_rfl),
   Lib.run_overlaps_apart w 62 4 84 Tryz.underlying62 3 hzs ⟨vb,0,none⟩ ⟨g,(i+m)*3,none⟩ m vc lb cb hvb vt 84 vcur.size cur.size hv.shapeT hg.shapeT (by omega) (hv.frozen _) (hv.frozen _)]
  rfl
 obtain⟨tail,htail⟩:∃ tail,tail=(cur.toList.take (n*3)).drop (i*3):=⟨_,rfl⟩
 have htl:tail.length=(n-i)*3:=by
  rw[htail,List.length_drop,List.length_take,Array.length_toList,hsz,Nat.sub_mul]
  omega
 have hgd:CellsAt w.drew g cur 84:=hg
 have hcp1:∀ ty dc sc,(Builtin.copy_ #[62,62] ty #[.slice (some ⟨g,(i+m)*3,none⟩) (n+m-(i+m)) dc,.slice (some ⟨g,i*3,none⟩) (n+m-i) sc]).run Tryz.prog w.drew=.ok (goInt ((n-i:Nat):Int)) (w.drew.setRow g (layAt cur ((i+m)*3) tail)):=fun ty dc sc=>by
  have hmin:Nat.min (n+m-i) (n+m-(i+m))=n-i:=by simp only[Nat.min_def]; split<;>omega
  have:=run_copy_rowk (P:=Tryz.prog) w.drew 62 62 ty 84 3 g ((i+m)*3) (n+m-(i+m)) dc ⟨g,i*3,none⟩ (n+m-i) sc cur 84 tail Tryz.underlying62 hsize hgd (by rw[hmin]; exact htl)
   (fun j v hj=>by
     have hjl:j<tail.length:=(List.getElem?_eq_some_iff.1 hj).1
     rw[Addr.add_lit,hgd.cell,←hj,htail,List.getElem?_drop,List.getElem?_take,if_pos (by omega),Array.getElem?_toList])
   (by rw[htl,hsz]; omega) (fun v hv=>h1c v (List.mem_of_mem_drop (htail▸hv)))
  rw[hmin] at this
  exact this
 have hf1:(i+m)*3+tail.length≤cur.size:=by rw[htl,hsz]; omega
 have hc1:CellsAt (w.drew.setRow g (layAt cur ((i+m)*3) tail)) g (layAt cur ((i+m)*3) tail) 84:=setRow_cells hgd
 have hk1:Kept g w (w.drew.setRow g (layAt cur ((i+m)*3) tail)):=(show Kept g w w.drew from⟨rfl,rfl,rfl,rfl,fun _ _=>rfl⟩).trans (setRow_kept _ _ _)
 have hs1:(layAt cur ((i+m)*3) tail).size=cap*3:=by rw[layAt_size hf1,hsz]
 have ht1:(layAt cur ((i+m)*3) tail).toList.take ((n+m)*3)=cur.toList.take ((i+m)*3)++tail:=by
  have:=layAt_take2 hf1
  rw[htl,←Nat.add_mul,show i+m+(n-i)=n+m by omega] at this
  exact this
 obtain⟨cur1,hcur1⟩:∃ cur1,cur1=layAt cur ((i+m)*3) tail:=⟨_,rfl⟩
 rw[←hcur1] at hcp1 hc1 hk1 hs1 ht1
 clear hcur1
 obtain⟨W1,hW1⟩:∃ W1,W1=w.drew.setRow g cur1:=⟨_,rfl⟩
 rw[←hW1] at hcp1 hc1 hk1
 have hf2:i*3+vs.length≤cur1.size:=by rw[hvl,hs1]; omega
 have hcp2:∀ ty dc,(Builtin.copy_ #[62,62] ty #[.slice (some ⟨g,i*3,none⟩) (n+m-i) dc,.slice (some ⟨vb,0,none⟩) m vc]).run Tryz.prog W1=.ok (goInt m) (W1.setRow g (layAt cur1 (i*3) vs)):=fun ty dc=>by
  have hmin:Nat.min m (n+m-i)=m:=by simp only[Nat.min_def]; split<;>omega
  have:=run_copy_rowk (P:=Tryz.prog) W1 62 62 ty 84 3 g (i*3) (n+m-i) dc ⟨vb,0,none⟩ m vc cur1 84 vs Tryz.underlying62 hsize hc1 (by rw[hmin]; exact hvl)
   (fun j v hj=>by
     rw[Addr.add_lit,Nat.zero_add,hk1.cell (p:=⟨vb,j,none⟩) hvb]
     exact hvs j v hj)
   hf2 h1v
  rw[hmin] at this
  exact this
 have hfin:Hid (Kept g w (W1.setRow g (layAt cur1 (i*3) vs))∧∃ cur':Array Value,CellsAt (W1.setRow g (layAt cur1 (i*3) vs)) g cur' 84∧cur'.size=cap*3∧cur'.toList.take ((n+m)*3)=cur.toList.take (i*3)++(vs++(cur.toList.take (n*3)).drop (i*3))):=by
  refine hid ⟨hk1.trans (setRow_kept _ _ _),_,setRow_cells hc1,by rw[layAt_size hf2,hs1],?_⟩
  rw[layAt_list,←htail]
  have e1:cur1.toList.take (i*3)=cur.toList.take (i*3):=by
   have:=congrArg (List.take (i*3)) ht1
   rw[List.take_take,List.take_append_of_le_length (by rw[List.length_take,Array.length_toList,hsz]; omega),List.take_take] at this
   rw[show min (i*3) ((n+m)*3)=i*3 by omega,show min (i*3) ((i+m)*3)=i*3 by omega] at this
   exact this
  have e2:(cur1.toList.drop (i*3+vs.length)).take ((n-i)*3)=tail:=by
   have:=congrArg (List.drop ((i+m)*3)) ht1
   rw[List.drop_take,List.drop_left' (by rw[List.length_take,Array.length_toList,hsz]; omega)] at this
   rw[hvl,←Nat.add_mul,←this]
   congr 1
   rw[←Nat.sub_mul]
   congr 1
   omega
  rw[e1,List.append_assoc,List.take_append,List.take_of_length_le (by rw[List.length_take,Array.length_toList,hsz]; omega)]
  congr 1
  rw[List.length_take,Array.length_toList,hsz,List.take_append,hvl,List.take_of_length_le (by rw[hvl]; omega)]
  congr 1
  rw[←e2,hvl]
  congr 1
  omega
 have hW:Hid (W1=w.drew.setRow g cur1):=hW1
 have hw1:IntKind.i64.wrap ((i:Int)+(m:Int))=(i:Int)+(m:Int):=by rw[IntKind.wrap_i64]; unfold maxLen at hcm; omega
 have hb1:(0:Int)≤(i:Int)+(m:Int):=by omega
 have hin:i≤n:=by omega
 have htn:((i:Int)+(m:Int)).toNat=i+m:=by omega
 have hb2:¬(cap=i+m):=by omega
 have hb3:(i:Int)≤(n:Int)+(m:Int):=by omega
 have hb4:¬(cap=i):=by omega
 have hcm':cap≤9223372036854775807:=by unfold maxLen at hcm; omega
 clear hW1 hk1 hc1 hs1 ht1 hf1 hf2 htl htail hsz hg hgd h1c h1v hvs hv hvl hcm hsize hzs
 go_enter Tryz.func65,Tryz.ntmps65
 go_wp2_with (simp only[hov])
 go_region_law (refine step_copy_runK rfl _ _ 62 62 rfl _ _ (by simp[Act.eval,Act.put]) (by simp[Act.eval,Act.put]) (hcp1 _ _ _) ?_)
 go_wp2_with (at_builtin; refine wpList_copy_runK _ rfl _ _ 62 62 rfl _ _ rfl rfl (hcp2 _ _) ?_)
 go_ret
 exact⟨rfl,hfin.out⟩
set_option maxHeartbeats 4000000 in
set_option maxRecDepth 100000 in
theorem insertT_grow (g n cap i vb m vc:Nat) (cur:Array Value) (vs:List Value) (w:World) (hi:i<n) (hm:0<m) (hnc:n≤cap) (hroom:cap<n+m) (hnm:n+m≤1000) (hsz:cur.size=cap*3) (hg:CellsAt w g cur 84)
 (hvw:vb<w.heap.size) (hvl:vs.length=m*3) (hvs:∀ j u,vs[j]? =some u→w.cell? ⟨vb,j,none⟩=some u) (h1c:∀ v∈cur.toList.take (n*3),v.oneCell'=true) (h1v:∀ v∈vs,v.oneCell'=true):
 Calls Tryz.prog 65 #[.slice (some ⟨g,0,none⟩) n cap,.int .i64 i,.slice (some ⟨vb,0,none⟩) m vc] w fun e w'=>
  ∃ G,e=.returned (.slice (some ⟨w.heap.size,0,none⟩) (n+m) G)∧Below w.heap.size w w'∧n+m≤G∧G≤maxLen∧∃ cur':Array Value,CellsAt w' w.heap.size cur' 84∧cur'.size=G*3∧cur'.toList.take ((n+m)*3)=cur.toList.take (i*3)++(vs++(cur.toList.take (n*3)).drop (i*3)):=by
 obtain⟨i0,hi0,hz0,hz1,hz2⟩:=info_parts Tryz.infoT
 have hzi:¬((m:Int)=0):=by omega
 have hz2':¬((i:Int)=(n:Int)):=by omega
 have hz3:(cap:Int)<(n:Int)+(m:Int):=by omega
 have hsize:(Tryz.prog.info? 84).map (·.size)=some 3:=by rw[hi0]; simp[hz1]
 have hgw:=hg.lt
 have hik:i+(n+m-i)=n+m:=by omega
 have hold:(Builtin.firstCells i0.size i (.slice (some ⟨g,0,none⟩) i cap)).run Tryz.prog w.drew=.ok (cur.toList.take (i*3)).toArray w.drew:=by
  rw[hz1]
  have:=run_loadCells_list (P:=Tryz.prog) w.drew ⟨g,0,none⟩ (cur.toList.take (i*3)) (fun j v hj=>by
   have hjl:=(List.getElem?_eq_some_iff.1 hj).1
   rw[List.length_take] at hjl
   rw[Addr.add_lit,Nat.zero_add]
   show w.cell? ⟨g,j,none⟩=some v
   rw[hg.cell,←hj,List.getElem?_take,if_pos (by omega),Array.getElem?_toList])
  rw[List.length_take,Array.length_toList,hsz,show min (i*3) (cap*3)=i*3 by omega] at this
  exact this
 have hrz:∀ ty,(Builtin.append_ #[62,3] ty #[.slice (some ⟨g,0,none⟩) i cap,.int .i64 ((n:Int)+(m:Int)-(i:Int))]).run Tryz.prog w=
  .ok (.slice (some ⟨w.heap.size,0,none⟩) (n+m) (grownCap w (n+m) cap 84)) (w.drew.alloc (.cells ((cur.toList.take (i*3)).toArray++Builtin.zeroCells (Value.cells (.agg #[.string ⟨#[]⟩,.slice none 0 0,.slice none 0 0])) (n+m-i)++Builtin.zeroCells (Value.cells (.agg #[.string ⟨#[]⟩,.slice none 0 0,.slice none 0 0])) (grownCap w (n+m) cap 84-(n+m))) 84)):=fun ty=>by
  have h:=Lib.run_append_grow_zeros w 62 3 ty 84 i0 (.agg #[.string ⟨#[]⟩,.slice none 0 0,.slice none 0 0]) .i64 .i64 Tryz.underlying62 Tryz.underlying3 hi0 hz0 (some ⟨g,0,none⟩) i cap (cur.toList.take (i*3)) hold (n+m-i) (by omega) (by omega) (by omega) (by omega) (by rw[hz2]; omega) (by rw[hz2,hik]; exact growslice_fits hroom (by omega))
  rw[hik] at h
  rw[show (n:Int)+(m:Int)-(i:Int)=((n+m-i:Nat):Int) by omega]
  exact h
 have hGn:n+m≤grownCap w (n+m) cap 84:=grownCap_ge w _ _ _
 have hG63:grownCap w (n+m) cap 84≤maxLen:=grownCap_le_maxLen w (n+m) cap 84 (by unfold maxLen; omega)
 generalize grownCap w (n+m) cap 84=G at *
 obtain⟨ROW,hROW⟩:∃ ROW:Array Value,ROW=(cur.toList.take (i*3)).toArray++Builtin.zeroCells (Value.cells (.agg #[.string ⟨#[]⟩,.slice none 0 0,.slice none 0 0])) (n+m-i)++Builtin.zeroCells (Value.cells (.agg #[.string ⟨#[]⟩,.slice none 0 0,.slice none 0 0])) (G-(n+m)):=⟨_,rfl⟩
 rw[←hROW] at hrz
 have hz':(Value.cells (.agg #[.string ⟨#[]⟩,.slice none 0 0,.slice none 0 0])).size=3:=rfl
 have hRs:ROW.size=G*3:=by
  rw[hROW]
  simp only[Array.size_append,List.size_toArray,List.length_take,Array.length_toList,Builtin.zeroCells,Array.size_map,Array.size_range,hsz,hz']
  omega
 have hRt:ROW.toList.take (i*3)=cur.toList.take (i*3):=by
  rw[hROW]
  simp only[Array.toList_append,List.append_assoc]
  exact List.take_left' (by rw[List.length_take,Array.length_toList,hsz]; omega)
 clear hROW
 obtain⟨tail,htail⟩:∃ tail,tail=(cur.toList.take (n*3)).drop (i*3):=⟨_,rfl⟩
 have htl:tail.length=(n-i)*3:=by
  rw[htail,List.length_drop,List.length_take,Array.length_toList,hsz,Nat.sub_mul]
  omega
 obtain⟨H,hH⟩:∃ H,H=w.heap.size:=⟨_,rfl⟩
 rw[←hH] at hrz hvw hgw ⊢
 have hf1:i*3+vs.length≤ROW.size:=by rw[hvl,hRs]; omega
 have hcpA:∀ (W:World),CellsAt W H ROW 84→(∀ k,k<H→W.heap[k]? =w.heap[k]?)→∀ ty dc,(Builtin.copy_ #[62,62] ty #[.slice (some ⟨H,i*3,none⟩) (n+m-i) dc,.slice (some ⟨vb,0,none⟩) m vc]).run Tryz.prog W=.ok (goInt (m:Int)) (W.setRow H (layAt ROW (i*3) vs)):=fun W hW hWb ty dc=>by
  have hmin:Nat.min m (n+m-i)=m:=by simp only[Nat.min_def]; split<;>omega
  have:=run_copy_rowk (P:=Tryz.prog) W 62 62 ty 84 3 H (i*3) (n+m-i) dc ⟨vb,0,none⟩ m vc ROW 84 vs Tryz.underlying62 hsize hW (by rw[hmin]; exact hvl)
   (fun j v hj=>by
     rw[Addr.add_lit,Nat.zero_add,World.cell?_of_block (w:=w) (hWb vb hvw)]
     exact hvs j v hj)
   hf1 h1v
  rw[hmin] at this
  exact this
 have hRs1:(layAt ROW (i*3) vs).size=G*3:=by rw[layAt_size hf1,hRs]
 have hRt1:(layAt ROW (i*3) vs).toList.take ((i+m)*3)=cur.toList.take (i*3)++vs:=by
  have:=layAt_take2 hf1
  rw[hvl,←Nat.add_mul,hRt] at this
  exact this
 obtain⟨R1,hR1⟩:∃ R1,R1=layAt ROW (i*3) vs:=⟨_,rfl⟩
 rw[←hR1] at hcpA hRs1 hRt1
 clear hR1
 have hf2:(i+m)*3+tail.length≤R1.size:=by rw[htl,hRs1]; omega
 have hcpB:∀ (W:World),CellsAt W H R1 84→(∀ k,k<H→W.heap[k]? =w.heap[k]?)→∀ ty dc sc,(Builtin.copy_ #[62,62] ty #[.slice (some ⟨H,(i+m)*3,none⟩) (n+m-(i+m)) dc,.slice (some ⟨g,i*3,none⟩) (n-i) sc]).run Tryz.prog W=.ok (goInt ((n-i:Nat):Int)) (W.setRow H (layAt R1 ((i+m)*3) tail)):=fun W hW hWb ty dc sc=>by
  have hmin:Nat.min (n-i) (n+m-(i+m))=n-i:=by simp only[Nat.min_def]; split<;>omega
  have:=run_copy_rowk (P:=Tryz.prog) W 62 62 ty 84 3 H ((i+m)*3) (n+m-(i+m)) dc ⟨g,i*3,none⟩ (n-i) sc R1 84 tail Tryz.underlying62 hsize hW (by rw[hmin]; exact htl)
   (fun j v hj=>by
     have hjl:j<tail.length:=(List.getElem?_eq_some_iff.1 hj).1
     rw[Addr.add_lit,World.cell?_of_block (w:=w) (hWb g hgw),hg.cell,←hj,htail,List.getElem?_drop,List.getElem?_take,if_pos (by omega),Array.getElem?_toList])
   hf2 (fun v hv=>h1c v (List.mem_of_mem_drop (htail▸hv)))
  rw[hmin] at this
  exact this
 have hRs2:(layAt R1 ((i+m)*3) tail).size=G*3:=by rw[layAt_size hf2,hRs1]
 have hRt2:(layAt R1 ((i+m)*3) tail).toList.take ((n+m)*3)=cur.toList.take (i*3)++(vs++(cur.toList.take (n*3)).drop (i*3)):=by
  have:=layAt_take2 hf2
  rw[htl,←Nat.add_mul,show i+m+(n-i)=n+m by omega,hRt1] at this
  rw[this,htail,List.append_assoc]
 have kA:CellsAt (w.alloc (.cells ROW 84)).drew H ROW 84:=by rw[hH]; exact cellsAt_alloc w _ _
 have bA:∀ k,k<H→(w.alloc (.cells ROW 84)).drew.heap[k]? =w.heap[k]? :=fun k hk=>(below_alloc w (.cells ROW 84)).block k (hH▸hk)
 have kB:CellsAt ((w.alloc (.cells ROW 84)).drew.setRow H R1).drew H R1 84:=setRow_cells kA
 have bB:∀ k,k<H→((w.alloc (.cells ROW 84)).drew.setRow H R1).drew.heap[k]? =w.heap[k]? :=fun k hk=>((setRow_kept _ _ _).block k (by omega)).trans (bA k hk)
 have hfin:∀ w', w'.heap=(((w.alloc (.cells ROW 84)).drew.setRow H R1).drew.setRow H (layAt R1 ((i+m)*3) tail)).heap→w'.os=w.os→w'.tape=w.tape→w'.output=w.output→Below H w w'∧∃ cur':Array Value,CellsAt w' H cur' 84∧cur'.size=G*3∧cur'.toList.take ((n+m)*3)=cur.toList.take (i*3)++(vs++(cur.toList.take (n*3)).drop (i*3)):=by
  intro w' hw e1 e2 e3
  have kC:CellsAt (((w.alloc (.cells ROW 84)).drew.setRow H R1).drew.setRow H (layAt R1 ((i+m)*3) tail)) H (layAt R1 ((i+m)*3) tail) 84:=setRow_cells kB
  refine⟨⟨e1,e2,e3,?_,fun k hk=>?_⟩,_,(by unfold CellsAt at kC ⊢; rw[hw]; exact kC),hRs2,hRt2⟩
  ·rw[hw,(setRow_kept _ _ _).size]
   show w.heap.size≤((w.alloc (.cells ROW 84)).drew.setRow H R1).heap.size
   rw[(setRow_kept _ _ _).size]
   show w.heap.size≤(w.alloc (.cells ROW 84)).heap.size
   simp
  ·rw[hw,(setRow_kept _ _ _).block k (by omega)]
   exact bB k hk
 replace hfin:=hid hfin
 have hw1:IntKind.i64.wrap ((i:Int)+(m:Int))=(i:Int)+(m:Int):=by rw[IntKind.wrap_i64]; omega
 have hb1:(0:Int)≤(i:Int)+(m:Int):=by omega
 have hin:i≤n:=by omega
 have htn:((i:Int)+(m:Int)).toNat=i+m:=by omega
 have hb3:(i:Int)≤(n:Int):=by omega
 have hGi:¬(G=i):=by omega
 have hGim:¬(G=i+m):=by omega
 have hci:¬(cap=i):=by omega
 have hG63':G≤9223372036854775807:=by unfold maxLen at hG63; omega
 have hcap':cap≤9223372036854775807:=by omega
 clear hold hRs hRt hRs1 hRt1 hRs2 hRt2 hf1 hf2 htl htail hsz hg h1c h1v hvs hvl hsize
 replace hH:=hid hH
 have hA1:=fun ty dc=>hcpA _ kA bA ty dc
 have hB1:=fun ty dc sc=>hcpB _ kB bB ty dc sc
 clear hcpA hcpB kA bA kB bB
 go_enter Tryz.func65,Tryz.ntmps65
 go_wp2_with (at_builtin; refine Lib.wpList_append_run _ rfl _ _ _ _ rfl _ _ rfl rfl _ _ (hrz _) ?_)
 go_region_law (refine step_copy_runK rfl _ _ 62 62 rfl _ _ (by simp[Act.eval,Act.put]) (by simp[Act.eval,Act.put]) (hB1 _ _ _) ?_)
 go_wp2
 go_ret
 exact⟨G,rfl,(hfin.out _ rfl rfl rfl rfl).1,hGn,hG63,(hfin.out _ rfl rfl rfl rfl).2⟩
theorem insertT_any (sa:Option Addr) (n c i vb m vc base:Nat) (cs vs:List Value) (vt:TypeId) (w:World) (hi:i≤n) (hm:0<m) (hn:n+m≤1000) (hs:w.ownsRow base 84 3 (.slice sa n c) n cs) (hb:base≤w.heap.size)
 (hv:CellsAt w vb vs.toArray vt) (hvl:vs.length=m*3) (hvb:(Value.slice sa n c).ownBlock≠some vb) (h1c:∀ v∈cs,v.oneCell'=true) (h1v:∀ v∈vs,v.oneCell'=true):
 Calls Tryz.prog 65 #[.slice sa n c,.int .i64 i,.slice (some ⟨vb,0,none⟩) m vc] w fun e w'=>
  ∃ a' c', e=.returned (.slice a' (n+m) c')∧w'.ownsRow base 84 3 (.slice a' (n+m) c') (n+m) (cs.take (i*3)++(vs++cs.drop (i*3)))∧Only (fun b=>(Value.slice sa n c).ownBlock=some b) w w'∧((Value.slice a' (n+m) c').ownBlock=(Value.slice sa n c).ownBlock∨(Value.slice a' (n+m) c').ownBlock=some w.heap.size):=by
 have hvs:∀ j u,vs[j]? =some u→w.cell? ⟨vb,j,none⟩=some u:=fun j u hj=>by rw[hv.cell]; simpa using hj
 have hcl:=hs.1
 by_cases e:i=n
 ·subst e
  have hcc:i≤c∧c≤maxLen:=by
   rcases hs.2 with⟨h0,h1⟩ | ⟨g,cap,cur,h0,_,_,h1,h2,_⟩
   ·simp only[Value.slice.injEq] at h0
    unfold maxLen
    omega
   ·simp only[Value.slice.injEq] at h0
    omega
  refine(insertT_end sa i c vb m vc base cs vs w hm hn hs hb hvl hvs h1v hcc.1 hcc.2).mono ?_
  rintro e w' ⟨a', c', rfl,ho,hg,hat⟩
  refine⟨a', c', rfl,?_,only_grown hg (fun k hk=>hk),hat⟩
  rw[List.take_of_length_le (by omega),List.drop_of_length_le (by omega),List.append_nil]
  exact ho
 ·have hin:i<n:=by omega
  rcases hs.2 with⟨h0,h1⟩ | ⟨g,cap,cur,h0,hbg,hg,hnc,hcm,hsz,hcur⟩
  ·omega
  simp only[Value.slice.injEq,true_and] at h0
  obtain⟨rfl,rfl⟩:=h0
  have hvg:vb≠g:=fun e=>hvb (by rw[e]; rfl)
  have h1c':∀ v∈cur.toList.take (n*3),v.oneCell'=true:=by rw[hcur]; exact h1c
  have hti:cur.toList.take (i*3)=cs.take (i*3):=by rw[←hcur,List.take_take,show min (i*3) (n*3)=i*3 by omega]
  by_cases hroom:n+m≤c
  ·refine(insertT_shift g n c i vb m vc cur vs vt vs.toArray w hin hm hroom hcm hvg hsz hg hv hvl hvs h1c' h1v).mono ?_
   rintro e w' ⟨rfl,hk,cur', hc', hs', ht'⟩
   rw[hcur,hti] at ht'
   refine⟨_,_,rfl,⟨by simp[hvl,hcl]; omega,.inr ⟨g,c,cur', rfl,hbg,hc', hroom,hcm,hs', ht'⟩⟩,Only.of_kept hk rfl,.inl rfl⟩
  ·refine(insertT_grow g n c i vb m vc cur vs w hin hm hnc (by omega) hn hsz hg hv.lt hvl hvs h1c' h1v).mono ?_
   rintro e w' ⟨G,rfl,hbel,hG1,hG2,cur', hc', hs', ht'⟩
   rw[hcur,hti] at ht'
   refine⟨_,_,rfl,⟨by simp[hvl,hcl]; omega,.inr ⟨w.heap.size,G,cur', rfl,hb,hc', hG1,hG2,hs', ht'⟩⟩,Only.of_below hbel,.inr rfl⟩
theorem deleteT_own (sa:Option Addr) (n c i base:Nat) (cs:List Value) (w:World) (hi:i<n) (hs:w.ownsRow base 84 3 (.slice sa n c) n cs) (h1c:∀ v∈cs,v.oneCell'=true):
 Calls Tryz.prog 71 #[.slice sa n c,.int .i64 i,.int .i64 ((i:Int)+1)] w fun e w'=>
  e=.returned (.slice sa (n-1) c)∧w'.ownsRow base 84 3 (.slice sa (n-1) c) (n-1) (cs.take (i*3)++cs.drop ((i+1)*3))∧Only (fun b=>(Value.slice sa n c).ownBlock=some b) w w':=by
 have hcl:=hs.1
 rcases hs.2 with⟨h0,h1⟩ | ⟨g,cap,cur,h0,hbg,hg,hnc,hcm,hsz,hcur⟩
 ·omega
 simp only[Value.slice.injEq,true_and] at h0
 obtain⟨rfl,rfl⟩:=h0
 have hti:cur.toList.take (i*3)=cs.take (i*3):=by rw[←hcur,List.take_take,show min (i*3) (n*3)=i*3 by omega]
 refine(deleteT_any g n c i (i+1) cur w (by omega) (by omega) hnc hcm hsz hg (by rw[hcur]; exact h1c)).mono ?_
 rintro e w' ⟨rfl,hk,cur', hc', hs', ht'⟩
 rw[hcur,hti,show i+(n-(i+1))=n-1 by omega] at ht'
 refine⟨by rw[show i+(n-(i+1))=n-1 by omega],⟨by simp[hcl]; omega,.inr ⟨g,c,cur', rfl,hbg,hc', by omega,hcm,hs', ht'⟩⟩,Only.of_kept hk rfl⟩
end Go.Proofs.YtjafgnohlkkopaaGreatDoor

namespace Go.Proofs.YtjafgnohlkkopaaGreatDoor
open Go.RowKit
structure SetM where
 v:SetV
 x:SetE
def SetM.cells (m:SetM):List Value:=[.string m.v.name,.slice m.v.fa m.v.fn m.v.fc,.slice m.v.sa m.v.sn m.v.sc]
theorem SetM.cells_len (m:SetM):m.cells.length=3:=rfl
theorem SetM.cells_one (m:SetM):∀ v∈m.cells,v.oneCell'=true:=by
 intro v hv
 simp only[SetM.cells,List.mem_cons,List.not_mem_nil,or_false] at hv
 rcases hv with rfl | rfl | rfl<;>rfl
def setCells (l:List SetM):List Value:=l.flatMap SetM.cells
theorem setCells_len (l:List SetM):(setCells l).length=l.length*3:=flat_len SetM.cells_len l
theorem setCells_one (l:List SetM):∀ v∈setCells l,v.oneCell'=true:=fun v hv=>by
 obtain⟨m,_,h⟩:=List.mem_flatMap.1 hv
 exact m.cells_one v h
theorem SetsAt.rows {Q:Nat→Prop} {w:World} {a:Option Addr} {n:Nat} {l:List SetE} (h:SetsAt Q w a n l):∃ ms:List SetM,ms.map (·.x)=l∧(∀ m∈ms,SetAt Q w m.v m.x)∧(0<n→∃ b off,a=some ⟨b,off,none⟩∧b<w.heap.size∧∀ j u,(setCells ms)[j]? =some u→w.cell? ⟨b,off+j,none⟩=some u):=by
 rcases Nat.eq_zero_or_pos n with h0 | h0
 ·subst h0
  have:=List.eq_nil_of_length_eq_zero h.1
  subst this
  exact⟨[],rfl,by simp,fun h=>absurd h (by omega)⟩
 ·obtain⟨b,off,rfl,hlt,hq,hc⟩:=h.2 h0
  have hl:=h.1
  obtain⟨f,hf⟩:∃ f:Nat→SetV,∀ i,i<n→SetIn Q w b (off+i*3) (l.getD i SetE.zero) (f i):=
   ⟨fun i=>if hi:i<n then (hc i hi).choose else ⟨ByteArray.empty,none,0,0,none,0,0⟩,fun i hi=>by simp only[hi,dif_pos]; exact(hc i hi).choose_spec⟩
  refine⟨(List.range n).map (fun i=>⟨f i,l.getD i SetE.zero⟩),?_,?_,fun _=>⟨b,off,rfl,hlt,?_⟩⟩
  ·apply List.ext_getElem
   ·simp[hl]
   ·intro i h1 h2
    simp[List.getD,h2]
  ·intro m hm
   obtain⟨i,hi,rfl⟩:=List.mem_map.1 hm
   exact(hf i (List.mem_range.1 hi)).ok
  ·intro j u hj
   have hjl:j<n*3:=by
    have:=setCells_len ((List.range n).map (fun i=>(⟨f i,l.getD i SetE.zero⟩:SetM)))
    rw[List.length_map,List.length_range] at this
    rcases Nat.lt_or_ge j (setCells ((List.range n).map (fun i=>(⟨f i,l.getD i SetE.zero⟩:SetM)))).length with h | h
    ·omega
    ·rw[List.getElem?_eq_none h] at hj; cases hj
   have hi:j / 3<n:=by omega
   have hE:=hf (j / 3) hi
   have hg:=flat_get SetM.cells_len ((List.range n).map (fun i=>(⟨f i,l.getD i SetE.zero⟩:SetM))) (j / 3) (j%3) (by simpa using hi) (Nat.mod_lt _ (by omega))
   rw[show j / 3*3+j%3=j by omega,List.getElem_map,List.getElem_range] at hg
   unfold setCells at hj
   rw[hg] at hj
   have h3:j%3=0∨j%3=1∨j%3=2:=by omega
   rcases h3 with h3 | h3 | h3
   ·rw[h3] at hj
    rw[show off+j=off+j / 3*3 by omega,hE.c0]
    exact hj
   ·rw[h3] at hj
    rw[show off+j=off+j / 3*3+1 by omega,hE.c1]
    exact hj
   ·rw[h3] at hj
    rw[show off+j=off+j / 3*3+2 by omega,hE.c2]
    exact hj
theorem sets_own {w:World} {Q:Nat→Prop} {base:Nat} {e:TypeId} {sa:Option Addr} {sn sc:Nat} {l:List SetM} (hl:∀ m∈l,SetAt Q w m.v m.x) (h:w.ownsRow base e 3 (.slice sa sn sc) sn (setCells l)):SetsAt (fun b=>Q b∨(base≤b∧(Value.slice sa sn sc).ownBlock=some b)) w sa sn (l.map (·.x)):=by
 have hln:l.length=sn:=by have:=h.1; rw[setCells_len] at this; omega
 refine⟨by rw[List.length_map]; exact hln,fun hn=>?_⟩
 rcases h.2 with⟨hv,h0⟩ | ⟨g,cap,cur,hv,hb,hg,hnc,_⟩
 ·omega
 ·simp only[Value.slice.injEq] at hv
  obtain⟨rfl,_,rfl⟩:=hv
  refine⟨g,0,rfl,(h.lt g rfl).2,.inr ⟨hb,rfl⟩,fun i hi=>?_⟩
  have hil:i<l.length:=by omega
  have hx:(l.map (·.x)).getD i SetE.zero=l[i].x:=by simp[List.getD,hil]
  rw[hx,Nat.zero_add]
  have hc:=fun r (hr:r<3)=>(h.cellAt (i*3+r) (by omega)).trans (flat_get SetM.cells_len l i r hil hr)
  have hA:=hl l[i] (List.getElem_mem hil)
  exact⟨l[i].v,hc 0 (by omega),hc 1 (by omega),hc 2 (by omega),hA.weaken (fun b _ q=>.inl q)⟩
theorem Only.snapsAt {M:Nat→Prop} {a b:World} (h:Only M a b) {Q:Nat→Prop} {x:Option Addr} {n:Nat} {l:List SnapE} (he:SnapsAt Q a x n l) (hm:∀ k,Q k→¬M k):SnapsAt Q b x n l:=by
 refine⟨he.1,fun hn=>?_⟩
 obtain⟨g,off,rfl,hlt,hq,hc⟩:=he.2 hn
 refine⟨g,off,rfl,Nat.lt_of_lt_of_le hlt h.size,hq,fun i hi=>?_⟩
 obtain⟨fa,fn,fc,hs⟩:=hc i hi
 exact⟨fa,fn,fc,(h.cell (p:=⟨g,off+i*2,none⟩) hlt (hm g hq)).trans hs.c0,(h.cell (p:=⟨g,off+i*2+1,none⟩) hlt (hm g hq)).trans hs.c1,h.ents hs.files hm,hs.small,hs.caps⟩
theorem Only.setAt {M:Nat→Prop} {a b:World} (h:Only M a b) {Q:Nat→Prop} {v:SetV} {x:SetE} (he:SetAt Q a v x) (hm:∀ k,Q k→¬M k):SetAt Q b v x:=⟨he.name,he.small,h.ents he.files hm,h.snapsAt he.snaps hm,he.caps⟩
structure TenM where
 key:Int
 quota:Int
 sa:Option Addr
 sn:Nat
 sc:Nat
 ms:List SetM
def TenM.e (m:TenM):TenE:=⟨m.key,m.quota,m.ms.map (·.x)⟩
def TenM.cells (m:TenM):List Value:=[.int .i64 m.key,.int .i64 m.quota,.slice m.sa m.sn m.sc]
theorem TenM.cells_len (m:TenM):m.cells.length=3:=rfl
theorem TenM.cells_one (m:TenM):∀ v∈m.cells,v.oneCell'=true:=by
 intro v hv
 simp only[TenM.cells,List.mem_cons,List.not_mem_nil,or_false] at hv
 rcases hv with rfl | rfl | rfl<;>rfl
def tenCells (l:List TenM):List Value:=l.flatMap TenM.cells
theorem tenCells_len (l:List TenM):(tenCells l).length=l.length*3:=flat_len TenM.cells_len l
theorem tenCells_one (l:List TenM):∀ v∈tenCells l,v.oneCell'=true:=fun v hv=>by
 obtain⟨m,_,h⟩:=List.mem_flatMap.1 hv
 exact m.cells_one v h
def RowsP (t:Value) (l:List TenM) (j:Nat) (b:Nat):Prop:=t.ownBlock=some b∨∃ i m,i<j∧l[i]? =some m∧(Value.slice m.sa m.sn m.sc).ownBlock=some b
structure MineP (H:Nat) (X:Nat→Prop) (w:World) (ta:Option Addr) (tn tc:Nat) (l:List TenM) (j:Nat):Prop where
 row:w.ownsRow H 64 3 (.slice ta tn tc) tn (tenCells l)
 own:∀ i m,l[i]? =some m→i<j→w.ownsRow H 84 3 (.slice m.sa m.sn m.sc) m.sn (setCells m.ms)
 src:∀ i m,l[i]? =some m→j≤i→SrcAt H w m.sa m.sn (setCells m.ms)∧m.ms.length=m.sn∧m.sn≤m.sc
 lists:∀ m∈l,∀ s∈m.ms,SetAt (fun b=>¬RowsP (.slice ta tn tc) l j b∧¬X b) w s.v s.x
 rx:∀ b,RowsP (.slice ta tn tc) l j b→¬X b
 xlt:∀ b,X b→b<w.heap.size
 apart:∀ i k m u,l[i]? =some m→l[k]? =some u→i<j→k<j→i≠k→∀ b,(Value.slice m.sa m.sn m.sc).ownBlock=some b→(Value.slice u.sa u.sn u.sc).ownBlock≠some b
 top:∀ i m,l[i]? =some m→i<j→∀ b,(Value.slice m.sa m.sn m.sc).ownBlock=some b→(Value.slice ta tn tc).ownBlock≠some b
 nums:∀ m∈l,(-9223372036854775808≤m.key∧m.key≤9223372036854775807)∧(-9223372036854775808≤m.quota∧m.quota≤9223372036854775807)
 sz:H≤w.heap.size
theorem MineP.len {H:Nat} {X:Nat→Prop} {w:World} {ta:Option Addr} {tn tc:Nat} {l:List TenM} {j:Nat} (h:MineP H X w ta tn tc l j):l.length=tn:=by have:=h.row.1; rw[tenCells_len] at this; omega
theorem MineP.ge {H:Nat} {X:Nat→Prop} {w:World} {ta:Option Addr} {tn tc:Nat} {l:List TenM} {j b:Nat} (h:MineP H X w ta tn tc l j) (hb:RowsP (.slice ta tn tc) l j b):H≤b∧b<w.heap.size:=by
 rcases hb with hb | ⟨i,m,hi,hm,hb⟩
 ·exact h.row.lt b hb
 ·exact(h.own i m hm hi).lt b hb
theorem SrcAt.only {H:Nat} {M:Nat→Prop} {w w':World} {a:Option Addr} {n:Nat} {cs:List Value} (h:SrcAt H w a n cs) (on:Only M w w') (hM:∀ b,M b→H≤b) (hH:H≤w.heap.size):SrcAt H w' a n cs:=fun hp=>by
 obtain⟨b,off,e,hlt,hc⟩:=h hp
 exact⟨b,off,e,hlt,fun j u hj=>(on.cell (p:=⟨b,off+j,none⟩) (show b<w.heap.size by omega) (fun m=>by have:=hM b m; omega)).trans (hc j u hj)⟩
theorem MineP.only {H:Nat} {X M:Nat→Prop} {w w':World} {ta:Option Addr} {tn tc:Nat} {l:List TenM} {j:Nat} (h:MineP H X w ta tn tc l j) (on:Only M w w') (hM:∀ b,M b→w.heap.size≤b∨(X b∧(j<l.length→H≤b))):MineP H X w' ta tn tc l j:=
 have hR:∀ b,RowsP (.slice ta tn tc) l j b→¬M b:=fun b hb k=>by
  rcases hM b k with k | k
  ·have:=(h.ge hb).2; omega
  ·exact h.rx b hb k.1
 ⟨on.row h.row (fun b hb=>hR b (.inl hb)),fun i m hm hi=>on.row (h.own i m hm hi) (fun b hb=>hR b (.inr ⟨i,m,hi,hm,hb⟩)),fun i m hm hi=>⟨(h.src i m hm hi).1.only on (fun b k=>by
   have:=(List.getElem?_eq_some_iff.1 hm).1
   rcases hM b k with k | k
   ·have:=h.sz; omega
   ·exact k.2 (by omega)) h.sz,(h.src i m hm hi).2⟩,
   fun m hm s hs=>(on.setAt ((h.lists m hm s hs).weaken (R:=fun b=>(¬RowsP (.slice ta tn tc) l j b∧¬X b)∧b<w.heap.size) (fun b hb q=>⟨q,hb⟩)) (fun b q k=>by
    rcases hM b k with k | k
    ·have:=q.2; omega
    ·exact q.1.2 k.1)).weaken (fun b _ q=>q.1),h.rx,fun b hb=>Nat.lt_of_lt_of_le (h.xlt b hb) on.size,h.apart,h.top,h.nums,Nat.le_trans h.sz on.size⟩
theorem MineP.below {H:Nat} {X:Nat→Prop} {w w':World} {ta:Option Addr} {tn tc:Nat} {l:List TenM} {j:Nat} (h:MineP H X w ta tn tc l j) (hb:Below w.heap.size w w'):MineP H X w' ta tn tc l j:=h.only (M:=fun _=>False) (Only.of_below hb) (fun _ m=>m.elim)
theorem MineP.clear {H:Nat} {X Y:Nat→Prop} {w w':World} {ta:Option Addr} {tn tc:Nat} {l:List TenM} {j:Nat} (h:MineP H X w ta tn tc l j) (hb:Below w.heap.size w w') (hY:∀ b,Y b→X b∨(w.heap.size≤b∧b<w'.heap.size)):MineP H Y w' ta tn tc l j:=by
 have h':=h.below hb
 refine⟨h'.row,h'.own,h'.src,fun m hm s hs=>?_,fun b hb hy=>?_,fun b hy=>?_,h.apart,h.top,h.nums,h'.sz⟩
 ·exact(((h.lists m hm s hs).weaken (R:=fun b=>(¬RowsP (.slice ta tn tc) l j b∧¬X b)∧b<w.heap.size) (fun b hb q=>⟨q,hb⟩)).below hb).weaken (fun b _ q=>⟨q.1.1,fun y=>by
   rcases hY b y with y | y
   ·exact q.1.2 y
   ·have:=q.2; omega⟩)
 ·rcases hY b hy with hy | hy
  ·exact h.rx b hb hy
  ·have:=(h.ge hb).2; omega
 ·rcases hY b hy with hy | hy
  ·exact Nat.lt_of_lt_of_le (h.xlt b hy) hb.size
  ·exact hy.2
theorem MineP.step {H:Nat} {X:Nat→Prop} {w w':World} {ta:Option Addr} {tn tc:Nat} {l:List TenM} {j:Nat} (h:MineP H X w ta tn tc l j) {i j':Nat} {m m':TenM} {M:Nat→Prop} (hm:l[i]? =some m) (hj:(i<j∧j'=j)∨(i=j∧j'=j+1)) (on:Only M w w')
 (hM:∀ b,M b→(Value.slice ta tn tc).ownBlock=some b∨(i<j∧(Value.slice m.sa m.sn m.sc).ownBlock=some b))
 (hrow:w'.ownsRow H 64 3 (.slice ta tn tc) tn (tenCells (l.set i m')))
 (hset:w'.ownsRow H 84 3 (.slice m'.sa m'.sn m'.sc) m'.sn (setCells m'.ms))
 (hblk:∀ b,(Value.slice m'.sa m'.sn m'.sc).ownBlock=some b→(i<j∧(Value.slice m.sa m.sn m.sc).ownBlock=some b)∨w.heap.size≤b)
 (hnew:∀ s∈m'.ms,s∈m.ms∨SetAt (fun b=>¬RowsP (.slice ta tn tc) l j b∧¬X b) w s.v s.x∨SetAt (fun b=>w.heap.size≤b∧(Value.slice m'.sa m'.sn m'.sc).ownBlock≠some b) w' s.v s.x)
 (hkq:m'.key=m.key∧m'.quota=m.quota):MineP H X w' ta tn tc (l.set i m') j':=by
 obtain⟨hil,hmi⟩:=List.getElem?_eq_some_iff.1 hm
 have hMR:∀ b,M b→RowsP (.slice ta tn tc) l j b:=fun b k=>by
  rcases hM b k with k | ⟨h1,k⟩
  ·exact .inl k
  ·exact .inr ⟨i,m,h1,hm,k⟩
 have hR:∀ b,RowsP (.slice ta tn tc) (l.set i m') j' b→RowsP (.slice ta tn tc) l j b∨(w.heap.size≤b∧(Value.slice m'.sa m'.sn m'.sc).ownBlock=some b):=fun b hb=>by
  rcases hb with hb | ⟨k,u,hk,hu,hb⟩
  ·exact .inl (.inl hb)
  ·by_cases e:k=i
   ·subst e
    rw[List.getElem?_set_self hil] at hu
    cases hu
    rcases hblk b hb with⟨h1,h2⟩ | h1
    ·exact .inl (.inr ⟨k,m,h1,hm,h2⟩)
    ·exact .inr ⟨h1,hb⟩
   ·rw[List.getElem?_set_ne (fun f=>e f.symm)] at hu
    exact .inl (.inr ⟨k,u,by omega,hu,hb⟩)
 have old:∀ (v:SetV) (x:SetE),SetAt (fun b=>¬RowsP (.slice ta tn tc) l j b∧¬X b) w v x→SetAt (fun b=>¬RowsP (.slice ta tn tc) (l.set i m') j' b∧¬X b) w' v x:=fun v x hs=>
  (on.setAt (hs.weaken (R:=fun b=>(¬RowsP (.slice ta tn tc) l j b∧¬X b)∧b<w.heap.size) (fun b hb q=>⟨q,hb⟩)) (fun b q k=>q.1.1 (hMR b k))).weaken (fun b _ q=>⟨fun f=>by
    rcases hR b f with f | f
    ·exact q.1.1 f
    ·have:=q.2; have:=f.1; omega,q.1.2⟩)
 refine⟨hrow,fun k u hu hk=>?_,fun k u hu hk=>?_,fun u hu s hs=>?_,fun b hb hx=>?_,fun b hb=>Nat.lt_of_lt_of_le (h.xlt b hb) on.size,fun a b u v hu hv ha hb hab c hc=>?_,fun k u hu hk b hb=>?_,fun u hu=>?_,Nat.le_trans h.sz on.size⟩
 ·by_cases e:k=i
  ·subst e
   rw[List.getElem?_set_self hil] at hu
   cases hu
   exact hset
  ·rw[List.getElem?_set_ne (fun f=>e f.symm)] at hu
   have hkj:k<j:=by omega
   refine on.row (h.own k u hu hkj) (fun b hb f=>?_)
   rcases hM b f with f | ⟨h1,f⟩
   ·exact h.top k u hu hkj b hb f
   ·exact h.apart k i u m hu hm hkj h1 e b hb f
 ·have e:k≠i:=by omega
  rw[List.getElem?_set_ne (fun f=>e f.symm)] at hu
  have:=h.src k u hu (by omega)
  exact⟨this.1.only on (fun b f=>(h.ge (hMR b f)).1) h.sz,this.2⟩
 ·obtain⟨k,hk,rfl⟩:=List.mem_iff_getElem.1 hu
  rw[List.getElem_set] at hs
  split at hs
  ·rcases hnew s hs with h1 | h1 | h1
   ·exact old _ _ (h.lists m (List.mem_of_getElem? hm) s h1)
   ·exact old _ _ h1
   ·exact h1.weaken (fun b _ q=>⟨fun f=>by
     rcases hR b f with f | f
     ·have:=(h.ge f).2; have:=q.1; omega
     ·exact q.2 f.2,fun f=>by have:=h.xlt b f; have:=q.1; omega⟩)
  ·exact old _ _ (h.lists _ (List.getElem_mem (by simpa using hk)) s hs)
 ·rcases hR b hb with f | f
  ·exact h.rx b f hx
  ·have:=h.xlt b hx; have:=f.1; omega
 ·by_cases e:a=i
  ·subst e
   rw[List.getElem?_set_self hil] at hu
   cases hu
   rw[List.getElem?_set_ne hab] at hv
   intro f
   rcases hblk c hc with⟨h1,h2⟩ | h1
   ·exact h.apart a b m v hm hv h1 (by omega) hab c h2 f
   ·have:=((h.own b v hv (by omega)).lt c f).2; omega
  ·rw[List.getElem?_set_ne (fun f=>e f.symm)] at hu
   by_cases e2:b=i
   ·subst e2
    rw[List.getElem?_set_self hil] at hv
    cases hv
    intro f
    rcases hblk c f with⟨h1,h2⟩ | h1
    ·exact h.apart a b u m hu hm (by omega) h1 hab c hc h2
    ·have:=((h.own a u hu (by omega)).lt c hc).2; omega
   ·rw[List.getElem?_set_ne (fun f=>e2 f.symm)] at hv
    exact h.apart a b u v hu hv (by omega) (by omega) hab c hc
 ·by_cases e:k=i
  ·subst e
   rw[List.getElem?_set_self hil] at hu
   cases hu
   intro f
   rcases hblk b hb with⟨h1,h2⟩ | h1
   ·exact h.top k m hm h1 b h2 f
   ·have:=(h.row.lt b f).2; omega
  ·rw[List.getElem?_set_ne (fun f=>e f.symm)] at hu
   exact h.top k u hu (by omega) b hb
 ·rcases List.mem_or_eq_of_mem_set hu with hu | rfl
  ·exact h.nums u hu
  ·rw[hkq.1,hkq.2]
   exact h.nums m (List.mem_of_getElem? hm)
theorem MineP.tens {H:Nat} {X:Nat→Prop} {w:World} {ta:Option Addr} {tn tc:Nat} {l:List TenM} (h:MineP H X w ta tn tc l tn):TensAt (fun _=>True) w ta tn (l.map TenM.e):=by
 have hln:=h.len
 refine⟨by rw[List.length_map]; exact hln,fun hn=>?_⟩
 rcases h.row.2 with⟨hv,h0⟩ | ⟨g,cap,cur,hv,hb,hg,hnc,_⟩
 ·omega
 ·simp only[Value.slice.injEq] at hv
  obtain⟨rfl,_,rfl⟩:=hv
  refine⟨g,0,rfl,(h.row.lt g rfl).2,trivial,fun i hi=>?_⟩
  have hil:i<l.length:=by omega
  have hx:(l.map TenM.e).getD i TenE.zero=l[i].e:=by simp[List.getD,hil]
  rw[hx,Nat.zero_add]
  have hc:=fun r (hr:r<3)=>(h.row.cellAt (i*3+r) (by omega)).trans (flat_get TenM.cells_len l i r hil hr)
  have hA:=h.own i l[i] (List.getElem?_eq_getElem hil) hi
  have hN:=h.nums l[i] (List.getElem_mem hil)
  exact⟨l[i].sa,l[i].sn,l[i].sc,hc 0 (by omega),hc 1 (by omega),hc 2 (by omega),(sets_own (fun m hm=>h.lists _ (List.getElem_mem hil) m hm) hA).weaken (fun b _ _=>trivial),hN.1,hN.2,row_caps hA⟩
end Go.Proofs.YtjafgnohlkkopaaGreatDoor

namespace Go.Proofs.YtjafgnohlkkopaaGreatDoor
open Go.RowKit
theorem Tryz.infoN:(Tryz.prog.info? 64).map (fun i=>(i.zero,i.size,i.bytes))=some (some (.agg #[.int .i64 0,.int .i64 0,.slice none 0 0]),3,40):=by kernel_rfl
set_option maxHeartbeats 400000 in
theorem cloneN_any (a:Option Addr) (n c:Nat) (cs:List Value) (w:World) (hn:n≤1000) (hl:cs.length=n*3) (h1:∀ v∈cs,v.oneCell'=true)
 (hc:0<n→∃ b off,a=some ⟨b,off,none⟩∧b<w.heap.size∧∀ j u,cs[j]? =some u→w.cell? ⟨b,off+j,none⟩=some u):
 Calls Tryz.prog 31 #[.slice a n c] w fun e w'=>
  Below w.heap.size w w'∧∃ a' c', e=.returned (.slice a' n c')∧n≤c'∧w'.ownsRow w.heap.size 64 3 (.slice a' n c') n cs:=by
 obtain⟨i0,hi,hz0,hz1,hz2⟩:=info_parts Tryz.infoN
 have qn:∀ (w:World) (a:Option Addr) (n c n' c':Nat),(binOp .eql 25 (.slice a n c) (.slice none n' c')).run Tryz.prog w=.ok (.bool a.isNone) w:=fun w a n c n' c'=>Lib.run_eql_slice_nil w _ _ a n c n' c' Tryz.underlying25
 cases a with
 | none=>
   have hn0:n=0:=by
    rcases Nat.eq_zero_or_pos n with h0 | h0
    ·exact h0
    ·obtain⟨_,_,h1,_⟩:=hc h0
     cases h1
   subst hn0
   replace hl:=hid hl
   replace hc:=hid hc
   replace h1:=hid h1
   go_enter Tryz.func31,Tryz.ntmps31
   go_wp2_with fail
   go_ret
   have e0:cs=[]:=List.eq_nil_of_length_eq_zero (by have:=hl.out; omega)
   exact⟨Below.refl _ _,_,_,rfl,Nat.le_refl _,by rw[e0]; exact World.ownsRow_nil _ _ _ _⟩
 | some x=>
   have hcn:∀ j u,cs[j]? =some u→(w.alloc (.cells #[] 64)).cell? (x.add j)=some u:=by
    intro j u hj
    have hjl:j<cs.length:=by
     rcases Nat.lt_or_ge j cs.length with h | h
     ·exact h
     ·simp[List.getElem?_eq_none h] at hj
    obtain⟨b,off,he,hb,hcc⟩:=hc (by omega)
    obtain rfl:x=⟨b,off,none⟩:=by simpa using he
    have ea:(⟨b,off,none⟩:Addr).add j=⟨b,off+j,none⟩:=by unfold Addr.add; split<;>simp_all
    rw[ea,World.cell?_alloc_past _ _ _ hb]
    exact hcc j u hj
   have A:=hid hcn
   have H1:=hid h1
   have Hl:=hid hl
   clear hcn hc h1 hl
   go_enter Tryz.func31,Tryz.ntmps31
   go_wp2_with (at_builtin; refine wpList_append_own _ rfl _ _ 25 rfl w.heap.size 64 i0 _ 3 40 Tryz.underlying25 hi hz0 hz1 hz2 rfl (by decide) _ _ _ rfl (World.ownsRow_made w #[] 0 (Nat.le_refl _) (Nat.zero_le _) (by simp)) x n c cs rfl ?qc1 ?qc2 ?qc3 ?qc4 ?qc5 ?qc6 ?_)
   case qc1=>exact Hl.out
   case qc2=>exact A.out
   case qc3=>exact H1.out
   case qc4=>unfold maxLen; omega
   case qc5=>omega
   case qc6=>simp
   intro v' w1 hown hgrow hnil
   have hown':w1.ownsRow w.heap.size 64 3 v' n cs:=by simpa using hown
   have hbel:=((Below.refl _ w).alloc (Nat.le_refl _) _).grown hgrow (by simp) (by intro k hk; simp[Value.ownBlock] at hk; omega)
   clear hown hgrow A hnil
   obtain⟨a', c', rfl,hnc⟩:∃ a' c', v'=.slice a' n c'∧n≤c':=by
    rcases hown'.2 with⟨hv,h0⟩ | ⟨g,cap,cur,hv,_,_,hnc,_⟩
    ·exact⟨none,0,by rw[hv,h0],by omega⟩
    ·exact⟨_,_,hv,hnc⟩
   replace hown':=hid hown'
   go_wp2_with fail
   go_ret
   exact⟨hbel,a', c', rfl,hnc,hown'.out⟩
end Go.Proofs.YtjafgnohlkkopaaGreatDoor
