import Derived.Test.YtjafgnohlkkopaaGreatDoorPart11
import Derived.Lib.SliceRun
import Derived.Laws.Externs
import Derived.Maps.AppendAt
set_option linter.unusedVariables false
set_option maxHeartbeats 8000000
set_option maxRecDepth 100000
namespace Go.Proofs.YtjafgnohlkkopaaGreatDoor
open Go.RowKit
theorem Tryz.infoE:(Tryz.prog.info? 106).map (fun i=>(i.zero,i.size,i.bytes))=some (some (.agg #[.string ⟨#[]⟩,.int .i64 0,.int .i64 0]),3,32):=by kernel_rfl
theorem mG (a:Option Addr)(n c:Nat)(cs:List Value)(w:World)(hn:n<=1000)(hl:cs.length=n*3)(h1:∀ v∈cs,v.oneCell'=true)
 (hc:0<n->∃ b off,a=some ⟨b,off,none⟩/\b<w.heap.size/\∀ j u,cs[j]? =some u->w.cell? ⟨b,off+j,none⟩=some u):
 Calls Tryz.prog 61 #[.slice a n c] w fun e w'=>
  Below w.heap.size w w'/\∃ a' c', e=.returned (.slice a' n c')/\n<=c'/\w'.ownsRow w.heap.size 106 3 (.slice a' n c') n cs:=by
 obtain⟨i0,hi,hz0,hz1,hz2⟩:=info_parts Tryz.infoE
 have qn:∀ (w:World) (a:Option Addr) (n c n' c':Nat),(binOp .eql 81 (.slice a n c) (.slice none n' c')).run Tryz.prog w=.ok (.bool a.isNone) w:=fun w a n c n' c'=>Lib.run_eql_slice_nil w _ _ a n c n' c' Tryz.underlying81
 cases a with
 | none=>
   have hn0:n=0:=by
    rcases Nat.eq_zero_or_pos n with h0 | h0
    ·exact h0
    ·obtain⟨_,_,h1,_⟩:=hc h0
     cases h1
   subst hn0
   replace hl:=hid hl
   replace hc:=hid hc
   replace h1:=hid h1
   go_enter Tryz.func61,Tryz.ntmps61
   go_wp2_with fail
   go_ret
   have e0:cs=[]:=List.eq_nil_of_length_eq_zero (by have:=hl.out; omega)
   exact⟨Below.refl _ _,_,_,rfl,Nat.le_refl _,by rw[e0]; exact World.ownsRow_nil _ _ _ _⟩
 | some x=>
   have hcn:∀ j u,cs[j]? =some u->(w.alloc (.cells #[] 106)).cell? (x.add j)=some u:=by
    intro j u hj
    have hjl:j<cs.length:=by
     rcases Nat.lt_or_ge j cs.length with h | h
     ·exact h
     ·simp[List.getElem?_eq_none h] at hj
    obtain⟨b,off,he,hb,hcc⟩:=hc (by omega)
    obtain rfl:x=⟨b,off,none⟩:=by simpa using he
    have ea:(⟨b,off,none⟩:Addr).add j=⟨b,off+j,none⟩:=by unfold Addr.add; split<;>simp_all
    rw[ea,World.cell?_alloc_past _ _ _ hb]
    exact hcc j u hj
   have A:=hid hcn
   have H1:=hid h1
   have Hl:=hid hl
   clear hcn hc h1 hl
   go_enter Tryz.func61,Tryz.ntmps61
   go_wp2_with (at_builtin; refine wpList_append_own _ rfl _ _ 81 rfl w.heap.size 106 i0 _ 3 32 Tryz.underlying81 hi hz0 hz1 hz2 rfl (by decide) _ _ _ rfl (World.ownsRow_made w #[] 0 (Nat.le_refl _) (Nat.zero_le _) (by simp)) x n c cs rfl ?qc1 ?qc2 ?qc3 ?qc4 ?qc5 ?qc6 ?_)
   case qc1=>exact Hl.out
   case qc2=>exact A.out
   case qc3=>exact H1.out
   case qc4=>unfold maxLen; omega
   case qc5=>omega
   case qc6=>simp
   intro v' w1 hown hgrow hnil
   have hown':w1.ownsRow w.heap.size 106 3 v' n cs:=by simpa using hown
   have hbel:=((Below.refl _ w).alloc (Nat.le_refl _) _).grown hgrow (by simp) (by intro k hk; simp[Value.ownBlock] at hk; omega)
   clear hown hgrow A hnil
   obtain⟨a', c', rfl,hnc⟩:∃ a' c', v'=.slice a' n c'/\n<=c':=by
    rcases hown'.2 with⟨hv,h0⟩ | ⟨g,cap,cur,hv,_,_,hnc,_⟩
    ·exact⟨none,0,by rw[hv,h0],by omega⟩
    ·exact⟨_,_,hv,hnc⟩
   replace hown':=hid hown'
   go_wp2_with fail
   go_ret
   exact⟨hbel,a', c', rfl,hnc,hown'.out⟩
theorem aX3 (g n cap i j:Nat)(cur:Array Value)(w:World)(hij:i<j)(hj:j<=n)(hnc:n<=cap)(hcm:cap<=maxLen)(hsz:cur.size=cap*3)(hg:aC w g cur 106)(hone:∀ v∈cur.toList.take (n*3),v.oneCell'=true):
 Calls Tryz.prog 151 #[.slice (some ⟨g,0,none⟩) n cap,.int .i64 i,.int .i64 j] w fun e w'=>
  e=.returned (.slice (some ⟨g,0,none⟩) (i+(n-j)) cap)/\Kept g w w'/\∃ cur':Array Value,aC w' g cur' 106/\cur'.size=cap*3/\cur'.toList.take ((i+(n-j))*3)=cur.toList.take (i*3)++(cur.toList.take (n*3)).drop (j*3):=by
 obtain⟨i0,hi0,hz0,hz1,hz2⟩:=info_parts Tryz.infoE
 obtain⟨news,hnews⟩:∃ news,news=(cur.toList.take (n*3)).drop (j*3):=⟨_,rfl⟩
 have hlen:news.length=(n-j)*3:=by
  rw[hnews,List.length_drop,List.length_take,Array.length_toList,hsz,Nat.sub_mul]
  omega
 have hcg:∀ t u,news[t]? =some u->w.drew.cell? ⟨g,j*3+t,none⟩=some u:=by
  intro t u hu
  have ht:t<news.length:=(List.getElem?_eq_some_iff.1 hu).1
  show w.cell? ⟨g,j*3+t,none⟩=some u
  rw[hg.cell,<-hu,hnews,List.getElem?_drop,List.getElem?_take,if_pos (by omega),Array.getElem?_toList]
 obtain⟨A,hA,hsrc⟩:∃ A:Addr,(if cap=j then some (⟨g,0,none⟩:Addr) else some ⟨g,j*3,none⟩)=some A/\Hid (∀ t u,news[t]? =some u->w.drew.cell? (A.add t)=some u):=by
  by_cases h:cap=j
  ·refine⟨⟨g,0,none⟩,by simp[h],fun t u hu=>?_⟩
   have h0:news.length=0:=by rw[hlen]; omega
   rw[List.length_eq_zero_iff.1 h0] at hu
   simp at hu
  ·refine⟨⟨g,j*3,none⟩,by simp[h],fun t u hu=>?_⟩
   rw[Addr.add_lit]
   exact hcg t u hu
 have s1:Hid (news.length=(n-j)*3):=hlen
 have s2:Hid (∀ u∈news,u.oneCell'=true):=by
  intro u hu
  rw[hnews] at hu
  exact hone u (List.mem_of_mem_drop hu)
 have s3:Hid (∀ t,t<news.length->(w.drew.cell? ⟨g,0+i*3+t,none⟩).isSome=true/\w.drew.frozen? ⟨g,0+i*3+t,none⟩=false):=by
  intro t ht
  rw[hlen] at ht
  refine⟨?_,hg.frozen _⟩
  show (w.cell? _).isSome=true
  rw[hg.cell,Array.getElem?_eq_getElem (by rw[hsz]; omega)]
  rfl
 have hfit:i*3+news.length<=cur.size:=by rw[hlen,hsz]; omega
 obtain⟨W1,hW1⟩:∃ W1,W1=w.drew.setCells g (0+i*3) news:=⟨_,rfl⟩
 have hk1:Kept g w W1:=by
  rw[hW1]
  exact(show Kept g w w.drew from⟨rfl,rfl,rfl,rfl,fun _ _=>rfl⟩).trans (jM g news _ _)
 have hc1:aC W1 g (aX cur (i*3) news) 106:=by
  rw[hW1,Nat.zero_add]
  exact jB news (i*3) w.drew cur hg hfit
 have hs1:(aX cur (i*3) news).size=cap*3:=by rw[dH hfit,hsz]
 have ht1:(aX cur (i*3) news).toList.take ((i+(n-j))*3)=cur.toList.take (i*3)++news:=by
  rw[<-dX hfit,hlen,Nat.add_mul]
 generalize aX cur (i*3) news=cur1 at *
 obtain⟨vs,hvl,hclr⟩:=lL (P:=Tryz.prog) W1 81 106 106 (.agg #[.string ⟨#[]⟩,.int .i64 0,.int .i64 0]) 3 g ((i+(n-j))*3) (n-(i+(n-j))) (cap-(i+(n-j))) cur1 Tryz.underlying81 (fun w=>by simp[Go.zeroValue,typeInfo,hi0,hz0]) rfl (by simp[Value.cells]; decide) (by omega) hc1 (by rw[hs1]; omega)
 have hfin:Hid (Kept g w (W1.setRow g (aX cur1 ((i+(n-j))*3) vs))/\∃ cur':Array Value,aC (W1.setRow g (aX cur1 ((i+(n-j))*3) vs)) g cur' 106/\cur'.size=cap*3/\cur'.toList.take ((i+(n-j))*3)=cur.toList.take (i*3)++(cur.toList.take (n*3)).drop (j*3)):=by
  have hf:(i+(n-j))*3+vs.length<=cur1.size:=by rw[hvl,hs1]; omega
  exact⟨hk1.trans (bN _ _ _),_,dD hc1,by rw[dH hf,hs1],by rw[tF hf (Nat.le_refl _),ht1,hnews]⟩
 have hW:Hid (W1=w.drew.setCells g (0+i*3) news):=hW1
 have hic:i<=cap:=by omega
 have hjc:j<=cap:=by omega
 have hin:i<=n:=by omega
 have hcm':cap<=9223372036854775807:=by unfold maxLen at hcm; omega
 clear hW1 hk1 hc1 hs1 ht1 hcg hfit hvl hlen hnews hsz hg hone hcm
 go_enter Tryz.func151,Tryz.ntmps151
 go_wp2_with fail
 go_region_law (refine step_append_room rfl (.tmp 22) (.tmp 25) 81 rfl 106 i0 3 Tryz.underlying81 hi0 hz1 g 0 i cap (by simp[Act.eval,Act.put]) A (n-j) (cap-j) news (by simp[Act.eval,Act.put]) s1.out hsrc.out s2.out (by omega) s3.out ?_; rw[<-hW.out])
 go_wp2
 go_ret
 exact⟨rfl,hfin.out⟩
theorem aV1 (sa:Option Addr)(n c vb m vc base:Nat)(cs vs:List Value)(w:World)(hm:0<m)(hn:n+m<=1000)(hs:w.ownsRow base 106 3 (.slice sa n c) n cs)(hb:base<=w.heap.size)(hvl:vs.length=m*3)
 (hvs:∀ j u,vs[j]? =some u->w.cell? ⟨vb,j,none⟩=some u) (h1:∀ v∈vs,v.oneCell'=true) (hcn:n<=c) (hc63:c<=maxLen):
 Calls Tryz.prog 149 #[.slice sa n c,.int .i64 n,.slice (some ⟨vb,0,none⟩) m vc] w fun e w'=>
  ∃ a' c', e=.returned (.slice a' (n+m) c')/\w'.ownsRow base 106 3 (.slice a' (n+m) c') (n+m) (cs++vs)/\w.grownBy w' (Value.slice sa n c).ownBlock/\((Value.slice a' (n+m) c').ownBlock=(Value.slice sa n c).ownBlock\/(Value.slice a' (n+m) c').ownBlock=some w.heap.size):=by
 obtain⟨i0,hi0,hz0,hz1,hz2⟩:=info_parts Tryz.infoE
 have hz:¬((m:Int)=0):=by omega
 have A:Hid (∀ j u,vs[j]? =some u->w.cell? ((⟨vb,0,none⟩:Addr).add j)=some u):=hid (fun j u hj=>by rw[Addr.add_lit,Nat.zero_add]; exact hvs j u hj)
 have H1:=hid h1
 have Hl:=hid hvl
 have Hs:=hid hs
 have hcm':c<=9223372036854775807:=by unfold maxLen at hc63; omega
 clear hvs h1 hvl hs hc63
 by_cases hcc:c=n
 ·subst hcc
  go_enter Tryz.func149,Tryz.ntmps149
  go_wp2_with (at_builtin; refine wpList_append_own_at _ rfl _ _ 81 rfl base 106 i0 _ 3 32 Tryz.underlying81 hi0 hz0 hz1 hz2 rfl (by decide) _ _ _ rfl Hs.out ⟨vb,0,none⟩ m vc vs rfl Hl.out A.out H1.out (by unfold maxLen; omega) (by omega) hb ?_)
  intro v' w1 hown hgrow hnil hat
  clear A hnil
  obtain⟨a', c', rfl⟩:∃ a' c', v'=.slice a' (c+m) c':=by
   rcases hown.2 with⟨hv,h0⟩ | ⟨g,cap,cur,hv,_⟩
   ·omega
   ·exact⟨_,_,hv⟩
  replace hown:=hid hown
  replace hgrow:=hid hgrow
  replace hat:=hid hat
  go_wp2_with fail
  go_ret
  exact⟨a', c', rfl,hown.out,hgrow.out,hat.out⟩
 ·go_enter Tryz.func149,Tryz.ntmps149
  go_wp2_with (at_builtin; refine wpList_append_own_at _ rfl _ _ 81 rfl base 106 i0 _ 3 32 Tryz.underlying81 hi0 hz0 hz1 hz2 rfl (by decide) _ _ _ rfl Hs.out ⟨vb,0,none⟩ m vc vs rfl Hl.out A.out H1.out (by unfold maxLen; omega) (by omega) hb ?_)
  intro v' w1 hown hgrow hnil hat
  clear A hnil
  obtain⟨a', c', rfl⟩:∃ a' c', v'=.slice a' (n+m) c':=by
   rcases hown.2 with⟨hv,h0⟩ | ⟨g,cap,cur,hv,_⟩
   ·omega
   ·exact⟨_,_,hv⟩
  replace hown:=hid hown
  replace hgrow:=hid hgrow
  replace hat:=hid hat
  go_wp2_with fail
  go_ret
  exact⟨a', c', rfl,hown.out,hgrow.out,hat.out⟩
theorem aC.shapeE {w:World}{g:Nat}{cs:Array Value}{t:TypeId}(h:aC w g cs t):w.shape? g=some (t,cs.size):=by
 unfold aC at h
 simp[World.shape?,h]
theorem aG3 (g n cap i vb m vc:Nat)(cur:Array Value)(vs:List Value)(vt:TypeId)(vcur:Array Value)(w:World)(hi:i<n)(hm:0<m)(hroom:n+m<=cap)(hcm:cap<=maxLen)(hvb:vb≠g)(hsz:cur.size=cap*3)(hg:aC w g cur 106)
 (hv:aC w vb vcur vt) (hvl:vs.length=m*3) (hvs:∀ j u,vs[j]? =some u->w.cell? ⟨vb,j,none⟩=some u) (h1c:∀ v∈cur.toList.take (n*3),v.oneCell'=true) (h1v:∀ v∈vs,v.oneCell'=true):
 Calls Tryz.prog 149 #[.slice (some ⟨g,0,none⟩) n cap,.int .i64 i,.slice (some ⟨vb,0,none⟩) m vc] w fun e w'=>
  e=.returned (.slice (some ⟨g,0,none⟩) (n+m) cap)/\Kept g w w'/\∃ cur':Array Value,aC w' g cur' 106/\cur'.size=cap*3/\cur'.toList.take ((n+m)*3)=cur.toList.take (i*3)++(vs++(cur.toList.take (n*3)).drop (i*3)):=by
 obtain⟨i0,hi0,hz0,hz1,hz2⟩:=info_parts Tryz.infoE
 have hzi:¬((m:Int)=0):=by omega
 have hz2':¬((i:Int)=(n:Int)):=by omega
 have hsize:(Tryz.prog.info? 106).map (·.size)=some 3:=by rw[hi0]; simp[hz1]
 have hzs:∀ w,(Go.sizeOf 106).run Tryz.prog w=.ok 3 w:=fun w=>by simp[Go.sizeOf,typeInfo,hi0,hz1]
 have hov:∀ lb cb,(callFunc 168 #[.slice (some ⟨vb,0,none⟩) m vc,.slice (some ⟨g,(i+m)*3,none⟩) lb cb]).run Tryz.prog w=.ok (.value (.bool false)) w:=fun lb cb=>by
  rw[run_callFunc_extern Tryz.func168 (by kernel_rfl) (by kernel_rfl) (by kernel_rfl) (e:=Extern.SlicesOverlaps.overlaps #[81,81] #[4]) (by kernel_rfl),
   Lib.run_overlaps_apart w 81 4 106 Tryz.underlying81 3 hzs ⟨vb,0,none⟩ ⟨g,(i+m)*3,none⟩ m vc lb cb hvb vt 106 vcur.size cur.size hv.shapeE hg.shapeE (by omega) (hv.frozen _) (hv.frozen _)]
  rfl
 obtain⟨tail,htail⟩:∃ tail,tail=(cur.toList.take (n*3)).drop (i*3):=⟨_,rfl⟩
 have htl:tail.length=(n-i)*3:=by
  rw[htail,List.length_drop,List.length_take,Array.length_toList,hsz,Nat.sub_mul]
  omega
 have hgd:aC w.drew g cur 106:=hg
 have hcp1:∀ ty dc sc,(Builtin.copy_ #[81,81] ty #[.slice (some ⟨g,(i+m)*3,none⟩) (n+m-(i+m)) dc,.slice (some ⟨g,i*3,none⟩) (n+m-i) sc]).run Tryz.prog w.drew=.ok (goInt ((n-i:Nat):Int)) (w.drew.setRow g (aX cur ((i+m)*3) tail)):=fun ty dc sc=>by
  have hmin:Nat.min (n+m-i) (n+m-(i+m))=n-i:=by simp only[Nat.min_def]; split<;>omega
  have:=dJ (P:=Tryz.prog) w.drew 81 81 ty 106 3 g ((i+m)*3) (n+m-(i+m)) dc ⟨g,i*3,none⟩ (n+m-i) sc cur 106 tail Tryz.underlying81 hsize hgd (by rw[hmin]; exact htl)
   (fun j v hj=>by
     have hjl:j<tail.length:=(List.getElem?_eq_some_iff.1 hj).1
     rw[Addr.add_lit,hgd.cell,<-hj,htail,List.getElem?_drop,List.getElem?_take,if_pos (by omega),Array.getElem?_toList])
   (by rw[htl,hsz]; omega) (fun v hv=>h1c v (List.mem_of_mem_drop (htail▸hv)))
  rw[hmin] at this
  exact this
 have hf1:(i+m)*3+tail.length<=cur.size:=by rw[htl,hsz]; omega
 have hc1:aC (w.drew.setRow g (aX cur ((i+m)*3) tail)) g (aX cur ((i+m)*3) tail) 106:=dD hgd
 have hk1:Kept g w (w.drew.setRow g (aX cur ((i+m)*3) tail)):=(show Kept g w w.drew from⟨rfl,rfl,rfl,rfl,fun _ _=>rfl⟩).trans (bN _ _ _)
 have hs1:(aX cur ((i+m)*3) tail).size=cap*3:=by rw[dH hf1,hsz]
 have ht1:(aX cur ((i+m)*3) tail).toList.take ((n+m)*3)=cur.toList.take ((i+m)*3)++tail:=by
  have:=dX hf1
  rw[htl,<-Nat.add_mul,show i+m+(n-i)=n+m by omega] at this
  exact this
 obtain⟨cur1,hcur1⟩:∃ cur1,cur1=aX cur ((i+m)*3) tail:=⟨_,rfl⟩
 rw[<-hcur1] at hcp1 hc1 hk1 hs1 ht1
 clear hcur1
 obtain⟨W1,hW1⟩:∃ W1,W1=w.drew.setRow g cur1:=⟨_,rfl⟩
 rw[<-hW1] at hcp1 hc1 hk1
 have hf2:i*3+vs.length<=cur1.size:=by rw[hvl,hs1]; omega
 have hcp2:∀ ty dc,(Builtin.copy_ #[81,81] ty #[.slice (some ⟨g,i*3,none⟩) (n+m-i) dc,.slice (some ⟨vb,0,none⟩) m vc]).run Tryz.prog W1=.ok (goInt m) (W1.setRow g (aX cur1 (i*3) vs)):=fun ty dc=>by
  have hmin:Nat.min m (n+m-i)=m:=by simp only[Nat.min_def]; split<;>omega
  have:=dJ (P:=Tryz.prog) W1 81 81 ty 106 3 g (i*3) (n+m-i) dc ⟨vb,0,none⟩ m vc cur1 106 vs Tryz.underlying81 hsize hc1 (by rw[hmin]; exact hvl)
   (fun j v hj=>by
     rw[Addr.add_lit,Nat.zero_add,hk1.cell (p:=⟨vb,j,none⟩) hvb]
     exact hvs j v hj)
   hf2 h1v
  rw[hmin] at this
  exact this
 have hfin:Hid (Kept g w (W1.setRow g (aX cur1 (i*3) vs))/\∃ cur':Array Value,aC (W1.setRow g (aX cur1 (i*3) vs)) g cur' 106/\cur'.size=cap*3/\cur'.toList.take ((n+m)*3)=cur.toList.take (i*3)++(vs++(cur.toList.take (n*3)).drop (i*3))):=by
  refine hid ⟨hk1.trans (bN _ _ _),_,dD hc1,by rw[dH hf2,hs1],?_⟩
  rw[lY,<-htail]
  have e1:cur1.toList.take (i*3)=cur.toList.take (i*3):=by
   have:=congrArg (List.take (i*3)) ht1
   rw[List.take_take,List.take_append_of_le_length (by rw[List.length_take,Array.length_toList,hsz]; omega),List.take_take] at this
   rw[show min (i*3) ((n+m)*3)=i*3 by omega,show min (i*3) ((i+m)*3)=i*3 by omega] at this
   exact this
  have e2:(cur1.toList.drop (i*3+vs.length)).take ((n-i)*3)=tail:=by
   have:=congrArg (List.drop ((i+m)*3)) ht1
   rw[List.drop_take,List.drop_left' (by rw[List.length_take,Array.length_toList,hsz]; omega)] at this
   rw[hvl,<-Nat.add_mul,<-this]
   congr 1
   rw[<-Nat.sub_mul]
   congr 1
   omega
  rw[e1,List.append_assoc,List.take_append,List.take_of_length_le (by rw[List.length_take,Array.length_toList,hsz]; omega)]
  congr 1
  rw[List.length_take,Array.length_toList,hsz,List.take_append,hvl,List.take_of_length_le (by rw[hvl]; omega)]
  congr 1
  rw[<-e2,hvl]
  congr 1
  omega
 have hW:Hid (W1=w.drew.setRow g cur1):=hW1
 have hw1:IntKind.i64.wrap ((i:Int)+(m:Int))=(i:Int)+(m:Int):=by rw[IntKind.wrap_i64]; unfold maxLen at hcm; omega
 have hb1:(0:Int)<=(i:Int)+(m:Int):=by omega
 have hin:i<=n:=by omega
 have htn:((i:Int)+(m:Int)).toNat=i+m:=by omega
 have hb2:¬(cap=i+m):=by omega
 have hb3:(i:Int)<=(n:Int)+(m:Int):=by omega
 have hb4:¬(cap=i):=by omega
 have hcm':cap<=9223372036854775807:=by unfold maxLen at hcm; omega
 clear hW1 hk1 hc1 hs1 ht1 hf1 hf2 htl htail hsz hg hgd h1c h1v hvs hv hvl hcm hsize hzs
 go_enter Tryz.func149,Tryz.ntmps149
 go_wp2_with (simp only[hov])
 go_region_law (refine fM rfl _ _ 81 81 rfl _ _ (by simp[Act.eval,Act.put]) (by simp[Act.eval,Act.put]) (hcp1 _ _ _) ?_)
 go_wp2_with (at_builtin; refine jI _ rfl _ _ 81 81 rfl _ _ rfl rfl (hcp2 _ _) ?_)
 go_ret
 exact⟨rfl,hfin.out⟩
theorem aN6 (g n cap i vb m vc:Nat)(cur:Array Value)(vs:List Value)(w:World)(hi:i<n)(hm:0<m)(hnc:n<=cap)(hroom:cap<n+m)(hnm:n+m<=1000)(hsz:cur.size=cap*3)(hg:aC w g cur 106)
 (hvw:vb<w.heap.size) (hvl:vs.length=m*3) (hvs:∀ j u,vs[j]? =some u->w.cell? ⟨vb,j,none⟩=some u) (h1c:∀ v∈cur.toList.take (n*3),v.oneCell'=true) (h1v:∀ v∈vs,v.oneCell'=true):
 Calls Tryz.prog 149 #[.slice (some ⟨g,0,none⟩) n cap,.int .i64 i,.slice (some ⟨vb,0,none⟩) m vc] w fun e w'=>
  ∃ G,e=.returned (.slice (some ⟨w.heap.size,0,none⟩) (n+m) G)/\Below w.heap.size w w'/\n+m<=G/\G<=maxLen/\∃ cur':Array Value,aC w' w.heap.size cur' 106/\cur'.size=G*3/\cur'.toList.take ((n+m)*3)=cur.toList.take (i*3)++(vs++(cur.toList.take (n*3)).drop (i*3)):=by
 obtain⟨i0,hi0,hz0,hz1,hz2⟩:=info_parts Tryz.infoE
 have hzi:¬((m:Int)=0):=by omega
 have hz2':¬((i:Int)=(n:Int)):=by omega
 have hz3:(cap:Int)<(n:Int)+(m:Int):=by omega
 have hsize:(Tryz.prog.info? 106).map (·.size)=some 3:=by rw[hi0]; simp[hz1]
 have hgw:=hg.lt
 have hik:i+(n+m-i)=n+m:=by omega
 have hold:(Builtin.firstCells i0.size i (.slice (some ⟨g,0,none⟩) i cap)).run Tryz.prog w.drew=.ok (cur.toList.take (i*3)).toArray w.drew:=by
  rw[hz1]
  have:=run_loadCells_list (P:=Tryz.prog) w.drew ⟨g,0,none⟩ (cur.toList.take (i*3)) (fun j v hj=>by
   have hjl:=(List.getElem?_eq_some_iff.1 hj).1
   rw[List.length_take] at hjl
   rw[Addr.add_lit,Nat.zero_add]
   show w.cell? ⟨g,j,none⟩=some v
   rw[hg.cell,<-hj,List.getElem?_take,if_pos (by omega),Array.getElem?_toList])
  rw[List.length_take,Array.length_toList,hsz,show min (i*3) (cap*3)=i*3 by omega] at this
  exact this
 have hrz:∀ ty,(Builtin.append_ #[81,3] ty #[.slice (some ⟨g,0,none⟩) i cap,.int .i64 ((n:Int)+(m:Int)-(i:Int))]).run Tryz.prog w=
  .ok (.slice (some ⟨w.heap.size,0,none⟩) (n+m) (grownCap w (n+m) cap 106)) (w.drew.alloc (.cells ((cur.toList.take (i*3)).toArray++Builtin.zeroCells (Value.cells (.agg #[.string ⟨#[]⟩,.int .i64 0,.int .i64 0])) (n+m-i)++Builtin.zeroCells (Value.cells (.agg #[.string ⟨#[]⟩,.int .i64 0,.int .i64 0])) (grownCap w (n+m) cap 106-(n+m))) 106)):=fun ty=>by
  have h:=Lib.run_append_grow_zeros w 81 3 ty 106 i0 (.agg #[.string ⟨#[]⟩,.int .i64 0,.int .i64 0]) .i64 .i64 Tryz.underlying81 Tryz.underlying3 hi0 hz0 (some ⟨g,0,none⟩) i cap (cur.toList.take (i*3)) hold (n+m-i) (by omega) (by omega) (by omega) (by omega) (by rw[hz2]; omega) (by rw[hz2,hik]; exact growslice_fits hroom (by omega))
  rw[hik] at h
  rw[show (n:Int)+(m:Int)-(i:Int)=((n+m-i:Nat):Int) by omega]
  exact h
 have hGn:n+m<=grownCap w (n+m) cap 106:=grownCap_ge w _ _ _
 have hG63:grownCap w (n+m) cap 106<=maxLen:=grownCap_le_maxLen w (n+m) cap 106 (by unfold maxLen; omega)
 generalize grownCap w (n+m) cap 106=G at *
 obtain⟨ROW,hROW⟩:∃ ROW:Array Value,ROW=(cur.toList.take (i*3)).toArray++Builtin.zeroCells (Value.cells (.agg #[.string ⟨#[]⟩,.int .i64 0,.int .i64 0])) (n+m-i)++Builtin.zeroCells (Value.cells (.agg #[.string ⟨#[]⟩,.int .i64 0,.int .i64 0])) (G-(n+m)):=⟨_,rfl⟩
 rw[<-hROW] at hrz
 have hz':(Value.cells (.agg #[.string ⟨#[]⟩,.int .i64 0,.int .i64 0])).size=3:=rfl
 have hRs:ROW.size=G*3:=by
  rw[hROW]
  simp only[Array.size_append,List.size_toArray,List.length_take,Array.length_toList,Builtin.zeroCells,Array.size_map,Array.size_range,hsz,hz']
  omega
 have hRt:ROW.toList.take (i*3)=cur.toList.take (i*3):=by
  rw[hROW]
  simp only[Array.toList_append,List.append_assoc]
  exact List.take_left' (by rw[List.length_take,Array.length_toList,hsz]; omega)
 clear hROW
 obtain⟨tail,htail⟩:∃ tail,tail=(cur.toList.take (n*3)).drop (i*3):=⟨_,rfl⟩
 have htl:tail.length=(n-i)*3:=by
  rw[htail,List.length_drop,List.length_take,Array.length_toList,hsz,Nat.sub_mul]
  omega
 obtain⟨H,hH⟩:∃ H,H=w.heap.size:=⟨_,rfl⟩
 rw[<-hH] at hrz hvw hgw ⊢
 have hf1:i*3+vs.length<=ROW.size:=by rw[hvl,hRs]; omega
 have hcpA:∀ (W:World),aC W H ROW 106->(∀ k,k<H->W.heap[k]? =w.heap[k]?)->∀ ty dc,(Builtin.copy_ #[81,81] ty #[.slice (some ⟨H,i*3,none⟩) (n+m-i) dc,.slice (some ⟨vb,0,none⟩) m vc]).run Tryz.prog W=.ok (goInt (m:Int)) (W.setRow H (aX ROW (i*3) vs)):=fun W hW hWb ty dc=>by
  have hmin:Nat.min m (n+m-i)=m:=by simp only[Nat.min_def]; split<;>omega
  have:=dJ (P:=Tryz.prog) W 81 81 ty 106 3 H (i*3) (n+m-i) dc ⟨vb,0,none⟩ m vc ROW 106 vs Tryz.underlying81 hsize hW (by rw[hmin]; exact hvl)
   (fun j v hj=>by
     rw[Addr.add_lit,Nat.zero_add,World.cell?_of_block (w:=w) (hWb vb hvw)]
     exact hvs j v hj)
   hf1 h1v
  rw[hmin] at this
  exact this
 have hRs1:(aX ROW (i*3) vs).size=G*3:=by rw[dH hf1,hRs]
 have hRt1:(aX ROW (i*3) vs).toList.take ((i+m)*3)=cur.toList.take (i*3)++vs:=by
  have:=dX hf1
  rw[hvl,<-Nat.add_mul,hRt] at this
  exact this
 obtain⟨R1,hR1⟩:∃ R1,R1=aX ROW (i*3) vs:=⟨_,rfl⟩
 rw[<-hR1] at hcpA hRs1 hRt1
 clear hR1
 have hf2:(i+m)*3+tail.length<=R1.size:=by rw[htl,hRs1]; omega
 have hcpB:∀ (W:World),aC W H R1 106->(∀ k,k<H->W.heap[k]? =w.heap[k]?)->∀ ty dc sc,(Builtin.copy_ #[81,81] ty #[.slice (some ⟨H,(i+m)*3,none⟩) (n+m-(i+m)) dc,.slice (some ⟨g,i*3,none⟩) (n-i) sc]).run Tryz.prog W=.ok (goInt ((n-i:Nat):Int)) (W.setRow H (aX R1 ((i+m)*3) tail)):=fun W hW hWb ty dc sc=>by
  have hmin:Nat.min (n-i) (n+m-(i+m))=n-i:=by simp only[Nat.min_def]; split<;>omega
  have:=dJ (P:=Tryz.prog) W 81 81 ty 106 3 H ((i+m)*3) (n+m-(i+m)) dc ⟨g,i*3,none⟩ (n-i) sc R1 106 tail Tryz.underlying81 hsize hW (by rw[hmin]; exact htl)
   (fun j v hj=>by
     have hjl:j<tail.length:=(List.getElem?_eq_some_iff.1 hj).1
     rw[Addr.add_lit,World.cell?_of_block (w:=w) (hWb g hgw),hg.cell,<-hj,htail,List.getElem?_drop,List.getElem?_take,if_pos (by omega),Array.getElem?_toList])
   hf2 (fun v hv=>h1c v (List.mem_of_mem_drop (htail▸hv)))
  rw[hmin] at this
  exact this
 have hRs2:(aX R1 ((i+m)*3) tail).size=G*3:=by rw[dH hf2,hRs1]
 have hRt2:(aX R1 ((i+m)*3) tail).toList.take ((n+m)*3)=cur.toList.take (i*3)++(vs++(cur.toList.take (n*3)).drop (i*3)):=by
  have:=dX hf2
  rw[htl,<-Nat.add_mul,show i+m+(n-i)=n+m by omega,hRt1] at this
  rw[this,htail,List.append_assoc]
 have kA:aC (w.alloc (.cells ROW 106)).drew H ROW 106:=by rw[hH]; exact aB w _ _
 have bA:∀ k,k<H->(w.alloc (.cells ROW 106)).drew.heap[k]? =w.heap[k]? :=fun k hk=>(aA w (.cells ROW 106)).block k (hH▸hk)
 have kB:aC ((w.alloc (.cells ROW 106)).drew.setRow H R1).drew H R1 106:=dD kA
 have bB:∀ k,k<H->((w.alloc (.cells ROW 106)).drew.setRow H R1).drew.heap[k]? =w.heap[k]? :=fun k hk=>((bN _ _ _).block k (by omega)).trans (bA k hk)
 have hfin:∀ w', w'.heap=(((w.alloc (.cells ROW 106)).drew.setRow H R1).drew.setRow H (aX R1 ((i+m)*3) tail)).heap->w'.os=w.os->w'.tape=w.tape->w'.output=w.output->Below H w w'/\∃ cur':Array Value,aC w' H cur' 106/\cur'.size=G*3/\cur'.toList.take ((n+m)*3)=cur.toList.take (i*3)++(vs++(cur.toList.take (n*3)).drop (i*3)):=by
  intro w' hw e1 e2 e3
  have kC:aC (((w.alloc (.cells ROW 106)).drew.setRow H R1).drew.setRow H (aX R1 ((i+m)*3) tail)) H (aX R1 ((i+m)*3) tail) 106:=dD kB
  refine⟨⟨e1,e2,e3,?_,fun k hk=>?_⟩,_,(by unfold aC at kC ⊢; rw[hw]; exact kC),hRs2,hRt2⟩
  ·rw[hw,(bN _ _ _).size]
   show w.heap.size<=((w.alloc (.cells ROW 106)).drew.setRow H R1).heap.size
   rw[(bN _ _ _).size]
   show w.heap.size<=(w.alloc (.cells ROW 106)).heap.size
   simp
  ·rw[hw,(bN _ _ _).block k (by omega)]
   exact bB k hk
 replace hfin:=hid hfin
 have hw1:IntKind.i64.wrap ((i:Int)+(m:Int))=(i:Int)+(m:Int):=by rw[IntKind.wrap_i64]; omega
 have hb1:(0:Int)<=(i:Int)+(m:Int):=by omega
 have hin:i<=n:=by omega
 have htn:((i:Int)+(m:Int)).toNat=i+m:=by omega
 have hb3:(i:Int)<=(n:Int):=by omega
 have hGi:¬(G=i):=by omega
 have hGim:¬(G=i+m):=by omega
 have hci:¬(cap=i):=by omega
 have hG63':G<=9223372036854775807:=by unfold maxLen at hG63; omega
 have hcap':cap<=9223372036854775807:=by omega
 clear hold hRs hRt hRs1 hRt1 hRs2 hRt2 hf1 hf2 htl htail hsz hg h1c h1v hvs hvl hsize
 replace hH:=hid hH
 have hA1:=fun ty dc=>hcpA _ kA bA ty dc
 have hB1:=fun ty dc sc=>hcpB _ kB bB ty dc sc
 clear hcpA hcpB kA bA kB bB
 go_enter Tryz.func149,Tryz.ntmps149
 go_wp2_with (at_builtin; refine Lib.wpList_append_run _ rfl _ _ _ _ rfl _ _ rfl rfl _ _ (hrz _) ?_)
 go_region_law (refine fM rfl _ _ 81 81 rfl _ _ (by simp[Act.eval,Act.put]) (by simp[Act.eval,Act.put]) (hB1 _ _ _) ?_)
 go_wp2
 go_ret
 exact⟨G,rfl,(hfin.out _ rfl rfl rfl rfl).1,hGn,hG63,(hfin.out _ rfl rfl rfl rfl).2⟩
theorem aV2 (sa:Option Addr)(n c i vb m vc base:Nat)(cs vs:List Value)(vt:TypeId)(w:World)(hi:i<=n)(hm:0<m)(hn:n+m<=1000)(hs:w.ownsRow base 106 3 (.slice sa n c) n cs)(hb:base<=w.heap.size)
 (hv:aC w vb vs.toArray vt) (hvl:vs.length=m*3) (hvb:(Value.slice sa n c).ownBlock≠some vb) (h1c:∀ v∈cs,v.oneCell'=true) (h1v:∀ v∈vs,v.oneCell'=true):
 Calls Tryz.prog 149 #[.slice sa n c,.int .i64 i,.slice (some ⟨vb,0,none⟩) m vc] w fun e w'=>
  ∃ a' c', e=.returned (.slice a' (n+m) c')/\w'.ownsRow base 106 3 (.slice a' (n+m) c') (n+m) (cs.take (i*3)++(vs++cs.drop (i*3)))/\Only (fun b=>(Value.slice sa n c).ownBlock=some b) w w'/\((Value.slice a' (n+m) c').ownBlock=(Value.slice sa n c).ownBlock\/(Value.slice a' (n+m) c').ownBlock=some w.heap.size):=by
 have hvs:∀ j u,vs[j]? =some u->w.cell? ⟨vb,j,none⟩=some u:=fun j u hj=>by rw[hv.cell]; simpa using hj
 have hcl:=hs.1
 by_cases e:i=n
 ·subst e
  have hcc:i<=c/\c<=maxLen:=by
   rcases hs.2 with⟨h0,h1⟩ | ⟨g,cap,cur,h0,_,_,h1,h2,_⟩
   ·simp only[Value.slice.injEq] at h0
    unfold maxLen
    omega
   ·simp only[Value.slice.injEq] at h0
    omega
  refine(aV1 sa i c vb m vc base cs vs w hm hn hs hb hvl hvs h1v hcc.1 hcc.2).mono ?_
  rintro e w' ⟨a', c', rfl,ho,hg,hat⟩
  refine⟨a', c', rfl,?_,sV hg (fun k hk=>hk),hat⟩
  rw[List.take_of_length_le (by omega),List.drop_of_length_le (by omega),List.append_nil]
  exact ho
 ·have hin:i<n:=by omega
  rcases hs.2 with⟨h0,h1⟩ | ⟨g,cap,cur,h0,hbg,hg,hnc,hcm,hsz,hcur⟩
  ·omega
  simp only[Value.slice.injEq,true_and] at h0
  obtain⟨rfl,rfl⟩:=h0
  have hvg:vb≠g:=fun e=>hvb (by rw[e]; rfl)
  have h1c':∀ v∈cur.toList.take (n*3),v.oneCell'=true:=by rw[hcur]; exact h1c
  have hti:cur.toList.take (i*3)=cs.take (i*3):=by rw[<-hcur,List.take_take,show min (i*3) (n*3)=i*3 by omega]
  by_cases hroom:n+m<=c
  ·refine(aG3 g n c i vb m vc cur vs vt vs.toArray w hin hm hroom hcm hvg hsz hg hv hvl hvs h1c' h1v).mono ?_
   rintro e w' ⟨rfl,hk,cur', hc', hs', ht'⟩
   rw[hcur,hti] at ht'
   refine⟨_,_,rfl,⟨by simp[hvl,hcl]; omega,.inr ⟨g,c,cur', rfl,hbg,hc', hroom,hcm,hs', ht'⟩⟩,Only.of_kept hk rfl,.inl rfl⟩
  ·refine(aN6 g n c i vb m vc cur vs w hin hm hnc (by omega) hn hsz hg hv.lt hvl hvs h1c' h1v).mono ?_
   rintro e w' ⟨G,rfl,hbel,hG1,hG2,cur', hc', hs', ht'⟩
   rw[hcur,hti] at ht'
   refine⟨_,_,rfl,⟨by simp[hvl,hcl]; omega,.inr ⟨w.heap.size,G,cur', rfl,hb,hc', hG1,hG2,hs', ht'⟩⟩,Only.of_below hbel,.inr rfl⟩
theorem yK (sa:Option Addr)(n c i base:Nat)(cs:List Value)(w:World)(hi:i<n)(hs:w.ownsRow base 106 3 (.slice sa n c) n cs)(h1c:∀ v∈cs,v.oneCell'=true):
 Calls Tryz.prog 151 #[.slice sa n c,.int .i64 i,.int .i64 ((i:Int)+1)] w fun e w'=>
  e=.returned (.slice sa (n-1) c)/\w'.ownsRow base 106 3 (.slice sa (n-1) c) (n-1) (cs.take (i*3)++cs.drop ((i+1)*3))/\Only (fun b=>(Value.slice sa n c).ownBlock=some b) w w':=by
 have hcl:=hs.1
 rcases hs.2 with⟨h0,h1⟩ | ⟨g,cap,cur,h0,hbg,hg,hnc,hcm,hsz,hcur⟩
 ·omega
 simp only[Value.slice.injEq,true_and] at h0
 obtain⟨rfl,rfl⟩:=h0
 have hti:cur.toList.take (i*3)=cs.take (i*3):=by rw[<-hcur,List.take_take,show min (i*3) (n*3)=i*3 by omega]
 refine(aX3 g n c i (i+1) cur w (by omega) (by omega) hnc hcm hsz hg (by rw[hcur]; exact h1c)).mono ?_
 rintro e w' ⟨rfl,hk,cur', hc', hs', ht'⟩
 rw[hcur,hti,show i+(n-(i+1))=n-1 by omega] at ht'
 refine⟨by rw[show i+(n-(i+1))=n-1 by omega],⟨by simp[hcl]; omega,.inr ⟨g,c,cur', rfl,hbg,hc', by omega,hcm,hs', ht'⟩⟩,Only.of_kept hk rfl⟩
end Go.Proofs.YtjafgnohlkkopaaGreatDoor
