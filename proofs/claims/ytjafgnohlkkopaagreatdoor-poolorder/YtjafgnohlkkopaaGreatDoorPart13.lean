import Derived.Test.YtjafgnohlkkopaaGreatDoorPart12
import Derived.Lib.SliceRun
import Derived.Laws.Externs
import Derived.Maps.AppendAt
import Derived.Test.YtjafgnohlkkopaaGreatDoorPart09
import Derived.Test.YtjafgnohlkkopaaGreatDoorPart04
set_option linter.unusedVariables false
set_option maxHeartbeats 8000000
set_option maxRecDepth 100000
namespace Go.Proofs.YtjafgnohlkkopaaGreatDoor
open Go.RowKit
theorem Tryz.infoS:(Tryz.prog.info? 113).map (fun i=>(i.zero,i.size,i.bytes))=some (some (.agg #[.string ⟨#[]⟩,.slice none 0 0]),2,40):=by kernel_rfl
theorem bJ9 (a:Option Addr)(n c:Nat)(cs:List Value)(w:World)(hn:n<=1000)(hl:cs.length=n*2)(h1:∀ v∈cs,v.oneCell'=true)
 (hc:0<n->∃ b off,a=some ⟨b,off,none⟩/\b<w.heap.size/\∀ j u,cs[j]? =some u->w.cell? ⟨b,off+j,none⟩=some u):
 Calls Tryz.prog 62 #[.slice a n c] w fun e w'=>
  Below w.heap.size w w'/\∃ a' c', e=.returned (.slice a' n c')/\n<=c'/\w'.ownsRow w.heap.size 113 2 (.slice a' n c') n cs:=by
 obtain⟨i0,hi,hz0,hz1,hz2⟩:=info_parts Tryz.infoS
 have qn:∀ (w:World) (a:Option Addr) (n c n' c':Nat),(binOp .eql 82 (.slice a n c) (.slice none n' c')).run Tryz.prog w=.ok (.bool a.isNone) w:=fun w a n c n' c'=>Lib.run_eql_slice_nil w _ _ a n c n' c' Tryz.underlying82
 cases a with
 | none=>
   have hn0:n=0:=by
    rcases Nat.eq_zero_or_pos n with h0 | h0
    ·exact h0
    ·obtain⟨_,_,h1,_⟩:=hc h0
     cases h1
   subst hn0
   replace hl:=hid hl
   replace hc:=hid hc
   replace h1:=hid h1
   go_enter Tryz.func62,Tryz.ntmps62
   go_wp2_with fail
   go_ret
   have e0:cs=[]:=List.eq_nil_of_length_eq_zero (by have:=hl.out; omega)
   exact⟨Below.refl _ _,_,_,rfl,Nat.le_refl _,by rw[e0]; exact World.ownsRow_nil _ _ _ _⟩
 | some x=>
   have hcn:∀ j u,cs[j]? =some u->(w.alloc (.cells #[] 113)).cell? (x.add j)=some u:=by
    intro j u hj
    have hjl:j<cs.length:=by
     rcases Nat.lt_or_ge j cs.length with h | h
     ·exact h
     ·simp[List.getElem?_eq_none h] at hj
    obtain⟨b,off,he,hb,hcc⟩:=hc (by omega)
    obtain rfl:x=⟨b,off,none⟩:=by simpa using he
    have ea:(⟨b,off,none⟩:Addr).add j=⟨b,off+j,none⟩:=by unfold Addr.add; split<;>simp_all
    rw[ea,World.cell?_alloc_past _ _ _ hb]
    exact hcc j u hj
   have A:=hid hcn
   have H1:=hid h1
   have Hl:=hid hl
   clear hcn hc h1 hl
   go_enter Tryz.func62,Tryz.ntmps62
   go_wp2_with (at_builtin; refine wpList_append_own _ rfl _ _ 82 rfl w.heap.size 113 i0 _ 2 40 Tryz.underlying82 hi hz0 hz1 hz2 rfl (by decide) _ _ _ rfl (World.ownsRow_made w #[] 0 (Nat.le_refl _) (Nat.zero_le _) (by simp)) x n c cs rfl ?qc1 ?qc2 ?qc3 ?qc4 ?qc5 ?qc6 ?_)
   case qc1=>exact Hl.out
   case qc2=>exact A.out
   case qc3=>exact H1.out
   case qc4=>unfold maxLen; omega
   case qc5=>omega
   case qc6=>simp
   intro v' w1 hown hgrow hnil
   have hown':w1.ownsRow w.heap.size 113 2 v' n cs:=by simpa using hown
   have hbel:=((Below.refl _ w).alloc (Nat.le_refl _) _).grown hgrow (by simp) (by intro k hk; simp[Value.ownBlock] at hk; omega)
   clear hown hgrow A hnil
   obtain⟨a', c', rfl,hnc⟩:∃ a' c', v'=.slice a' n c'/\n<=c':=by
    rcases hown'.2 with⟨hv,h0⟩ | ⟨g,cap,cur,hv,_,_,hnc,_⟩
    ·exact⟨none,0,by rw[hv,h0],by omega⟩
    ·exact⟨_,_,hv,hnc⟩
   replace hown':=hid hown'
   go_wp2_with fail
   go_ret
   exact⟨hbel,a', c', rfl,hnc,hown'.out⟩
theorem aX2 (g n cap i j:Nat)(cur:Array Value)(w:World)(hij:i<j)(hj:j<=n)(hnc:n<=cap)(hcm:cap<=maxLen)(hsz:cur.size=cap*2)(hg:aC w g cur 113)(hone:∀ v∈cur.toList.take (n*2),v.oneCell'=true):
 Calls Tryz.prog 154 #[.slice (some ⟨g,0,none⟩) n cap,.int .i64 i,.int .i64 j] w fun e w'=>
  e=.returned (.slice (some ⟨g,0,none⟩) (i+(n-j)) cap)/\Kept g w w'/\∃ cur':Array Value,aC w' g cur' 113/\cur'.size=cap*2/\cur'.toList.take ((i+(n-j))*2)=cur.toList.take (i*2)++(cur.toList.take (n*2)).drop (j*2):=by
 obtain⟨i0,hi0,hz0,hz1,hz2⟩:=info_parts Tryz.infoS
 obtain⟨news,hnews⟩:∃ news,news=(cur.toList.take (n*2)).drop (j*2):=⟨_,rfl⟩
 have hlen:news.length=(n-j)*2:=by
  rw[hnews,List.length_drop,List.length_take,Array.length_toList,hsz,Nat.sub_mul]
  omega
 have hcg:∀ t u,news[t]? =some u->w.drew.cell? ⟨g,j*2+t,none⟩=some u:=by
  intro t u hu
  have ht:t<news.length:=(List.getElem?_eq_some_iff.1 hu).1
  show w.cell? ⟨g,j*2+t,none⟩=some u
  rw[hg.cell,<-hu,hnews,List.getElem?_drop,List.getElem?_take,if_pos (by omega),Array.getElem?_toList]
 obtain⟨A,hA,hsrc⟩:∃ A:Addr,(if cap=j then some (⟨g,0,none⟩:Addr) else some ⟨g,j*2,none⟩)=some A/\Hid (∀ t u,news[t]? =some u->w.drew.cell? (A.add t)=some u):=by
  by_cases h:cap=j
  ·refine⟨⟨g,0,none⟩,by simp[h],fun t u hu=>?_⟩
   have h0:news.length=0:=by rw[hlen]; omega
   rw[List.length_eq_zero_iff.1 h0] at hu
   simp at hu
  ·refine⟨⟨g,j*2,none⟩,by simp[h],fun t u hu=>?_⟩
   rw[Addr.add_lit]
   exact hcg t u hu
 have s1:Hid (news.length=(n-j)*2):=hlen
 have s2:Hid (∀ u∈news,u.oneCell'=true):=by
  intro u hu
  rw[hnews] at hu
  exact hone u (List.mem_of_mem_drop hu)
 have s3:Hid (∀ t,t<news.length->(w.drew.cell? ⟨g,0+i*2+t,none⟩).isSome=true/\w.drew.frozen? ⟨g,0+i*2+t,none⟩=false):=by
  intro t ht
  rw[hlen] at ht
  refine⟨?_,hg.frozen _⟩
  show (w.cell? _).isSome=true
  rw[hg.cell,Array.getElem?_eq_getElem (by rw[hsz]; omega)]
  rfl
 have hfit:i*2+news.length<=cur.size:=by rw[hlen,hsz]; omega
 obtain⟨W1,hW1⟩:∃ W1,W1=w.drew.setCells g (0+i*2) news:=⟨_,rfl⟩
 have hk1:Kept g w W1:=by
  rw[hW1]
  exact(show Kept g w w.drew from⟨rfl,rfl,rfl,rfl,fun _ _=>rfl⟩).trans (jM g news _ _)
 have hc1:aC W1 g (aX cur (i*2) news) 113:=by
  rw[hW1,Nat.zero_add]
  exact jB news (i*2) w.drew cur hg hfit
 have hs1:(aX cur (i*2) news).size=cap*2:=by rw[dH hfit,hsz]
 have ht1:(aX cur (i*2) news).toList.take ((i+(n-j))*2)=cur.toList.take (i*2)++news:=by
  rw[<-dX hfit,hlen,Nat.add_mul]
 generalize aX cur (i*2) news=cur1 at *
 obtain⟨vs,hvl,hclr⟩:=lL (P:=Tryz.prog) W1 82 113 113 (.agg #[.string ⟨#[]⟩,.slice none 0 0]) 2 g ((i+(n-j))*2) (n-(i+(n-j))) (cap-(i+(n-j))) cur1 Tryz.underlying82 (fun w=>by simp[Go.zeroValue,typeInfo,hi0,hz0]) rfl (by simp[Value.cells]; decide) (by omega) hc1 (by rw[hs1]; omega)
 have hfin:Hid (Kept g w (W1.setRow g (aX cur1 ((i+(n-j))*2) vs))/\∃ cur':Array Value,aC (W1.setRow g (aX cur1 ((i+(n-j))*2) vs)) g cur' 113/\cur'.size=cap*2/\cur'.toList.take ((i+(n-j))*2)=cur.toList.take (i*2)++(cur.toList.take (n*2)).drop (j*2)):=by
  have hf:(i+(n-j))*2+vs.length<=cur1.size:=by rw[hvl,hs1]; omega
  exact⟨hk1.trans (bN _ _ _),_,dD hc1,by rw[dH hf,hs1],by rw[tF hf (Nat.le_refl _),ht1,hnews]⟩
 have hW:Hid (W1=w.drew.setCells g (0+i*2) news):=hW1
 have hic:i<=cap:=by omega
 have hjc:j<=cap:=by omega
 have hin:i<=n:=by omega
 have hcm':cap<=9223372036854775807:=by unfold maxLen at hcm; omega
 clear hW1 hk1 hc1 hs1 ht1 hcg hfit hvl hlen hnews hsz hg hone hcm
 go_enter Tryz.func154,Tryz.ntmps154
 go_wp2_with fail
 go_region_law (refine step_append_room rfl (.tmp 22) (.tmp 25) 82 rfl 113 i0 2 Tryz.underlying82 hi0 hz1 g 0 i cap (by simp[Act.eval,Act.put]) A (n-j) (cap-j) news (by simp[Act.eval,Act.put]) s1.out hsrc.out s2.out (by omega) s3.out ?_; rw[<-hW.out])
 go_wp2
 go_ret
 exact⟨rfl,hfin.out⟩
theorem aU9 (sa:Option Addr)(n c vb m vc base:Nat)(cs vs:List Value)(w:World)(hm:0<m)(hn:n+m<=1000)(hs:w.ownsRow base 113 2 (.slice sa n c) n cs)(hb:base<=w.heap.size)(hvl:vs.length=m*2)
 (hvs:∀ j u,vs[j]? =some u->w.cell? ⟨vb,j,none⟩=some u) (h1:∀ v∈vs,v.oneCell'=true) (hcn:n<=c) (hc63:c<=maxLen):
 Calls Tryz.prog 152 #[.slice sa n c,.int .i64 n,.slice (some ⟨vb,0,none⟩) m vc] w fun e w'=>
  ∃ a' c', e=.returned (.slice a' (n+m) c')/\w'.ownsRow base 113 2 (.slice a' (n+m) c') (n+m) (cs++vs)/\w.grownBy w' (Value.slice sa n c).ownBlock/\((Value.slice a' (n+m) c').ownBlock=(Value.slice sa n c).ownBlock\/(Value.slice a' (n+m) c').ownBlock=some w.heap.size):=by
 obtain⟨i0,hi0,hz0,hz1,hz2⟩:=info_parts Tryz.infoS
 have hz:¬((m:Int)=0):=by omega
 have A:Hid (∀ j u,vs[j]? =some u->w.cell? ((⟨vb,0,none⟩:Addr).add j)=some u):=hid (fun j u hj=>by rw[Addr.add_lit,Nat.zero_add]; exact hvs j u hj)
 have H1:=hid h1
 have Hl:=hid hvl
 have Hs:=hid hs
 have hcm':c<=9223372036854775807:=by unfold maxLen at hc63; omega
 clear hvs h1 hvl hs hc63
 by_cases hcc:c=n
 ·subst hcc
  go_enter Tryz.func152,Tryz.ntmps152
  go_wp2_with (at_builtin; refine wpList_append_own_at _ rfl _ _ 82 rfl base 113 i0 _ 2 40 Tryz.underlying82 hi0 hz0 hz1 hz2 rfl (by decide) _ _ _ rfl Hs.out ⟨vb,0,none⟩ m vc vs rfl Hl.out A.out H1.out (by unfold maxLen; omega) (by omega) hb ?_)
  intro v' w1 hown hgrow hnil hat
  clear A hnil
  obtain⟨a', c', rfl⟩:∃ a' c', v'=.slice a' (c+m) c':=by
   rcases hown.2 with⟨hv,h0⟩ | ⟨g,cap,cur,hv,_⟩
   ·omega
   ·exact⟨_,_,hv⟩
  replace hown:=hid hown
  replace hgrow:=hid hgrow
  replace hat:=hid hat
  go_wp2_with fail
  go_ret
  exact⟨a', c', rfl,hown.out,hgrow.out,hat.out⟩
 ·go_enter Tryz.func152,Tryz.ntmps152
  go_wp2_with (at_builtin; refine wpList_append_own_at _ rfl _ _ 82 rfl base 113 i0 _ 2 40 Tryz.underlying82 hi0 hz0 hz1 hz2 rfl (by decide) _ _ _ rfl Hs.out ⟨vb,0,none⟩ m vc vs rfl Hl.out A.out H1.out (by unfold maxLen; omega) (by omega) hb ?_)
  intro v' w1 hown hgrow hnil hat
  clear A hnil
  obtain⟨a', c', rfl⟩:∃ a' c', v'=.slice a' (n+m) c':=by
   rcases hown.2 with⟨hv,h0⟩ | ⟨g,cap,cur,hv,_⟩
   ·omega
   ·exact⟨_,_,hv⟩
  replace hown:=hid hown
  replace hgrow:=hid hgrow
  replace hat:=hid hat
  go_wp2_with fail
  go_ret
  exact⟨a', c', rfl,hown.out,hgrow.out,hat.out⟩
theorem aC.shapeS {w:World}{g:Nat}{cs:Array Value}{t:TypeId}(h:aC w g cs t):w.shape? g=some (t,cs.size):=by
 unfold aC at h
 simp[World.shape?,h]
theorem aG2 (g n cap i vb m vc:Nat)(cur:Array Value)(vs:List Value)(vt:TypeId)(vcur:Array Value)(w:World)(hi:i<n)(hm:0<m)(hroom:n+m<=cap)(hcm:cap<=maxLen)(hvb:vb≠g)(hsz:cur.size=cap*2)(hg:aC w g cur 113)
 (hv:aC w vb vcur vt) (hvl:vs.length=m*2) (hvs:∀ j u,vs[j]? =some u->w.cell? ⟨vb,j,none⟩=some u) (h1c:∀ v∈cur.toList.take (n*2),v.oneCell'=true) (h1v:∀ v∈vs,v.oneCell'=true):
 Calls Tryz.prog 152 #[.slice (some ⟨g,0,none⟩) n cap,.int .i64 i,.slice (some ⟨vb,0,none⟩) m vc] w fun e w'=>
  e=.returned (.slice (some ⟨g,0,none⟩) (n+m) cap)/\Kept g w w'/\∃ cur':Array Value,aC w' g cur' 113/\cur'.size=cap*2/\cur'.toList.take ((n+m)*2)=cur.toList.take (i*2)++(vs++(cur.toList.take (n*2)).drop (i*2)):=by
 obtain⟨i0,hi0,hz0,hz1,hz2⟩:=info_parts Tryz.infoS
 have hzi:¬((m:Int)=0):=by omega
 have hz2':¬((i:Int)=(n:Int)):=by omega
 have hsize:(Tryz.prog.info? 113).map (·.size)=some 2:=by rw[hi0]; simp[hz1]
 have hzs:∀ w,(Go.sizeOf 113).run Tryz.prog w=.ok 2 w:=fun w=>by simp[Go.sizeOf,typeInfo,hi0,hz1]
 have hov:∀ lb cb,(callFunc 170 #[.slice (some ⟨vb,0,none⟩) m vc,.slice (some ⟨g,(i+m)*2,none⟩) lb cb]).run Tryz.prog w=.ok (.value (.bool false)) w:=fun lb cb=>by
  rw[run_callFunc_extern Tryz.func170 (by kernel_rfl) (by kernel_rfl) (by kernel_rfl) (e:=Extern.SlicesOverlaps.overlaps #[82,82] #[4]) (by kernel_rfl),
   Lib.run_overlaps_apart w 82 4 113 Tryz.underlying82 2 hzs ⟨vb,0,none⟩ ⟨g,(i+m)*2,none⟩ m vc lb cb hvb vt 113 vcur.size cur.size hv.shapeS hg.shapeS (by omega) (hv.frozen _) (hv.frozen _)]
  rfl
 obtain⟨tail,htail⟩:∃ tail,tail=(cur.toList.take (n*2)).drop (i*2):=⟨_,rfl⟩
 have htl:tail.length=(n-i)*2:=by
  rw[htail,List.length_drop,List.length_take,Array.length_toList,hsz,Nat.sub_mul]
  omega
 have hgd:aC w.drew g cur 113:=hg
 have hcp1:∀ ty dc sc,(Builtin.copy_ #[82,82] ty #[.slice (some ⟨g,(i+m)*2,none⟩) (n+m-(i+m)) dc,.slice (some ⟨g,i*2,none⟩) (n+m-i) sc]).run Tryz.prog w.drew=.ok (goInt ((n-i:Nat):Int)) (w.drew.setRow g (aX cur ((i+m)*2) tail)):=fun ty dc sc=>by
  have hmin:Nat.min (n+m-i) (n+m-(i+m))=n-i:=by simp only[Nat.min_def]; split<;>omega
  have:=dJ (P:=Tryz.prog) w.drew 82 82 ty 113 2 g ((i+m)*2) (n+m-(i+m)) dc ⟨g,i*2,none⟩ (n+m-i) sc cur 113 tail Tryz.underlying82 hsize hgd (by rw[hmin]; exact htl)
   (fun j v hj=>by
     have hjl:j<tail.length:=(List.getElem?_eq_some_iff.1 hj).1
     rw[Addr.add_lit,hgd.cell,<-hj,htail,List.getElem?_drop,List.getElem?_take,if_pos (by omega),Array.getElem?_toList])
   (by rw[htl,hsz]; omega) (fun v hv=>h1c v (List.mem_of_mem_drop (htail▸hv)))
  rw[hmin] at this
  exact this
 have hf1:(i+m)*2+tail.length<=cur.size:=by rw[htl,hsz]; omega
 have hc1:aC (w.drew.setRow g (aX cur ((i+m)*2) tail)) g (aX cur ((i+m)*2) tail) 113:=dD hgd
 have hk1:Kept g w (w.drew.setRow g (aX cur ((i+m)*2) tail)):=(show Kept g w w.drew from⟨rfl,rfl,rfl,rfl,fun _ _=>rfl⟩).trans (bN _ _ _)
 have hs1:(aX cur ((i+m)*2) tail).size=cap*2:=by rw[dH hf1,hsz]
 have ht1:(aX cur ((i+m)*2) tail).toList.take ((n+m)*2)=cur.toList.take ((i+m)*2)++tail:=by
  have:=dX hf1
  rw[htl,<-Nat.add_mul,show i+m+(n-i)=n+m by omega] at this
  exact this
 obtain⟨cur1,hcur1⟩:∃ cur1,cur1=aX cur ((i+m)*2) tail:=⟨_,rfl⟩
 rw[<-hcur1] at hcp1 hc1 hk1 hs1 ht1
 clear hcur1
 obtain⟨W1,hW1⟩:∃ W1,W1=w.drew.setRow g cur1:=⟨_,rfl⟩
 rw[<-hW1] at hcp1 hc1 hk1
 have hf2:i*2+vs.length<=cur1.size:=by rw[hvl,hs1]; omega
 have hcp2:∀ ty dc,(Builtin.copy_ #[82,82] ty #[.slice (some ⟨g,i*2,none⟩) (n+m-i) dc,.slice (some ⟨vb,0,none⟩) m vc]).run Tryz.prog W1=.ok (goInt m) (W1.setRow g (aX cur1 (i*2) vs)):=fun ty dc=>by
  have hmin:Nat.min m (n+m-i)=m:=by simp only[Nat.min_def]; split<;>omega
  have:=dJ (P:=Tryz.prog) W1 82 82 ty 113 2 g (i*2) (n+m-i) dc ⟨vb,0,none⟩ m vc cur1 113 vs Tryz.underlying82 hsize hc1 (by rw[hmin]; exact hvl)
   (fun j v hj=>by
     rw[Addr.add_lit,Nat.zero_add,hk1.cell (p:=⟨vb,j,none⟩) hvb]
     exact hvs j v hj)
   hf2 h1v
  rw[hmin] at this
  exact this
 have hfin:Hid (Kept g w (W1.setRow g (aX cur1 (i*2) vs))/\∃ cur':Array Value,aC (W1.setRow g (aX cur1 (i*2) vs)) g cur' 113/\cur'.size=cap*2/\cur'.toList.take ((n+m)*2)=cur.toList.take (i*2)++(vs++(cur.toList.take (n*2)).drop (i*2))):=by
  refine hid ⟨hk1.trans (bN _ _ _),_,dD hc1,by rw[dH hf2,hs1],?_⟩
  rw[lY,<-htail]
  have e1:cur1.toList.take (i*2)=cur.toList.take (i*2):=by
   have:=congrArg (List.take (i*2)) ht1
   rw[List.take_take,List.take_append_of_le_length (by rw[List.length_take,Array.length_toList,hsz]; omega),List.take_take] at this
   rw[show min (i*2) ((n+m)*2)=i*2 by omega,show min (i*2) ((i+m)*2)=i*2 by omega] at this
   exact this
  have e2:(cur1.toList.drop (i*2+vs.length)).take ((n-i)*2)=tail:=by
   have:=congrArg (List.drop ((i+m)*2)) ht1
   rw[List.drop_take,List.drop_left' (by rw[List.length_take,Array.length_toList,hsz]; omega)] at this
   rw[hvl,<-Nat.add_mul,<-this]
   congr 1
   rw[<-Nat.sub_mul]
   congr 1
   omega
  rw[e1,List.append_assoc,List.take_append,List.take_of_length_le (by rw[List.length_take,Array.length_toList,hsz]; omega)]
  congr 1
  rw[List.length_take,Array.length_toList,hsz,List.take_append,hvl,List.take_of_length_le (by rw[hvl]; omega)]
  congr 1
  rw[<-e2,hvl]
  congr 1
  omega
 have hW:Hid (W1=w.drew.setRow g cur1):=hW1
 have hw1:IntKind.i64.wrap ((i:Int)+(m:Int))=(i:Int)+(m:Int):=by rw[IntKind.wrap_i64]; unfold maxLen at hcm; omega
 have hb1:(0:Int)<=(i:Int)+(m:Int):=by omega
 have hin:i<=n:=by omega
 have htn:((i:Int)+(m:Int)).toNat=i+m:=by omega
 have hb2:¬(cap=i+m):=by omega
 have hb3:(i:Int)<=(n:Int)+(m:Int):=by omega
 have hb4:¬(cap=i):=by omega
 have hcm':cap<=9223372036854775807:=by unfold maxLen at hcm; omega
 clear hW1 hk1 hc1 hs1 ht1 hf1 hf2 htl htail hsz hg hgd h1c h1v hvs hv hvl hcm hsize hzs
 go_enter Tryz.func152,Tryz.ntmps152
 go_wp2_with (simp only[hov])
 go_region_law (refine fM rfl _ _ 82 82 rfl _ _ (by simp[Act.eval,Act.put]) (by simp[Act.eval,Act.put]) (hcp1 _ _ _) ?_)
 go_wp2_with (at_builtin; refine jI _ rfl _ _ 82 82 rfl _ _ rfl rfl (hcp2 _ _) ?_)
 go_ret
 exact⟨rfl,hfin.out⟩
theorem aN5 (g n cap i vb m vc:Nat)(cur:Array Value)(vs:List Value)(w:World)(hi:i<n)(hm:0<m)(hnc:n<=cap)(hroom:cap<n+m)(hnm:n+m<=1000)(hsz:cur.size=cap*2)(hg:aC w g cur 113)
 (hvw:vb<w.heap.size) (hvl:vs.length=m*2) (hvs:∀ j u,vs[j]? =some u->w.cell? ⟨vb,j,none⟩=some u) (h1c:∀ v∈cur.toList.take (n*2),v.oneCell'=true) (h1v:∀ v∈vs,v.oneCell'=true):
 Calls Tryz.prog 152 #[.slice (some ⟨g,0,none⟩) n cap,.int .i64 i,.slice (some ⟨vb,0,none⟩) m vc] w fun e w'=>
  ∃ G,e=.returned (.slice (some ⟨w.heap.size,0,none⟩) (n+m) G)/\Below w.heap.size w w'/\n+m<=G/\G<=maxLen/\∃ cur':Array Value,aC w' w.heap.size cur' 113/\cur'.size=G*2/\cur'.toList.take ((n+m)*2)=cur.toList.take (i*2)++(vs++(cur.toList.take (n*2)).drop (i*2)):=by
 obtain⟨i0,hi0,hz0,hz1,hz2⟩:=info_parts Tryz.infoS
 have hzi:¬((m:Int)=0):=by omega
 have hz2':¬((i:Int)=(n:Int)):=by omega
 have hz3:(cap:Int)<(n:Int)+(m:Int):=by omega
 have hsize:(Tryz.prog.info? 113).map (·.size)=some 2:=by rw[hi0]; simp[hz1]
 have hgw:=hg.lt
 have hik:i+(n+m-i)=n+m:=by omega
 have hold:(Builtin.firstCells i0.size i (.slice (some ⟨g,0,none⟩) i cap)).run Tryz.prog w.drew=.ok (cur.toList.take (i*2)).toArray w.drew:=by
  rw[hz1]
  have:=run_loadCells_list (P:=Tryz.prog) w.drew ⟨g,0,none⟩ (cur.toList.take (i*2)) (fun j v hj=>by
   have hjl:=(List.getElem?_eq_some_iff.1 hj).1
   rw[List.length_take] at hjl
   rw[Addr.add_lit,Nat.zero_add]
   show w.cell? ⟨g,j,none⟩=some v
   rw[hg.cell,<-hj,List.getElem?_take,if_pos (by omega),Array.getElem?_toList])
  rw[List.length_take,Array.length_toList,hsz,show min (i*2) (cap*2)=i*2 by omega] at this
  exact this
 have hrz:∀ ty,(Builtin.append_ #[82,3] ty #[.slice (some ⟨g,0,none⟩) i cap,.int .i64 ((n:Int)+(m:Int)-(i:Int))]).run Tryz.prog w=
  .ok (.slice (some ⟨w.heap.size,0,none⟩) (n+m) (grownCap w (n+m) cap 113)) (w.drew.alloc (.cells ((cur.toList.take (i*2)).toArray++Builtin.zeroCells (Value.cells (.agg #[.string ⟨#[]⟩,.slice none 0 0])) (n+m-i)++Builtin.zeroCells (Value.cells (.agg #[.string ⟨#[]⟩,.slice none 0 0])) (grownCap w (n+m) cap 113-(n+m))) 113)):=fun ty=>by
  have h:=Lib.run_append_grow_zeros w 82 3 ty 113 i0 (.agg #[.string ⟨#[]⟩,.slice none 0 0]) .i64 .i64 Tryz.underlying82 Tryz.underlying3 hi0 hz0 (some ⟨g,0,none⟩) i cap (cur.toList.take (i*2)) hold (n+m-i) (by omega) (by omega) (by omega) (by omega) (by rw[hz2]; omega) (by rw[hz2,hik]; exact growslice_fits hroom (by omega))
  rw[hik] at h
  rw[show (n:Int)+(m:Int)-(i:Int)=((n+m-i:Nat):Int) by omega]
  exact h
 have hGn:n+m<=grownCap w (n+m) cap 113:=grownCap_ge w _ _ _
 have hG63:grownCap w (n+m) cap 113<=maxLen:=grownCap_le_maxLen w (n+m) cap 113 (by unfold maxLen; omega)
 generalize grownCap w (n+m) cap 113=G at *
 obtain⟨ROW,hROW⟩:∃ ROW:Array Value,ROW=(cur.toList.take (i*2)).toArray++Builtin.zeroCells (Value.cells (.agg #[.string ⟨#[]⟩,.slice none 0 0])) (n+m-i)++Builtin.zeroCells (Value.cells (.agg #[.string ⟨#[]⟩,.slice none 0 0])) (G-(n+m)):=⟨_,rfl⟩
 rw[<-hROW] at hrz
 have hz':(Value.cells (.agg #[.string ⟨#[]⟩,.slice none 0 0])).size=2:=rfl
 have hRs:ROW.size=G*2:=by
  rw[hROW]
  simp only[Array.size_append,List.size_toArray,List.length_take,Array.length_toList,Builtin.zeroCells,Array.size_map,Array.size_range,hsz,hz']
  omega
 have hRt:ROW.toList.take (i*2)=cur.toList.take (i*2):=by
  rw[hROW]
  simp only[Array.toList_append,List.append_assoc]
  exact List.take_left' (by rw[List.length_take,Array.length_toList,hsz]; omega)
 clear hROW
 obtain⟨tail,htail⟩:∃ tail,tail=(cur.toList.take (n*2)).drop (i*2):=⟨_,rfl⟩
 have htl:tail.length=(n-i)*2:=by
  rw[htail,List.length_drop,List.length_take,Array.length_toList,hsz,Nat.sub_mul]
  omega
 obtain⟨H,hH⟩:∃ H,H=w.heap.size:=⟨_,rfl⟩
 rw[<-hH] at hrz hvw hgw ⊢
 have hf1:i*2+vs.length<=ROW.size:=by rw[hvl,hRs]; omega
 have hcpA:∀ (W:World),aC W H ROW 113->(∀ k,k<H->W.heap[k]? =w.heap[k]?)->∀ ty dc,(Builtin.copy_ #[82,82] ty #[.slice (some ⟨H,i*2,none⟩) (n+m-i) dc,.slice (some ⟨vb,0,none⟩) m vc]).run Tryz.prog W=.ok (goInt (m:Int)) (W.setRow H (aX ROW (i*2) vs)):=fun W hW hWb ty dc=>by
  have hmin:Nat.min m (n+m-i)=m:=by simp only[Nat.min_def]; split<;>omega
  have:=dJ (P:=Tryz.prog) W 82 82 ty 113 2 H (i*2) (n+m-i) dc ⟨vb,0,none⟩ m vc ROW 113 vs Tryz.underlying82 hsize hW (by rw[hmin]; exact hvl)
   (fun j v hj=>by
     rw[Addr.add_lit,Nat.zero_add,World.cell?_of_block (w:=w) (hWb vb hvw)]
     exact hvs j v hj)
   hf1 h1v
  rw[hmin] at this
  exact this
 have hRs1:(aX ROW (i*2) vs).size=G*2:=by rw[dH hf1,hRs]
 have hRt1:(aX ROW (i*2) vs).toList.take ((i+m)*2)=cur.toList.take (i*2)++vs:=by
  have:=dX hf1
  rw[hvl,<-Nat.add_mul,hRt] at this
  exact this
 obtain⟨R1,hR1⟩:∃ R1,R1=aX ROW (i*2) vs:=⟨_,rfl⟩
 rw[<-hR1] at hcpA hRs1 hRt1
 clear hR1
 have hf2:(i+m)*2+tail.length<=R1.size:=by rw[htl,hRs1]; omega
 have hcpB:∀ (W:World),aC W H R1 113->(∀ k,k<H->W.heap[k]? =w.heap[k]?)->∀ ty dc sc,(Builtin.copy_ #[82,82] ty #[.slice (some ⟨H,(i+m)*2,none⟩) (n+m-(i+m)) dc,.slice (some ⟨g,i*2,none⟩) (n-i) sc]).run Tryz.prog W=.ok (goInt ((n-i:Nat):Int)) (W.setRow H (aX R1 ((i+m)*2) tail)):=fun W hW hWb ty dc sc=>by
  have hmin:Nat.min (n-i) (n+m-(i+m))=n-i:=by simp only[Nat.min_def]; split<;>omega
  have:=dJ (P:=Tryz.prog) W 82 82 ty 113 2 H ((i+m)*2) (n+m-(i+m)) dc ⟨g,i*2,none⟩ (n-i) sc R1 113 tail Tryz.underlying82 hsize hW (by rw[hmin]; exact htl)
   (fun j v hj=>by
     have hjl:j<tail.length:=(List.getElem?_eq_some_iff.1 hj).1
     rw[Addr.add_lit,World.cell?_of_block (w:=w) (hWb g hgw),hg.cell,<-hj,htail,List.getElem?_drop,List.getElem?_take,if_pos (by omega),Array.getElem?_toList])
   hf2 (fun v hv=>h1c v (List.mem_of_mem_drop (htail▸hv)))
  rw[hmin] at this
  exact this
 have hRs2:(aX R1 ((i+m)*2) tail).size=G*2:=by rw[dH hf2,hRs1]
 have hRt2:(aX R1 ((i+m)*2) tail).toList.take ((n+m)*2)=cur.toList.take (i*2)++(vs++(cur.toList.take (n*2)).drop (i*2)):=by
  have:=dX hf2
  rw[htl,<-Nat.add_mul,show i+m+(n-i)=n+m by omega,hRt1] at this
  rw[this,htail,List.append_assoc]
 have kA:aC (w.alloc (.cells ROW 113)).drew H ROW 113:=by rw[hH]; exact aB w _ _
 have bA:∀ k,k<H->(w.alloc (.cells ROW 113)).drew.heap[k]? =w.heap[k]? :=fun k hk=>(aA w (.cells ROW 113)).block k (hH▸hk)
 have kB:aC ((w.alloc (.cells ROW 113)).drew.setRow H R1).drew H R1 113:=dD kA
 have bB:∀ k,k<H->((w.alloc (.cells ROW 113)).drew.setRow H R1).drew.heap[k]? =w.heap[k]? :=fun k hk=>((bN _ _ _).block k (by omega)).trans (bA k hk)
 have hfin:∀ w', w'.heap=(((w.alloc (.cells ROW 113)).drew.setRow H R1).drew.setRow H (aX R1 ((i+m)*2) tail)).heap->w'.os=w.os->w'.tape=w.tape->w'.output=w.output->Below H w w'/\∃ cur':Array Value,aC w' H cur' 113/\cur'.size=G*2/\cur'.toList.take ((n+m)*2)=cur.toList.take (i*2)++(vs++(cur.toList.take (n*2)).drop (i*2)):=by
  intro w' hw e1 e2 e3
  have kC:aC (((w.alloc (.cells ROW 113)).drew.setRow H R1).drew.setRow H (aX R1 ((i+m)*2) tail)) H (aX R1 ((i+m)*2) tail) 113:=dD kB
  refine⟨⟨e1,e2,e3,?_,fun k hk=>?_⟩,_,(by unfold aC at kC ⊢; rw[hw]; exact kC),hRs2,hRt2⟩
  ·rw[hw,(bN _ _ _).size]
   show w.heap.size<=((w.alloc (.cells ROW 113)).drew.setRow H R1).heap.size
   rw[(bN _ _ _).size]
   show w.heap.size<=(w.alloc (.cells ROW 113)).heap.size
   simp
  ·rw[hw,(bN _ _ _).block k (by omega)]
   exact bB k hk
 replace hfin:=hid hfin
 have hw1:IntKind.i64.wrap ((i:Int)+(m:Int))=(i:Int)+(m:Int):=by rw[IntKind.wrap_i64]; omega
 have hb1:(0:Int)<=(i:Int)+(m:Int):=by omega
 have hin:i<=n:=by omega
 have htn:((i:Int)+(m:Int)).toNat=i+m:=by omega
 have hb3:(i:Int)<=(n:Int):=by omega
 have hGi:¬(G=i):=by omega
 have hGim:¬(G=i+m):=by omega
 have hci:¬(cap=i):=by omega
 have hG63':G<=9223372036854775807:=by unfold maxLen at hG63; omega
 have hcap':cap<=9223372036854775807:=by omega
 clear hold hRs hRt hRs1 hRt1 hRs2 hRt2 hf1 hf2 htl htail hsz hg h1c h1v hvs hvl hsize
 replace hH:=hid hH
 have hA1:=fun ty dc=>hcpA _ kA bA ty dc
 have hB1:=fun ty dc sc=>hcpB _ kB bB ty dc sc
 clear hcpA hcpB kA bA kB bB
 go_enter Tryz.func152,Tryz.ntmps152
 go_wp2_with (at_builtin; refine Lib.wpList_append_run _ rfl _ _ _ _ rfl _ _ rfl rfl _ _ (hrz _) ?_)
 go_region_law (refine fM rfl _ _ 82 82 rfl _ _ (by simp[Act.eval,Act.put]) (by simp[Act.eval,Act.put]) (hB1 _ _ _) ?_)
 go_wp2
 go_ret
 exact⟨G,rfl,(hfin.out _ rfl rfl rfl rfl).1,hGn,hG63,(hfin.out _ rfl rfl rfl rfl).2⟩
theorem aV0 (sa:Option Addr)(n c i vb m vc base:Nat)(cs vs:List Value)(vt:TypeId)(w:World)(hi:i<=n)(hm:0<m)(hn:n+m<=1000)(hs:w.ownsRow base 113 2 (.slice sa n c) n cs)(hb:base<=w.heap.size)
 (hv:aC w vb vs.toArray vt) (hvl:vs.length=m*2) (hvb:(Value.slice sa n c).ownBlock≠some vb) (h1c:∀ v∈cs,v.oneCell'=true) (h1v:∀ v∈vs,v.oneCell'=true):
 Calls Tryz.prog 152 #[.slice sa n c,.int .i64 i,.slice (some ⟨vb,0,none⟩) m vc] w fun e w'=>
  ∃ a' c', e=.returned (.slice a' (n+m) c')/\w'.ownsRow base 113 2 (.slice a' (n+m) c') (n+m) (cs.take (i*2)++(vs++cs.drop (i*2)))/\Only (fun b=>(Value.slice sa n c).ownBlock=some b) w w'/\((Value.slice a' (n+m) c').ownBlock=(Value.slice sa n c).ownBlock\/(Value.slice a' (n+m) c').ownBlock=some w.heap.size):=by
 have hvs:∀ j u,vs[j]? =some u->w.cell? ⟨vb,j,none⟩=some u:=fun j u hj=>by rw[hv.cell]; simpa using hj
 have hcl:=hs.1
 by_cases e:i=n
 ·subst e
  have hcc:i<=c/\c<=maxLen:=by
   rcases hs.2 with⟨h0,h1⟩ | ⟨g,cap,cur,h0,_,_,h1,h2,_⟩
   ·simp only[Value.slice.injEq] at h0
    unfold maxLen
    omega
   ·simp only[Value.slice.injEq] at h0
    omega
  refine(aU9 sa i c vb m vc base cs vs w hm hn hs hb hvl hvs h1v hcc.1 hcc.2).mono ?_
  rintro e w' ⟨a', c', rfl,ho,hg,hat⟩
  refine⟨a', c', rfl,?_,sV hg (fun k hk=>hk),hat⟩
  rw[List.take_of_length_le (by omega),List.drop_of_length_le (by omega),List.append_nil]
  exact ho
 ·have hin:i<n:=by omega
  rcases hs.2 with⟨h0,h1⟩ | ⟨g,cap,cur,h0,hbg,hg,hnc,hcm,hsz,hcur⟩
  ·omega
  simp only[Value.slice.injEq,true_and] at h0
  obtain⟨rfl,rfl⟩:=h0
  have hvg:vb≠g:=fun e=>hvb (by rw[e]; rfl)
  have h1c':∀ v∈cur.toList.take (n*2),v.oneCell'=true:=by rw[hcur]; exact h1c
  have hti:cur.toList.take (i*2)=cs.take (i*2):=by rw[<-hcur,List.take_take,show min (i*2) (n*2)=i*2 by omega]
  by_cases hroom:n+m<=c
  ·refine(aG2 g n c i vb m vc cur vs vt vs.toArray w hin hm hroom hcm hvg hsz hg hv hvl hvs h1c' h1v).mono ?_
   rintro e w' ⟨rfl,hk,cur', hc', hs', ht'⟩
   rw[hcur,hti] at ht'
   refine⟨_,_,rfl,⟨by simp[hvl,hcl]; omega,.inr ⟨g,c,cur', rfl,hbg,hc', hroom,hcm,hs', ht'⟩⟩,Only.of_kept hk rfl,.inl rfl⟩
  ·refine(aN5 g n c i vb m vc cur vs w hin hm hnc (by omega) hn hsz hg hv.lt hvl hvs h1c' h1v).mono ?_
   rintro e w' ⟨G,rfl,hbel,hG1,hG2,cur', hc', hs', ht'⟩
   rw[hcur,hti] at ht'
   refine⟨_,_,rfl,⟨by simp[hvl,hcl]; omega,.inr ⟨w.heap.size,G,cur', rfl,hb,hc', hG1,hG2,hs', ht'⟩⟩,Only.of_below hbel,.inr rfl⟩
theorem aX1 (sa:Option Addr)(n c i base:Nat)(cs:List Value)(w:World)(hi:i<n)(hs:w.ownsRow base 113 2 (.slice sa n c) n cs)(h1c:∀ v∈cs,v.oneCell'=true):
 Calls Tryz.prog 154 #[.slice sa n c,.int .i64 i,.int .i64 ((i:Int)+1)] w fun e w'=>
  e=.returned (.slice sa (n-1) c)/\w'.ownsRow base 113 2 (.slice sa (n-1) c) (n-1) (cs.take (i*2)++cs.drop ((i+1)*2))/\Only (fun b=>(Value.slice sa n c).ownBlock=some b) w w':=by
 have hcl:=hs.1
 rcases hs.2 with⟨h0,h1⟩ | ⟨g,cap,cur,h0,hbg,hg,hnc,hcm,hsz,hcur⟩
 ·omega
 simp only[Value.slice.injEq,true_and] at h0
 obtain⟨rfl,rfl⟩:=h0
 have hti:cur.toList.take (i*2)=cs.take (i*2):=by rw[<-hcur,List.take_take,show min (i*2) (n*2)=i*2 by omega]
 refine(aX2 g n c i (i+1) cur w (by omega) (by omega) hnc hcm hsz hg (by rw[hcur]; exact h1c)).mono ?_
 rintro e w' ⟨rfl,hk,cur', hc', hs', ht'⟩
 rw[hcur,hti,show i+(n-(i+1))=n-1 by omega] at ht'
 refine⟨by rw[show i+(n-(i+1))=n-1 by omega],⟨by simp[hcl]; omega,.inr ⟨g,c,cur', rfl,hbg,hc', by omega,hcm,hs', ht'⟩⟩,Only.of_kept hk rfl⟩
theorem aP7 (a:Option Addr)(n c:Nat)(l:List Int)(Q:Nat->Prop)(w:World)(hn:n<=1000)(h:aI Q .u8 w a n l):
 Calls Tryz.prog 29 #[.slice a n c] w fun e w'=>
  Below w.heap.size w w'/\∃ a' c', e=.returned (.slice a' n c')/\n<=c'/\aI (fun b=>w.heap.size<=b) .u8 w' a' n l:=by
 obtain⟨i0,hi,hz0,hz1,hz2⟩:=info_parts Tryz.infoByte
 have qn:∀ (w:World) (a:Option Addr) (n c n' c':Nat),(binOp .eql 28 (.slice a n c) (.slice none n' c')).run Tryz.prog w=.ok (.bool a.isNone) w:=fun w a n c n' c'=>Lib.run_eql_slice_nil w _ _ a n c n' c' Tryz.underlying28
 cases a with
 | none=>
   have hn0:n=0:=by
    rcases Nat.eq_zero_or_pos n with h0 | h0
    ·exact h0
    ·obtain⟨_,_,h1,_⟩:=h.2.2 h0
     cases h1
   subst hn0
   have hl:=h.1
   replace h:=hid h
   go_enter Tryz.func29,Tryz.ntmps29
   go_wp2_with fail
   go_ret
   exact⟨Below.refl _ _,_,_,rfl,Nat.le_refl _,by rw[List.eq_nil_of_length_eq_zero hl]; exact dL _ _ _ _⟩
 | some x=>
   have hl:=h.1
   have hcn:∀ j u,(l.map (Value.int .u8))[j]? =some u->(w.alloc (.cells #[] 5)).cell? (x.add j)=some u:=by
    intro j u hj
    have hjl:j<l.length:=by
     rcases Nat.lt_or_ge j l.length with h | h
     ·exact h
     ·simp[List.getElem?_eq_none h] at hj
    obtain⟨b,off,he,hb,_,hc⟩:=h.2.2 (by omega)
    obtain rfl:x=⟨b,off,none⟩:=by simpa using he
    have ea:(⟨b,off,none⟩:Addr).add j=⟨b,off+j,none⟩:=by unfold Addr.add; split<;>simp_all
    rw[ea,World.cell?_alloc_past _ _ _ hb,hc j (by omega)]
    simp[hjl] at hj
    simp[List.getD,hjl,hj]
   have A:=hid hcn
   have hwf:=hid h.2.1
   replace hl:=hid hl
   clear hcn h
   go_enter Tryz.func29,Tryz.ntmps29
   go_wp2_with (at_builtin; refine wpList_append_own _ rfl _ _ 28 rfl w.heap.size 5 i0 (.int .u8 0) 1 1 Tryz.underlying28 hi hz0 hz1 hz2 rfl (by decide) _ _ _ rfl (World.ownsRow_made w #[] 0 (Nat.le_refl _) (Nat.zero_le _) (by simp)) x n c (l.map (Value.int .u8)) rfl ?qc1 ?qc2 ?qc3 ?qc4 ?qc5 ?qc6 ?_)
   case qc1=>simp[hl.out]
   case qc2=>exact A.out
   case qc3=>intro u hu; simp at hu; obtain⟨x,_,rfl⟩:=hu; rfl
   case qc4=>unfold maxLen; omega
   case qc5=>omega
   case qc6=>simp
   intro v' w1 hown hgrow hnil
   have hown':w1.ownsRow w.heap.size 5 1 v' n (l.map (Value.int .u8)):=by simpa using hown
   have hbel:=((Below.refl _ w).alloc (Nat.le_refl _) _).grown hgrow (by simp) (by intro k hk; simp[Value.ownBlock] at hk; omega)
   clear hown hgrow A hnil
   obtain⟨a', c', rfl,hnc,hN⟩:=gH hwf.out hown'
   replace hN:=hid hN
   clear hown'
   go_wp2_with fail
   go_ret
   exact⟨hbel,a', c', rfl,hnc,hN.out⟩
def pK (at' m:Int):Int:=if (0<=at'/\at'<=256)/\m<=256 then 8 else 3
def cR7 (base:Nat)(e:Ending)(w:World)(b:List Int)(at':Int)(more:List Int):Prop:=
 (∃ e':Int,e=.returned (.tuple #[.slice none 0 0,.int .i64 e'])/\e'≠0/\¬(0<=at'/\at'+(more.length:Int)<=256)/\e'=pK at' (more.length:Int))\/
 (∃ (x:Option Addr) (ln lc A:Nat),e=.returned (.tuple #[.slice x ln lc,.int .i64 0])/\at'=(A:Int)/\A+more.length<=256/\ln<=lc/\aI (fun q=>base<=q) .u8 w x ln (gN b A more))
theorem cA2 {w:World}{g M A base:Nat}{b more:List Int}(hb:Bytes b)(hm:Bytes more)(hne:more≠[])(hM:M=max b.length (A+more.length))(hg:base<=g)
 (h:aC w g (splice (splice ((zeros M).map (Value.int .u8)) 0 (b.map (Value.int .u8))) A (more.map (Value.int .u8))).toArray 5):aI (fun q=>base<=q) .u8 w (some ⟨g,0,none⟩) M (gN b A more):=by
 rw[sZ,sZ] at h
 have e:splice (splice (zeros M) 0 b) A more=gN b A more:=by unfold gN; rw[if_neg hne,hM]
 rw[e] at h
 have hl:(gN b A more).length=M:=by rw[nU,if_neg hne,hM]
 have:=fI (Q:=fun q=>base<=q) hg (xD (at':=A) hb hm) h
 rwa [hl] at this
theorem cA3 (ba:Option Addr)(bn bc:Nat)(b:List Int)(at':Int)(ma:Option Addr)(mn mc:Nat)(more:List Int)(w:World)(hbn:bn<=256)(hb:aI (fun _=>True) .u8 w ba bn b)(hm:aI (fun _=>True) .u8 w ma mn more):
 Calls Tryz.prog 166 #[.slice ba bn bc,.int .i64 at', .slice ma mn mc] w fun e w'=>cR7 w.heap.size e w' b at' more/\Below w.heap.size w w':=by
 obtain⟨i0,hi0,hz0,hz1,hz2⟩:=info_parts Tryz.infoByte
 have hml:=hm.1
 have hbl:=hb.1
 replace hb:=hid hb
 replace hm:=hid hm
 by_cases ha:0<=at'/\at'<=256
 case neg=>
  go_enter Tryz.func166,Tryz.ntmps166
  go_wp2_with fail
  refine(mD at' w ha).mono ?_
  rintro e w1 ⟨rfl,rfl⟩
  replace ha:=hid ha
  go_wp2_with fail
  go_ret2
  exact⟨.inl ⟨3,rfl,by omega,fun f=>ha.out (by omega),by unfold pK; rw[if_neg (fun f=>ha.out f.1)]⟩,Below.refl _ _⟩
 obtain⟨A,rfl⟩:∃ A:Nat,at'=(A:Int):=⟨at'.toNat,by omega⟩
 have hA:A<=256:=by omega
 by_cases h2:mn<=256
 case neg=>
  have h2':¬(0<=(mn:Int)/\(mn:Int)<=256):=by omega
  go_enter Tryz.func166,Tryz.ntmps166
  go_wp2_with fail
  refine(fV A w ha).mono ?_
  rintro e w1 ⟨rfl,rfl⟩
  go_wp2_with fail
  refine(mD mn w1 h2').mono ?_
  rintro e w2 ⟨rfl,rfl⟩
  clear h2'
  go_wp2_with fail
  go_ret2
  exact⟨.inl ⟨3,rfl,by omega,fun f=>h2 (by omega),by unfold pK; rw[if_neg (fun f=>h2 (by omega))]⟩,Below.refl _ _⟩
 have h2':0<=(mn:Int)/\(mn:Int)<=256:=by omega
 by_cases h3:A+mn<=256
 case neg=>
  go_enter Tryz.func166,Tryz.ntmps166
  go_wp2_with fail
  refine(fV A w ha).mono ?_
  rintro e w1 ⟨rfl,rfl⟩
  go_wp2_with fail
  refine(fV mn w1 h2').mono ?_
  rintro e w2 ⟨rfl,rfl⟩
  have h3':(256:Int)<(A:Int)+(mn:Int):=by omega
  go_wp2_with fail
  go_ret2
  exact⟨.inl ⟨8,rfl,by omega,fun f=>h3 (by omega),by unfold pK; rw[if_pos (by omega)]⟩,Below.refl _ _⟩
 have h3':¬(256:Int)<(A:Int)+(mn:Int):=by omega
 by_cases h4:mn=0
 ·subst h4
  obtain rfl:more=[]:=List.eq_nil_of_length_eq_zero hml
  go_enter Tryz.func166,Tryz.ntmps166
  go_wp2_with fail
  refine(fV A w ha).mono ?_
  rintro e w1 ⟨rfl,rfl⟩
  go_wp2_with fail
  refine(fV 0 w1 h2').mono ?_
  rintro e w2 ⟨rfl,rfl⟩
  go_wp2_with fail
  refine(aP7 ba bn bc b (fun _=>True) w2 (by omega) hb.out).mono ?_
  rintro e w3 ⟨b3,x,lc,rfl,hlc,hN⟩
  replace hN:=hid hN
  go_wp2_with fail
  go_ret2
  exact⟨.inr ⟨x,bn,lc,A,rfl,rfl,by simpa using hA,hlc,by simpa [gN] using hN.out⟩,b3⟩
 have h4':((mn:Int) == 0)=false:=by simp[h4]
 have hne:Hid (more≠[]):=hid fun f=>h4 (by rw[<-hml,f]; rfl)
 obtain⟨M,hM⟩:∃ M,M=max bn (A+mn):=⟨_,rfl⟩
 have hMm:Hid (M=max b.length (A+more.length)):=hid (by rw[hbl,hml]; exact hM)
 have hM256:M<=256:=by omega
 have hMb:bn<=M:=by omega
 have hMa:A+mn<=M:=by omega
 have fin:Hid (∀ w', aC w' w.heap.size (splice (splice ((zeros M).map (Value.int .u8)) 0 (b.map (Value.int .u8))) A (more.map (Value.int .u8))).toArray 5->cR7 w.heap.size (.returned (.tuple #[.slice (some ⟨w.heap.size,0,none⟩) M M,.int .i64 0])) w' b A more):=hid fun w' h=>.inr ⟨_,M,M,A,rfl,rfl,by omega,Nat.le_refl _,cA2 hb.out.bytes hm.out.bytes hne.out hMm.out (Nat.le_refl _) h⟩
 have hzl:Hid (((zeros M).map (Value.int .u8)).length=M):=hid (by rw[List.length_map,zeros_length])
 have hbX:Hid ((b.map (Value.int .u8)).length=bn):=hid (by rw[List.length_map,hbl])
 have hmX:Hid ((more.map (Value.int .u8)).length=mn):=hid (by rw[List.length_map,hml])
 have h1b:=hid (aF0 b)
 have h1m:=hid (aF0 more)
 have hsb:Hid (∀ w', Below w.heap.size w w'->0<bn->∃ ad,ba=some ad/\∀ j v,(b.map (Value.int .u8))[j]? =some v->w'.cell? (ad.add j)=some v):=hid fun w' hw hp=>by
  have:=hb.out.below hw
  obtain⟨q,off,rfl,_⟩:=this.2.2 hp
  exact⟨_,rfl,aE0 this hp⟩
 have hsm:Hid (∀ w', Below w.heap.size w w'->0<mn->∃ ad,ma=some ad/\∀ j v,(more.map (Value.int .u8))[j]? =some v->w'.cell? (ad.add j)=some v):=hid fun w' hw hp=>by
  have:=hm.out.below hw
  obtain⟨q,off,rfl,_⟩:=this.2.2 hp
  exact⟨_,rfl,aE0 this hp⟩
 have hmx:(if (bn:Int)<(A:Int)+(mn:Int) then (A:Int)+(mn:Int) else (bn:Int))=(M:Int):=by split<;>omega
 clear hb hm hml hbl hMm hne hmx
 replace hM:=hid hM
 go_enter Tryz.func166,Tryz.ntmps166
 go_wp2_with fail
 refine(fV A w ha).mono ?_
 rintro e w1 ⟨rfl,rfl⟩
 go_wp2_with fail
 refine(fV mn w1 h2').mono ?_
 rintro e w2 ⟨rfl,rfl⟩
 clear ha h2'
 by_cases hmax:(bn:Int)<(A:Int)+(mn:Int)
 all_goals (
  go_wp2_with (at_make; refine wpList_make_full _ rfl (.tmp 34) (.tmp 34) 28 rfl w2.heap.size 5 i0 (.int .u8 0) 1 Tryz.underlying28 hi0 hz0 hz1 .i64 .i64 _ _ M rfl rfl (by have:=hM.out; omega) (by have:=hM.out; omega) (by rw[hz2]; omega) (by unfold maxLen; omega) (Nat.le_refl _) ?_; intro w4 hown hgr; have hc4:=rR hown; have b4:Below w2.heap.size w2 w4:=⟨hgr.os,hgr.tape,hgr.output,hgr.size,fun k hk=>hgr.block k hk (by simp)⟩; clear hown hgr; obtain⟨w5,hr5,hc5,b5⟩:=rW (off:=0) (dLen:=M) (dCap:=M) (sLen:=bn) (sCap:=bc) (m:=bn) _ _ hc4 hbX.out (show bn=min bn M by omega) (hsb.out w4 b4) (by rw[hzl.out]; omega) h1b.out b4 (Nat.le_refl _); clear hc4 b4; have hl5:(splice ((zeros M).map (Value.int .u8)) 0 (b.map (Value.int .u8))).length=M:=(by rw[length_splice _ _ _ (by rw[hzl.out,hbX.out]; omega),hzl.out]); obtain⟨w6,hr6,hc6,b6⟩:=rW (off:=A) (dLen:=M-A) (dCap:=M-A) (sLen:=mn) (sCap:=mc) (m:=mn) _ _ hc5 hmX.out (show mn=min mn (M-A) by omega) (hsm.out w5 b5) (by rw[hl5]; omega) h1m.out b5 (Nat.le_refl _); replace hc6:=hid (fin.out w6 hc6); replace b6:=hid b6; clear hc5 b5 hl5)
  go_ret2
  exact⟨hc6.out,b6.out⟩)
def cM7 (base:Nat)(e:Ending)(w:World)(n:Nat)(B:Nat->Blk)(root lv i:Int)(bs:List Int)(cc:Int):Prop:=
 (∃ e':Int,e=.returned (.tuple #[.agg #[.slice none 0 0],.int .i64 0,.int .i64 e'])/\e'≠0/\(Checked n B root lv i->bs=[]\/bs.length=4->e'=8/\(n:Int)<=cO B n+lv))\/
 (∃ (l j:Nat) (C:Nat->Blk) (a:Int) (g:Nat),e=.returned (.tuple #[.agg #[.slice (some ⟨g,0,none⟩) n n],.int .i64 a,.int .i64 0])/\lv=l/\i=j/\l<=3/\j<pw l/\Right n B/\Root n B l root/\(bs=[]\/bs.length=4)/\kQ n B l root j bs cc C a/\
   base<=g/\Own w g n C)
theorem uF (a:Option Addr)(n c:Nat)(B:Nat->Blk)(root lv i:Int)(ba:Option Addr)(bn bc:Nat)(bs:List Int)(cc:Int)(w:World)(h:aN w a n B)(hb:aI (fun _=>True) .u8 w ba bn bs)(hbc:bn<=bc)(h1:1<=cc)(hcm:cc<=999984)(hc:∀ k,k<n->(B k).refs<=cc):
 Calls Tryz.prog 197 #[.agg #[.slice a n c],.int .i64 root,.int .i64 lv,.int .i64 i,.slice ba bn bc] w fun e w'=>cM7 w.heap.size e w' n B root lv i bs cc/\Below w.heap.size w w':=by
 have b0:=(aA w (.cells #[.slice a n c] 24)).alloc (by simp) (.cells #[.slice none 0 0] 24)
 have ks:aC _ w.heap.size #[.slice a n c] 24:=(aB w _ _).below (aA _ (.cells #[.slice none 0 0] 24))
 have kr:aC _ (w.heap.size+1) #[.slice none 0 0] 24:=aF w (.cells #[.slice a n c] 24) _ _
 have hsz:w.heap.size+2=((w.alloc (.cells #[.slice a n c] 24)).alloc (.cells #[.slice none 0 0] 24)).heap.size:=by simp
 have hP:kU _ ⟨w.heap.size,0,none⟩ a n c B:=(lV a n c B w 24 h).below (aA _ (.cells #[.slice none 0 0] 24))
 replace hb:=hid (hb.below b0)
 replace hP:=hid hP
 replace ks:=hid ks
 replace kr:=hid kr
 replace hsz:=hid hsz
 replace hc:=hid hc
 clear h
 go_enter Tryz.func197,Tryz.ntmps197
 go_wp2_with fail
 generalize (w.alloc (.cells #[.slice a n c] 24)).alloc (.cells #[.slice none 0 0] 24)=w0 at *
 refine(aD5 ⟨w.heap.size,0,none⟩ a n c B root lv i w0 hP.out).mono ?_
 rintro e w1 ⟨⟨e1,rfl,he⟩,b1⟩
 have hsz1:Hid (w.heap.size+2<=w1.heap.size):=hid (by have:=hsz.out; have:=b1.size; omega)
 replace hb:=hid (hb.out.below b1)
 replace hP:=hid (hP.out.below b1)
 replace ks:=hid (ks.out.below b1)
 replace kr:=hid (kr.out.below b1)
 replace b1:=Below.tr b0 b1
 clear b0 hsz
 by_cases h0:e1=0
 ·have h0':(e1 == 0)=true:=by simp[h0]
  obtain⟨hR,l,hl,rfl,hr,hi0,hi1⟩:=he.1 h0
  obtain⟨j,rfl⟩:∃ j:Nat,i=(j:Int):=⟨i.toNat,by omega⟩
  have hj:j<pw l:=by omega
  have hn:=hR.small
  clear he hi0 hi1
  have hbl:=hb.out.1
  by_cases hbs:bs=[]\/bs.length=4
  ·have hbn:bn=0\/bn=4:=by
    rcases hbs with h | h
    ·left; rw[<-hbl,h]; rfl
    ·right; rw[<-hbl,h]
   have hF:∀ i,i<n->(B i).kids.length<=4/\(B i).bytes.length<=4:=fun i hi=>⟨(hR.one i hi).few,(hR.one i hi).few2⟩
   replace hF:=hid hF
   replace hbs:=hid hbs
   replace hR:=hid hR
   replace hr:=hid hr
   have hs1:=hP.out.cell
   clear hbl
   rcases hbn with rfl | rfl
   all_goals (
    go_wp2_with fail
    refine(pE ⟨w.heap.size,0,none⟩ a n c B w1 hP.out hn hF.out).mono ?_
    rintro e w2 ⟨b2,g,rfl,hg,hOwn⟩
    have hsz2:=hsz1.out
    have hOl:=hOwn.lt
    have k2:=aB w2 #[.slice (some ⟨g,0,none⟩) n n] 24
    have b3:=aA w2 (.cells #[.slice (some ⟨g,0,none⟩) n n] 24)
    have hP3:dF (w2.alloc (.cells #[.slice (some ⟨g,0,none⟩) n n] 24)) ⟨w2.heap.size,0,none⟩ g n B:=⟨k2.lt,by show w2.heap.size≠g; omega,by simp,hOwn.below b3⟩
    have hb3:=((hb.out.weaken (R:=fun b=>b≠g) (fun b h _=>by omega)).below b2).below b3
    have kr3:=(kr.out.below b2).below b3
    have b13:=Below.tr (Below.tr b1 b2) b3
    replace hP3:=hid hP3
    replace hb3:=hid hb3
    replace kr3:=hid kr3
    replace b13:=hid b13
    clear hOwn hb hP ks kr b1 b2 b3 k2 hs1
    go_wp2_with fail
    generalize w2.alloc (.cells #[.slice (some ⟨g,0,none⟩) n n] 24)=w3 at *
    refine(cK0 ⟨w2.heap.size,0,none⟩ g n ba _ bc bs cc hbs.out hbc h1 hcm l B root j w3 hl hR.out hr.out hj hc.out hP3.out hb3.out).mono ?_
    rintro e w4 ⟨hD,hO,hFr⟩
    have hsz3:=b13.out.size
    have kr4:aC w4 (w.heap.size+1) #[.slice none 0 0] 24:=(by unfold aC; rw[hO.block _ kr3.out.lt (by omega)]; exact kr3.out)
    have r0:=kr4.cell 0
    have r1:=kr4.frozen 0
    simp at r0
    have b4:=b13.out.trans (hO.below (B:=w.heap.size) (by omega) (by omega))
    clear hO hFr
    rcases hD with⟨e', rfl,he,rfl,hus⟩ | ⟨C,a,rfl,hPk,hC⟩
    ·go_wp2_with fail
     refine bodyPost_ret (v:=.tuple #[.agg #[.slice none 0 0],.int .i64 0,.int .i64 8]) (by rw[bG rfl]; go_simp) rfl ⟨.inl ⟨8,rfl,by omega,fun _ _=>⟨rfl,by omega⟩⟩,b4.setCell (by simp) _⟩
    ·have s4:=hC.cell
     have kk:=Kept.setCell (g:=w.heap.size+1) (Kept.refl _ w4) (p:=⟨w.heap.size+1,0,none⟩) rfl (.slice (some ⟨g,0,none⟩) n n)
     have hB5:Own (w4.setCell ⟨w.heap.size+1,0,none⟩ (.slice (some ⟨g,0,none⟩) n n)) g n C:=⟨by rw[kk.size]; exact hC.own.lt,hC.own.blocks.kept (by omega) (fun b h=>by omega) kk,fun i hi=>(kk.frozen (p:=⟨g,i,none⟩) (by show g≠_; omega)).trans (hC.own.free i hi)⟩
     replace hB5:=hid hB5
     replace hPk:=hid hPk
     replace hC:=hid hC
     go_wp2_with fail
     refine bodyPost_ret (v:=.tuple #[.agg #[.slice (some ⟨g,0,none⟩) n n],.int .i64 a,.int .i64 0]) (by rw[bG rfl]; go_simp) rfl ⟨.inr ⟨l,j,C,a,g,rfl,rfl,rfl,hl,hj,hR.out,hr.out,hbs.out,hPk.out,by omega,hB5.out⟩,b4.setCell (by simp) _⟩)
  ·have hbn0:((bn:Int) == 0)=false:=by simp; intro h; exact hbs (.inl (List.eq_nil_of_length_eq_zero (by omega)))
   have hbn4:((bn:Int) == 4)=false:=by simp; intro h; exact hbs (.inr (by omega))
   have r0:=kr.out.cell 0
   have r1:=kr.out.frozen 0
   simp at r0
   have hbn0':¬bn=0:=by simp at hbn0; omega
   have hbn4':¬bn=4:=by simp at hbn4; omega
   have hbn1:((bn:Int) != 0)=true:=by simp; omega
   have hbn2:((bn:Int) != 4)=true:=by simp; omega
   replace hbs:=hid hbs
   go_wp2_with fail
   refine bodyPost_ret (v:=.tuple #[.agg #[.slice none 0 0],.int .i64 0,.int .i64 2]) (by rw[bG rfl]; go_simp) rfl ⟨.inl ⟨2,rfl,by omega,fun _ f=>absurd f hbs.out⟩,b1.setCell (by simp) _⟩
 ·have h0':(e1 == 0)=false:=by simp[h0]
  have hno:Hid (¬Checked n B root lv i):=hid (fun f=>h0 (he.2 f))
  have r0:=kr.out.cell 0
  have r1:=kr.out.frozen 0
  simp at r0
  clear he
  go_wp2_with fail
  refine bodyPost_ret (v:=.tuple #[.agg #[.slice none 0 0],.int .i64 0,.int .i64 e1]) (by rw[bG rfl]; go_simp) rfl ⟨.inl ⟨e1,rfl,h0,fun f=>absurd f hno.out⟩,b1.setCell (by simp) _⟩
def uA (n:Nat)(C:Nat->Blk)(key root:Int)(i:Nat)(p:List Int)(cc:Int)(E:Nat->Blk)(a':Int):Prop:=
 ∃ D,kQ n C 3 root i (eG key i p) cc D a'/\((root=0/\E=D)\/(∃ m:Nat,root=(m:Int)+1/\Right n E/\iU n D E [(m:Int)+1]))
def cU3 (base:Nat)(e:Ending)(w:World)(n:Nat)(C:Nat->Blk)(key root:Int)(i:Nat)(p:List Int)(cc:Int):Prop:=
 ∃ (x:Option Addr) (ln lc:Nat) (a' e':Int),e=.returned (.tuple #[.agg #[.slice x ln lc],.int .i64 a', .int .i64 e'])/\
  ((x=none/\ln=0/\lc=0/\a'=0/\e'=8/\n<=cO C n+3)\/(e'=0/\∃ (g:Nat) (E:Nat->Blk),x=some ⟨g,0,none⟩/\ln=n/\lc=n/\uA n C key root i p cc E a'/\base<=g/\Own w g n E))
theorem Own.kept {w w':World}{g n q:Nat}{B:Nat->Blk}(h:Own w g n B)(hq:q<g)(hk:Kept q w w'):Own w' g n B:=
 ⟨by rw[hk.size]; exact h.lt,h.blocks.kept (by omega) (fun b h=>by omega) hk,fun i hi=>(hk.frozen (p:=⟨g,i,none⟩) (by show g≠_; omega)).trans (h.free i hi)⟩
theorem uE (a:Option Addr)(n c:Nat)(C:Nat->Blk)(key root:Int)(i:Nat)(ba:Option Addr)(bc:Nat)(p:List Int)(cc:Int)(w:World)(h:aN w a n C)(hR:Right n C)(hr:Root n C 3 root)(hi:i<64)(hk:0<=key/\key<=1000)
 (hp:aI (fun _=>True) .u8 w ba 4 p) (h1:1<=cc) (hcm:cc<=999984) (hc:∀ k,k<n->(C k).refs<=cc) (hd:∀ (m:Nat) (D:Nat->Blk) (a':Int),root=(m:Int)+1->kQ n C 3 root i (eG key i p) cc D a'->mM n D ((m:Int)+1)):
 Calls Tryz.prog 186 #[.agg #[.slice a n c],.int .i64 key,.int .i64 root,.int .i64 i,.slice ba 4 bc] w fun e w'=>cU3 w.heap.size e w' n C key root i p cc/\Below w.heap.size w w':=by
 have b0:=aW w (.cells #[.slice a n c] 24) (.cells #[.slice none 0 0] 24)
 have ks:aC _ w.heap.size #[.slice a n c] 24:=(aB w _ _).below (aA _ (.cells #[.slice none 0 0] 24))
 have kr:aC _ (w.heap.size+1) #[.slice none 0 0] 24:=aF w (.cells #[.slice a n c] 24) _ _
 have hsz:w.heap.size+2=((w.alloc (.cells #[.slice a n c] 24)).alloc (.cells #[.slice none 0 0] 24)).heap.size:=by simp
 have hp4:=hp.1
 have h04:=hid (bI8 (key:=key) (i:=i) hp4)
 have hch:Hid (Checked n C root 3 i):=hid ⟨hR,3,by omega,rfl,hr,by omega,by show (i:Int)<((64:Nat):Int); omega⟩
 have hrd:root=0\/∃ m:Nat,root=(m:Int)+1:=by
  rcases hr with h0 | ⟨⟨h1,_,_⟩,_⟩
  ·exact .inl h0
  ·exact .inr ⟨(root-1).toNat,by omega⟩
 replace hrd:=hid hrd
 replace b0:=hid b0
 replace ks:=hid ks
 replace kr:=hid kr
 replace hsz:=hid hsz
 replace h:=hid h
 replace hp:=hid hp
 replace hc:=hid hc
 replace hd:=hid hd
 replace hk:=hid hk
 clear hR hr
 go_enter Tryz.func186,Tryz.ntmps186
 go_wp2_with fail
 generalize (w.alloc (.cells #[.slice a n c] 24)).alloc (.cells #[.slice none 0 0] 24)=w0 at *
 refine(jQ ba 4 bc p (fun _=>True) w0 (by omega) (hp.out.below b0.out)).mono ?_
 rintro e w1 ⟨⟨rfl,hz⟩ | ⟨rfl,hz⟩,rfl⟩
 ·have hLf:Hid (aI (fun _=>True) .u8 w1 none 0 (eG key i p)):=hid (by
   have e:eG key i p=[]:=by unfold eG; rw[if_pos (aO2 hp4 hz)]
   rw[e]; exact dL _ _ _ _)
  have s0:=ks.out.cell 0
  simp at s0
  replace hsz:Hid (w.heap.size+2<=w1.heap.size):=hid (Nat.le_of_eq hsz.out)
  clear hz hp
  go_wp2_with fail
  refine(uF a n c C root 3 i _ _ _ (eG key i p) cc _ (h.out.below b0.out) hLf.out (Nat.le_refl _) h1 hcm hc.out).mono ?_
  rintro e w3 ⟨hP,b3⟩
  have hg0:=hsz.out
  have hsz3:=b3.size
  replace kr:=hid (kr.out.below b3)
  have b03:=Below.tr b0.out b3
  clear hLf s0 ks b0 hsz
  rcases hP with⟨e', rfl,he,hfull⟩ | ⟨l,j,D,a', g,rfl,hl3,hij,hl,hj,_,_,_,hPut,hg,hOwn⟩
  ·obtain⟨rfl,hfu⟩:=hfull hch.out h04.out
   have bA:=aA w3 (.cells #[.slice none 0 0] 24)
   have krA:=kr.out.below bA
   have r0:=krA.cell 0
   have r1:=krA.frozen 0
   have b04:=hid (Below.tr b03 bA)
   have hfu':Hid (n<=cO C n+3):=hid (by omega)
   clear hfull he bA krA b3 hfu b03
   go_wp2_with fail
   refine bodyPost_ret (v:=.tuple #[.agg #[.slice none 0 0],.int .i64 0,.int .i64 8]) (by rw[bG rfl]; go_simp) rfl ⟨⟨none,0,0,0,8,rfl,.inl ⟨rfl,rfl,rfl,rfl,rfl,hfu'.out⟩⟩,b04.out.setCell (by simp) _⟩
  ·obtain rfl:j=i:=by omega
   obtain rfl:l=3:=by omega
   have bA:=aA w3 (.cells #[.slice (some ⟨g,0,none⟩) n n] 24)
   have kA:=aB w3 #[.slice (some ⟨g,0,none⟩) n n] 24
   have hgl:=hOwn.lt
   have hOA:=hOwn.below bA
   have krA:=kr.out.below bA
   have b04:=Below.tr b03 bA
   replace hPut:=hid hPut
   clear hl3 hij hj hl bA hOwn b03 b3 hsz3
   rcases hrd.out with h0 | ⟨m,h0⟩
   ·subst h0
    have r0:=krA.cell 0
    have r1:=krA.frozen 0
    have kk:=Kept.setCell (g:=w.heap.size+1) (Kept.refl _ (w3.alloc (.cells #[.slice (some ⟨g,0,none⟩) n n] 24))) (p:=⟨w.heap.size+1,0,none⟩) rfl (.slice (some ⟨g,0,none⟩) n n)
    have hfin:=hid (hOA.kept (by omega) kk)
    replace b04:=hid b04
    clear kA krA hOA kk
    go_wp2_with fail
    refine bodyPost_ret (v:=.tuple #[.agg #[.slice (some ⟨g,0,none⟩) n n],.int .i64 a', .int .i64 0]) (by rw[bG rfl]; go_simp) rfl ⟨⟨_,n,n,a', 0,rfl,.inr ⟨rfl,g,D,rfl,rfl,rfl,⟨D,hPut.out,.inl ⟨rfl,rfl⟩⟩,by omega,hfin.out⟩⟩,b04.out.setCell (by simp) _⟩
   ·subst h0
    have hm0:(((m:Int)+1) == 0)=false:=by simp; omega
    have hP:dF (w3.alloc (.cells #[.slice (some ⟨g,0,none⟩) n n] 24)) ⟨w3.heap.size,0,none⟩ g n D:=⟨kA.lt,by show w3.heap.size≠g; omega,by simp,hOA⟩
    have hdr:=hid (hd.out m D a' rfl hPut.out)
    replace hP:=hid hP
    replace krA:=hid krA
    replace b04:=hid b04
    clear hOA kA
    go_wp2_with fail
    generalize w3.alloc (.cells #[.slice (some ⟨g,0,none⟩) n n] 24)=w4 at *
    refine(bD2 ⟨w3.heap.size,0,none⟩ g n D ((m:Int)+1) w4 hP.out).mono ?_
    rintro e w5 ⟨hD,hO⟩
    rcases hD with⟨e', _,_,hno⟩ | ⟨rfl,_,E,hE,hRE,hFE⟩
    ·exact absurd hdr.out hno
    have kr5:aC w5 (w.heap.size+1) #[.slice none 0 0] 24:=(by unfold aC; rw[hO.block _ krA.out.lt (by omega)]; exact krA.out)
    have r0:=kr5.cell 0
    have r1:=kr5.frozen 0
    have s5:=hE.cell
    simp at r0
    have kk:=Kept.setCell (g:=w.heap.size+1) (Kept.refl _ w5) (p:=⟨w.heap.size+1,0,none⟩) rfl (.slice (some ⟨g,0,none⟩) n n)
    have hfin:=hid (hE.own.kept (by omega) kk)
    have b5:=hid (b04.out.trans (hO.below (B:=w.heap.size) (by omega) (by have:=b04.out.size; omega)))
    replace hRE:=hid hRE
    replace hFE:=hid hFE
    clear hO hE kk kr5
    go_wp2_with fail
    refine bodyPost_ret (v:=.tuple #[.agg #[.slice (some ⟨g,0,none⟩) n n],.int .i64 a', .int .i64 0]) (by rw[bG rfl]; go_simp) rfl ⟨⟨_,n,n,a', 0,rfl,.inr ⟨rfl,g,E,rfl,rfl,rfl,⟨D,hPut.out,.inr ⟨m,rfl,hRE.out,hFE.out⟩⟩,by omega,hfin.out⟩⟩,b5.out.setCell (by simp) _⟩
 ·have hne:Hid (p≠[0,0,0,0]):=hid fun f=>hz (by rw[f]; intro x hx; simp at hx; exact hx)
  clear hz
  go_wp2_with fail
  refine(cJ4 key _ ba 4 bc p w1 (pU hk.out hi) (by omega) (hp.out.below b0.out).bytesAt).mono ?_
  rintro e w2 ⟨g2,rfl,hB2,b2⟩
  rw[uI i] at hB2
  have hLf:Hid (aI (fun _=>True) .u8 w2 (some ⟨g2,0,none⟩) 4 (eG key i p)):=hid (by
   have e:eG key i p=aT0 key (fB i) p:=by unfold eG; rw[if_neg hne.out]
   rw[e]; exact hB2.nums)
  replace ks:=hid (ks.out.below b2)
  replace kr:=hid (kr.out.below b2)
  replace hsz:Hid (w.heap.size+2<=w2.heap.size):=hid (Nat.le_trans (Nat.le_of_eq hsz.out) b2.size)
  replace b0:=hid (Below.tr b0.out b2)
  have s0:=ks.out.cell 0
  simp at s0
  clear hB2 b2 hp hne
  go_wp2_with fail
  refine(uF a n c C root 3 i _ _ _ (eG key i p) cc _ (h.out.below b0.out) hLf.out (Nat.le_refl _) h1 hcm hc.out).mono ?_
  rintro e w3 ⟨hP,b3⟩
  have hg0:=hsz.out
  have hsz3:=b3.size
  replace kr:=hid (kr.out.below b3)
  have b03:=Below.tr b0.out b3
  clear hLf s0 ks b0 hsz
  rcases hP with⟨e', rfl,he,hfull⟩ | ⟨l,j,D,a', g,rfl,hl3,hij,hl,hj,_,_,_,hPut,hg,hOwn⟩
  ·obtain⟨rfl,hfu⟩:=hfull hch.out h04.out
   have bA:=aA w3 (.cells #[.slice none 0 0] 24)
   have krA:=kr.out.below bA
   have r0:=krA.cell 0
   have r1:=krA.frozen 0
   have b04:=hid (Below.tr b03 bA)
   have hfu':Hid (n<=cO C n+3):=hid (by omega)
   clear hfull he bA krA b3 hfu b03
   go_wp2_with fail
   refine bodyPost_ret (v:=.tuple #[.agg #[.slice none 0 0],.int .i64 0,.int .i64 8]) (by rw[bG rfl]; go_simp) rfl ⟨⟨none,0,0,0,8,rfl,.inl ⟨rfl,rfl,rfl,rfl,rfl,hfu'.out⟩⟩,b04.out.setCell (by simp) _⟩
  ·obtain rfl:j=i:=by omega
   obtain rfl:l=3:=by omega
   have bA:=aA w3 (.cells #[.slice (some ⟨g,0,none⟩) n n] 24)
   have kA:=aB w3 #[.slice (some ⟨g,0,none⟩) n n] 24
   have hgl:=hOwn.lt
   have hOA:=hOwn.below bA
   have krA:=kr.out.below bA
   have b04:=Below.tr b03 bA
   replace hPut:=hid hPut
   clear hl3 hij hj hl bA hOwn b03 b3 hsz3
   rcases hrd.out with h0 | ⟨m,h0⟩
   ·subst h0
    have r0:=krA.cell 0
    have r1:=krA.frozen 0
    have kk:=Kept.setCell (g:=w.heap.size+1) (Kept.refl _ (w3.alloc (.cells #[.slice (some ⟨g,0,none⟩) n n] 24))) (p:=⟨w.heap.size+1,0,none⟩) rfl (.slice (some ⟨g,0,none⟩) n n)
    have hfin:=hid (hOA.kept (by omega) kk)
    replace b04:=hid b04
    clear kA krA hOA kk
    go_wp2_with fail
    refine bodyPost_ret (v:=.tuple #[.agg #[.slice (some ⟨g,0,none⟩) n n],.int .i64 a', .int .i64 0]) (by rw[bG rfl]; go_simp) rfl ⟨⟨_,n,n,a', 0,rfl,.inr ⟨rfl,g,D,rfl,rfl,rfl,⟨D,hPut.out,.inl ⟨rfl,rfl⟩⟩,by omega,hfin.out⟩⟩,b04.out.setCell (by simp) _⟩
   ·subst h0
    have hm0:(((m:Int)+1) == 0)=false:=by simp; omega
    have hP:dF (w3.alloc (.cells #[.slice (some ⟨g,0,none⟩) n n] 24)) ⟨w3.heap.size,0,none⟩ g n D:=⟨kA.lt,by show w3.heap.size≠g; omega,by simp,hOA⟩
    have hdr:=hid (hd.out m D a' rfl hPut.out)
    replace hP:=hid hP
    replace krA:=hid krA
    replace b04:=hid b04
    clear hOA kA
    go_wp2_with fail
    generalize w3.alloc (.cells #[.slice (some ⟨g,0,none⟩) n n] 24)=w4 at *
    refine(bD2 ⟨w3.heap.size,0,none⟩ g n D ((m:Int)+1) w4 hP.out).mono ?_
    rintro e w5 ⟨hD,hO⟩
    rcases hD with⟨e', _,_,hno⟩ | ⟨rfl,_,E,hE,hRE,hFE⟩
    ·exact absurd hdr.out hno
    have kr5:aC w5 (w.heap.size+1) #[.slice none 0 0] 24:=(by unfold aC; rw[hO.block _ krA.out.lt (by omega)]; exact krA.out)
    have r0:=kr5.cell 0
    have r1:=kr5.frozen 0
    have s5:=hE.cell
    simp at r0
    have kk:=Kept.setCell (g:=w.heap.size+1) (Kept.refl _ w5) (p:=⟨w.heap.size+1,0,none⟩) rfl (.slice (some ⟨g,0,none⟩) n n)
    have hfin:=hid (hE.own.kept (by omega) kk)
    have b5:=hid (b04.out.trans (hO.below (B:=w.heap.size) (by omega) (by have:=b04.out.size; omega)))
    replace hRE:=hid hRE
    replace hFE:=hid hFE
    clear hO hE kk kr5
    go_wp2_with fail
    refine bodyPost_ret (v:=.tuple #[.agg #[.slice (some ⟨g,0,none⟩) n n],.int .i64 a', .int .i64 0]) (by rw[bG rfl]; go_simp) rfl ⟨⟨_,n,n,a', 0,rfl,.inr ⟨rfl,g,E,rfl,rfl,rfl,⟨D,hPut.out,.inr ⟨m,rfl,hRE.out,hFE.out⟩⟩,by omega,hfin.out⟩⟩,b5.out.setCell (by simp) _⟩
end Go.Proofs.YtjafgnohlkkopaaGreatDoor
