/-
  TreeB, TreeC, TreeD, Sto4, Few, FileA, FileU, Math, FSmall, FTurn, FSeal in one text. Nothing here is trusted.
-/
import Derived.Test.YtjafgnohlkkopaaGreatDoorPart07
import Derived.Test.YtjafgnohlkkopaaGreatDoorPart04
import Derived.WalkKit
import Derived.Test.YtjafgnohlkkopaaGreatDoorPart02
import Derived.Laws.BytesArg
set_option linter.unusedVariables false
namespace Go.Proofs.YtjafgnohlkkopaaGreatDoor
open Go.RowKit
end Go.Proofs.YtjafgnohlkkopaaGreatDoor

namespace Go.Proofs.YtjafgnohlkkopaaGreatDoor
open Go.RowKit
end Go.Proofs.YtjafgnohlkkopaaGreatDoor

namespace Go.Proofs.YtjafgnohlkkopaaGreatDoor
open Go.RowKit
theorem leavesL_getD (B:Nat→Blk) (l:Nat) (a:Int) (j:Nat) (hj:j<pw l):(leavesL B l a).getD j []=leafAt B l a j:=by
 unfold leavesL
 simp[List.getD,hj]
theorem keeps_like {n:Nat} {B C:Nat→Blk} (hB:Right n B) (h:Ext n B C):Like n C B:=fun k hk=>by
 by_cases e:(B k).refs=0
 ·exact .inr (.inl e)
 ·obtain⟨_,h1,h2,h3⟩:=h.keep k hk e
  exact .inr (.inr ⟨h1,h2,h3⟩)
theorem outs_nonneg {n:Nat} {B:Nat→Blk} (hB:Right n B) (k:Nat) (hk:k<n):0≤outs n B k:=by
 have:=hB.held k hk
 simp at this
 unfold outs
 omega
end Go.Proofs.YtjafgnohlkkopaaGreatDoor

namespace Go.Proofs.YtjafgnohlkkopaaGreatDoor
theorem all_reached {n:Nat} {B:Nat→Blk} (hR:Right n B) {l:List Int} (hl:∀ k:Nat,k<n→0<outs n B k→((k:Int)+1)∈l):∀ i:Nat,i<n→(B i).refs≠0→Clo B l ((i:Int)+1):=by
 have step:∀ d:Nat,d≤4→∀ i:Nat,i<n→(4:Int)-d≤(B i).level→(B i).refs≠0→Clo B l ((i:Int)+1):=by
  intro d
  induction d with
  | zero=>
    intro _ i hi hlv _
    have:=(hR.one i hi).bounds
    omega
  | succ d ih=>
    intro hd i hi hlv hr
    by_cases ho:0<outs n B i
    ·exact Clo.root (hl i hi ho) (by omega)
    ·have hb:=(hR.one i hi).bounds
     unfold outs at ho
     obtain⟨j,hj,hc⟩:=sumTo_pos (f:=fun j=>(B j).kids.count ((i:Int)+1)) (n:=n) (show 0<among n B ((i:Int)+1) by omega)
     have hm:=List.count_pos_iff.1 hc
     obtain⟨_,h2,h3⟩:=kid_of hR hj hm
     have h4:=ih (by omega) j hj (by omega) h3
     exact h4.kid (by rw[show ((j:Int)+1-1).toNat=j by omega]; exact hm) (by omega)
 intro i hi hr
 have:=(hR.one i hi).bounds
 exact step 4 (Nat.le_refl _) i hi (by omega) hr
end Go.Proofs.YtjafgnohlkkopaaGreatDoor

namespace Go.Proofs.YtjafgnohlkkopaaGreatDoor
theorem sumTo_le {f g:Nat→Nat}:∀ {n:Nat},(∀ i,i<n→f i≤g i)→sumTo f n≤sumTo g n
 | 0,_=>Nat.le_refl _
 | n+1,h=>Nat.add_le_add (sumTo_le fun i hi=>h i (by omega)) (h n (by omega))
theorem sumTo_add {f g:Nat→Nat}:∀ {n:Nat},sumTo (fun i=>f i+g i) n=sumTo f n+sumTo g n
 | 0=>rfl
 | n+1=>by
   have:=sumTo_add (f:=f) (g:=g) (n:=n)
   simp only[sumTo]
   omega
theorem sumTo_mul {f:Nat→Nat} (c:Nat):∀ {n:Nat},sumTo (fun i=>c*f i) n=c*sumTo f n
 | 0=>rfl
 | n+1=>by
   have:=sumTo_mul (f:=f) c (n:=n)
   simp only[sumTo]
   rw[this,Nat.mul_add]
theorem sumTo_nil:∀ {n:Nat},sumTo (fun _=>0) n=0
 | 0=>rfl
 | n+1=>by
   have:=sumTo_nil (n:=n)
   simp only[sumTo]
   omega
theorem sumTo_swap {f:Nat→Nat→Nat} {n:Nat}:∀ {m:Nat},sumTo (fun k=>sumTo (fun i=>f i k) n) m=sumTo (fun i=>sumTo (fun k=>f i k) m) n
 | 0=>by
   simp only[sumTo]
   rw[sumTo_nil]
 | m+1=>by
   have:=sumTo_swap (f:=f) (n:=n) (m:=m)
   simp only[sumTo]
   rw[this,sumTo_add]
theorem sumTo_at (x:Int):∀ {n:Nat},sumTo (fun k=>if (k:Int)+1=x then 1 else 0) n≤if 1≤x∧x≤n then 1 else 0
 | 0=>by simp[sumTo]
 | n+1=>by
   have:=sumTo_at x (n:=n)
   simp only[sumTo]
   split at this<;>split<;>split<;>omega
theorem count_sum (n:Nat):∀ (L:List Int),sumTo (fun k=>L.count ((k:Int)+1)) n≤L.length
 | []=>by
   simp only[List.count_nil,sumTo_nil]
   exact Nat.zero_le _
 | x::L=>by
   have h1:=count_sum n L
   have h2:=sumTo_at x (n:=n)
   have e:sumTo (fun k=>(x::L).count ((k:Int)+1)) n=sumTo (fun k=>L.count ((k:Int)+1)+if (k:Int)+1=x then 1 else 0) n:=sumTo_congr fun k _=>by
    by_cases e:(k:Int)+1=x
    ·subst e; rw[List.count_cons_self,if_pos rfl]
    ·rw[List.count_cons_of_ne (fun h=>e h.symm),if_neg e]; rfl
   rw[e,sumTo_add]
   simp only[List.length_cons]
   split at h2<;>omega
def isNew (B C:Nat→Blk) (lv:Int) (k:Nat):Nat:=if (B k).refs=0∧(C k).refs≠0∧(C k).level=lv then 1 else 0
def news (n:Nat) (B C:Nat→Blk) (lv:Int):Nat:=sumTo (isNew B C lv) n
theorem isNew_of {B C:Nat→Blk} {lv:Int} {k:Nat} (h1:(B k).refs=0) (h2:(C k).refs≠0) (h3:(C k).level=lv):isNew B C lv k=1:=if_pos ⟨h1,h2,h3⟩
theorem isNew_le {B C:Nat→Blk} {lv:Int} {k:Nat} {m:Nat} (h:(B k).refs=0→(C k).refs≠0→(C k).level=lv→1≤m):isNew B C lv k≤m:=by
 unfold isNew
 split
 ·next hh=>exact h hh.1 hh.2.1 hh.2.2
 ·exact Nat.zero_le _
theorem among_free {n:Nat} {B:Nat→Blk} (hB:Right n B) {k:Nat} (hk:k<n) (h0:(B k).refs=0):among n B ((k:Int)+1)=0:=by
 have:=outs_free hB hk h0
 unfold outs at this
 omega
theorem kids_free {n:Nat} {C:Nat→Blk} (hC:Right n C) {i:Nat} (hi:i<n) (h0:(C i).refs=0):(C i).kids=[]:=by
 rw[(hC.one i hi).zero h0]; rfl
theorem count_less {L:List Int} {x y:Int} (hx:x∈L) (hn:x≠y) (h4:L.length≤4):L.count y≤3:=by
 have h1:=List.count_le_length (a:=y) (l:=L)
 by_cases e:L.count y=L.length
 ·exact absurd (List.count_eq_length.1 e x hx).symm hn
 ·omega
theorem among_new {n:Nat} {B C:Nat→Blk} (hB:Right n B) (hC:Right n C) (hx:Ext n B C) {k:Nat} (hk:k<n) {m:Nat} (hm:∀ i,i<n→(B i).refs=0→(C i).refs≠0→((k:Int)+1)∈(C i).kids→(C i).kids.count ((k:Int)+1)≤m):
 among n C ((k:Int)+1)≤among n B ((k:Int)+1)+m*news n B C ((C k).level+1):=by
 unfold among news
 rw[←sumTo_mul,←sumTo_add]
 refine sumTo_le fun i hi=>?_
 by_cases hb:(B i).refs=0
 ·by_cases hc:(C i).refs=0
  ·rw[kids_free hC hi hc]; simp
  ·by_cases hin:((k:Int)+1)∈(C i).kids
   ·rw[isNew_of hb hc (kid_of hC hi hin).2.1]
    have:=hm i hi hb hc hin
    omega
   ·rw[List.count_eq_zero.2 hin]; exact Nat.zero_le _
 ·rw[(hx.keep i hi hb).2.2.1]
  exact Nat.le_add_right _ _
theorem news_top {n:Nat} {B C:Nat→Blk} (hC:Right n C) {lv:Int} (h:3<lv):news n B C lv=0:=by
 have e:sumTo (isNew B C lv) n=sumTo (fun _=>0) n:=sumTo_congr fun i hi=>by
  unfold isNew
  rw[if_neg]
  intro ⟨_,_,h3⟩
  have:=(hC.one i hi).bounds
  omega
 unfold news
 rw[e,sumTo_nil]
structure Held1 (n:Nat) (B C:Nat→Blk) (a:Int):Prop where
 left:Right n B
 right:Right n C
 ext:Ext n B C
 root:Root n C 3 a
 out:∀ k,k<n→outs n C k=outs n B k+if (k:Int)+1=a then 1 else 0
theorem count_four {n:Nat} {C:Nat→Blk} (hC:Right n C) {i:Nat} (hi:i<n) (x:Int):(C i).kids.count x≤4:=Nat.le_trans List.count_le_length (hC.one i hi).few
theorem Held1.level {n:Nat} {B C:Nat→Blk} {a:Int} (h:Held1 n B C a) {k:Nat} (e:(k:Int)+1=a):(C k).level=3:=by
 rcases h.root with hr | ⟨_,hl⟩
 ·omega
 ·rw[←e,show ((k:Int)+1-1).toNat=k by omega] at hl; exact hl
theorem Held1.news3 {n:Nat} {B C:Nat→Blk} {a:Int} (h:Held1 n B C a):news n B C 3≤1:=by
 have h2:=sumTo_at a (n:=n)
 have h1:news n B C 3≤sumTo (fun k=>if (k:Int)+1=a then 1 else 0) n:=sumTo_le fun k hk=>isNew_le fun hb hc hl=>by
  have ha:=among_new h.left h.right h.ext hk (m:=4) (fun i hi _ _ _=>count_four h.right hi _)
  rw[hl,news_top h.right (by omega),among_free h.left hk hb] at ha
  have ho:=h.out k hk
  have hz:=outs_free h.left hk hb
  have hbd:=(h.right.one k hk).bounds
  unfold outs at ho
  unfold outs at hz
  by_cases e:(k:Int)+1=a
  ·rw[if_pos e]; omega
  ·rw[if_neg e] at ho; omega
 split at h2<;>omega
theorem Held1.less {n:Nat} {B C:Nat→Blk} {a:Int} (h:Held1 n B C a) {lv:Int} (hl:lv<3):news n B C lv≤4*news n B C (lv+1):=by
 have h1:news n B C lv≤sumTo (fun k=>sumTo (fun i=>if (B i).refs=0∧(C i).refs≠0∧(C i).level=lv+1 then (C i).kids.count ((k:Int)+1) else 0) n) n:=sumTo_le fun k hk=>isNew_le fun hb hc he=>by
  have ho:=h.out k hk
  have hz:=outs_free h.left hk hb
  have hbd:=(h.right.one k hk).bounds
  have hne:¬(k:Int)+1=a:=fun e=>by have:=h.level e; omega
  rw[if_neg hne] at ho
  unfold outs at ho
  unfold outs at hz
  have hpos:1≤among n C ((k:Int)+1):=by omega
  refine Nat.le_trans hpos (sumTo_le fun i hi=>?_)
  by_cases hin:((k:Int)+1)∈(C i).kids
  ·obtain⟨_,h2,h3⟩:=kid_of h.right hi hin
   by_cases hbi:(B i).refs=0
   ·rw[if_pos ⟨hbi,h3,by omega⟩]; exact Nat.le_refl _
   ·rw[(h.ext.keep i hi hbi).2.2.1] at hin
    exact absurd hb (kid_of h.left hi hin).1
  ·show (C i).kids.count ((k:Int)+1)≤_
   rw[List.count_eq_zero.2 hin]; exact Nat.zero_le _
 rw[sumTo_swap] at h1
 refine Nat.le_trans h1 ?_
 unfold news
 rw[←sumTo_mul]
 refine sumTo_le fun i hi=>?_
 unfold isNew
 by_cases hc:(B i).refs=0∧(C i).refs≠0∧(C i).level=lv+1
 ·simp only[if_pos hc]
  have:=count_sum n (C i).kids
  have:=(h.right.one i hi).few
  omega
 ·simp only[if_neg hc]
  rw[sumTo_nil]
  exact Nat.zero_le _
theorem Held1.news_up {n:Nat} {B C:Nat→Blk} {a:Int} (h:Held1 n B C a) {lv:Int} (h0:0≤lv) (hl:lv<3):news n B C (lv+1)≤16:=by
 have h3:=h.news3
 have h2:news n B C 2≤4*news n B C 3:=h.less (lv:=2) (by omega)
 have h1:news n B C 1≤4*news n B C 2:=h.less (lv:=1) (by omega)
 have hc:lv=0∨lv=1∨lv=2:=by omega
 rcases hc with e | e | e<;>subst e
 ·show news n B C 1≤16
  omega
 ·show news n B C 2≤16
  omega
 ·show news n B C 3≤16
  omega
theorem few48 {n:Nat} {B C:Nat→Blk} {a cc:Int} (h:Held1 n B C a) (hk:NewK n B C) (h64:64≤cc) (hc:∀ k,k<n→(B k).refs≤cc):∀ k,k<n→(C k).refs≤cc+48:=by
 intro k hkn
 have hbd:=(h.right.one k hkn).bounds
 have ho:=h.out k hkn
 have hcb:=hc k hkn
 by_cases hck:(C k).refs=0
 ·omega
 by_cases hb:(B k).refs=0
 ·have ha:=among_new h.left h.right h.ext hkn (m:=4) (fun i hi _ _ _=>count_four h.right hi _)
  rw[among_free h.left hkn hb] at ha
  have hz:=outs_free h.left hkn hb
  have hup:news n B C ((C k).level+1)≤16:=by
   by_cases e:(C k).level=3
   ·rw[e,news_top h.right (by omega)]; omega
   ·exact h.news_up hbd.2.2.1 (by omega)
  rw[hz] at ho
  unfold outs at ho
  by_cases e:(k:Int)+1=a
  ·rw[if_pos e] at ho
   have hl:=h.level e
   rw[hl,news_top h.right (by omega)] at ha
   omega
  ·rw[if_neg e] at ho; omega
 ·have ha:=among_new h.left h.right h.ext hkn (m:=3) (fun i hi hbi hci hin=>by
   have hl:=kid_of h.right hi hin
   obtain⟨x,hx,hor⟩:=hk i hi hbi hci (by have:=(h.right.one k hkn).bounds; omega)
   refine count_less hx (fun e=>?_) (h.right.one i hi).few
   subst e
   rcases hor with e | e
   ·omega
   ·rw[show ((k:Int)+1-1).toNat=k by omega] at e; exact hb e)
  unfold outs at ho
  by_cases e:(k:Int)+1=a
  ·rw[if_pos e] at ho
   have hl:=h.level e
   rw[hl,news_top h.right (by omega)] at ha
   omega
  ·rw[if_neg e] at ho
   have hup:news n B C ((C k).level+1)≤16:=by
    by_cases e:(C k).level=3
    ·rw[e,news_top h.right (by omega)]; omega
    ·exact h.news_up hbd.2.2.1 (by omega)
   omega
end Go.Proofs.YtjafgnohlkkopaaGreatDoor

namespace Go.Proofs.YtjafgnohlkkopaaGreatDoor
theorem stay_all {n:Nat} {B D E:Nat→Blk} {T:List Int} (hB:Right n B) (hE:Right n E) (hx:Ext n B D) (hF:Fell n D E T) (ho:∀ k,k<n→outs n B k≤outs n E k):Ext n B E:=by
 have hl:∀ k:Nat,k<n→0<outs n B k→((k:Int)+1)∈((List.range n).filter (fun k=>decide (0<outs n B k))).map (fun k:Nat=>(k:Int)+1):=fun k hk h=>
  List.mem_map.2 ⟨k,List.mem_filter.2 ⟨List.mem_range.2 hk,decide_eq_true h⟩,rfl⟩
 refine⟨fun i hi h0=>?_⟩
 have hc:=all_reached hB hl i hi h0
 have key:=hc (fun y=>There n B y∧There n E y) (fun r hr h0'=>by
  obtain⟨k,hk,rfl⟩:=List.mem_map.1 hr
  have hkn:=List.mem_range.1 (List.mem_filter.1 hk).1
  have hko:=of_decide_eq_true (List.mem_filter.1 hk).2
  have hkE:=ho k hkn
  have e:((k:Int)+1-1).toNat=k:=by omega
  unfold outs at hko hkE
  refine⟨⟨by omega,by omega,?_⟩,⟨by omega,by omega,?_⟩⟩
  ·rw[e]; omega
  ·rw[e]; omega) (fun y ⟨hy,hyE⟩ k hk hk0=>by
  have hkB:There n B k:=by
   rcases(hB.one _ (ix hy.1 hy.2.1).1).kids k hk with h | ⟨h,_⟩
   ·exact absurd h hk0
   ·exact h
  refine⟨hkB,?_⟩
  have h1:=(fell_content hF hyE).2.1
  have h2:=(hx.keep _ (ix hy.1 hy.2.1).1 hy.2.2).2.2.1
  rw[←h2,←h1] at hk
  rcases(hE.one _ (ix hyE.1 hyE.2.1).1).kids k hk with h | ⟨h,_⟩
  ·exact absurd h hk0
  ·exact h)
 have hiE:=key.2
 obtain⟨c1,c2,c3⟩:=fell_content hF hiE
 have e:((i:Int)+1-1).toNat=i:=by omega
 rw[e] at c1 c2 c3
 have hne:=hiE.2.2
 rw[e] at hne
 obtain⟨_,d1,d2,d3⟩:=hx.keep i hi h0
 exact⟨hne,c1.trans d1,c2.trans d2,c3.trans d3⟩
theorem leaf_behind {n:Nat} {D E:Nat→Blk} {T:List Int} (hD:Right n D) (hE:Right n E) (hF:Fell n D E T):∀ (l:Nat) (a:Int),Root n D l a→(a=0∨There n E a)→Root n E l a∧∀ i,i<pw l→leafAt E l a i=leafAt D l a i
 | l,a,hr,.inl h0=>by
   subst h0
   exact⟨.inl rfl,fun i hi=>by rw[leafAt_zero _ _ _ hi,leafAt_zero _ _ _ hi]⟩
 | 0,a,hr,.inr ht=>by
   obtain⟨c1,c2,c3⟩:=fell_content hF ht
   have h1:=ht.1
   refine⟨?_,fun i _=>?_⟩
   ·rcases hr with h | ⟨_,h⟩
    ·exact .inl h
    ·exact .inr ⟨ht,c1.trans h⟩
   ·simp only[leafAt,bytesL]
    rw[if_neg (by omega),if_neg (by omega),c3]
 | l+1,a,hr,.inr ht=>by
   obtain⟨c1,c2,c3⟩:=fell_content hF ht
   have h1:=ht.1
   have hrE:Root n E (l+1) a:=by
    rcases hr with h | ⟨_,h⟩
    ·exact .inl h
    ·exact .inr ⟨ht,c1.trans h⟩
   have hk:kidsL E a=kidsL D a:=by unfold kidsL; rw[if_neg (by omega),if_neg (by omega),c2]
   refine⟨hrE,fun i hi=>?_⟩
   have hp:=pw_pos l
   have hd:i / pw l<4:=by simp only[pw] at hi; exact Nat.div_lt_of_lt_mul (by rw[Nat.mul_comm]; exact hi)
   simp only[leafAt]
   rw[hk]
   have hrk:=hrE.kidAt hE hd
   rw[hk] at hrk
   exact(leaf_behind hD hE hF l _ (hr.kidAt hD hd) (hrk.imp id (·.1))).2 _ (Nat.mod_lt _ hp)
structure Turned (n:Nat) (B C:Nat→Blk) (a:Int) (c:Int):Prop where
 right:Right n C
 ext:Ext n B C
 root:Root n C 3 a
 out:∀ k,k<n→outs n C k=outs n B k+if (k:Int)+1=a then 1 else 0
 few:∀ k,k<n→(C k).refs≤c
 newk:NewK n B C
theorem newK_refl (n:Nat) (B:Nat→Blk):NewK n B B:=fun k _ h1 h2 _=>absurd h1 h2
theorem newK_trans {n:Nat} {B C D:Nat→Blk} (hx:Ext n B C) (hy:Ext n C D) (hD:Right n D) (h1:NewK n B C) (h2:NewK n C D):NewK n B D:=by
 intro k hk hb hd hl
 by_cases hc:(C k).refs=0
 ·obtain⟨x,hxk,hor⟩:=h2 k hk hc hd hl
  refine⟨x,hxk,hor.imp id fun hcx=>?_⟩
  rcases(hD.one k hk).kids x hxk with h0 | ⟨⟨g1,g2,_⟩,_⟩
  ·subst h0
   exact Classical.byContradiction fun hne=>by
    by_cases hn:(0-1:Int).toNat<n
    ·exact(hx.keep _ hn hne).1 hcx
    ·exact absurd (show (0-1:Int).toNat<n by simp; omega) hn
  ·exact Classical.byContradiction fun hne=>(hx.keep _ (by omega) hne).1 hcx
 ·obtain⟨_,g2,g3,_⟩:=hy.keep k hk hc
  rw[g3]
  exact h1 k hk hb hc (by rw[←g2]; exact hl)
theorem newK_fell {n:Nat} {B D E:Nat→Blk} {T:List Int} (hF:Fell n D E T) (h:NewK n B D):NewK n B E:=by
 intro k hk hb he hl
 have e0:((k:Int)+1-1).toNat=k:=by omega
 have hc:=fell_content hF (x:=(k:Int)+1) ⟨by omega,by omega,by rw[e0]; exact he⟩
 rw[e0] at hc
 have hd:(D k).refs≠0:=by
  rcases hF.same k hk with e | ⟨h1,h2,_⟩
  ·exact absurd (by rw[e]; rfl) he
  ·intro h0; omega
 rw[hc.2.1]
 exact h k hk hb hd (by rw[←hc.1]; exact hl)
theorem right_kept9 {n:Nat} {B:Nat→Blk} {i:Nat} (hR:Right n B) (hi:i<n) (h0:(B i).refs≠0) (hm:(B i).refs≤999999):Right n (keptB B ((i:Int)+1)):=by
 have hth:∀ x,There n B x→There n (keptB B ((i:Int)+1)) x∧(keptB B ((i:Int)+1) (x-1).toNat).level=(B (x-1).toNat).level:=by
  intro x ⟨x1,x2,x3⟩
  by_cases e:(x-1).toNat=i
  ·have hb:=(hR.one i hi).bounds
   rw[e,kept_same]
   refine⟨⟨x1,x2,?_⟩,rfl⟩
   rw[e,kept_same]
   show (B i).refs+1≠0
   omega
  ·rw[kept_other e]
   exact⟨⟨x1,x2,by rw[kept_other e]; exact x3⟩,rfl⟩
 refine⟨hR.small,fun k hk=>?_,fun k hk=>?_,by simp⟩
 ·by_cases e:k=i
  ·subst e
   rw[kept_same]
   have hb:=(hR.one k hk).bounds
   exact(hR.one k hk).turn rfl rfl rfl (.inr ⟨h0,by show 1≤(B k).refs+1; omega,by show (B k).refs+1≤1000000; omega⟩) fun x _=>hth x
  ·rw[kept_other e]
   exact(hR.one k hk).turn rfl rfl rfl (.inl rfl) fun x _=>hth x
 ·rw[among_kept]
  have h1:=hR.held k hk
  simp at h1 ⊢
  by_cases e:k=i
  ·subst e; rw[kept_same]; show _≤(B k).refs+1; omega
  ·rw[kept_other e]; exact h1
theorem turned_zero {n:Nat} {B:Nat→Blk} {c:Int} (hR:Right n B) (hc:∀ k,k<n→(B k).refs≤c):Turned n B B 0 c:=
 ⟨hR,Ext.refl _ _,.inl rfl,fun k _=>by rw[if_neg (by omega)]; omega,hc,newK_refl _ _⟩
theorem turned_kept {n:Nat} {B:Nat→Blk} {i:Nat} {c:Int} (hR:Right n B) (hr:Root n B 3 ((i:Int)+1)) (hcm:c≤999999) (hc:∀ k,k<n→(B k).refs≤c):Turned n B (keptB B ((i:Int)+1)) ((i:Int)+1) (c+1):=by
 rcases hr with h | ⟨⟨h1,h2,h3⟩,hl⟩
 ·omega
 have e:((i:Int)+1-1).toNat=i:=by omega
 rw[e] at h3 hl
 have hi:i<n:=by omega
 have hR':=right_kept9 hR hi h3 (by have:=hc i hi; omega)
 have hx:Ext n B (keptB B ((i:Int)+1)):=⟨fun k hk h0=>by
  by_cases ek:k=i
  ·subst ek
   have hb:=(hR.one k hk).bounds
   rw[kept_same]
   exact⟨by show (B k).refs+1≠0; omega,rfl,rfl,rfl⟩
  ·rw[kept_other ek]; exact⟨h0,rfl,rfl,rfl⟩⟩
 refine⟨hR', hx,?_,fun k hk=>?_,fun k hk=>?_,fun k hk hb hc' _=>?_⟩
 ·exact(hx.root (a:=(i:Int)+1) (l:=3) (.inr ⟨⟨h1,h2,by rw[e]; exact h3⟩,by rw[e]; exact hl⟩)).1
 ·rw[outs_kept]
  by_cases ek:k=i
  ·subst ek; rw[if_pos rfl,if_pos rfl]
  ·rw[if_neg ek,if_neg (by omega)]; omega
 ·have:=hc k hk
  by_cases ek:k=i
  ·subst ek; rw[kept_same]; show (B k).refs+1≤_; omega
  ·rw[kept_other ek]; omega
 ·by_cases ek:k=i
  ·subst ek; exact absurd hb h3
  ·rw[kept_other ek] at hc'; exact absurd hb hc'
theorem Turned.put {n:Nat} {B C D:Nat→Blk} {a a' c c':Int} {i:Nat} {bs:List Int} (hB:Right n B) (h:Turned n B C a c) (hp:PutOk n C 3 a i bs c' D a'):
 Ext n B D∧Right n D∧Root n D 3 a'∧(∀ k,k<n→outs n D k=outs n B k+(if (k:Int)+1=a then 1 else 0)+(if (k:Int)+1=a' then 1 else 0))∧NewK n B D∧(a≠0→a≠a'):=
 ⟨h.ext.trans hp.grew.ext,hp.grew.right,hp.grew.root,fun k hk=>by rw[hp.grew.out k hk,h.out k hk],newK_trans h.ext hp.grew.ext hp.grew.right h.newk hp.newk,fun h0 e=>by
   rcases h.root with hr | ⟨⟨_,_,hr⟩,_⟩
   ·exact h0 hr
   ·exact hr (by rw[e]; exact hp.grew.fresh (e▸h0))⟩
theorem Turned.put0 {n:Nat} {B C D:Nat→Blk} {a' c c' cc:Int} {i:Nat} {bs:List Int} (hB:Right n B) (h:Turned n B C 0 c) (h64:64≤cc) (hc:∀ k,k<n→(B k).refs≤cc) (hp:PutOk n C 3 0 i bs c' D a'):Turned n B D a' (cc+48):=by
 obtain⟨p1,p2,p3,p4,p5,_⟩:=h.put hB hp
 have ho:∀ k,k<n→outs n D k=outs n B k+if (k:Int)+1=a' then 1 else 0:=fun k hk=>by rw[p4 k hk,if_neg (by omega)]; omega
 exact⟨p2,p1,p3,ho,few48 ⟨hB,p2,p1,p3,ho⟩ p5 h64 hc,p5⟩
theorem Turned.droppable {n:Nat} {B C D:Nat→Blk} {m:Nat} {a' c c':Int} {i:Nat} {bs:List Int} (hB:Right n B) (h:Turned n B C ((m:Int)+1) c) (hp:PutOk n C 3 ((m:Int)+1) i bs c' D a'):Droppable n D ((m:Int)+1):=by
 obtain⟨p1,p2,p3,p4,p5,_⟩:=h.put hB hp
 rcases h.root with hr | ⟨⟨r1,r2,_⟩,_⟩
 ·omega
 have hm:m<n:=by omega
 refine droppable_of p2 hm ?_
 rw[p4 m hm,if_pos rfl]
 have:=outs_nonneg hB m hm
 split<;>omega
theorem Turned.drop {n:Nat} {B C D E:Nat→Blk} {m:Nat} {a' c c' cc:Int} {i:Nat} {bs:List Int} (hB:Right n B) (h:Turned n B C ((m:Int)+1) c) (h64:64≤cc) (hc:∀ k,k<n→(B k).refs≤cc) (hp:PutOk n C 3 ((m:Int)+1) i bs c' D a') (hE:Right n E) (hF:Fell n D E [(m:Int)+1]):
 Turned n B E a' (cc+48)∧(∀ j,j<pw 3→leafAt E 3 a' j=leafAt D 3 a' j)∧usedTo E n≤usedTo D n:=by
 obtain⟨p1,p2,p3,p4,p5,p6⟩:=h.put hB hp
 have ho:∀ k,k<n→outs n E k=outs n B k+if (k:Int)+1=a' then 1 else 0:=fun k hk=>by
  rw[hF.outs k hk,p4 k hk]
  by_cases e:k=m
  ·subst e; rw[List.count_cons_self,if_pos rfl]; simp; omega
  ·rw[List.count_cons_of_ne (by omega),if_neg (by omega)]; simp
 have hx:=stay_all hB hE p1 hF (fun k hk=>by rw[ho k hk]; split<;>omega)
 have hle:∀ k,k<n→(E k).refs≤(D k).refs:=fun k hk=>by
  rcases hF.same k hk with e | ⟨_,e,_⟩
  ·have:=(p2.one k hk).bounds
   rw[e]; show (0:Int)≤_; omega
  ·exact e
 have ht:a'=0∨There n E a':=by
  rcases p3 with h0 | ⟨⟨r1,r2,r3⟩,_⟩
  ·exact .inl h0
  ·obtain⟨q,rfl⟩:∃ q:Nat,a'=(q:Int)+1:=⟨(a'-1).toNat,by omega⟩
   have hq:q<n:=by omega
   have hoq:=ho q hq
   rw[if_pos rfl] at hoq
   have:=outs_nonneg hB q hq
   refine .inr ⟨r1,r2,?_⟩
   rw[show ((q:Int)+1-1).toNat=q by omega]
   unfold outs at hoq this
   omega
 obtain⟨q1,q2⟩:=leaf_behind p2 hE hF 3 a' p3 ht
 have hn:=newK_fell hF p5
 exact⟨⟨hE,hx,q1,ho,few48 ⟨hB,hE,hx,q1,ho⟩ hn h64 hc,hn⟩,q2,used_mono hle⟩
theorem Turned.none {n:Nat} {B C:Nat→Blk} {c:Int} (hB:Right n B) (h:Turned n B C 0 c):∀ k,k<n→C k=B k:=
 same_of h.right hB (keeps_like hB h.ext) fun k hk=>by rw[h.out k hk,if_neg (by omega)]; omega
theorem Turned.back {n:Nat} {B C D:Nat→Blk} {m:Nat} {c:Int} (hB:Right n B) (h:Turned n B C ((m:Int)+1) c) (hD:Right n D) (hF:Fell n C D [(m:Int)+1]):∀ k,k<n→D k=B k:=by
 refine same_of hD hB (fun k hk=>?_) fun k hk=>?_
 ·rcases fell_like hF k hk with h' | h' | ⟨h1,h2,h3⟩
  ·exact .inl h'
  ·by_cases e:(B k).refs=0
   ·exact .inr (.inl e)
   ·exact absurd h' (h.ext.keep k hk e).1
  ·rcases keeps_like hB h.ext k hk with h' | h' | ⟨g1,g2,g3⟩
   ·by_cases e:(B k).refs=0
    ·exact .inr (.inl e)
    ·exact absurd h' (h.ext.keep k hk e).1
   ·exact .inr (.inl h')
   ·exact .inr (.inr ⟨h1.trans g1,h2.trans g2,h3.trans g3⟩)
 ·rw[hF.outs k hk,h.out k hk]
  by_cases e:k=m
  ·subst e
   rw[if_pos rfl,List.count_cons_self]
   simp
  ·rw[if_neg (by omega),List.count_cons_of_ne (by omega)]
   simp
theorem used_kept {n:Nat} {B:Nat→Blk} {i:Nat} (hR:Right n B) (h0:(B i).refs≠0):usedTo (keptB B ((i:Int)+1)) n≤usedTo B n:=by
 have key:∀ m,m≤n→usedTo (keptB B ((i:Int)+1)) m≤usedTo B m:=by
  intro m
  induction m with
  | zero=>intro _; exact Nat.le_refl _
  | succ m ih=>
    intro hm
    have hb:=(hR.one m (by omega)).bounds
    have h1:=ih (by omega)
    rw[usedTo_succ,usedTo_succ]
    by_cases e:m=i
    ·subst e
     rw[if_pos (show 0<(B m).refs by omega)]
     split<;>omega
    ·rw[kept_other e]; omega
 exact key n (Nat.le_refl _)
theorem leafAt_04 {n:Nat} {B:Nat→Blk} (hR:Right n B):∀ (l:Nat) (a:Int),Root n B l a→∀ i,i<pw l→leafAt B l a i=[]∨(leafAt B l a i).length=4
 | 0,a,ha,i,_=>by
   have h:=ha.leaf hR
   simp only[leafAt]
   by_cases e:a=0
   ·rw[if_pos e] at h; exact .inl (List.eq_nil_of_length_eq_zero h)
   ·rw[if_neg e] at h; exact .inr h
 | l+1,a,ha,i,hi=>by
   have hp:=pw_pos l
   have hd:i / pw l<4:=by simp only[pw] at hi; exact Nat.div_lt_of_lt_mul (by rw[Nat.mul_comm]; exact hi)
   simp only[leafAt]
   exact leafAt_04 hR l _ (ha.kidAt hR hd) _ (Nat.mod_lt _ hp)
end Go.Proofs.YtjafgnohlkkopaaGreatDoor

namespace Go.Proofs.YtjafgnohlkkopaaGreatDoor
def Tight (n:Nat) (B:Nat→Blk) (c:Nat):Prop:=n<usedTo B n+4*c∧n≤usedTo B n+88
def nodesL (C:Nat→Blk):Nat→Int→List Int
 | 0,a=>if a=0 then [] else [a]
 | l+1,a=>if a=0 then [] else a::(C (a-1).toNat).kids.flatMap (nodesL C l)
def totL:Nat→Nat
 | 0=>1
 | l+1=>1+4*totL l
theorem flatMap_len {f:Int→List Int} {m:Nat}:∀ {ks:List Int},(∀ k∈ks,(f k).length≤m)→(ks.flatMap f).length≤ks.length*m
 | [],_=>by simp
 | k::ks,h=>by
   have h1:=h k (by simp)
   have h2:=flatMap_len (ks:=ks) fun x hx=>h x (by simp[hx])
   rw[List.flatMap_cons,List.length_append,List.length_cons,Nat.add_mul]
   omega
theorem nodesL_len {n:Nat} {C:Nat→Blk} (hC:Right n C):∀ (l:Nat) (a:Int),Root n C l a→(nodesL C l a).length≤totL l
 | 0,a,_=>by
   simp only[nodesL,totL]
   split<;>simp
 | l+1,a,ha=>by
   simp only[nodesL,totL]
   by_cases h0:a=0
   ·rw[if_pos h0]; simp
   ·rw[if_neg h0]
    have h4:=ha.len hC
    unfold kidsL at h4
    rw[if_neg h0] at h4
    have:=flatMap_len (f:=nodesL C l) (m:=totL l) (ks:=(C (a-1).toNat).kids) fun k hk=>nodesL_len hC l k (ha.kid hC (by unfold kidsL; rw[if_neg h0]; exact hk))
    rw[h4] at this
    rw[List.length_cons]
    omega
theorem nodesL_self (C:Nat→Blk) (l:Nat) {a:Int} (h0:a≠0):a∈nodesL C l a:=by
 cases l with
 | zero=>simp[nodesL,h0]
 | succ l=>simp[nodesL,h0]
theorem nodesL_kid {n:Nat} {C:Nat→Blk} (hC:Right n C):∀ (l:Nat) (a:Int),Root n C l a→∀ y∈nodesL C l a,∀ k∈(C (y-1).toNat).kids,k≠0→k∈nodesL C l a
 | 0,a,ha,y,hy,k,hk,hk0=>by
   rcases ha with rfl | ⟨⟨h1,h2,h3⟩,h4⟩
   ·simp[nodesL] at hy
   ·simp only[nodesL] at hy
    rw[if_neg (by omega)] at hy
    rw[List.mem_singleton.1 hy] at hk
    have:=(hC.one _ (ix h1 h2).1).live hk
    omega
 | l+1,a,ha,y,hy,k,hk,hk0=>by
   by_cases h0:a=0
   ·simp only[nodesL] at hy
    rw[if_pos h0] at hy
    exact absurd hy (by simp)
   ·simp only[nodesL] at hy ⊢
    rw[if_neg h0] at hy ⊢
    rcases List.mem_cons.1 hy with rfl | hy
    ·exact List.mem_cons_of_mem _ (List.mem_flatMap.2 ⟨k,hk,nodesL_self C l hk0⟩)
    ·obtain⟨x,hx,hyx⟩:=List.mem_flatMap.1 hy
     exact List.mem_cons_of_mem _ (List.mem_flatMap.2 ⟨x,hx,nodesL_kid hC l x (ha.kid hC (by unfold kidsL; rw[if_neg h0]; exact hx)) y hyx k hk hk0⟩)
theorem clo_nodes {n:Nat} {C:Nat→Blk} (hC:Right n C) {l:Nat} {a:Int} (ha:Root n C l a) {x:Int} (h:Clo C [a] x):x∈nodesL C l a:=
 h (fun y=>y∈nodesL C l a) (fun r hr h0=>by rw[List.mem_singleton.1 hr] at h0 ⊢; exact nodesL_self C l h0) fun y hy k hk h0=>nodesL_kid hC l a ha y hy k hk h0
theorem len_nodup:∀ {L M:List Int},L.Nodup→(∀ x∈L,x∈M)→L.length≤M.length
 | [],_,_,_=>by simp
 | x::L,M,hn,h=>by
   have hx:=h x (by simp)
   have:=len_nodup (L:=L) (M:=M.erase x) (List.nodup_cons.1 hn).2 (fun y hy=>(List.mem_erase_of_ne (fun (e:y=x)=>(List.nodup_cons.1 hn).1 (by rw[←e]; exact hy))).2 (h y (by simp[hy])))
   have e:=List.length_erase_of_mem hx
   have:0<M.length:=List.length_pos_of_mem hx
   simp only[List.length_cons]
   omega
def placesL (L:List Int):Nat→List Int
 | 0=>[]
 | n+1=>if ((n:Int)+1)∈L then ((n:Int)+1)::placesL L n else placesL L n
theorem placesL_mem {L:List Int}:∀ {n:Nat} {x:Int},x∈placesL L n→x∈L∧x≤n
 | 0,x,h=>by simp[placesL] at h
 | n+1,x,h=>by
   simp only[placesL] at h
   split at h
   ·rcases List.mem_cons.1 h with rfl | h
    ·exact⟨by assumption,by omega⟩
    ·have:=placesL_mem h; exact⟨this.1,by omega⟩
   ·have:=placesL_mem h; exact⟨this.1,by omega⟩
theorem placesL_nodup {L:List Int}:∀ (n:Nat),(placesL L n).Nodup
 | 0=>by simp[placesL]
 | n+1=>by
   simp only[placesL]
   split
   ·refine List.nodup_cons.2 ⟨fun h=>?_,placesL_nodup n⟩
    have:=(placesL_mem h).2
    omega
   ·exact placesL_nodup n
theorem used_places {B C:Nat→Blk} {L:List Int}:∀ {n:Nat},(∀ k,k<n→0<(C k).refs→0<(B k).refs∨((k:Int)+1)∈L)→usedTo C n≤usedTo B n+(placesL L n).length
 | 0,_=>by simp[usedTo,sumTo]
 | n+1,h=>by
   have h1:=used_places (n:=n) fun k hk=>h k (by omega)
   have h2:=h n (by omega)
   rw[usedTo_succ,usedTo_succ]
   simp only[placesL]
   by_cases hc:0<(C n).refs
   ·rw[if_pos hc]
    rcases h2 hc with hb | hb
    ·rw[if_pos hb]
     split
     ·rw[List.length_cons]; omega
     ·omega
    ·rw[if_pos hb,List.length_cons]; omega
   ·rw[if_neg hc]
    have h3:(placesL L n).length≤(if ((n:Int)+1)∈L then ((n:Int)+1)::placesL L n else placesL L n).length:=by
     split
     ·rw[List.length_cons]; omega
     ·exact Nat.le_refl _
    omega
theorem Turned.used85 {n:Nat} {B C:Nat→Blk} {a c:Int} (hB:Right n B) (h:Turned n B C a c):usedTo C n≤usedTo B n+85:=by
 have hl:=nodesL_len h.right 3 a h.root
 have hp:=len_nodup (placesL_nodup (L:=nodesL C 3 a) n) (M:=nodesL C 3 a) fun x hx=>(placesL_mem hx).1
 have key:∀ k,k<n→0<(C k).refs→0<(B k).refs∨((k:Int)+1)∈nodesL C 3 a:=by
  intro k hk hc
  have hall:=all_reached h.right (l:=(List.range n).map fun i=>if 0<outs n C i then (i:Int)+1 else 0) (fun i hi ho=>by
   refine List.mem_map.2 ⟨i,List.mem_range.2 hi,?_⟩
   rw[if_pos ho]) k hk (by omega)
  have:There n B ((k:Int)+1)∨Clo C [a] ((k:Int)+1):=by
   refine hall (fun y=>There n B y∨Clo C [a] y) (fun r hr h0=>?_) fun y hy x hx hx0=>?_
   ·obtain⟨i,hi,rfl⟩:=List.mem_map.1 hr
    have hi:=List.mem_range.1 hi
    by_cases ho:0<outs n C i
    ·rw[if_pos ho] at h0 ⊢
     have e:=h.out i hi
     by_cases ha:(i:Int)+1=a
     ·right
      rw[ha]
      exact Clo.root (List.mem_singleton.2 rfl) (by omega)
     ·left
      rw[if_neg ha] at e
      refine⟨by omega,by omega,?_⟩
      rw[show ((i:Int)+1-1).toNat=i by omega]
      unfold outs at e ho
      have:0<(B i).refs-(among n B ((i:Int)+1):Int):=by omega
      omega
    ·rw[if_neg ho] at h0
     exact absurd rfl h0
   ·rcases hy with hy | hy
    ·left
     have hc:=h.ext.keep _ (ix hy.1 hy.2.1).1 hy.2.2
     rw[hc.2.2.1] at hx
     rcases(hB.one _ (ix hy.1 hy.2.1).1).kids x hx with e | ⟨e,_⟩
     ·exact absurd e hx0
     ·exact e
    ·exact .inr (hy.kid hx hx0)
  rcases this with⟨_,_,h3⟩ | h3
  ·left
   rw[show ((k:Int)+1-1).toNat=k by omega] at h3
   have:=(hB.one k hk).bounds
   omega
  ·exact .inr (clo_nodes h.right h.root h3)
 have:=used_places key
 simp only[totL] at hl
 omega
end Go.Proofs.YtjafgnohlkkopaaGreatDoor

namespace Go.Proofs.YtjafgnohlkkopaaGreatDoor
def nxt (x:Int):Int:=(75*x+74)%65537
def outb (x:Int):Int:=x / 8%256
def xk (x:Int):Nat→Int
 | 0=>x
 | k+1=>nxt (xk x k)
def start (key at':Int):Int:=(key*104729+at'*7919+12345)%65537
theorem nxt_bd (x:Int):0≤nxt x∧nxt x<65537:=by unfold nxt; omega
theorem outb_bd (x:Int):0≤outb x∧outb x<256:=by unfold outb; omega
theorem start_bd (k a:Int):0≤start k a∧start k a<65537:=by unfold start; omega
theorem xk_bd (x:Int) (h0:0≤x) (h1:x<65537) (k:Nat):0≤xk x k∧xk x k<65537:=by
 cases k with
 | zero=>exact⟨h0,h1⟩
 | succ k=>exact nxt_bd _
def mixAt (f:Int→Int→Int) (x:Int) (zs:List Int) (i:Nat):Int:=f (zs.getD i 0) (outb (xk x (i+1)))
def mixed (f:Int→Int→Int) (x:Int) (zs:List Int) (n:Nat):List Int:=(List.range n).map (mixAt f x zs)
def part (f:Int→Int→Int) (x:Int) (zs:List Int) (n k:Nat):List Int:=(List.range n).map fun i=>if i<k then mixAt f x zs i else 0
def add8 (a b:Int):Int:=(a+b)%256
def sub8 (a b:Int):Int:=(a-b)%256
theorem mixed_length (f:Int→Int→Int) (x:Int) (zs:List Int) (n:Nat):(mixed f x zs n).length=n:=by simp[mixed]
theorem mixed_getD (f:Int→Int→Int) (x:Int) (zs:List Int) (n i:Nat) (h:i<n):(mixed f x zs n).getD i 0=mixAt f x zs i:=by
 simp[mixed,List.getD,h]
theorem part_zero (f:Int→Int→Int) (x:Int) (zs:List Int) (n:Nat):part f x zs n 0=List.replicate n 0:=by
 apply List.ext_getElem
 ·simp[part]
 ·intro i h1 h2
  simp[part]
theorem part_all (f:Int→Int→Int) (x:Int) (zs:List Int) (n:Nat):part f x zs n n=mixed f x zs n:=by
 unfold part mixed
 apply List.map_congr_left
 intro i hi
 simp at hi
 simp[hi]
theorem part_succ (f:Int→Int→Int) (x:Int) (zs:List Int) (n k:Nat):(part f x zs n k).set k (mixAt f x zs k)=part f x zs n (k+1):=by
 apply List.ext_getElem?
 intro i
 rw[List.getElem?_set]
 by_cases hi:i<n
 ·by_cases e:k=i
  ·subst e
   simp[part,hi]
  ·rw[if_neg e]
   have:(i<k+1)↔(i<k):=by omega
   simp[part,hi,this]
 ·have hl:n≤i:=by omega
  by_cases e:k=i
  ·subst e; simp[part,hi]
  ·rw[if_neg e]; simp[part,hl]
end Go.Proofs.YtjafgnohlkkopaaGreatDoor

namespace Go.Proofs.YtjafgnohlkkopaaGreatDoor
open Go.RowKit
theorem next_any (b:Nat) (x:Int) (w:World) (h0:0≤x) (h1:x<65537) (hc:w.cell? ⟨b,0,none⟩=some (.int .i64 x)) (hf:w.frozen? ⟨b,0,none⟩=false):
 Calls Tryz.prog 172 #[.pointer (some ⟨b,0,none⟩)] w fun e w'=>e=.returned (.int .u8 (outb (nxt x)))∧w'=w.setCell ⟨b,0,none⟩ (.int .i64 (nxt x)):=by
 go_enter Tryz.func172,Tryz.ntmps172
 go_wp2
 go_ret
 exact⟨rfl,rfl⟩
theorem add_any (p q:Int) (w:World) (h0:0≤p) (h1:p<256) (h2:0≤q) (h3:q<256):
 Calls Tryz.prog 202 #[.int .u8 p,.int .u8 q] w fun e w'=>e=.returned (.int .u8 (add8 p q))∧w'=w:=by
 go_enter Tryz.func202,Tryz.ntmps202
 go_wp2
 go_ret
 exact⟨rfl,rfl⟩
theorem sub_any (p q:Int) (w:World) (h0:0≤p) (h1:p<256) (h2:0≤q) (h3:q<256):
 Calls Tryz.prog 134 #[.int .u8 p,.int .u8 q] w fun e w'=>e=.returned (.int .u8 (sub8 p q))∧w'=w:=by
 go_enter Tryz.func134,Tryz.ntmps134
 go_wp2
 go_ret
 exact⟨rfl,rfl⟩
theorem stream_any (key at':Int) (w:World) (h0:0≤key) (h1:key≤1000) (h2:0≤at') (h3:at'≤255):
 Calls Tryz.prog 156 #[.int .i64 key,.int .i64 at'] w fun e w'=>e=.returned (.func (.func 172) #[] #[.pointer (some ⟨w.heap.size,0,none⟩)])∧w'=w.alloc (.cells #[.int .i64 (start key at')] 3):=by
 have hmf:∀ (fn:Fn) (first cap:Array Value) (w:World),(Instr.makeFunc fn first cap).run Tryz.prog w=.ok (.func fn first cap) w:=fun _ _ _ _=>rfl
 go_enter Tryz.func156,Tryz.ntmps156
 go_wp2
 go_ret
 exact⟨rfl,rfl⟩
def keyB (key at':Int):Bool:=decide (0≤key∧key≤1000∧0≤at'∧at'≤255)
theorem keyB_true {key at':Int} (h:keyB key at'=true):0≤key∧key≤1000∧0≤at'∧at'≤255:=of_decide_eq_true h
theorem keyB_false {key at':Int} (h:keyB key at'=false):¬(0≤key∧key≤1000∧0≤at'∧at'≤255):=of_decide_eq_false h
theorem check_ok (key at':Int) (w:World) (h:keyB key at'=true):
 Calls Tryz.prog 51 #[.int .i64 key,.int .i64 at'] w fun e w'=>e=.returned (.int .i64 0)∧w'=w:=by
 obtain⟨h0,h1,h2,h3⟩:=keyB_true h
 clear h
 go_enter Tryz.func51,Tryz.ntmps51
 go_wp2
 go_ret
 exact⟨rfl,rfl⟩
theorem check_no (key at':Int) (w:World) (h:keyB key at'=false):
 Calls Tryz.prog 51 #[.int .i64 key,.int .i64 at'] w fun e w'=>e=.returned (.int .i64 3)∧w'=w:=by
 have h':=keyB_false h
 clear h
 by_cases h0:key<0
 ·clear h'
  go_enter Tryz.func51,Tryz.ntmps51
  go_wp2
  go_ret
  exact⟨rfl,rfl⟩
 ·by_cases h1:1000<key
  ·clear h'
   go_enter Tryz.func51,Tryz.ntmps51
   go_wp2
   go_ret
   exact⟨rfl,rfl⟩
  ·by_cases h2:at'<0
   ·clear h'
    go_enter Tryz.func51,Tryz.ntmps51
    go_wp2
    go_ret
    exact⟨rfl,rfl⟩
   ·have h3:256≤at':=by omega
    clear h'
    go_enter Tryz.func51,Tryz.ntmps51
    go_wp2
    go_ret
    exact⟨rfl,rfl⟩
def BytesAt (w:World) (a:Option Addr) (n:Nat) (l:List Int):Prop:=
 l.length=n∧(∀ x∈l,0≤x∧x<256)∧(0<n→∃ b off,a=some ⟨b,off,none⟩∧b<w.heap.size∧∀ i,i<n→w.cell? ⟨b,off+i,none⟩=some (.int .u8 (l.getD i 0)))
theorem BytesAt.below {w w':World} {a:Option Addr} {n:Nat} {l:List Int} (h:BytesAt w a n l) (hb:Below w.heap.size w w'):BytesAt w' a n l:=by
 refine⟨h.1,h.2.1,fun hn=>?_⟩
 obtain⟨b,off,rfl,hlt,hc⟩:=h.2.2 hn
 exact⟨b,off,rfl,Nat.lt_of_lt_of_le hlt hb.size,fun i hi=>(hb.cell (p:=⟨b,off+i,none⟩) hlt).trans (hc i hi)⟩
theorem BytesAt.bd {w:World} {a:Option Addr} {n:Nat} {l:List Int} (h:BytesAt w a n l) {i:Nat} (hi:i<n):0≤l.getD i 0∧l.getD i 0<256:=by
 have hl:i<l.length:=by rw[h.1]; exact hi
 have e:l.getD i 0=l[i]:=by simp[List.getD,hl]
 rw[e]
 exact h.2.1 _ (List.getElem_mem hl)
end Go.Proofs.YtjafgnohlkkopaaGreatDoor

namespace Go.Proofs.YtjafgnohlkkopaaGreatDoor
open Go.RowKit
theorem made_bytes (n:Nat):(madeCells (Value.cells (.int .u8 0)) (n*1)).toList=(List.replicate n (0:Int)).map (Value.int .u8):=by
 apply List.ext_getElem
 ·simp[madeCells]
 ·intro i h1 h2
  simp[madeCells,Value.cells,Nat.mod_one]
def Inv (f:Int→Int→Int) (x:Int) (l:List Int) (B n k:Nat) (w wr:World):Prop:=
 wr.heap[B]? =some (.cells #[.int .i64 (xk x k)] 3 (0,0))∧
 wr.ownsRow (B+1) 5 1 (.slice (some ⟨B+1,0,none⟩) n n) n ((part f x l n k).map (Value.int .u8))∧Below B w wr
theorem Inv.start {f:Int→Int→Int} {x:Int} {l:List Int} {n:Nat} {w w2:World}
 (hown:w2.ownsRow (w.heap.size+1) 5 1 (.slice (some ⟨w.heap.size+1,0,none⟩) n n) n (madeCells (Value.cells (.int .u8 0)) (n*1)).toList)
 (hgr:(w.alloc (.cells #[.int .i64 x] 3)).grownBy w2 none):Inv f x l w.heap.size n 0 w w2:=by
 refine⟨?_,?_,((Below.refl _ _).alloc (Nat.le_refl _) _).grown hgr (by simp) (by simp)⟩
 ·rw[hgr.block w.heap.size (by simp) (by simp)]
  exact heap_alloc_new w _
 ·rw[part_zero,←made_bytes]; exact hown
theorem Inv.step {f:Int→Int→Int} {x:Int} {l:List Int} {B n k:Nat} {w wr:World} (h:Inv f x l B n k w wr):
 Inv f x l B n (k+1) w ((wr.setCell ⟨B,0,none⟩ (.int .i64 (nxt (xk x k)))).setCell ⟨B+1,k,none⟩ (.int .u8 (f (l.getD k 0) (outb (nxt (xk x k)))))):=by
 obtain⟨h1,h2,h3⟩:=h
 refine⟨?_,?_,(h3.setCell (Nat.le_refl _) _).setCell (by simp) _⟩
 ·rw[Below.heap_setCell _ _ _ _ (by simp)]
  exact one_setCell h1
 ·have:=((ownsRow_setCell_below h2 (a:=⟨B,0,none⟩) (by simp) (.int .i64 (nxt (xk x k)))).stored k (.int .u8 (f (l.getD k 0) (outb (nxt (xk x k)))))).1
  rw[←part_succ,List.map_set]
  exact this
set_option maxHeartbeats 1000000 in
set_option maxRecDepth 100000 in
theorem turnAdd_ok (key at':Int) (a:Option Addr) (n c:Nat) (l:List Int) (w:World) (hk:keyB key at'=true) (hn:n≤256) (h:BytesAt w a n l):
 Calls Tryz.prog 133 #[.int .i64 key,.int .i64 at', .slice a n c,.func (.func 202) #[] #[]] w fun e w'=>
  ∃ g,e=.returned (.tuple #[.slice (some ⟨g,0,none⟩) n n,.int .i64 0])∧w'.ownsRow w.heap.size 5 1 (.slice (some ⟨g,0,none⟩) n n) n ((mixed add8 (start key at') l n).map (Value.int .u8))∧Below w.heap.size w w':=by
 obtain⟨i0,hi,hz0,hz1,hz2⟩:=info_parts Tryz.infoByte
 obtain⟨k0,k1,k2,k3⟩:=keyB_true hk
 go_enter Tryz.func133,Tryz.ntmps133
 go_wp2_with fail
 refine(check_ok key at' _ hk).mono ?_
 rintro e w ⟨rfl,rfl⟩
 go_wp2_with fail
 refine(stream_any key at' _ k0 k1 k2 k3).mono ?_
 rintro e w1 ⟨rfl,rfl⟩
 go_wp2_with (at_make; refine wpList_make_full _ rfl (.tmp 28) (.tmp 28) 28 rfl (w.heap.size+1) 5 i0 (.int .u8 0) 1 Tryz.underlying28 hi hz0 hz1 .i64 .i64 n n n rfl rfl rfl rfl (by rw[hz2]; omega) (by unfold maxLen; omega) (by simp) ?_; intro w2 hown hgr)
 have hx:=start_bd key at'
 go_loopw [32] (fun i wr=>∃ k:Nat,k≤n∧i=.int .i64 k∧Inv add8 (start key at') l w.heap.size n k w wr) (fun i _=>n-(Go.RowKit.intOf i).toNat)
 case atStart=>exact⟨0,Nat.zero_le _,rfl,Inv.start (by simpa using hown) hgr⟩
 case round=>
  clear hown hgr
  obtain⟨k,hkn,rfl,hinv⟩:=hrel
  by_cases hlt:k<n
  ·obtain⟨b,off,rfl,hb,hc⟩:=h.2.2 (by omega)
   have hck:wr.cell? ⟨b,off+k,none⟩=some (.int .u8 (l.getD k 0)):=(hinv.2.2.cell (by exact hb)).trans (hc k hlt)
   have hxc:=cell_of_one hinv.1
   have hxf:=free_of_one hinv.1
   have hxb:=xk_bd (start key at') hx.1 hx.2 k
   have hob:=outb_bd (nxt (xk (start key at') k))
   have hoc:wr.cell? ⟨w.heap.size+1,k,none⟩=some (.int .u8 ((part add8 (start key at') l n k).getD k 0)):=by
    rw[hinv.2.1.cellAt k (by omega)]
    simp[part,hlt]
   have hof:=hinv.2.1.frozenAt k
   have hlk:0≤l.getD k 0∧l.getD k 0<256:=h.bd hlt
   have hstep:=hid hinv.step
   clear hinv hc h hx
   generalize l.getD k 0=lk at *
   generalize xk (start key at') k=xx at *
   generalize (part add8 (start key at') l n k).getD k 0=old at *
   go_wp2_with fail
   refine(next_any w.heap.size xx wr hxb.1 hxb.2 hxc hxf).mono ?_
   rintro e w3 ⟨rfl,rfl⟩
   have hoc3:(wr.setCell ⟨w.heap.size,0,none⟩ (.int .i64 (nxt xx))).cell? ⟨w.heap.size+1,k,none⟩=some (.int .u8 old):=by rw[cell_past_set _ _ _ _ (by simp)]; exact hoc
   have hof3:(wr.setCell ⟨w.heap.size,0,none⟩ (.int .i64 (nxt xx))).frozen? ⟨w.heap.size+1,k,none⟩=false:=by rw[frozen_past_set _ _ _ _ (by simp)]; exact hof
   generalize outb (nxt xx)=ob at *
   generalize nxt xx=nx at *
   generalize wr.setCell ⟨w.heap.size,0,none⟩ (.int .i64 nx)=w4 at *
   go_wp2_with fail
   refine(add_any lk ob w4 hlk.1 hlk.2 hob.1 hob.2).mono ?_
   rintro e w4 ⟨rfl,rfl⟩
   go_wp2_with fail
   go_roundw
   case rel=>exact⟨k+1,by omega,by go_num,hstep.out⟩
   case measure=>simp[Go.RowKit.intOf]; omega
  ·have hkk:k=n:=by omega
   subst hkk
   clear h hx
   go_wp2
   go_ret2
   exact⟨w.heap.size+1,rfl,by rw[←part_all]; exact ownsRow_base (by omega) hinv.2.1,hinv.2.2⟩
set_option maxHeartbeats 1000000 in
set_option maxRecDepth 100000 in
theorem turnSub_ok (key at':Int) (a:Option Addr) (n c:Nat) (l:List Int) (w:World) (hk:keyB key at'=true) (hn:n≤256) (h:BytesAt w a n l):
 Calls Tryz.prog 133 #[.int .i64 key,.int .i64 at', .slice a n c,.func (.func 134) #[] #[]] w fun e w'=>
  ∃ g,e=.returned (.tuple #[.slice (some ⟨g,0,none⟩) n n,.int .i64 0])∧w'.ownsRow w.heap.size 5 1 (.slice (some ⟨g,0,none⟩) n n) n ((mixed sub8 (start key at') l n).map (Value.int .u8))∧Below w.heap.size w w':=by
 obtain⟨i0,hi,hz0,hz1,hz2⟩:=info_parts Tryz.infoByte
 obtain⟨k0,k1,k2,k3⟩:=keyB_true hk
 go_enter Tryz.func133,Tryz.ntmps133
 go_wp2_with fail
 refine(check_ok key at' _ hk).mono ?_
 rintro e w ⟨rfl,rfl⟩
 go_wp2_with fail
 refine(stream_any key at' _ k0 k1 k2 k3).mono ?_
 rintro e w1 ⟨rfl,rfl⟩
 go_wp2_with (at_make; refine wpList_make_full _ rfl (.tmp 28) (.tmp 28) 28 rfl (w.heap.size+1) 5 i0 (.int .u8 0) 1 Tryz.underlying28 hi hz0 hz1 .i64 .i64 n n n rfl rfl rfl rfl (by rw[hz2]; omega) (by unfold maxLen; omega) (by simp) ?_; intro w2 hown hgr)
 have hx:=start_bd key at'
 go_loopw [32] (fun i wr=>∃ k:Nat,k≤n∧i=.int .i64 k∧Inv sub8 (start key at') l w.heap.size n k w wr) (fun i _=>n-(Go.RowKit.intOf i).toNat)
 case atStart=>exact⟨0,Nat.zero_le _,rfl,Inv.start (by simpa using hown) hgr⟩
 case round=>
  clear hown hgr
  obtain⟨k,hkn,rfl,hinv⟩:=hrel
  by_cases hlt:k<n
  ·obtain⟨b,off,rfl,hb,hc⟩:=h.2.2 (by omega)
   have hck:wr.cell? ⟨b,off+k,none⟩=some (.int .u8 (l.getD k 0)):=(hinv.2.2.cell (by exact hb)).trans (hc k hlt)
   have hxc:=cell_of_one hinv.1
   have hxf:=free_of_one hinv.1
   have hxb:=xk_bd (start key at') hx.1 hx.2 k
   have hob:=outb_bd (nxt (xk (start key at') k))
   have hoc:wr.cell? ⟨w.heap.size+1,k,none⟩=some (.int .u8 ((part sub8 (start key at') l n k).getD k 0)):=by
    rw[hinv.2.1.cellAt k (by omega)]
    simp[part,hlt]
   have hof:=hinv.2.1.frozenAt k
   have hlk:0≤l.getD k 0∧l.getD k 0<256:=h.bd hlt
   have hstep:=hid hinv.step
   clear hinv hc h hx
   generalize l.getD k 0=lk at *
   generalize xk (start key at') k=xx at *
   generalize (part sub8 (start key at') l n k).getD k 0=old at *
   go_wp2_with fail
   refine(next_any w.heap.size xx wr hxb.1 hxb.2 hxc hxf).mono ?_
   rintro e w3 ⟨rfl,rfl⟩
   have hoc3:(wr.setCell ⟨w.heap.size,0,none⟩ (.int .i64 (nxt xx))).cell? ⟨w.heap.size+1,k,none⟩=some (.int .u8 old):=by rw[cell_past_set _ _ _ _ (by simp)]; exact hoc
   have hof3:(wr.setCell ⟨w.heap.size,0,none⟩ (.int .i64 (nxt xx))).frozen? ⟨w.heap.size+1,k,none⟩=false:=by rw[frozen_past_set _ _ _ _ (by simp)]; exact hof
   generalize outb (nxt xx)=ob at *
   generalize nxt xx=nx at *
   generalize wr.setCell ⟨w.heap.size,0,none⟩ (.int .i64 nx)=w4 at *
   go_wp2_with fail
   refine(sub_any lk ob w4 hlk.1 hlk.2 hob.1 hob.2).mono ?_
   rintro e w4 ⟨rfl,rfl⟩
   go_wp2_with fail
   go_roundw
   case rel=>exact⟨k+1,by omega,by go_num,hstep.out⟩
   case measure=>simp[Go.RowKit.intOf]; omega
  ·have hkk:k=n:=by omega
   subst hkk
   clear h hx
   go_wp2
   go_ret2
   exact⟨w.heap.size+1,rfl,by rw[←part_all]; exact ownsRow_base (by omega) hinv.2.1,hinv.2.2⟩
end Go.Proofs.YtjafgnohlkkopaaGreatDoor

namespace Go.Proofs.YtjafgnohlkkopaaGreatDoor
open Go.RowKit
theorem bytesAt_own {B:Nat} {w:World} {g n:Nat} {l:List Int} (hl:∀ x∈l,0≤x∧x<256) (h:w.ownsRow B 5 1 (.slice (some ⟨g,0,none⟩) n n) n (l.map (Value.int .u8))):BytesAt w (some ⟨g,0,none⟩) n l:=by
 have hn:l.length=n:=by have:=h.1; simpa using this
 refine⟨hn,hl,fun hp=>⟨g,0,rfl,(h.lt g rfl).2,fun i hi=>?_⟩⟩
 rw[Nat.zero_add,h.cellAt i (by omega)]
 simp[hn,hi]
theorem add8_bd (a b:Int):0≤add8 a b∧add8 a b<256:=by unfold add8; omega
theorem sub8_bd (a b:Int):0≤sub8 a b∧sub8 a b<256:=by unfold sub8; omega
theorem mixed_bd (f:Int→Int→Int) (hf:∀ a b,0≤f a b∧f a b<256) (x:Int) (l:List Int) (n:Nat):∀ y∈mixed f x l n,0≤y∧y<256:=by
 intro y hy
 simp only[mixed,List.mem_map] at hy
 obtain⟨i,_,rfl⟩:=hy
 exact hf _ _
def sealL (key at':Int) (l:List Int):List Int:=mixed add8 (start key at') l l.length
def openL (key at':Int) (l:List Int):List Int:=mixed sub8 (start key at') l l.length
theorem sealL_length (key at':Int) (l:List Int):(sealL key at' l).length=l.length:=mixed_length _ _ _ _
theorem openL_length (key at':Int) (l:List Int):(openL key at' l).length=l.length:=mixed_length _ _ _ _
theorem seal_ok (key at':Int) (a:Option Addr) (n c:Nat) (l:List Int) (w:World) (hk:keyB key at'=true) (hn:n≤256) (h:BytesAt w a n l):
 Calls Tryz.prog 196 #[.int .i64 key,.int .i64 at', .slice a n c] w fun e w'=>
  ∃ g,e=.returned (.tuple #[.slice (some ⟨g,0,none⟩) n n,.int .i64 0])∧BytesAt w' (some ⟨g,0,none⟩) n (sealL key at' l)∧Below w.heap.size w w':=by
 have hmf:∀ (fn:Fn) (first cap:Array Value) (w:World),(Instr.makeFunc fn first cap).run Tryz.prog w=.ok (.func fn first cap) w:=fun _ _ _ _=>rfl
 go_enter Tryz.func196,Tryz.ntmps196
 go_wp2_with fail
 refine(turnAdd_ok key at' a n c l _ hk hn h).mono ?_
 rintro e w1 ⟨g,rfl,hown,hbel⟩
 have hB:=bytesAt_own (mixed_bd add8 add8_bd _ _ _) hown
 clear hown
 go_wp2
 go_ret2
 exact⟨g,rfl,by rw[sealL,h.1]; exact hB,hbel⟩
theorem open_ok (key at':Int) (a:Option Addr) (n c:Nat) (l:List Int) (w:World) (hk:keyB key at'=true) (hn:n≤256) (h:BytesAt w a n l):
 Calls Tryz.prog 101 #[.int .i64 key,.int .i64 at', .slice a n c] w fun e w'=>
  ∃ g,e=.returned (.tuple #[.slice (some ⟨g,0,none⟩) n n,.int .i64 0])∧BytesAt w' (some ⟨g,0,none⟩) n (openL key at' l)∧Below w.heap.size w w':=by
 have hmf:∀ (fn:Fn) (first cap:Array Value) (w:World),(Instr.makeFunc fn first cap).run Tryz.prog w=.ok (.func fn first cap) w:=fun _ _ _ _=>rfl
 go_enter Tryz.func101,Tryz.ntmps101
 go_wp2_with fail
 refine(turnSub_ok key at' a n c l _ hk hn h).mono ?_
 rintro e w1 ⟨g,rfl,hown,hbel⟩
 have hB:=bytesAt_own (mixed_bd sub8 sub8_bd _ _ _) hown
 clear hown
 go_wp2
 go_ret2
 exact⟨g,rfl,by rw[openL,h.1]; exact hB,hbel⟩
end Go.Proofs.YtjafgnohlkkopaaGreatDoor
