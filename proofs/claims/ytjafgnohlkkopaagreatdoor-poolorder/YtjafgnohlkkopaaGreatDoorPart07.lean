import Derived.Test.YtjafgnohlkkopaaGreatDoorPart06
import Derived.Test.YtjafgnohlkkopaaGreatDoorPart03
import Derived.WalkKit
import Derived.Test.YtjafgnohlkkopaaGreatDoorPart02
import Derived.Laws.BytesArg
set_option linter.unusedVariables false
set_option maxHeartbeats 8000000
set_option maxRecDepth 100000
namespace Go.Proofs.YtjafgnohlkkopaaGreatDoor
open Go.RowKit
theorem aM9 (B:Nat->Blk)(l:Nat)(a:Int)(j:Nat)(hj:j<pw l):(lM B l a).getD j []=aH B l a j:=by
 unfold lM
 simp[List.getD,hj]
theorem aB6 {n:Nat}{B C:Nat->Blk}(hB:Right n B)(h:Ext n B C):cN2 n C B:=fun k hk=>by
 by_cases e:(B k).refs=0
 ·exact .inr (.inl e)
 ·obtain⟨_,h1,h2,h3⟩:=h.keep k hk e
  exact .inr (.inr ⟨h1,h2,h3⟩)
theorem qI {n:Nat}{B:Nat->Blk}(hB:Right n B)(k:Nat)(hk:k<n):0<=outs n B k:=by
 have:=hB.held k hk
 simp at this
 unfold outs
 omega
end Go.Proofs.YtjafgnohlkkopaaGreatDoor
namespace Go.Proofs.YtjafgnohlkkopaaGreatDoor
theorem qR {n:Nat}{B:Nat->Blk}(hR:Right n B){l:List Int}(hl:∀ k:Nat,k<n->0<outs n B k->((k:Int)+1)∈l):∀ i:Nat,i<n->(B i).refs≠0->Clo B l ((i:Int)+1):=by
 have step:∀ d:Nat,d<=4->∀ i:Nat,i<n->(4:Int)-d<=(B i).level->(B i).refs≠0->Clo B l ((i:Int)+1):=by
  intro d
  induction d with
  | zero=>
    intro _ i hi hlv _
    have:=(hR.one i hi).bounds
    omega
  | succ d ih=>
    intro hd i hi hlv hr
    by_cases ho:0<outs n B i
    ·exact Clo.root (hl i hi ho) (by omega)
    ·have hb:=(hR.one i hi).bounds
     unfold outs at ho
     obtain⟨j,hj,hc⟩:=aJ4 (f:=fun j=>(B j).kids.count ((i:Int)+1)) (n:=n) (show 0<among n B ((i:Int)+1) by omega)
     have hm:=List.count_pos_iff.1 hc
     obtain⟨_,h2,h3⟩:=yA hR hj hm
     have h4:=ih (by omega) j hj (by omega) h3
     exact h4.kid (by rw[show ((j:Int)+1-1).toNat=j by omega]; exact hm) (by omega)
 intro i hi hr
 have:=(hR.one i hi).bounds
 exact step 4 (Nat.le_refl _) i hi (by omega) hr
end Go.Proofs.YtjafgnohlkkopaaGreatDoor
namespace Go.Proofs.YtjafgnohlkkopaaGreatDoor
theorem sumTo_le {f g:Nat->Nat}:∀ {n:Nat},(∀ i,i<n->f i<=g i)->sumTo f n<=sumTo g n
 | 0,_=>Nat.le_refl _
 | n+1,h=>Nat.add_le_add (sumTo_le fun i hi=>h i (by omega)) (h n (by omega))
theorem qV {f g:Nat->Nat}:∀ {n:Nat},sumTo (fun i=>f i+g i) n=sumTo f n+sumTo g n
 | 0=>rfl
 | n+1=>by
   have:=qV (f:=f) (g:=g) (n:=n)
   simp only[sumTo]
   omega
theorem wI {f:Nat->Nat}(c:Nat):∀ {n:Nat},sumTo (fun i=>c*f i) n=c*sumTo f n
 | 0=>rfl
 | n+1=>by
   have:=wI (f:=f) c (n:=n)
   simp only[sumTo]
   rw[this,Nat.mul_add]
theorem nN:∀ {n:Nat},sumTo (fun _=>0) n=0
 | 0=>rfl
 | n+1=>by
   have:=nN (n:=n)
   simp only[sumTo]
   omega
theorem zQ {f:Nat->Nat->Nat}{n:Nat}:∀ {m:Nat},sumTo (fun k=>sumTo (fun i=>f i k) n) m=sumTo (fun i=>sumTo (fun k=>f i k) m) n
 | 0=>by
   simp only[sumTo]
   rw[nN]
 | m+1=>by
   have:=zQ (f:=f) (n:=n) (m:=m)
   simp only[sumTo]
   rw[this,qV]
theorem aD9 (x:Int):∀ {n:Nat},sumTo (fun k=>if (k:Int)+1=x then 1 else 0) n<=if 1<=x/\x<=n then 1 else 0
 | 0=>by simp[sumTo]
 | n+1=>by
   have:=aD9 x (n:=n)
   simp only[sumTo]
   split at this<;>split<;>split<;>omega
theorem aP5 (n:Nat):∀ (L:List Int),sumTo (fun k=>L.count ((k:Int)+1)) n<=L.length
 | []=>by
   simp only[List.count_nil,nN]
   exact Nat.zero_le _
 | x::L=>by
   have h1:=aP5 n L
   have h2:=aD9 x (n:=n)
   have e:sumTo (fun k=>(x::L).count ((k:Int)+1)) n=sumTo (fun k=>L.count ((k:Int)+1)+if (k:Int)+1=x then 1 else 0) n:=sumTo_congr fun k _=>by
    by_cases e:(k:Int)+1=x
    ·subst e; rw[List.count_cons_self,if_pos rfl]
    ·rw[List.count_cons_of_ne (fun h=>e h.symm),if_neg e]; rfl
   rw[e,qV]
   simp only[List.length_cons]
   split at h2<;>omega
def aU6 (B C:Nat->Blk)(lv:Int)(k:Nat):Nat:=if (B k).refs=0/\(C k).refs≠0/\(C k).level=lv then 1 else 0
def news (n:Nat)(B C:Nat->Blk)(lv:Int):Nat:=sumTo (aU6 B C lv) n
theorem cC6 {B C:Nat->Blk}{lv:Int}{k:Nat}(h1:(B k).refs=0)(h2:(C k).refs≠0)(h3:(C k).level=lv):aU6 B C lv k=1:=if_pos ⟨h1,h2,h3⟩
theorem bC0 {B C:Nat->Blk}{lv:Int}{k:Nat}{m:Nat}(h:(B k).refs=0->(C k).refs≠0->(C k).level=lv->1<=m):aU6 B C lv k<=m:=by
 unfold aU6
 split
 ·next hh=>exact h hh.1 hh.2.1 hh.2.2
 ·exact Nat.zero_le _
theorem aC8 {n:Nat}{B:Nat->Blk}(hB:Right n B){k:Nat}(hk:k<n)(h0:(B k).refs=0):among n B ((k:Int)+1)=0:=by
 have:=jE hB hk h0
 unfold outs at this
 omega
theorem bS9 {n:Nat}{C:Nat->Blk}(hC:Right n C){i:Nat}(hi:i<n)(h0:(C i).refs=0):(C i).kids=[]:=by
 rw[(hC.one i hi).zero h0]; rfl
theorem bJ7 {L:List Int}{x y:Int}(hx:x∈L)(hn:x≠y)(h4:L.length<=4):L.count y<=3:=by
 have h1:=List.count_le_length (a:=y) (l:=L)
 by_cases e:L.count y=L.length
 ·exact absurd (List.count_eq_length.1 e x hx).symm hn
 ·omega
theorem yU {n:Nat}{B C:Nat->Blk}(hB:Right n B)(hC:Right n C)(hx:Ext n B C){k:Nat}(hk:k<n){m:Nat}(hm:∀ i,i<n->(B i).refs=0->(C i).refs≠0->((k:Int)+1)∈(C i).kids->(C i).kids.count ((k:Int)+1)<=m):
 among n C ((k:Int)+1)<=among n B ((k:Int)+1)+m*news n B C ((C k).level+1):=by
 unfold among news
 rw[<-wI,<-qV]
 refine sumTo_le fun i hi=>?_
 by_cases hb:(B i).refs=0
 ·by_cases hc:(C i).refs=0
  ·rw[bS9 hC hi hc]; simp
  ·by_cases hin:((k:Int)+1)∈(C i).kids
   ·rw[cC6 hb hc (yA hC hi hin).2.1]
    have:=hm i hi hb hc hin
    omega
   ·rw[List.count_eq_zero.2 hin]; exact Nat.zero_le _
 ·rw[(hx.keep i hi hb).2.2.1]
  exact Nat.le_add_right _ _
theorem rH {n:Nat}{B C:Nat->Blk}(hC:Right n C){lv:Int}(h:3<lv):news n B C lv=0:=by
 have e:sumTo (aU6 B C lv) n=sumTo (fun _=>0) n:=sumTo_congr fun i hi=>by
  unfold aU6
  rw[if_neg]
  intro ⟨_,_,h3⟩
  have:=(hC.one i hi).bounds
  omega
 unfold news
 rw[e,nN]
structure aI3 (n:Nat)(B C:Nat->Blk)(a:Int):Prop where
 left:Right n B
 right:Right n C
 ext:Ext n B C
 root:Root n C 3 a
 out:∀ k,k<n->outs n C k=outs n B k+if (k:Int)+1=a then 1 else 0
theorem aC4 {n:Nat}{C:Nat->Blk}(hC:Right n C){i:Nat}(hi:i<n)(x:Int):(C i).kids.count x<=4:=Nat.le_trans List.count_le_length (hC.one i hi).few
theorem aI3.level {n:Nat}{B C:Nat->Blk}{a:Int}(h:aI3 n B C a){k:Nat}(e:(k:Int)+1=a):(C k).level=3:=by
 rcases h.root with hr | ⟨_,hl⟩
 ·omega
 ·rw[<-e,show ((k:Int)+1-1).toNat=k by omega] at hl; exact hl
theorem aI3.news3 {n:Nat}{B C:Nat->Blk}{a:Int}(h:aI3 n B C a):news n B C 3<=1:=by
 have h2:=aD9 a (n:=n)
 have h1:news n B C 3<=sumTo (fun k=>if (k:Int)+1=a then 1 else 0) n:=sumTo_le fun k hk=>bC0 fun hb hc hl=>by
  have ha:=yU h.left h.right h.ext hk (m:=4) (fun i hi _ _ _=>aC4 h.right hi _)
  rw[hl,rH h.right (by omega),aC8 h.left hk hb] at ha
  have ho:=h.out k hk
  have hz:=jE h.left hk hb
  have hbd:=(h.right.one k hk).bounds
  unfold outs at ho
  unfold outs at hz
  by_cases e:(k:Int)+1=a
  ·rw[if_pos e]; omega
  ·rw[if_neg e] at ho; omega
 split at h2<;>omega
theorem aI3.less {n:Nat}{B C:Nat->Blk}{a:Int}(h:aI3 n B C a){lv:Int}(hl:lv<3):news n B C lv<=4*news n B C (lv+1):=by
 have h1:news n B C lv<=sumTo (fun k=>sumTo (fun i=>if (B i).refs=0/\(C i).refs≠0/\(C i).level=lv+1 then (C i).kids.count ((k:Int)+1) else 0) n) n:=sumTo_le fun k hk=>bC0 fun hb hc he=>by
  have ho:=h.out k hk
  have hz:=jE h.left hk hb
  have hbd:=(h.right.one k hk).bounds
  have hne:¬(k:Int)+1=a:=fun e=>by have:=h.level e; omega
  rw[if_neg hne] at ho
  unfold outs at ho
  unfold outs at hz
  have hpos:1<=among n C ((k:Int)+1):=by omega
  refine Nat.le_trans hpos (sumTo_le fun i hi=>?_)
  by_cases hin:((k:Int)+1)∈(C i).kids
  ·obtain⟨_,h2,h3⟩:=yA h.right hi hin
   by_cases hbi:(B i).refs=0
   ·rw[if_pos ⟨hbi,h3,by omega⟩]; exact Nat.le_refl _
   ·rw[(h.ext.keep i hi hbi).2.2.1] at hin
    exact absurd hb (yA h.left hi hin).1
  ·show (C i).kids.count ((k:Int)+1)<=_
   rw[List.count_eq_zero.2 hin]; exact Nat.zero_le _
 rw[zQ] at h1
 refine Nat.le_trans h1 ?_
 unfold news
 rw[<-wI]
 refine sumTo_le fun i hi=>?_
 unfold aU6
 by_cases hc:(B i).refs=0/\(C i).refs≠0/\(C i).level=lv+1
 ·simp only[if_pos hc]
  have:=aP5 n (C i).kids
  have:=(h.right.one i hi).few
  omega
 ·simp only[if_neg hc]
  rw[nN]
  exact Nat.zero_le _
theorem aI3.news_up {n:Nat}{B C:Nat->Blk}{a:Int}(h:aI3 n B C a){lv:Int}(h0:0<=lv)(hl:lv<3):news n B C (lv+1)<=16:=by
 have h3:=h.news3
 have h2:news n B C 2<=4*news n B C 3:=h.less (lv:=2) (by omega)
 have h1:news n B C 1<=4*news n B C 2:=h.less (lv:=1) (by omega)
 have hc:lv=0\/lv=1\/lv=2:=by omega
 rcases hc with e | e | e<;>subst e
 ·show news n B C 1<=16
  omega
 ·show news n B C 2<=16
  omega
 ·show news n B C 3<=16
  omega
theorem cP8 {n:Nat}{B C:Nat->Blk}{a cc:Int}(h:aI3 n B C a)(hk:bL2 n B C)(h64:64<=cc)(hc:∀ k,k<n->(B k).refs<=cc):∀ k,k<n->(C k).refs<=cc+48:=by
 intro k hkn
 have hbd:=(h.right.one k hkn).bounds
 have ho:=h.out k hkn
 have hcb:=hc k hkn
 by_cases hck:(C k).refs=0
 ·omega
 by_cases hb:(B k).refs=0
 ·have ha:=yU h.left h.right h.ext hkn (m:=4) (fun i hi _ _ _=>aC4 h.right hi _)
  rw[aC8 h.left hkn hb] at ha
  have hz:=jE h.left hkn hb
  have hup:news n B C ((C k).level+1)<=16:=by
   by_cases e:(C k).level=3
   ·rw[e,rH h.right (by omega)]; omega
   ·exact h.news_up hbd.2.2.1 (by omega)
  rw[hz] at ho
  unfold outs at ho
  by_cases e:(k:Int)+1=a
  ·rw[if_pos e] at ho
   have hl:=h.level e
   rw[hl,rH h.right (by omega)] at ha
   omega
  ·rw[if_neg e] at ho; omega
 ·have ha:=yU h.left h.right h.ext hkn (m:=3) (fun i hi hbi hci hin=>by
   have hl:=yA h.right hi hin
   obtain⟨x,hx,hor⟩:=hk i hi hbi hci (by have:=(h.right.one k hkn).bounds; omega)
   refine bJ7 hx (fun e=>?_) (h.right.one i hi).few
   subst e
   rcases hor with e | e
   ·omega
   ·rw[show ((k:Int)+1-1).toNat=k by omega] at e; exact hb e)
  unfold outs at ho
  by_cases e:(k:Int)+1=a
  ·rw[if_pos e] at ho
   have hl:=h.level e
   rw[hl,rH h.right (by omega)] at ha
   omega
  ·rw[if_neg e] at ho
   have hup:news n B C ((C k).level+1)<=16:=by
    by_cases e:(C k).level=3
    ·rw[e,rH h.right (by omega)]; omega
    ·exact h.news_up hbd.2.2.1 (by omega)
   omega
end Go.Proofs.YtjafgnohlkkopaaGreatDoor
namespace Go.Proofs.YtjafgnohlkkopaaGreatDoor
theorem bZ0 {n:Nat}{B D E:Nat->Blk}{T:List Int}(hB:Right n B)(hE:Right n E)(hx:Ext n B D)(hF:iU n D E T)(ho:∀ k,k<n->outs n B k<=outs n E k):Ext n B E:=by
 have hl:∀ k:Nat,k<n->0<outs n B k->((k:Int)+1)∈((List.range n).filter (fun k=>decide (0<outs n B k))).map (fun k:Nat=>(k:Int)+1):=fun k hk h=>
  List.mem_map.2 ⟨k,List.mem_filter.2 ⟨List.mem_range.2 hk,decide_eq_true h⟩,rfl⟩
 refine⟨fun i hi h0=>?_⟩
 have hc:=qR hB hl i hi h0
 have key:=hc (fun y=>There n B y/\There n E y) (fun r hr h0'=>by
  obtain⟨k,hk,rfl⟩:=List.mem_map.1 hr
  have hkn:=List.mem_range.1 (List.mem_filter.1 hk).1
  have hko:=of_decide_eq_true (List.mem_filter.1 hk).2
  have hkE:=ho k hkn
  have e:((k:Int)+1-1).toNat=k:=by omega
  unfold outs at hko hkE
  refine⟨⟨by omega,by omega,?_⟩,⟨by omega,by omega,?_⟩⟩
  ·rw[e]; omega
  ·rw[e]; omega) (fun y ⟨hy,hyE⟩ k hk hk0=>by
  have hkB:There n B k:=by
   rcases(hB.one _ (ix hy.1 hy.2.1).1).kids k hk with h | ⟨h,_⟩
   ·exact absurd h hk0
   ·exact h
  refine⟨hkB,?_⟩
  have h1:=(eB hF hyE).2.1
  have h2:=(hx.keep _ (ix hy.1 hy.2.1).1 hy.2.2).2.2.1
  rw[<-h2,<-h1] at hk
  rcases(hE.one _ (ix hyE.1 hyE.2.1).1).kids k hk with h | ⟨h,_⟩
  ·exact absurd h hk0
  ·exact h)
 have hiE:=key.2
 obtain⟨c1,c2,c3⟩:=eB hF hiE
 have e:((i:Int)+1-1).toNat=i:=by omega
 rw[e] at c1 c2 c3
 have hne:=hiE.2.2
 rw[e] at hne
 obtain⟨_,d1,d2,d3⟩:=hx.keep i hi h0
 exact⟨hne,c1.trans d1,c2.trans d2,c3.trans d3⟩
theorem xW {n:Nat}{D E:Nat->Blk}{T:List Int}(hD:Right n D)(hE:Right n E)(hF:iU n D E T):∀ (l:Nat) (a:Int),Root n D l a->(a=0\/There n E a)->Root n E l a/\∀ i,i<pw l->aH E l a i=aH D l a i
 | l,a,hr,.inl h0=>by
   subst h0
   exact⟨.inl rfl,fun i hi=>by rw[iZ _ _ _ hi,iZ _ _ _ hi]⟩
 | 0,a,hr,.inr ht=>by
   obtain⟨c1,c2,c3⟩:=eB hF ht
   have h1:=ht.1
   refine⟨?_,fun i _=>?_⟩
   ·rcases hr with h | ⟨_,h⟩
    ·exact .inl h
    ·exact .inr ⟨ht,c1.trans h⟩
   ·simp only[aH,bytesL]
    rw[if_neg (by omega),if_neg (by omega),c3]
 | l+1,a,hr,.inr ht=>by
   obtain⟨c1,c2,c3⟩:=eB hF ht
   have h1:=ht.1
   have hrE:Root n E (l+1) a:=by
    rcases hr with h | ⟨_,h⟩
    ·exact .inl h
    ·exact .inr ⟨ht,c1.trans h⟩
   have hk:kidsL E a=kidsL D a:=by unfold kidsL; rw[if_neg (by omega),if_neg (by omega),c2]
   refine⟨hrE,fun i hi=>?_⟩
   have hp:=lH l
   have hd:i / pw l<4:=by simp only[pw] at hi; exact Nat.div_lt_of_lt_mul (by rw[Nat.mul_comm]; exact hi)
   simp only[aH]
   rw[hk]
   have hrk:=hrE.kidAt hE hd
   rw[hk] at hrk
   exact(xW hD hE hF l _ (hr.kidAt hD hd) (hrk.imp id (·.1))).2 _ (Nat.mod_lt _ hp)
structure Turned (n:Nat)(B C:Nat->Blk)(a:Int)(c:Int):Prop where
 right:Right n C
 ext:Ext n B C
 root:Root n C 3 a
 out:∀ k,k<n->outs n C k=outs n B k+if (k:Int)+1=a then 1 else 0
 few:∀ k,k<n->(C k).refs<=c
 newk:bL2 n B C
theorem bQ6 (n:Nat)(B:Nat->Blk):bL2 n B B:=fun k _ h1 h2 _=>absurd h1 h2
theorem bI0 {n:Nat}{B C D:Nat->Blk}(hx:Ext n B C)(hy:Ext n C D)(hD:Right n D)(h1:bL2 n B C)(h2:bL2 n C D):bL2 n B D:=by
 intro k hk hb hd hl
 by_cases hc:(C k).refs=0
 ·obtain⟨x,hxk,hor⟩:=h2 k hk hc hd hl
  refine⟨x,hxk,hor.imp id fun hcx=>?_⟩
  rcases(hD.one k hk).kids x hxk with h0 | ⟨⟨g1,g2,_⟩,_⟩
  ·subst h0
   exact Classical.byContradiction fun hne=>by
    by_cases hn:(0-1:Int).toNat<n
    ·exact(hx.keep _ hn hne).1 hcx
    ·exact absurd (show (0-1:Int).toNat<n by simp; omega) hn
  ·exact Classical.byContradiction fun hne=>(hx.keep _ (by omega) hne).1 hcx
 ·obtain⟨_,g2,g3,_⟩:=hy.keep k hk hc
  rw[g3]
  exact h1 k hk hb hc (by rw[<-g2]; exact hl)
theorem bQ9 {n:Nat}{B D E:Nat->Blk}{T:List Int}(hF:iU n D E T)(h:bL2 n B D):bL2 n B E:=by
 intro k hk hb he hl
 have e0:((k:Int)+1-1).toNat=k:=by omega
 have hc:=eB hF (x:=(k:Int)+1) ⟨by omega,by omega,by rw[e0]; exact he⟩
 rw[e0] at hc
 have hd:(D k).refs≠0:=by
  rcases hF.same k hk with e | ⟨h1,h2,_⟩
  ·exact absurd (by rw[e]; rfl) he
  ·intro h0; omega
 rw[hc.2.1]
 exact h k hk hb hd (by rw[<-hc.1]; exact hl)
theorem aT6 {n:Nat}{B:Nat->Blk}{i:Nat}(hR:Right n B)(hi:i<n)(h0:(B i).refs≠0)(hm:(B i).refs<=999999):Right n (lN B ((i:Int)+1)):=by
 have hth:∀ x,There n B x->There n (lN B ((i:Int)+1)) x/\(lN B ((i:Int)+1) (x-1).toNat).level=(B (x-1).toNat).level:=by
  intro x ⟨x1,x2,x3⟩
  by_cases e:(x-1).toNat=i
  ·have hb:=(hR.one i hi).bounds
   rw[e,gQ]
   refine⟨⟨x1,x2,?_⟩,rfl⟩
   rw[e,gQ]
   show (B i).refs+1≠0
   omega
  ·rw[eO e]
   exact⟨⟨x1,x2,by rw[eO e]; exact x3⟩,rfl⟩
 refine⟨hR.small,fun k hk=>?_,fun k hk=>?_,by simp⟩
 ·by_cases e:k=i
  ·subst e
   rw[gQ]
   have hb:=(hR.one k hk).bounds
   exact(hR.one k hk).turn rfl rfl rfl (.inr ⟨h0,by show 1<=(B k).refs+1; omega,by show (B k).refs+1<=1000000; omega⟩) fun x _=>hth x
  ·rw[eO e]
   exact(hR.one k hk).turn rfl rfl rfl (.inl rfl) fun x _=>hth x
 ·rw[aC7]
  have h1:=hR.held k hk
  simp at h1 ⊢
  by_cases e:k=i
  ·subst e; rw[gQ]; show _<=(B k).refs+1; omega
  ·rw[eO e]; exact h1
theorem aR5 {n:Nat}{B:Nat->Blk}{c:Int}(hR:Right n B)(hc:∀ k,k<n->(B k).refs<=c):Turned n B B 0 c:=
 ⟨hR,Ext.refl _ _,.inl rfl,fun k _=>by rw[if_neg (by omega)]; omega,hc,bQ6 _ _⟩
theorem aR6 {n:Nat}{B:Nat->Blk}{i:Nat}{c:Int}(hR:Right n B)(hr:Root n B 3 ((i:Int)+1))(hcm:c<=999999)(hc:∀ k,k<n->(B k).refs<=c):Turned n B (lN B ((i:Int)+1)) ((i:Int)+1) (c+1):=by
 rcases hr with h | ⟨⟨h1,h2,h3⟩,hl⟩
 ·omega
 have e:((i:Int)+1-1).toNat=i:=by omega
 rw[e] at h3 hl
 have hi:i<n:=by omega
 have hR':=aT6 hR hi h3 (by have:=hc i hi; omega)
 have hx:Ext n B (lN B ((i:Int)+1)):=⟨fun k hk h0=>by
  by_cases ek:k=i
  ·subst ek
   have hb:=(hR.one k hk).bounds
   rw[gQ]
   exact⟨by show (B k).refs+1≠0; omega,rfl,rfl,rfl⟩
  ·rw[eO ek]; exact⟨h0,rfl,rfl,rfl⟩⟩
 refine⟨hR', hx,?_,fun k hk=>?_,fun k hk=>?_,fun k hk hb hc' _=>?_⟩
 ·exact(hx.root (a:=(i:Int)+1) (l:=3) (.inr ⟨⟨h1,h2,by rw[e]; exact h3⟩,by rw[e]; exact hl⟩)).1
 ·rw[bP9]
  by_cases ek:k=i
  ·subst ek; rw[if_pos rfl,if_pos rfl]
  ·rw[if_neg ek,if_neg (by omega)]; omega
 ·have:=hc k hk
  by_cases ek:k=i
  ·subst ek; rw[gQ]; show (B k).refs+1<=_; omega
  ·rw[eO ek]; omega
 ·by_cases ek:k=i
  ·subst ek; exact absurd hb h3
  ·rw[eO ek] at hc'; exact absurd hb hc'
theorem Turned.put {n:Nat}{B C D:Nat->Blk}{a a' c c':Int}{i:Nat}{bs:List Int}(hB:Right n B)(h:Turned n B C a c)(hp:kQ n C 3 a i bs c' D a'):
 Ext n B D/\Right n D/\Root n D 3 a'/\(∀ k,k<n->outs n D k=outs n B k+(if (k:Int)+1=a then 1 else 0)+(if (k:Int)+1=a' then 1 else 0))/\bL2 n B D/\(a≠0->a≠a'):=
 ⟨h.ext.trans hp.grew.ext,hp.grew.right,hp.grew.root,fun k hk=>by rw[hp.grew.out k hk,h.out k hk],bI0 h.ext hp.grew.ext hp.grew.right h.newk hp.newk,fun h0 e=>by
   rcases h.root with hr | ⟨⟨_,_,hr⟩,_⟩
   ·exact h0 hr
   ·exact hr (by rw[e]; exact hp.grew.fresh (e▸h0))⟩
theorem Turned.put0 {n:Nat}{B C D:Nat->Blk}{a' c c' cc:Int}{i:Nat}{bs:List Int}(hB:Right n B)(h:Turned n B C 0 c)(h64:64<=cc)(hc:∀ k,k<n->(B k).refs<=cc)(hp:kQ n C 3 0 i bs c' D a'):Turned n B D a' (cc+48):=by
 obtain⟨p1,p2,p3,p4,p5,_⟩:=h.put hB hp
 have ho:∀ k,k<n->outs n D k=outs n B k+if (k:Int)+1=a' then 1 else 0:=fun k hk=>by rw[p4 k hk,if_neg (by omega)]; omega
 exact⟨p2,p1,p3,ho,cP8 ⟨hB,p2,p1,p3,ho⟩ p5 h64 hc,p5⟩
theorem Turned.droppable {n:Nat}{B C D:Nat->Blk}{m:Nat}{a' c c':Int}{i:Nat}{bs:List Int}(hB:Right n B)(h:Turned n B C ((m:Int)+1) c)(hp:kQ n C 3 ((m:Int)+1) i bs c' D a'):mM n D ((m:Int)+1):=by
 obtain⟨p1,p2,p3,p4,p5,_⟩:=h.put hB hp
 rcases h.root with hr | ⟨⟨r1,r2,_⟩,_⟩
 ·omega
 have hm:m<n:=by omega
 refine aP1 p2 hm ?_
 rw[p4 m hm,if_pos rfl]
 have:=qI hB m hm
 split<;>omega
theorem Turned.drop {n:Nat}{B C D E:Nat->Blk}{m:Nat}{a' c c' cc:Int}{i:Nat}{bs:List Int}(hB:Right n B)(h:Turned n B C ((m:Int)+1) c)(h64:64<=cc)(hc:∀ k,k<n->(B k).refs<=cc)(hp:kQ n C 3 ((m:Int)+1) i bs c' D a')(hE:Right n E)(hF:iU n D E [(m:Int)+1]):
 Turned n B E a' (cc+48)/\(∀ j,j<pw 3->aH E 3 a' j=aH D 3 a' j)/\cO E n<=cO D n:=by
 obtain⟨p1,p2,p3,p4,p5,p6⟩:=h.put hB hp
 have ho:∀ k,k<n->outs n E k=outs n B k+if (k:Int)+1=a' then 1 else 0:=fun k hk=>by
  rw[hF.outs k hk,p4 k hk]
  by_cases e:k=m
  ·subst e; rw[List.count_cons_self,if_pos rfl]; simp; omega
  ·rw[List.count_cons_of_ne (by omega),if_neg (by omega)]; simp
 have hx:=bZ0 hB hE p1 hF (fun k hk=>by rw[ho k hk]; split<;>omega)
 have hle:∀ k,k<n->(E k).refs<=(D k).refs:=fun k hk=>by
  rcases hF.same k hk with e | ⟨_,e,_⟩
  ·have:=(p2.one k hk).bounds
   rw[e]; show (0:Int)<=_; omega
  ·exact e
 have ht:a'=0\/There n E a':=by
  rcases p3 with h0 | ⟨⟨r1,r2,r3⟩,_⟩
  ·exact .inl h0
  ·obtain⟨q,rfl⟩:∃ q:Nat,a'=(q:Int)+1:=⟨(a'-1).toNat,by omega⟩
   have hq:q<n:=by omega
   have hoq:=ho q hq
   rw[if_pos rfl] at hoq
   have:=qI hB q hq
   refine .inr ⟨r1,r2,?_⟩
   rw[show ((q:Int)+1-1).toNat=q by omega]
   unfold outs at hoq this
   omega
 obtain⟨q1,q2⟩:=xW p2 hE hF 3 a' p3 ht
 have hn:=bQ9 hF p5
 exact⟨⟨hE,hx,q1,ho,cP8 ⟨hB,hE,hx,q1,ho⟩ hn h64 hc,hn⟩,q2,wB hle⟩
theorem Turned.none {n:Nat}{B C:Nat->Blk}{c:Int}(hB:Right n B)(h:Turned n B C 0 c):∀ k,k<n->C k=B k:=
 aT1 h.right hB (aB6 hB h.ext) fun k hk=>by rw[h.out k hk,if_neg (by omega)]; omega
theorem Turned.back {n:Nat}{B C D:Nat->Blk}{m:Nat}{c:Int}(hB:Right n B)(h:Turned n B C ((m:Int)+1) c)(hD:Right n D)(hF:iU n C D [(m:Int)+1]):∀ k,k<n->D k=B k:=by
 refine aT1 hD hB (fun k hk=>?_) fun k hk=>?_
 ·rcases bU9 hF k hk with h' | h' | ⟨h1,h2,h3⟩
  ·exact .inl h'
  ·by_cases e:(B k).refs=0
   ·exact .inr (.inl e)
   ·exact absurd h' (h.ext.keep k hk e).1
  ·rcases aB6 hB h.ext k hk with h' | h' | ⟨g1,g2,g3⟩
   ·by_cases e:(B k).refs=0
    ·exact .inr (.inl e)
    ·exact absurd h' (h.ext.keep k hk e).1
   ·exact .inr (.inl h')
   ·exact .inr (.inr ⟨h1.trans g1,h2.trans g2,h3.trans g3⟩)
 ·rw[hF.outs k hk,h.out k hk]
  by_cases e:k=m
  ·subst e
   rw[if_pos rfl,List.count_cons_self]
   simp
  ·rw[if_neg (by omega),List.count_cons_of_ne (by omega)]
   simp
theorem bM2 {n:Nat}{B:Nat->Blk}{i:Nat}(hR:Right n B)(h0:(B i).refs≠0):cO (lN B ((i:Int)+1)) n<=cO B n:=by
 have key:∀ m,m<=n->cO (lN B ((i:Int)+1)) m<=cO B m:=by
  intro m
  induction m with
  | zero=>intro _; exact Nat.le_refl _
  | succ m ih=>
    intro hm
    have hb:=(hR.one m (by omega)).bounds
    have h1:=ih (by omega)
    rw[dW,dW]
    by_cases e:m=i
    ·subst e
     rw[if_pos (show 0<(B m).refs by omega)]
     split<;>omega
    ·rw[eO e]; omega
 exact key n (Nat.le_refl _)
theorem xY {n:Nat}{B:Nat->Blk}(hR:Right n B):∀ (l:Nat) (a:Int),Root n B l a->∀ i,i<pw l->aH B l a i=[]\/(aH B l a i).length=4
 | 0,a,ha,i,_=>by
   have h:=ha.leaf hR
   simp only[aH]
   by_cases e:a=0
   ·rw[if_pos e] at h; exact .inl (List.eq_nil_of_length_eq_zero h)
   ·rw[if_neg e] at h; exact .inr h
 | l+1,a,ha,i,hi=>by
   have hp:=lH l
   have hd:i / pw l<4:=by simp only[pw] at hi; exact Nat.div_lt_of_lt_mul (by rw[Nat.mul_comm]; exact hi)
   simp only[aH]
   exact xY hR l _ (ha.kidAt hR hd) _ (Nat.mod_lt _ hp)
end Go.Proofs.YtjafgnohlkkopaaGreatDoor
namespace Go.Proofs.YtjafgnohlkkopaaGreatDoor
def sH (n:Nat)(B:Nat->Blk)(c:Nat):Prop:=n<cO B n+4*c/\n<=cO B n+88
def iN (C:Nat->Blk):Nat->Int->List Int
 | 0,a=>if a=0 then [] else [a]
 | l+1,a=>if a=0 then [] else a::(C (a-1).toNat).kids.flatMap (iN C l)
def cN7:Nat->Nat
 | 0=>1
 | l+1=>1+4*cN7 l
theorem yG {f:Int->List Int}{m:Nat}:∀ {ks:List Int},(∀ k∈ks,(f k).length<=m)->(ks.flatMap f).length<=ks.length*m
 | [],_=>by simp
 | k::ks,h=>by
   have h1:=h k (by simp)
   have h2:=yG (ks:=ks) fun x hx=>h x (by simp[hx])
   rw[List.flatMap_cons,List.length_append,List.length_cons,Nat.add_mul]
   omega
theorem aA5 {n:Nat}{C:Nat->Blk}(hC:Right n C):∀ (l:Nat) (a:Int),Root n C l a->(iN C l a).length<=cN7 l
 | 0,a,_=>by
   simp only[iN,cN7]
   split<;>simp
 | l+1,a,ha=>by
   simp only[iN,cN7]
   by_cases h0:a=0
   ·rw[if_pos h0]; simp
   ·rw[if_neg h0]
    have h4:=ha.len hC
    unfold kidsL at h4
    rw[if_neg h0] at h4
    have:=yG (f:=iN C l) (m:=cN7 l) (ks:=(C (a-1).toNat).kids) fun k hk=>aA5 hC l k (ha.kid hC (by unfold kidsL; rw[if_neg h0]; exact hk))
    rw[h4] at this
    rw[List.length_cons]
    omega
theorem xM (C:Nat->Blk)(l:Nat){a:Int}(h0:a≠0):a∈iN C l a:=by
 cases l with
 | zero=>simp[iN,h0]
 | succ l=>simp[iN,h0]
theorem aA6 {n:Nat}{C:Nat->Blk}(hC:Right n C):∀ (l:Nat) (a:Int),Root n C l a->∀ y∈iN C l a,∀ k∈(C (y-1).toNat).kids,k≠0->k∈iN C l a
 | 0,a,ha,y,hy,k,hk,hk0=>by
   rcases ha with rfl | ⟨⟨h1,h2,h3⟩,h4⟩
   ·simp[iN] at hy
   ·simp only[iN] at hy
    rw[if_neg (by omega)] at hy
    rw[List.mem_singleton.1 hy] at hk
    have:=(hC.one _ (ix h1 h2).1).live hk
    omega
 | l+1,a,ha,y,hy,k,hk,hk0=>by
   by_cases h0:a=0
   ·simp only[iN] at hy
    rw[if_pos h0] at hy
    exact absurd hy (by simp)
   ·simp only[iN] at hy ⊢
    rw[if_neg h0] at hy ⊢
    rcases List.mem_cons.1 hy with rfl | hy
    ·exact List.mem_cons_of_mem _ (List.mem_flatMap.2 ⟨k,hk,xM C l hk0⟩)
    ·obtain⟨x,hx,hyx⟩:=List.mem_flatMap.1 hy
     exact List.mem_cons_of_mem _ (List.mem_flatMap.2 ⟨x,hx,aA6 hC l x (ha.kid hC (by unfold kidsL; rw[if_neg h0]; exact hx)) y hyx k hk hk0⟩)
theorem bW2 {n:Nat}{C:Nat->Blk}(hC:Right n C){l:Nat}{a:Int}(ha:Root n C l a){x:Int}(h:Clo C [a] x):x∈iN C l a:=
 h (fun y=>y∈iN C l a) (fun r hr h0=>by rw[List.mem_singleton.1 hr] at h0 ⊢; exact xM C l h0) fun y hy k hk h0=>aA6 hC l a ha y hy k hk h0
theorem xU:∀ {L M:List Int},L.Nodup->(∀ x∈L,x∈M)->L.length<=M.length
 | [],_,_,_=>by simp
 | x::L,M,hn,h=>by
   have hx:=h x (by simp)
   have:=xU (L:=L) (M:=M.erase x) (List.nodup_cons.1 hn).2 (fun y hy=>(List.mem_erase_of_ne (fun (e:y=x)=>(List.nodup_cons.1 hn).1 (by rw[<-e]; exact hy))).2 (h y (by simp[hy])))
   have e:=List.length_erase_of_mem hx
   have:0<M.length:=List.length_pos_of_mem hx
   simp only[List.length_cons]
   omega
def iY (L:List Int):Nat->List Int
 | 0=>[]
 | n+1=>if ((n:Int)+1)∈L then ((n:Int)+1)::iY L n else iY L n
theorem kG {L:List Int}:∀ {n:Nat} {x:Int},x∈iY L n->x∈L/\x<=n
 | 0,x,h=>by simp[iY] at h
 | n+1,x,h=>by
   simp only[iY] at h
   split at h
   ·rcases List.mem_cons.1 h with rfl | h
    ·exact⟨by assumption,by omega⟩
    ·have:=kG h; exact⟨this.1,by omega⟩
   ·have:=kG h; exact⟨this.1,by omega⟩
theorem jO {L:List Int}:∀ (n:Nat),(iY L n).Nodup
 | 0=>by simp[iY]
 | n+1=>by
   simp only[iY]
   split
   ·refine List.nodup_cons.2 ⟨fun h=>?_,jO n⟩
    have:=(kG h).2
    omega
   ·exact jO n
theorem qC {B C:Nat->Blk}{L:List Int}:∀ {n:Nat},(∀ k,k<n->0<(C k).refs->0<(B k).refs\/((k:Int)+1)∈L)->cO C n<=cO B n+(iY L n).length
 | 0,_=>by simp[cO,sumTo]
 | n+1,h=>by
   have h1:=qC (n:=n) fun k hk=>h k (by omega)
   have h2:=h n (by omega)
   rw[dW,dW]
   simp only[iY]
   by_cases hc:0<(C n).refs
   ·rw[if_pos hc]
    rcases h2 hc with hb | hb
    ·rw[if_pos hb]
     split
     ·rw[List.length_cons]; omega
     ·omega
    ·rw[if_pos hb,List.length_cons]; omega
   ·rw[if_neg hc]
    have h3:(iY L n).length<=(if ((n:Int)+1)∈L then ((n:Int)+1)::iY L n else iY L n).length:=by
     split
     ·rw[List.length_cons]; omega
     ·exact Nat.le_refl _
    omega
theorem Turned.used85 {n:Nat}{B C:Nat->Blk}{a c:Int}(hB:Right n B)(h:Turned n B C a c):cO C n<=cO B n+85:=by
 have hl:=aA5 h.right 3 a h.root
 have hp:=xU (jO (L:=iN C 3 a) n) (M:=iN C 3 a) fun x hx=>(kG hx).1
 have key:∀ k,k<n->0<(C k).refs->0<(B k).refs\/((k:Int)+1)∈iN C 3 a:=by
  intro k hk hc
  have hall:=qR h.right (l:=(List.range n).map fun i=>if 0<outs n C i then (i:Int)+1 else 0) (fun i hi ho=>by
   refine List.mem_map.2 ⟨i,List.mem_range.2 hi,?_⟩
   rw[if_pos ho]) k hk (by omega)
  have:There n B ((k:Int)+1)\/Clo C [a] ((k:Int)+1):=by
   refine hall (fun y=>There n B y\/Clo C [a] y) (fun r hr h0=>?_) fun y hy x hx hx0=>?_
   ·obtain⟨i,hi,rfl⟩:=List.mem_map.1 hr
    have hi:=List.mem_range.1 hi
    by_cases ho:0<outs n C i
    ·rw[if_pos ho] at h0 ⊢
     have e:=h.out i hi
     by_cases ha:(i:Int)+1=a
     ·right
      rw[ha]
      exact Clo.root (List.mem_singleton.2 rfl) (by omega)
     ·left
      rw[if_neg ha] at e
      refine⟨by omega,by omega,?_⟩
      rw[show ((i:Int)+1-1).toNat=i by omega]
      unfold outs at e ho
      have:0<(B i).refs-(among n B ((i:Int)+1):Int):=by omega
      omega
    ·rw[if_neg ho] at h0
     exact absurd rfl h0
   ·rcases hy with hy | hy
    ·left
     have hc:=h.ext.keep _ (ix hy.1 hy.2.1).1 hy.2.2
     rw[hc.2.2.1] at hx
     rcases(hB.one _ (ix hy.1 hy.2.1).1).kids x hx with e | ⟨e,_⟩
     ·exact absurd e hx0
     ·exact e
    ·exact .inr (hy.kid hx hx0)
  rcases this with⟨_,_,h3⟩ | h3
  ·left
   rw[show ((k:Int)+1-1).toNat=k by omega] at h3
   have:=(hB.one k hk).bounds
   omega
  ·exact .inr (bW2 h.right h.root h3)
 have:=qC key
 simp only[cN7] at hl
 omega
end Go.Proofs.YtjafgnohlkkopaaGreatDoor
namespace Go.Proofs.YtjafgnohlkkopaaGreatDoor
def nxt (x:Int):Int:=(75*x+74)%65537
def bQ1 (x:Int):Int:=x / 8%256
def xk (x:Int):Nat->Int
 | 0=>x
 | k+1=>nxt (xk x k)
def start (key at':Int):Int:=(key*104729+at'*7919+12345)%65537
theorem cO8 (x:Int):0<=nxt x/\nxt x<65537:=by unfold nxt; omega
theorem bQ0 (x:Int):0<=bQ1 x/\bQ1 x<256:=by unfold bQ1; omega
theorem aZ3 (k a:Int):0<=start k a/\start k a<65537:=by unfold start; omega
theorem cN9 (x:Int)(h0:0<=x)(h1:x<65537)(k:Nat):0<=xk x k/\xk x k<65537:=by
 cases k with
 | zero=>exact⟨h0,h1⟩
 | succ k=>exact cO8 _
def aU5 (f:Int->Int->Int)(x:Int)(zs:List Int)(i:Nat):Int:=f (zs.getD i 0) (bQ1 (xk x (i+1)))
def mixed (f:Int->Int->Int)(x:Int)(zs:List Int)(n:Nat):List Int:=(List.range n).map (aU5 f x zs)
def part (f:Int->Int->Int)(x:Int)(zs:List Int)(n k:Nat):List Int:=(List.range n).map fun i=>if i<k then aU5 f x zs i else 0
def bL6 (a b:Int):Int:=(a+b)%256
def aZ2 (a b:Int):Int:=(a-b)%256
theorem uK (f:Int->Int->Int)(x:Int)(zs:List Int)(n:Nat):(mixed f x zs n).length=n:=by simp[mixed]
theorem sW (f:Int->Int->Int)(x:Int)(zs:List Int)(n i:Nat)(h:i<n):(mixed f x zs n).getD i 0=aU5 f x zs i:=by
 simp[mixed,List.getD,h]
theorem bP6 (f:Int->Int->Int)(x:Int)(zs:List Int)(n:Nat):part f x zs n 0=List.replicate n 0:=by
 apply List.ext_getElem
 ·simp[part]
 ·intro i h1 h2
  simp[part]
theorem bA9 (f:Int->Int->Int)(x:Int)(zs:List Int)(n:Nat):part f x zs n n=mixed f x zs n:=by
 unfold part mixed
 apply List.map_congr_left
 intro i hi
 simp at hi
 simp[hi]
theorem bP7 (f:Int->Int->Int)(x:Int)(zs:List Int)(n k:Nat):(part f x zs n k).set k (aU5 f x zs k)=part f x zs n (k+1):=by
 apply List.ext_getElem?
 intro i
 rw[List.getElem?_set]
 by_cases hi:i<n
 ·by_cases e:k=i
  ·subst e
   simp[part,hi]
  ·rw[if_neg e]
   have:(i<k+1)↔(i<k):=by omega
   simp[part,hi,this]
 ·have hl:n<=i:=by omega
  by_cases e:k=i
  ·subst e; simp[part,hi]
  ·rw[if_neg e]; simp[part,hl]
end Go.Proofs.YtjafgnohlkkopaaGreatDoor
namespace Go.Proofs.YtjafgnohlkkopaaGreatDoor
open Go.RowKit
theorem bB2 (b:Nat)(x:Int)(w:World)(h0:0<=x)(h1:x<65537)(hc:w.cell? ⟨b,0,none⟩=some (.int .i64 x))(hf:w.frozen? ⟨b,0,none⟩=false):
 Calls Tryz.prog 172 #[.pointer (some ⟨b,0,none⟩)] w fun e w'=>e=.returned (.int .u8 (bQ1 (nxt x)))/\w'=w.setCell ⟨b,0,none⟩ (.int .i64 (nxt x)):=by
 go_enter Tryz.func172,Tryz.ntmps172
 go_wp2
 go_ret
 exact⟨rfl,rfl⟩
theorem cM2 (p q:Int)(w:World)(h0:0<=p)(h1:p<256)(h2:0<=q)(h3:q<256):
 Calls Tryz.prog 202 #[.int .u8 p,.int .u8 q] w fun e w'=>e=.returned (.int .u8 (bL6 p q))/\w'=w:=by
 go_enter Tryz.func202,Tryz.ntmps202
 go_wp2
 go_ret
 exact⟨rfl,rfl⟩
theorem cJ1 (p q:Int)(w:World)(h0:0<=p)(h1:p<256)(h2:0<=q)(h3:q<256):
 Calls Tryz.prog 134 #[.int .u8 p,.int .u8 q] w fun e w'=>e=.returned (.int .u8 (aZ2 p q))/\w'=w:=by
 go_enter Tryz.func134,Tryz.ntmps134
 go_wp2
 go_ret
 exact⟨rfl,rfl⟩
theorem zS (key at':Int)(w:World)(h0:0<=key)(h1:key<=1000)(h2:0<=at')(h3:at'<=255):
 Calls Tryz.prog 156 #[.int .i64 key,.int .i64 at'] w fun e w'=>e=.returned (.func (.func 172) #[] #[.pointer (some ⟨w.heap.size,0,none⟩)])/\w'=w.alloc (.cells #[.int .i64 (start key at')] 3):=by
 have hmf:∀ (fn:Fn) (first cap:Array Value) (w:World),(Instr.makeFunc fn first cap).run Tryz.prog w=.ok (.func fn first cap) w:=fun _ _ _ _=>rfl
 go_enter Tryz.func156,Tryz.ntmps156
 go_wp2
 go_ret
 exact⟨rfl,rfl⟩
def aI4 (key at':Int):Bool:=decide (0<=key/\key<=1000/\0<=at'/\at'<=255)
theorem lZ {key at':Int}(h:aI4 key at'=true):0<=key/\key<=1000/\0<=at'/\at'<=255:=of_decide_eq_true h
theorem oU {key at':Int}(h:aI4 key at'=false):¬(0<=key/\key<=1000/\0<=at'/\at'<=255):=of_decide_eq_false h
theorem rZ (key at':Int)(w:World)(h:aI4 key at'=true):
 Calls Tryz.prog 51 #[.int .i64 key,.int .i64 at'] w fun e w'=>e=.returned (.int .i64 0)/\w'=w:=by
 obtain⟨h0,h1,h2,h3⟩:=lZ h
 clear h
 go_enter Tryz.func51,Tryz.ntmps51
 go_wp2
 go_ret
 exact⟨rfl,rfl⟩
theorem aH5 (key at':Int)(w:World)(h:aI4 key at'=false):
 Calls Tryz.prog 51 #[.int .i64 key,.int .i64 at'] w fun e w'=>e=.returned (.int .i64 3)/\w'=w:=by
 have h':=oU h
 clear h
 by_cases h0:key<0
 ·clear h'
  go_enter Tryz.func51,Tryz.ntmps51
  go_wp2
  go_ret
  exact⟨rfl,rfl⟩
 ·by_cases h1:1000<key
  ·clear h'
   go_enter Tryz.func51,Tryz.ntmps51
   go_wp2
   go_ret
   exact⟨rfl,rfl⟩
  ·by_cases h2:at'<0
   ·clear h'
    go_enter Tryz.func51,Tryz.ntmps51
    go_wp2
    go_ret
    exact⟨rfl,rfl⟩
   ·have h3:256<=at':=by omega
    clear h'
    go_enter Tryz.func51,Tryz.ntmps51
    go_wp2
    go_ret
    exact⟨rfl,rfl⟩
def BytesAt (w:World)(a:Option Addr)(n:Nat)(l:List Int):Prop:=
 l.length=n/\(∀ x∈l,0<=x/\x<256)/\(0<n->∃ b off,a=some ⟨b,off,none⟩/\b<w.heap.size/\∀ i,i<n->w.cell? ⟨b,off+i,none⟩=some (.int .u8 (l.getD i 0)))
theorem BytesAt.below {w w':World}{a:Option Addr}{n:Nat}{l:List Int}(h:BytesAt w a n l)(hb:Below w.heap.size w w'):BytesAt w' a n l:=by
 refine⟨h.1,h.2.1,fun hn=>?_⟩
 obtain⟨b,off,rfl,hlt,hc⟩:=h.2.2 hn
 exact⟨b,off,rfl,Nat.lt_of_lt_of_le hlt hb.size,fun i hi=>(hb.cell (p:=⟨b,off+i,none⟩) hlt).trans (hc i hi)⟩
theorem BytesAt.bd {w:World}{a:Option Addr}{n:Nat}{l:List Int}(h:BytesAt w a n l){i:Nat}(hi:i<n):0<=l.getD i 0/\l.getD i 0<256:=by
 have hl:i<l.length:=by rw[h.1]; exact hi
 have e:l.getD i 0=l[i]:=by simp[List.getD,hl]
 rw[e]
 exact h.2.1 _ (List.getElem_mem hl)
theorem aB2 (n:Nat):(madeCells (Value.cells (.int .u8 0)) (n*1)).toList=(List.replicate n (0:Int)).map (Value.int .u8):=by
 apply List.ext_getElem
 ·simp[madeCells]
 ·intro i h1 h2
  simp[madeCells,Value.cells,Nat.mod_one]
def Inv (f:Int->Int->Int)(x:Int)(l:List Int)(B n k:Nat)(w wr:World):Prop:=
 wr.heap[B]? =some (.cells #[.int .i64 (xk x k)] 3 (0,0))/\
 wr.ownsRow (B+1) 5 1 (.slice (some ⟨B+1,0,none⟩) n n) n ((part f x l n k).map (Value.int .u8))/\Below B w wr
theorem Inv.start {f:Int->Int->Int}{x:Int}{l:List Int}{n:Nat}{w w2:World}
 (hown:w2.ownsRow (w.heap.size+1) 5 1 (.slice (some ⟨w.heap.size+1,0,none⟩) n n) n (madeCells (Value.cells (.int .u8 0)) (n*1)).toList)
 (hgr:(w.alloc (.cells #[.int .i64 x] 3)).grownBy w2 none):Inv f x l w.heap.size n 0 w w2:=by
 refine⟨?_,?_,((Below.refl _ _).alloc (Nat.le_refl _) _).grown hgr (by simp) (by simp)⟩
 ·rw[hgr.block w.heap.size (by simp) (by simp)]
  exact heap_alloc_new w _
 ·rw[bP6,<-aB2]; exact hown
theorem Inv.step {f:Int->Int->Int}{x:Int}{l:List Int}{B n k:Nat}{w wr:World}(h:Inv f x l B n k w wr):
 Inv f x l B n (k+1) w ((wr.setCell ⟨B,0,none⟩ (.int .i64 (nxt (xk x k)))).setCell ⟨B+1,k,none⟩ (.int .u8 (f (l.getD k 0) (bQ1 (nxt (xk x k)))))):=by
 obtain⟨h1,h2,h3⟩:=h
 refine⟨?_,?_,(h3.setCell (Nat.le_refl _) _).setCell (by simp) _⟩
 ·rw[Below.heap_setCell _ _ _ _ (by simp)]
  exact one_setCell h1
 ·have:=((ownsRow_setCell_below h2 (a:=⟨B,0,none⟩) (by simp) (.int .i64 (nxt (xk x k)))).stored k (.int .u8 (f (l.getD k 0) (bQ1 (nxt (xk x k)))))).1
  rw[<-bP7,List.map_set]
  exact this
theorem bE8 (key at':Int)(a:Option Addr)(n c:Nat)(l:List Int)(w:World)(hk:aI4 key at'=true)(hn:n<=256)(h:BytesAt w a n l):
 Calls Tryz.prog 133 #[.int .i64 key,.int .i64 at', .slice a n c,.func (.func 202) #[] #[]] w fun e w'=>
  ∃ g,e=.returned (.tuple #[.slice (some ⟨g,0,none⟩) n n,.int .i64 0])/\w'.ownsRow w.heap.size 5 1 (.slice (some ⟨g,0,none⟩) n n) n ((mixed bL6 (start key at') l n).map (Value.int .u8))/\Below w.heap.size w w':=by
 obtain⟨i0,hi,hz0,hz1,hz2⟩:=info_parts Tryz.infoByte
 obtain⟨k0,k1,k2,k3⟩:=lZ hk
 go_enter Tryz.func133,Tryz.ntmps133
 go_wp2_with fail
 refine(rZ key at' _ hk).mono ?_
 rintro e w ⟨rfl,rfl⟩
 go_wp2_with fail
 refine(zS key at' _ k0 k1 k2 k3).mono ?_
 rintro e w1 ⟨rfl,rfl⟩
 go_wp2_with (at_make; refine wpList_make_full _ rfl (.tmp 28) (.tmp 28) 28 rfl (w.heap.size+1) 5 i0 (.int .u8 0) 1 Tryz.underlying28 hi hz0 hz1 .i64 .i64 n n n rfl rfl rfl rfl (by rw[hz2]; omega) (by unfold maxLen; omega) (by simp) ?_; intro w2 hown hgr)
 have hx:=aZ3 key at'
 go_loopw [32] (fun i wr=>∃ k:Nat,k<=n/\i=.int .i64 k/\Inv bL6 (start key at') l w.heap.size n k w wr) (fun i _=>n-(Go.RowKit.intOf i).toNat)
 case atStart=>exact⟨0,Nat.zero_le _,rfl,Inv.start (by simpa using hown) hgr⟩
 case round=>
  clear hown hgr
  obtain⟨k,hkn,rfl,hinv⟩:=hrel
  by_cases hlt:k<n
  ·obtain⟨b,off,rfl,hb,hc⟩:=h.2.2 (by omega)
   have hck:wr.cell? ⟨b,off+k,none⟩=some (.int .u8 (l.getD k 0)):=(hinv.2.2.cell (by exact hb)).trans (hc k hlt)
   have hxc:=cell_of_one hinv.1
   have hxf:=free_of_one hinv.1
   have hxb:=cN9 (start key at') hx.1 hx.2 k
   have hob:=bQ0 (nxt (xk (start key at') k))
   have hoc:wr.cell? ⟨w.heap.size+1,k,none⟩=some (.int .u8 ((part bL6 (start key at') l n k).getD k 0)):=by
    rw[hinv.2.1.cellAt k (by omega)]
    simp[part,hlt]
   have hof:=hinv.2.1.frozenAt k
   have hlk:0<=l.getD k 0/\l.getD k 0<256:=h.bd hlt
   have hstep:=hid hinv.step
   clear hinv hc h hx
   generalize l.getD k 0=lk at *
   generalize xk (start key at') k=xx at *
   generalize (part bL6 (start key at') l n k).getD k 0=old at *
   go_wp2_with fail
   refine(bB2 w.heap.size xx wr hxb.1 hxb.2 hxc hxf).mono ?_
   rintro e w3 ⟨rfl,rfl⟩
   have hoc3:(wr.setCell ⟨w.heap.size,0,none⟩ (.int .i64 (nxt xx))).cell? ⟨w.heap.size+1,k,none⟩=some (.int .u8 old):=by rw[sD _ _ _ _ (by simp)]; exact hoc
   have hof3:(wr.setCell ⟨w.heap.size,0,none⟩ (.int .i64 (nxt xx))).frozen? ⟨w.heap.size+1,k,none⟩=false:=by rw[oC _ _ _ _ (by simp)]; exact hof
   generalize bQ1 (nxt xx)=ob at *
   generalize nxt xx=nx at *
   generalize wr.setCell ⟨w.heap.size,0,none⟩ (.int .i64 nx)=w4 at *
   go_wp2_with fail
   refine(cM2 lk ob w4 hlk.1 hlk.2 hob.1 hob.2).mono ?_
   rintro e w4 ⟨rfl,rfl⟩
   go_wp2_with fail
   go_roundw
   case rel=>exact⟨k+1,by omega,by go_num,hstep.out⟩
   case measure=>simp[Go.RowKit.intOf]; omega
  ·have hkk:k=n:=by omega
   subst hkk
   clear h hx
   go_wp2
   go_ret2
   exact⟨w.heap.size+1,rfl,by rw[<-bA9]; exact dE (by omega) hinv.2.1,hinv.2.2⟩
theorem bE7 (key at':Int)(a:Option Addr)(n c:Nat)(l:List Int)(w:World)(hk:aI4 key at'=true)(hn:n<=256)(h:BytesAt w a n l):
 Calls Tryz.prog 133 #[.int .i64 key,.int .i64 at', .slice a n c,.func (.func 134) #[] #[]] w fun e w'=>
  ∃ g,e=.returned (.tuple #[.slice (some ⟨g,0,none⟩) n n,.int .i64 0])/\w'.ownsRow w.heap.size 5 1 (.slice (some ⟨g,0,none⟩) n n) n ((mixed aZ2 (start key at') l n).map (Value.int .u8))/\Below w.heap.size w w':=by
 obtain⟨i0,hi,hz0,hz1,hz2⟩:=info_parts Tryz.infoByte
 obtain⟨k0,k1,k2,k3⟩:=lZ hk
 go_enter Tryz.func133,Tryz.ntmps133
 go_wp2_with fail
 refine(rZ key at' _ hk).mono ?_
 rintro e w ⟨rfl,rfl⟩
 go_wp2_with fail
 refine(zS key at' _ k0 k1 k2 k3).mono ?_
 rintro e w1 ⟨rfl,rfl⟩
 go_wp2_with (at_make; refine wpList_make_full _ rfl (.tmp 28) (.tmp 28) 28 rfl (w.heap.size+1) 5 i0 (.int .u8 0) 1 Tryz.underlying28 hi hz0 hz1 .i64 .i64 n n n rfl rfl rfl rfl (by rw[hz2]; omega) (by unfold maxLen; omega) (by simp) ?_; intro w2 hown hgr)
 have hx:=aZ3 key at'
 go_loopw [32] (fun i wr=>∃ k:Nat,k<=n/\i=.int .i64 k/\Inv aZ2 (start key at') l w.heap.size n k w wr) (fun i _=>n-(Go.RowKit.intOf i).toNat)
 case atStart=>exact⟨0,Nat.zero_le _,rfl,Inv.start (by simpa using hown) hgr⟩
 case round=>
  clear hown hgr
  obtain⟨k,hkn,rfl,hinv⟩:=hrel
  by_cases hlt:k<n
  ·obtain⟨b,off,rfl,hb,hc⟩:=h.2.2 (by omega)
   have hck:wr.cell? ⟨b,off+k,none⟩=some (.int .u8 (l.getD k 0)):=(hinv.2.2.cell (by exact hb)).trans (hc k hlt)
   have hxc:=cell_of_one hinv.1
   have hxf:=free_of_one hinv.1
   have hxb:=cN9 (start key at') hx.1 hx.2 k
   have hob:=bQ0 (nxt (xk (start key at') k))
   have hoc:wr.cell? ⟨w.heap.size+1,k,none⟩=some (.int .u8 ((part aZ2 (start key at') l n k).getD k 0)):=by
    rw[hinv.2.1.cellAt k (by omega)]
    simp[part,hlt]
   have hof:=hinv.2.1.frozenAt k
   have hlk:0<=l.getD k 0/\l.getD k 0<256:=h.bd hlt
   have hstep:=hid hinv.step
   clear hinv hc h hx
   generalize l.getD k 0=lk at *
   generalize xk (start key at') k=xx at *
   generalize (part aZ2 (start key at') l n k).getD k 0=old at *
   go_wp2_with fail
   refine(bB2 w.heap.size xx wr hxb.1 hxb.2 hxc hxf).mono ?_
   rintro e w3 ⟨rfl,rfl⟩
   have hoc3:(wr.setCell ⟨w.heap.size,0,none⟩ (.int .i64 (nxt xx))).cell? ⟨w.heap.size+1,k,none⟩=some (.int .u8 old):=by rw[sD _ _ _ _ (by simp)]; exact hoc
   have hof3:(wr.setCell ⟨w.heap.size,0,none⟩ (.int .i64 (nxt xx))).frozen? ⟨w.heap.size+1,k,none⟩=false:=by rw[oC _ _ _ _ (by simp)]; exact hof
   generalize bQ1 (nxt xx)=ob at *
   generalize nxt xx=nx at *
   generalize wr.setCell ⟨w.heap.size,0,none⟩ (.int .i64 nx)=w4 at *
   go_wp2_with fail
   refine(cJ1 lk ob w4 hlk.1 hlk.2 hob.1 hob.2).mono ?_
   rintro e w4 ⟨rfl,rfl⟩
   go_wp2_with fail
   go_roundw
   case rel=>exact⟨k+1,by omega,by go_num,hstep.out⟩
   case measure=>simp[Go.RowKit.intOf]; omega
  ·have hkk:k=n:=by omega
   subst hkk
   clear h hx
   go_wp2
   go_ret2
   exact⟨w.heap.size+1,rfl,by rw[<-bA9]; exact dE (by omega) hinv.2.1,hinv.2.2⟩
theorem yO {B:Nat}{w:World}{g n:Nat}{l:List Int}(hl:∀ x∈l,0<=x/\x<256)(h:w.ownsRow B 5 1 (.slice (some ⟨g,0,none⟩) n n) n (l.map (Value.int .u8))):BytesAt w (some ⟨g,0,none⟩) n l:=by
 have hn:l.length=n:=by have:=h.1; simpa using this
 refine⟨hn,hl,fun hp=>⟨g,0,rfl,(h.lt g rfl).2,fun i hi=>?_⟩⟩
 rw[Nat.zero_add,h.cellAt i (by omega)]
 simp[hn,hi]
theorem cM3 (a b:Int):0<=bL6 a b/\bL6 a b<256:=by unfold bL6; omega
theorem bN1 (a b:Int):0<=aZ2 a b/\aZ2 a b<256:=by unfold aZ2; omega
theorem aF5 (f:Int->Int->Int)(hf:∀ a b,0<=f a b/\f a b<256)(x:Int)(l:List Int)(n:Nat):∀ y∈mixed f x l n,0<=y/\y<256:=by
 intro y hy
 simp only[mixed,List.mem_map] at hy
 obtain⟨i,_,rfl⟩:=hy
 exact hf _ _
def aT0 (key at':Int)(l:List Int):List Int:=mixed bL6 (start key at') l l.length
def sU (key at':Int)(l:List Int):List Int:=mixed aZ2 (start key at') l l.length
theorem jD (key at':Int)(l:List Int):(aT0 key at' l).length=l.length:=uK _ _ _ _
theorem iB (key at':Int)(l:List Int):(sU key at' l).length=l.length:=uK _ _ _ _
theorem cJ4 (key at':Int)(a:Option Addr)(n c:Nat)(l:List Int)(w:World)(hk:aI4 key at'=true)(hn:n<=256)(h:BytesAt w a n l):
 Calls Tryz.prog 196 #[.int .i64 key,.int .i64 at', .slice a n c] w fun e w'=>
  ∃ g,e=.returned (.tuple #[.slice (some ⟨g,0,none⟩) n n,.int .i64 0])/\BytesAt w' (some ⟨g,0,none⟩) n (aT0 key at' l)/\Below w.heap.size w w':=by
 have hmf:∀ (fn:Fn) (first cap:Array Value) (w:World),(Instr.makeFunc fn first cap).run Tryz.prog w=.ok (.func fn first cap) w:=fun _ _ _ _=>rfl
 go_enter Tryz.func196,Tryz.ntmps196
 go_wp2_with fail
 refine(bE8 key at' a n c l _ hk hn h).mono ?_
 rintro e w1 ⟨g,rfl,hown,hbel⟩
 have hB:=yO (aF5 bL6 cM3 _ _ _) hown
 clear hown
 go_wp2
 go_ret2
 exact⟨g,rfl,by rw[aT0,h.1]; exact hB,hbel⟩
theorem cK2 (key at':Int)(a:Option Addr)(n c:Nat)(l:List Int)(w:World)(hk:aI4 key at'=true)(hn:n<=256)(h:BytesAt w a n l):
 Calls Tryz.prog 101 #[.int .i64 key,.int .i64 at', .slice a n c] w fun e w'=>
  ∃ g,e=.returned (.tuple #[.slice (some ⟨g,0,none⟩) n n,.int .i64 0])/\BytesAt w' (some ⟨g,0,none⟩) n (sU key at' l)/\Below w.heap.size w w':=by
 have hmf:∀ (fn:Fn) (first cap:Array Value) (w:World),(Instr.makeFunc fn first cap).run Tryz.prog w=.ok (.func fn first cap) w:=fun _ _ _ _=>rfl
 go_enter Tryz.func101,Tryz.ntmps101
 go_wp2_with fail
 refine(bE7 key at' a n c l _ hk hn h).mono ?_
 rintro e w1 ⟨g,rfl,hown,hbel⟩
 have hB:=yO (aF5 aZ2 bN1 _ _ _) hown
 clear hown
 go_wp2
 go_ret2
 exact⟨g,rfl,by rw[sU,h.1]; exact hB,hbel⟩
end Go.Proofs.YtjafgnohlkkopaaGreatDoor
