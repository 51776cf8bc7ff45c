import Derived.Test.YtjafgnohlkkopaaGreatDoorPart08
import Derived.Test.YtjafgnohlkkopaaGreatDoorPart09
import Derived.Laws.CopyRow
import Derived.Laws.IdiomCopy
import Derived.Deep.RegionLaw
import Derived.Lib.Overlaps
import Derived.Lib.Walk
import Derived.Lib.AppendZerosOnto
set_option linter.unusedVariables false
set_option maxHeartbeats 8000000
set_option maxRecDepth 100000
namespace Go.Proofs.YtjafgnohlkkopaaGreatDoor
theorem Clo.ne {B:Nat->Blk}{l:List Int}{x:Int}(h:Clo B l x):x≠0:=h (fun y=>y≠0) (fun _ _ h=>h) fun _ _ _ _ h=>h
def eH (B C:Nat->Blk)(R:List Int):Prop:=∀ x,Clo B R x->(C (x-1).toNat).level=(B (x-1).toNat).level/\(C (x-1).toNat).kids=(B (x-1).toNat).kids/\(C (x-1).toNat).bytes=(B (x-1).toNat).bytes
theorem eH.refl (B:Nat->Blk)(R:List Int):eH B B R:=fun x _=>⟨rfl,rfl,rfl⟩
theorem eH.clo {B C:Nat->Blk}{R:List Int}(h:eH B C R)(x:Int):Clo C R x↔Clo B R x:=by
 constructor
 ·intro hx
  exact hx (Clo B R) (fun r hr h0=>Clo.root hr h0) fun y hy k hk h0=>hy.kid (by rw[<-(h y hy).2.1]; exact hk) h0
 ·intro hx
  refine(hx (fun y=>Clo B R y/\Clo C R y) (fun r hr h0=>⟨Clo.root hr h0,Clo.root hr h0⟩) fun y hy k hk h0=>⟨hy.1.kid hk h0,hy.2.kid (by rw[(h y hy.1).2.1]; exact hk) h0⟩).2
theorem eH.symm {B C:Nat->Blk}{R:List Int}(h:eH B C R):eH C B R:=fun x hx=>by
 obtain⟨h1,h2,h3⟩:=h x ((h.clo x).1 hx)
 exact⟨h1.symm,h2.symm,h3.symm⟩
theorem eH.trans {B C D:Nat->Blk}{R:List Int}(h:eH B C R)(k:eH C D R):eH B D R:=fun x hx=>by
 obtain⟨h1,h2,h3⟩:=h x hx
 obtain⟨k1,k2,k3⟩:=k x ((h.clo x).2 hx)
 exact⟨by rw[k1,h1],by rw[k2,h2],by rw[k3,h3]⟩
theorem eH.sub {B C:Nat->Blk}{R S:List Int}(h:eH B C R)(hs:∀ r∈S,r≠0->Clo B R r):eH B C S:=fun x hx=>h x (hx.mono hs)
theorem Ext.sameOn {n:Nat}{B C:Nat->Blk}{R:List Int}(h:Ext n B C)(hR:Right n B)(hr:bE n B R):eH B C R:=fun x hx=>by
 obtain⟨h1,h2,h3⟩:=hx.there hR hr
 obtain⟨_,a2,a3,a4⟩:=h.keep _ (ix h1 h2).1 h3
 exact⟨a2,a3,a4⟩
structure Iso (f:Int->Int)(B:Nat->Blk)(R:List Int)(D:Nat->Blk):Prop where
 zero:f 0=0
 pos:∀ x,Clo B R x->f x≠0
 inj:∀ x y,Clo B R x->Clo B R y->f x=f y->x=y
 lev:∀ x,Clo B R x->(D (f x-1).toNat).level=(B (x-1).toNat).level
 kids:∀ x,Clo B R x->(D (f x-1).toNat).kids=(B (x-1).toNat).kids.map f
 bytes:∀ x,Clo B R x->(D (f x-1).toNat).bytes=(B (x-1).toNat).bytes
theorem Iso.refl (B:Nat->Blk)(R:List Int):Iso id B R B:=⟨rfl,fun x h=>h.ne,fun _ _ _ _ h=>h,fun _ _=>rfl,fun _ _=>(List.map_id _).symm,fun _ _=>rfl⟩
theorem Iso.clo {f:Int->Int}{B D:Nat->Blk}{R:List Int}(h:Iso f B R D){x:Int}(hx:Clo B R x):Clo D (R.map f) (f x):=by
 refine(hx (fun y=>Clo B R y/\Clo D (R.map f) (f y)) (fun r hr h0=>⟨Clo.root hr h0,Clo.root (List.mem_map_of_mem hr) (h.pos r (Clo.root hr h0))⟩) fun y hy k hk h0=>⟨hy.1.kid hk h0,hy.2.kid ?_ (h.pos k (hy.1.kid hk h0))⟩).2
 rw[h.kids y hy.1]
 exact List.mem_map_of_mem hk
theorem Iso.onto {f:Int->Int}{B D:Nat->Blk}{R:List Int}(h:Iso f B R D){z:Int}(hz:Clo D (R.map f) z):∃ x,Clo B R x/\f x=z:=by
 refine hz (fun z=>∃ x,Clo B R x/\f x=z) (fun r hr h0=>?_) fun y hy k hk h0=>?_
 ·obtain⟨s,hs,rfl⟩:=List.mem_map.1 hr
  have:s≠0:=fun e=>h0 (by rw[e,h.zero])
  exact⟨s,Clo.root hs this,rfl⟩
 ·obtain⟨x,hx,rfl⟩:=hy
  rw[h.kids x hx] at hk
  obtain⟨s,hs,rfl⟩:=List.mem_map.1 hk
  have:s≠0:=fun e=>h0 (by rw[e,h.zero])
  exact⟨s,hx.kid hs this,rfl⟩
theorem xL:∀ {L M:List Int},L.Nodup->(∀ x∈L,x∈M)->L.length<=M.length
 | [],_,_,_=>by simp
 | x::L,M,hn,h=>by
   have hx:=h x (by simp)
   have:=xL (L:=L) (M:=M.erase x) (List.nodup_cons.1 hn).2 (fun y hy=>(List.mem_erase_of_ne (fun (e:y=x)=>(List.nodup_cons.1 hn).1 (by rw[<-e]; exact hy))).2 (h y (by simp[hy])))
   have e:=List.length_erase_of_mem hx
   have:0<M.length:=List.length_pos_of_mem hx
   simp only[List.length_cons]
   omega
theorem jH.nodup {L:List Int}(h:jH L):L.Nodup:=h.imp fun h=>Int.ne_of_lt h
theorem aL9 {f:Int->Int}:∀ {L:List Int},L.Nodup->(∀ x∈L,∀ y∈L,f x=f y->x=y)->(L.map f).Nodup
 | [],_,_=>by simp
 | x::L,hn,h=>by
   rw[List.map_cons,List.nodup_cons]
   refine⟨fun hm=>?_,aL9 (List.nodup_cons.1 hn).2 fun y hy z hz=>h y (by simp[hy]) z (by simp[hz])⟩
   obtain⟨y,hy,e⟩:=List.mem_map.1 hm
   have:=h y (by simp[hy]) x (by simp) e
   exact(List.nodup_cons.1 hn).1 (this▸hy)
theorem Iso.many {f:Int->Int}{B D:Nat->Blk}{R:List Int}(h:Iso f B R D){L M:List Int}(h1:jH L)(h2:∀ x,x∈L↔Clo B R x)(k1:jH M)(k2:∀ x,x∈M↔Clo D (R.map f) x):L.length=M.length:=by
 have hn:(L.map f).Nodup:=aL9 h1.nodup fun x hx y hy=>h.inj x y ((h2 x).1 hx) ((h2 y).1 hy)
 have a1:=xL hn (M:=M) fun z hz=>by
  obtain⟨x,hx,rfl⟩:=List.mem_map.1 hz
  exact(k2 _).2 (h.clo ((h2 x).1 hx))
 have a2:=xL k1.nodup (M:=L.map f) fun z hz=>by
  obtain⟨x,hx,rfl⟩:=h.onto ((k2 z).1 hz)
  exact List.mem_map_of_mem ((h2 x).2 hx)
 rw[List.length_map] at a1 a2
 omega
theorem Iso.keep {f:Int->Int}{B B' D D':Nat->Blk}{R:List Int}(h:Iso f B R D)(hB:eH B B' R)(hD:eH D D' (R.map f)):Iso f B' R D':=by
 refine⟨h.zero,fun x hx=>h.pos x ((hB.clo x).1 hx),fun x y hx hy=>h.inj x y ((hB.clo x).1 hx) ((hB.clo y).1 hy),fun x hx=>?_,fun x hx=>?_,fun x hx=>?_⟩
 ·have hb:=(hB.clo x).1 hx
  rw[(hD _ (h.clo hb)).1,(hB x hb).1,h.lev x hb]
 ·have hb:=(hB.clo x).1 hx
  rw[(hD _ (h.clo hb)).2.1,(hB x hb).2.1,h.kids x hb]
 ·have hb:=(hB.clo x).1 hx
  rw[(hD _ (h.clo hb)).2.2,(hB x hb).2.2,h.bytes x hb]
theorem Iso.sub {f:Int->Int}{B D:Nat->Blk}{R S:List Int}(h:Iso f B R D)(hs:∀ r∈S,r≠0->Clo B R r):Iso f B S D:=
 ⟨h.zero,fun x hx=>h.pos x (hx.mono hs),fun x y hx hy=>h.inj x y (hx.mono hs) (hy.mono hs),fun x hx=>h.lev x (hx.mono hs),fun x hx=>h.kids x (hx.mono hs),fun x hx=>h.bytes x (hx.mono hs)⟩
theorem Iso.congr {f g:Int->Int}{B D:Nat->Blk}{R:List Int}(h:Iso f B R D)(e:∀ x,x=0\/Clo B R x->g x=f x):Iso g B R D:=by
 refine⟨by rw[e 0 (.inl rfl),h.zero],fun x hx=>by rw[e x (.inr hx)]; exact h.pos x hx,fun x y hx hy=>by rw[e x (.inr hx),e y (.inr hy)]; exact h.inj x y hx hy,fun x hx=>by rw[e x (.inr hx)]; exact h.lev x hx,fun x hx=>?_,fun x hx=>by rw[e x (.inr hx)]; exact h.bytes x hx⟩
 rw[e x (.inr hx),h.kids x hx]
 refine List.map_congr_left fun k hk=>?_
 by_cases h0:k=0
 ·rw[e k (.inl h0)]
 ·rw[e k (.inr (hx.kid hk h0))]
theorem Iso.trans {f g:Int->Int}{B D E:Nat->Blk}{R:List Int}(h:Iso f B R D)(k:Iso g D (R.map f) E):Iso (g ∘ f) B R E:=by
 refine⟨by show g (f 0)=0; rw[h.zero,k.zero],fun x hx=>k.pos _ (h.clo hx),fun x y hx hy e=>h.inj x y hx hy (k.inj _ _ (h.clo hx) (h.clo hy) e),fun x hx=>?_,fun x hx=>?_,fun x hx=>?_⟩
 ·show (E (g (f x)-1).toNat).level=_
  rw[k.lev _ (h.clo hx),h.lev x hx]
 ·show (E (g (f x)-1).toNat).kids=_
  rw[k.kids _ (h.clo hx),h.kids x hx,List.map_map]
 ·show (E (g (f x)-1).toNat).bytes=_
  rw[k.bytes _ (h.clo hx),h.bytes x hx]
theorem Iso.add {f:Int->Int}{B D B' D':Nat->Blk}{R:List Int}(h:Iso f B R D){a d:Int}(ha:¬Clo B R a)(hd:¬Clo D (R.map f) d)(ha0:a≠0)(hd0:d≠0)(hB:eH B B' R)(hD:eH D D' (R.map f))(hl:(D' (d-1).toNat).level=(B' (a-1).toNat).level)(hk:(D' (d-1).toNat).kids=(B' (a-1).toNat).kids.map f)(hb:(D' (d-1).toNat).bytes=(B' (a-1).toNat).bytes)(hin:∀ k∈(B' (a-1).toNat).kids,k≠0->Clo B R k):
 Iso (fun x=>if x=a then d else f x) B' (a::R) D':=by
 have hi:=h.keep hB hD
 have hcl:∀ x,Clo B' (a::R) x->x=a\/Clo B R x:=fun x hx=>by
  refine hx (fun y=>y=a\/Clo B R y) (fun r hr h0=>?_) fun y hy k hk' h0=>?_
  ·rcases List.mem_cons.1 hr with h | h
   ·exact .inl h
   ·exact .inr (Clo.root h h0)
  ·rcases hy with e | hy
   ·rw[e] at hk'; exact .inr (hin k hk' h0)
   ·exact .inr (hy.kid (by rw[<-(hB y hy).2.1]; exact hk') h0)
 have hne:∀ x,Clo B R x->x≠a:=fun x hx (e:x=a)=>ha (by rw[<-e]; exact hx)
 have mapf:∀ l:List Int,(∀ k∈l,k≠0->Clo B R k)->l.map (fun x=>if x=a then d else f x)=l.map f:=fun l hl=>List.map_congr_left fun k hk=>by
  by_cases h0:k=0
  ·show (if k=a then d else f k)=f k
   rw[if_neg (fun (e:k=a)=>ha0 (by rw[<-e]; exact h0))]
  ·show (if k=a then d else f k)=f k
   rw[if_neg (hne k (hl k hk h0))]
 refine⟨?_,fun x hx=>?_,fun x y hx hy e=>?_,fun x hx=>?_,fun x hx=>?_,fun x hx=>?_⟩
 ·show (if (0:Int)=a then d else f 0)=0
  rw[if_neg (Ne.symm ha0),h.zero]
 ·show (if x=a then d else f x)≠0
  rcases hcl x hx with rfl | hx
  ·rw[if_pos rfl]; exact hd0
  ·rw[if_neg (hne x hx)]; exact h.pos x hx
 ·have e:(if x=a then d else f x)=(if y=a then d else f y):=e
  rcases hcl x hx with hxa | hx
  ·rcases hcl y hy with hya | hy
   ·rw[hxa,hya]
   ·rw[if_pos hxa,if_neg (hne y hy)] at e
    exact absurd (by rw[e]; exact h.clo hy) hd
  ·rcases hcl y hy with hya | hy
   ·rw[if_pos hya,if_neg (hne x hx)] at e
    exact absurd (by rw[<-e]; exact h.clo hx) hd
   ·rw[if_neg (hne x hx),if_neg (hne y hy)] at e
    exact h.inj x y hx hy e
 ·show (D' ((if x=a then d else f x)-1).toNat).level=_
  rcases hcl x hx with rfl | hx
  ·rw[if_pos rfl]; exact hl
  ·rw[if_neg (hne x hx)]; exact hi.lev x ((hB.clo x).2 hx)
 ·show (D' ((if x=a then d else f x)-1).toNat).kids=_
  rcases hcl x hx with rfl | hx
  ·rw[if_pos rfl,hk,mapf _ hin]
  ·rw[if_neg (hne x hx),hi.kids x ((hB.clo x).2 hx),mapf]
   intro k hk h0
   rw[(hB x hx).2.1] at hk
   exact hx.kid hk h0
 ·show (D' ((if x=a then d else f x)-1).toNat).bytes=_
  rcases hcl x hx with rfl | hx
  ·rw[if_pos rfl]; exact hb
  ·rw[if_neg (hne x hx)]; exact hi.bytes x ((hB.clo x).2 hx)
theorem Iso.kidsL {f:Int->Int}{B D:Nat->Blk}{R:List Int}(h:Iso f B R D){a:Int}(ha:a=0\/Clo B R a):kidsL D (f a)=(kidsL B a).map f:=by
 unfold Go.Proofs.YtjafgnohlkkopaaGreatDoor.kidsL
 rcases ha with rfl | ha
 ·rw[if_pos h.zero,if_pos rfl]; simp[h.zero]
 ·rw[if_neg (h.pos a ha),if_neg ha.ne,h.kids a ha]
theorem Iso.bytesL {f:Int->Int}{B D:Nat->Blk}{R:List Int}(h:Iso f B R D){a:Int}(ha:a=0\/Clo B R a):bytesL D (f a)=bytesL B a:=by
 unfold Go.Proofs.YtjafgnohlkkopaaGreatDoor.bytesL
 rcases ha with rfl | ha
 ·rw[if_pos h.zero,if_pos rfl]
 ·rw[if_neg (h.pos a ha),if_neg ha.ne,h.bytes a ha]
theorem getD_map {f:Int->Int}(h0:f 0=0)(l:List Int)(j:Nat):(l.map f).getD j 0=f (l.getD j 0):=by
 rw[List.getD_eq_getElem?_getD,List.getD_eq_getElem?_getD,List.getElem?_map]
 cases l[j]? <;>simp[h0]
theorem bT8 (l:List Int)(j:Nat):l.getD j 0=0\/l.getD j 0∈l:=by
 by_cases h:j<l.length
 ·exact .inr (aG8 h)
 ·left
  rw[List.getD_eq_getElem?_getD,List.getElem?_eq_none (by omega)]; rfl
theorem xZ {B:Nat->Blk}{R:List Int}{a:Int}(ha:a=0\/Clo B R a){k:Int}(hk:k∈kidsL B a):k=0\/Clo B R k:=by
 by_cases h0:k=0
 ·exact .inl h0
 ·rcases ha with rfl | ha
  ·simp[kidsL] at hk; exact absurd hk h0
  ·unfold kidsL at hk
   rw[if_neg ha.ne] at hk
   exact .inr (ha.kid hk h0)
theorem aN2 {B:Nat->Blk}{R:List Int}{a:Int}(ha:a=0\/Clo B R a)(j:Nat):(kidsL B a).getD j 0=0\/Clo B R ((kidsL B a).getD j 0):=by
 rcases bT8 (kidsL B a) j with h | h
 ·exact .inl h
 ·exact xZ ha h
theorem Iso.leaf {f:Int->Int}{B D:Nat->Blk}{R:List Int}(h:Iso f B R D):∀ (l:Nat) (a:Int),(a=0\/Clo B R a)->∀ i,aH D l (f a) i=aH B l a i
 | 0,a,ha,i=>h.bytesL ha
 | l+1,a,ha,i=>by
   simp only[aH]
   rw[h.kidsL ha,getD_map h.zero]
   exact Iso.leaf h l _ (aN2 ha _) _
end Go.Proofs.YtjafgnohlkkopaaGreatDoor
namespace Go.Proofs.YtjafgnohlkkopaaGreatDoor
theorem tC (B:Nat->Blk)(a:Int)(k:Nat):(dZ B a k).level=(B k).level/\(dZ B a k).kids=(B k).kids/\(dZ B a k).bytes=(B k).bytes:=by
 unfold dZ
 by_cases h:a=0
 ·rw[if_pos h]; exact⟨rfl,rfl,rfl⟩
 ·rw[if_neg h]
  by_cases e:k=(a-1).toNat
  ·subst e; rw[upd_same]; exact⟨rfl,rfl,rfl⟩
  ·rw[bI _ _ _ _ e]; exact⟨rfl,rfl,rfl⟩
theorem bS0 (B:Nat->Blk)(K:Blk){i k:Nat}(h:k≠i):(made B K i k).level=(B k).level/\(made B K i k).kids=(B k).kids/\(made B K i k).bytes=(B k).bytes:=by
 rw[dA _ _ h]; exact⟨rfl,rfl,rfl⟩
theorem rY {n:Nat}{B:Nat->Blk}{R:List Int}(hR:Right n B)(hr:bE n B R){j:Nat}(h0:(B j).refs=0){x:Int}(hx:Clo B R x):(x-1).toNat≠j:=fun e=>(hx.there hR hr).2.2 (by rw[e]; exact h0)
theorem lI {n:Nat}{B:Nat->Blk}{R:List Int}(hR:Right n B)(hr:bE n B R){j:Nat}(h0:(B j).refs=0):¬Clo B R ((j:Int)+1):=fun h=>rY hR hr h0 h (by omega)
theorem xR {n:Nat}{B:Nat->Blk}{R:List Int}{K:Blk}{j:Nat}(hR:Right n B)(hr:bE n B R)(h0:(B j).refs=0):eH B (made B K j) R:=fun x hx=>bS0 B K (rY hR hr h0 hx)
theorem xS {n:Nat}{B:Nat->Blk}{R:List Int}{K:Blk}{j:Nat}(k:Int)(hR:Right n B)(hr:bE n B R)(h0:(B j).refs=0):eH B (dZ (made B K j) k) R:=fun x hx=>by
 obtain⟨h1,h2,h3⟩:=tC (made B K j) k (x-1).toNat
 obtain⟨k1,k2,k3⟩:=bS0 B K (rY hR hr h0 hx)
 exact⟨by rw[h1,k1],by rw[h2,k2],by rw[h3,k3]⟩
theorem bV6 {l i:Nat}(h:i<pw (l+1)):i / pw l<4:=by
 simp only[pw] at h
 exact Nat.div_lt_of_lt_mul (by rw[Nat.mul_comm]; exact h)
theorem cA9 {L:List Int}(h4:L.length=4){j:Nat}(hj:j<4)(k:Int):k∈L.set j k:=List.mem_set (by omega) k
theorem wW {n:Nat}{b:List Int}:∀ (l:Nat) {B C:Nat->Blk} {root a c:Int} {i:Nat},Right n B->1<=c->c+4*(l+1)<=1000000->(∀ k,k<n->(B k).refs<=c)->Root n B l root->i<pw l->cS3 n b l B root i C a->cG4 n B C l a (c+4*(l+1))
 | 0,B,C,root,a,c,i,hR,h1,h2,hc,hr,hi,h=>by simpa using (xV hR h1 (by omega) hc h).1
 | l+1,B,C,root,a,c,i,hR,h1,h2,hc,hr,hi,h=>by
   obtain⟨D,k,hp,ha⟩:=h
   have hj:=bV6 hi
   have hg:=wW l hR h1 (by omega) hc (hr.kidAt hR hj) (Nat.mod_lt _ (lH l)) hp
   have:=(aC9 hR hg (by omega) (by omega) (fun _=>cA9 (hr.len hR) hj k) ha).1
   have e:c+4*(((l+1:Nat):Int)+1)=c+4*((l:Int)+1)+4:=by omega
   rw[e]; exact this
theorem Iso.root {n:Nat}{f:Int->Int}{B D:Nat->Blk}{R:List Int}(h:Iso f B R D)(hD:Right n D)(hr:bE n D (R.map f)){l:Nat}{a:Int}(ha:a=0\/Clo B R a)(hl:Root n B l a):Root n D l (f a):=by
 rcases ha with rfl | ha
 ·exact .inl h.zero
 ·rcases hl with e | ⟨_,hl⟩
  ·exact absurd e ha.ne
  ·exact .inr ⟨(h.clo ha).there hD hr,by rw[h.lev a ha]; exact hl⟩
theorem bR6 {g:Int->Int}{ks:List Int}(h:ks.map g=[0,0,0,0])(hp:∀ x∈ks,g x=0->x=0):ks=[0,0,0,0]:=by
 have h4:ks.length=4:=by have:=congrArg List.length h; simpa using this
 match ks,h4 with
 | [x,y,z,u],_=>
   simp only[List.map_cons,List.map_nil,List.cons.injEq,and_true] at h
   obtain⟨e1,e2,e3,e4⟩:=h
   rw[hp x (by simp) e1,hp y (by simp) e2,hp z (by simp) e3,hp u (by simp) e4]
theorem iA {n:Nat}{B:Nat->Blk}{R:List Int}{a:Int}(h:a=0\/There n B a)(hr:bE n B R):bE n B (a::R):=fun r hm=>by
 rcases List.mem_cons.1 hm with rfl | hm
 ·exact h
 ·exact hr r hm
theorem bE.ext {n:Nat}{B C:Nat->Blk}{R:List Int}(hr:bE n B R)(h:Ext n B C):bE n C R:=fun r hm=>(hr r hm).imp id fun ht=>(h.there ht).1
theorem Root.or {n:Nat}{B:Nat->Blk}{l:Nat}{a:Int}(h:Root n B l a):a=0\/There n B a:=h.imp id fun h=>h.1
theorem vU {B:Nat->Blk}{R:List Int}{a x:Int}(h:Clo B R x):Clo B (a::R) x:=h.mono fun r hr h0=>Clo.root (List.mem_cons_of_mem _ hr) h0
theorem xQ {B:Nat->Blk}{R S:List Int}(hs:∀ r∈S,r∈R):∀ r∈S,r≠0->Clo B R r:=fun r hr h0=>Clo.root (hs r hr) h0
theorem aM0 {f g:Int->Int}{B:Nat->Blk}{R:List Int}(e:∀ x,x=0\/Clo B R x->g x=f x):R.map g=R.map f:=List.map_congr_left fun r hr=>e r (by
 by_cases h0:r=0
 ·exact .inl h0
 ·exact .inr (Clo.root hr h0))
theorem aE3 {n:Nat}{b:List Int}:∀ (l:Nat) {B D C E:Nat->Blk} {root a d c:Int} {i:Nat} {f:Int->Int} {R:List Int},Right n B->Right n D->1<=c->c+4*(l+1)<=1000000->(∀ k,k<n->(B k).refs<=c)->(∀ k,k<n->(D k).refs<=c)->Root n B l root->i<pw l->bE n B R->bE n D (R.map f)->Iso f B R D->(root=0\/Clo B R root)->cS3 n b l B root i C a->cS3 n b l D (f root) i E d->
 ∃ g,Iso g C (a::R) E/\g a=d/\∀ x,x=0\/Clo B R x->g x=f x
 | 0,B,D,C,E,root,a,d,c,i,f,R,hB,hD,h1,h2,hcB,hcD,hr,hi,rB,rD,hI,ha,hp,hq=>by
   rcases hp with⟨rfl,rfl,rfl⟩ | ⟨hb,j,⟨hj,h0,_⟩,_,rfl,rfl⟩
   ·rcases hq with⟨_,rfl,rfl⟩ | ⟨hb,_⟩
    ·refine⟨f,hI.sub fun r hr h0=>?_,hI.zero,fun _ _=>rfl⟩
     rcases List.mem_cons.1 hr with e | h
     ·exact absurd e h0
     ·exact Clo.root h h0
    ·exact absurd rfl hb
   ·rcases hq with⟨e,_⟩ | ⟨_,j', ⟨hj', h0', _⟩,_,rfl,rfl⟩
    ·exact absurd e hb
    ·have e0:((j:Int)+1-1).toNat=j:=by omega
     have e1:((j':Int)+1-1).toNat=j':=by omega
     refine⟨_,hI.add (lI hB rB h0) (lI hD rD h0') (by omega) (by omega) (xR hB rB h0) (xR hD rD h0') ?_ ?_ ?_ ?_,if_pos rfl,fun x hx=>if_neg fun e=>?_⟩
     ·rw[e0,e1,bJ,bJ]
     ·rw[e0,e1,bJ,bJ]; rfl
     ·rw[e0,e1,bJ,bJ]
     ·rw[e0,bJ]
      intro k hk
      exact absurd hk (by simp[xX])
     ·rcases hx with hx | hx
      ·omega
      ·exact rY hB rB h0 hx (by omega)
 | l+1,B,D,C,E,root,a,d,c,i,f,R,hB,hD,h1,h2,hcB,hcD,hr,hi,rB,rD,hI,ha,hp,hq=>by
   obtain⟨C0,k,hp,hpa⟩:=hp
   obtain⟨E0,k', hq,hqa⟩:=hq
   have hj:=bV6 hi
   have hk:=hr.kidAt hB hj
   have hf:(kidsL D (f root)).getD (i / pw l) 0=f ((kidsL B root).getD (i / pw l) 0):=by rw[hI.kidsL ha,getD_map hI.zero]
   have hr':=hI.root hD rD ha hr
   have hk':=hr'.kidAt hD hj
   have hmod:=Nat.mod_lt i (lH l)
   have gB:=wW l hB h1 (by omega) hcB hk hmod hp
   have gD:=wW l hD h1 (by omega) hcD hk' hmod hq
   rw[hf] at hq
   obtain⟨g,iG,gk,gf⟩:=aE3 l hB hD h1 (by omega) hcB hcD hk hmod rB rD hI (aN2 ha _) hp hq
   have sB:=gB.ext.sameOn hB rB
   have hks:(kidsL D (f root)).set (i / pw l) k'=((kidsL B root).set (i / pw l) k).map g:=by
    rw[List.map_set,gk,hI.kidsL ha]
    congr 1
    exact List.map_congr_left fun x hx=>(gf x (xZ ha hx)).symm
   have hin:∀ x∈(kidsL B root).set (i / pw l) k,x=0\/Clo C0 (k::R) x:=fun x hx=>by
    rcases List.mem_or_eq_of_mem_set hx with h | rfl
    ·rcases xZ ha h with h | h
     ·exact .inl h
     ·exact .inr (vU ((sB.clo x).2 h))
    ·by_cases h0:x=0
     ·exact .inl h0
     ·exact .inr (Clo.root List.mem_cons_self h0)
   rw[hks] at hqa
   generalize (kidsL B root).set (i / pw l) k=ks at *
   have mR:(k::R).map g=k'::R.map f:=by rw[List.map_cons,gk,aM0 gf]
   rcases hpa with⟨rfl,rfl,rfl⟩ | ⟨hne,j,⟨hj1,h0,_⟩,⟨hR0,hF,_⟩,rfl,rfl⟩
   ·rcases hqa with⟨_,rfl,rfl⟩ | ⟨hne,_⟩
    ·refine⟨g,iG.sub fun r hr h0=>?_,iG.zero,gf⟩
     rcases List.mem_cons.1 hr with e | h
     ·exact absurd e h0
     ·exact Clo.root (List.mem_cons_of_mem _ h) h0
    ·exact absurd (by simp[iG.zero]) hne
   ·rcases hqa with⟨e,_⟩ | ⟨_,j', ⟨hj2,h0', _⟩,⟨hR1,hF1,_⟩,rfl,rfl⟩
    ·refine absurd (bR6 e fun x hx hx0=>?_) hne
     rcases hin x hx with h | h
     ·exact h
     ·exact absurd hx0 (iG.pos x h)
    ·have rC:=iA gB.root.or (rB.ext gB.ext)
     have rE:bE n E0 ((k::R).map g):=by rw[mR]; exact iA gD.root.or (rD.ext gD.ext)
     have e0:((j:Int)+1-1).toNat=j:=by omega
     have e1:((j':Int)+1-1).toNat=j':=by omega
     obtain⟨l1,l2,l3⟩:=tC (made C0 (gI (l+1) ks) j) k j
     obtain⟨m1,m2,m3⟩:=tC (made E0 (gI (l+1) (ks.map g)) j') k' j'
     have hA:=iG.add (B':=dZ (made C0 (gI (l+1) ks) j) k) (D':=dZ (made E0 (gI (l+1) (ks.map g)) j') k') (lI hR0 rC h0) (lI hR1 rE h0') (by omega) (by omega) (xS k hR0 rC h0) (xS k' hR1 rE h0')
      (by rw[e0,e1,l1,m1,bJ,bJ]; rfl) (by rw[e0,e1,l2,m2,bJ,bJ]; rfl) (by rw[e0,e1,l3,m3,bJ,bJ]; rfl) (by
        rw[e0,l2,bJ]
        intro x hx h0
        exact(hin x hx).resolve_left h0)
     refine⟨_,hA.sub fun r hr h0=>?_,if_pos rfl,fun x hx=>?_⟩
     ·rcases List.mem_cons.1 hr with e | h
      ·rw[e]; exact Clo.root List.mem_cons_self (by omega)
      ·exact Clo.root (List.mem_cons_of_mem _ (List.mem_cons_of_mem _ h)) h0
     ·have hne:x≠(j:Int)+1:=fun e=>by
       rcases hx with hx | hx
       ·omega
       ·exact rY hR0 rC h0 (vU ((sB.clo x).2 hx)) (by omega)
      show (if x=(j:Int)+1 then _ else g x)=f x
      rw[if_neg hne,gf x hx]
end Go.Proofs.YtjafgnohlkkopaaGreatDoor
namespace Go.Proofs.YtjafgnohlkkopaaGreatDoor
theorem yB (B:Nat->Blk)(m:Nat)(R:List Int):eH B (lN B ((m:Int)+1)) R:=fun x _=>by
 by_cases e:(x-1).toNat=m
 ·rw[e,gQ]; exact⟨rfl,rfl,rfl⟩
 ·rw[eO e]; exact⟨rfl,rfl,rfl⟩
theorem iU.sameOn {n:Nat}{B C:Nat->Blk}{T R:List Int}(h:iU n B C T)(hC:Right n C)(hr:bE n C R):eH B C R:=fun x hx=>eB h (((tQ hC h hr x).1 hx).there hC hr)
theorem Iso.more {f:Int->Int}{B D:Nat->Blk}{R:List Int}(h:Iso f B R D){a:Int}(ha:a=0\/Clo B R a):Iso f B (a::R) D:=h.sub fun r hr h0=>by
 rcases List.mem_cons.1 hr with rfl | hr
 ·exact ha.resolve_left h0
 ·exact Clo.root hr h0
theorem Iso.less {f:Int->Int}{B D:Nat->Blk}{R:List Int}{a:Int}(h:Iso f B (a::R) D):Iso f B R D:=h.sub fun r hr h0=>Clo.root (List.mem_cons_of_mem _ hr) h0
theorem Iso.swap {f:Int->Int}{B D:Nat->Blk}{R:List Int}{a b:Int}(h:Iso f B (a::b::R) D):Iso f B (a::R) D:=h.sub fun r hr h0=>by
 rcases List.mem_cons.1 hr with e | hr
 ·rw[e] at h0 ⊢; exact Clo.root List.mem_cons_self h0
 ·exact Clo.root (List.mem_cons_of_mem _ (List.mem_cons_of_mem _ hr)) h0
theorem bB3 {B:Nat->Blk}{R:List Int}{a:Int}(h:a∈R):a=0\/Clo B R a:=by
 by_cases h0:a=0
 ·exact .inl h0
 ·exact .inr (Clo.root h h0)
theorem qG {n:Nat}{B E:Nat->Blk}{R:List Int}{f g:Int->Int}{a d:Int}(h:bE n E (R.map f))(hd:d=0\/There n E d)(g1:g a=d)(g2:∀ x,x=0\/Clo B R x->g x=f x):bE n E ((a::R).map g):=by
 rw[List.map_cons,g1,aM0 g2]
 exact iA hd h
theorem oI {n:Nat}{B D:Nat->Blk}{key cc:Int}{O W:List Int}{f:Int->Int}{R:List Int}{root root':Int}(hroot:f root=root')(hB:Right n B)(hD:Right n D)(hcc:0<=cc/\cc<=999936)(rB:bE n B R)(rD:bE n D (R.map f))(hI:Iso f B R D)(ha:root=0\/Clo B R root):∀ (j:Nat) {C E:Nat->Blk} {a d:Int},bX5 n B key O W cc root j C a->bX5 n D key O W cc root' j E d->
 ∃ g,Iso g C (a::R) E/\g a=d/\∀ x,x=0\/Clo B R x->g x=f x
 | 0,C,E,a,d,hw,hv=>by
   cases hw with
   | zero=>
     cases hv with
     | zero=>exact⟨f,hI.more (.inl rfl),hI.zero,fun _ _=>rfl⟩
     | kept m=>rw[hI.zero] at hroot; omega
   | kept m=>
     have hc:=ha.resolve_left (by omega)
     cases hv with
     | zero=>exact absurd hroot (hI.pos _ hc)
     | kept m'=>exact⟨f,(hI.more (.inr hc)).keep (yB B m _) (yB D m' _),hroot,fun _ _=>rfl⟩
 | j+1,C,E,a,d,hw,hv=>by
   cases hw with
   | same hw e=>
     cases hv with
     | same hv _=>exact oI hroot hB hD hcc rB rD hI ha j hw hv
     | put0 _ e'=>exact absurd e e'
     | put _ e'=>exact absurd e e'
   | put0 hw e hj hs hp=>
     cases hv with
     | same _ e'=>exact absurd e' e
     | put0 hv _ _ ht hq=>
       obtain⟨g,i1,g1,g2⟩:=oI hroot hB hD hcc rB rD hI ha j hw hv
       have rC:=iA (a:=0) (.inl rfl) (rB.ext hs.ext)
       have rE:=qG (rD.ext ht.ext) (.inl rfl) g1 g2
       have hq':=hq.puts
       rw[<-g1] at hq'
       obtain⟨k,k1,k2,k3⟩:=aE3 3 hs.right ht.right (c:=cc+48) (by omega) (by omega) hs.few ht.few hs.root hj rC rE i1 (.inl rfl) hp.puts hq'
       refine⟨k,k1.swap,k2,fun x hx=>?_⟩
       rw[k3 x (hx.imp id fun h=>vU (((hs.ext.sameOn hB rB).clo x).2 h)),g2 x hx]
     | put hv _ _ ht hq=>
       obtain⟨g,i1,g1,g2⟩:=oI hroot hB hD hcc rB rD hI ha j hw hv
       rw[i1.zero] at g1
       omega
   | put hw e hj hs hp hs' hF=>
     cases hv with
     | same _ e'=>exact absurd e' e
     | put0 hv _ _ ht hq=>
       obtain⟨g,i1,g1,g2⟩:=oI hroot hB hD hcc rB rD hI ha j hw hv
       exact absurd g1 (i1.pos _ (Clo.root List.mem_cons_self (by omega)))
     | put hv _ _ ht hq ht' hG=>
       obtain⟨g,i1,g1,g2⟩:=oI hroot hB hD hcc rB rD hI ha j hw hv
       have rC:=iA hs.root.or (rB.ext hs.ext)
       have rE:=qG (rD.ext ht.ext) ht.root.or g1 g2
       have hq':=hq.puts
       rw[<-g1] at hq'
       obtain⟨k,k1,k2,k3⟩:=aE3 3 hs.right ht.right (c:=cc+48) (by omega) (by omega) hs.few ht.few hs.root hj rC rE i1 (.inr (Clo.root List.mem_cons_self (by omega))) hp.puts hq'
       have k3':∀ x,x=0\/Clo B R x->k x=f x:=fun x hx=>by
        rw[k3 x (hx.imp id fun h=>vU (((hs.ext.sameOn hB rB).clo x).2 h)),g2 x hx]
       refine⟨k,k1.swap.keep (hF.sameOn hs'.right (iA hs'.root.or (rB.ext hs'.ext))) (hG.sameOn ht'.right (qG (rD.ext ht'.ext) ht'.root.or k2 k3')),k2,k3'⟩
end Go.Proofs.YtjafgnohlkkopaaGreatDoor
namespace Go.Proofs.YtjafgnohlkkopaaGreatDoor
def bR8 (f:Int->Int)(e:Ent):Ent:=⟨e.name,f e.root,e.size⟩
def jJ (f:Int->Int)(l:List Ent):List Ent:=l.map (bR8 f)
def nW (f:Int->Int)(s:bD):bD:=⟨s.name,jJ f s.files⟩
def fA (f:Int->Int)(x:aK):aK:=⟨x.name,jJ f x.files,x.snaps.map (nW f)⟩
theorem aA0 (f:Int->Int)(l:List Ent):aT (jJ f l)=(aT l).map f:=by
 unfold aT jJ
 rw[List.map_map,List.map_map]; rfl
theorem zX (f:Int->Int):∀ l:List bD,dR (l.map (nW f))=(dR l).map f
 | []=>rfl
 | s::l=>by
   have h:=zX f l
   unfold dR at h ⊢
   rw[List.map_cons,List.flatMap_cons,List.flatMap_cons,List.map_append,h]
   congr 1
   exact aA0 f s.files
theorem zW (f:Int->Int)(x:aK):aG (fA f x)=(aG x).map f:=by
 unfold aG
 rw[List.map_append]
 exact congr (congrArg _ (aA0 f x.files)) (zX f x.snaps)
theorem aB1 {f g:Int->Int}{l:List Ent}(h:∀ e∈l,g e.root=f e.root):jJ g l=jJ f l:=List.map_congr_left fun e he=>by unfold bR8; rw[h e he]
theorem aA8 {f g:Int->Int}{x:aK}(h:∀ r∈aG x,g r=f r):fA g x=fA f x:=by
 have h1:jJ g x.files=jJ f x.files:=aB1 fun e he=>h _ (List.mem_append_left _ (bV.2 ⟨e,he,rfl⟩))
 have h2:x.snaps.map (nW g)=x.snaps.map (nW f):=List.map_congr_left fun s hs=>by
  unfold nW
  rw[aB1 fun e he=>h _ (List.mem_append_right _ (List.mem_flatMap.2 ⟨s,hs,bV.2 ⟨e,he,rfl⟩⟩))]
 unfold fA
 rw[h1,h2]
theorem cB6 (f:Int->Int)(l:List Ent)(p:Nat)(e:Ent):jJ f (l.set p e)=(jJ f l).set p (bR8 f e):=List.map_set
theorem aB0 (f:Int->Int)(l:List Ent)(p:Nat):jJ f (l.eraseIdx p)=(jJ f l).eraseIdx p:=by
 unfold jJ
 rw[List.eraseIdx_eq_take_drop_succ,List.eraseIdx_eq_take_drop_succ,List.map_append,List.map_take,List.map_drop]
theorem bB5 (f:Int->Int)(l:List Ent)(p:Nat)(e:Ent):jJ f (l.take p++e::l.drop p)=(jJ f l).take p++bR8 f e::(jJ f l).drop p:=by
 unfold jJ
 rw[List.map_append,List.map_cons,List.map_take,List.map_drop]
theorem bI2 (f:Int->Int)(l:List bD)(p:Nat):(l.eraseIdx p).map (nW f)=(l.map (nW f)).eraseIdx p:=by
 rw[List.eraseIdx_eq_take_drop_succ,List.eraseIdx_eq_take_drop_succ,List.map_append,List.map_take,List.map_drop]
theorem cB5 (f:Int->Int)(l:List bD)(p:Nat)(e:bD):(l.take p++e::l.drop p).map (nW f)=(l.map (nW f)).take p++nW f e::(l.map (nW f)).drop p:=by
 rw[List.map_append,List.map_cons,List.map_take,List.map_drop]
theorem qQ {α:Type}{f:α->List UInt8}{l:List α}(ho:l.Pairwise fun a b=>f a<f b){p q:Nat}(hp:p<l.length)(hq:q<l.length)(h:f l[p]=f l[q]):p=q:=by
 rcases Nat.lt_trichotomy p q with hlt | rfl | hlt
 ·exact absurd (h▸List.pairwise_iff_getElem.1 ho p q hp hq hlt) (nV _)
 ·rfl
 ·exact absurd (h▸List.pairwise_iff_getElem.1 ho q p hq hp hlt) (nV _)
theorem cH7 {α:Type}{f:α->List UInt8}{l:List α}{t:List UInt8}{p q:Nat}(h2:∀ e∈l.drop p,t<f e)(h3:∀ e∈l.take q,f e<t):¬(p<q/\p<l.length):=fun⟨h,hl⟩=>by
 have m1:l[p]∈l.drop p:=by
  rw[List.drop_eq_getElem_cons hl]; exact List.mem_cons_self
 have m2:l[p]∈l.take q:=List.mem_take_iff_getElem.2 ⟨p,by omega,rfl⟩
 exact bB0 (h2 _ m1) (h3 _ m2)
theorem vN {α:Type}{f:α->List UInt8}{l:List α}{t:List UInt8}{p q:Nat}(h1:∀ e∈l.take p,f e<t)(h2:∀ e∈l.drop p,t<f e)(h3:∀ e∈l.take q,f e<t)(h4:∀ e∈l.drop q,t<f e):l.take p=l.take q/\l.drop p=l.drop q:=by
 have a:=cH7 h2 h3
 have b:=cH7 h4 h1
 by_cases e:p=q
 ·subst e; exact⟨rfl,rfl⟩
 ·have hp:l.length<=p:=by omega
  have hq:l.length<=q:=by omega
  exact⟨by rw[List.take_of_length_le hp,List.take_of_length_le hq],by rw[List.drop_of_length_le hp,List.drop_of_length_le hq]⟩
theorem cB4 {f:Int->Int}{l:List Ent}{e:Ent}(h:e∈jJ f l):∃ e0∈l,e0.nm=e.nm:=by
 obtain⟨e0,h0,rfl⟩:=List.mem_map.1 h
 exact⟨e0,h0,rfl⟩
theorem aG6 {f:Int->Int}{l:List Ent}{t:List UInt8}:(∃ e∈jJ f l,e.nm=t)↔∃ e∈l,e.nm=t:=by
 constructor
 ·rintro⟨e,he,rfl⟩
  exact cB4 he
 ·rintro⟨e,he,rfl⟩
  exact⟨bR8 f e,List.mem_map_of_mem he,rfl⟩
theorem cC8 {f:Int->Int}{l:List bD}{t:List UInt8}:(∃ e∈l.map (nW f),e.nm=t)↔∃ e∈l,e.nm=t:=by
 constructor
 ·rintro⟨e,he,rfl⟩
  obtain⟨e0,h0,rfl⟩:=List.mem_map.1 he
  exact⟨e0,h0,rfl⟩
 ·rintro⟨e,he,rfl⟩
  exact⟨nW f e,List.mem_map_of_mem he,rfl⟩
theorem rQ (f:Int->Int)(l:List Ent):(jJ f l).length=l.length:=List.length_map _
theorem vM (f:Int->Int)(l:List Ent)(p:Nat)(h:p<(jJ f l).length):(jJ f l)[p]=bR8 f (l[p]'(by rw[rQ] at h; exact h)):=List.getElem_map (bR8 f)
end Go.Proofs.YtjafgnohlkkopaaGreatDoor
namespace Go.Proofs.YtjafgnohlkkopaaGreatDoor
open Go.RowKit
theorem uD {P:Program}(w:World){o:Oper}{a:Act}{K:Act->World->Prop}{Q:Exit->Act->World->Prop}(d s:Operand)(t t':TypeId)
 (ho:o.op=.call { callee:=.builtin .copy,args:=#[d,s],argTypes:=#[t,t'] }) (v u:Value) (hd:a.eval d=v) (hs:a.eval s=u) {v':Value} {w':World}
 (hr:(Builtin.copy_ #[t,t'] o.type #[v,u]).run P w=.ok v' w') (h:K (a.put o.dst v') w'):o.wp P a w K Q:=by
 unfold Oper.wp
 simp[execOp,ho,resolve,invoke,builtin,hd,hs,hr,Result.andThen]
 exact h
theorem jI {P:Program}(w:World){ops:Array Oper}{rest:List Oper}{o:Oper}{a:Act}{Q:Exit->Act->World->Prop}(hgd:o.guard=none)(d s:Operand)(t t':TypeId)
 (ho:o.op=.call { callee:=.builtin .copy,args:=#[d,s],argTypes:=#[t,t'] }) (v u:Value) (hd:a.eval d=v) (hs:a.eval s=u) {v':Value} {w':World}
 (hr:(Builtin.copy_ #[t,t'] o.type #[v,u]).run P w=.ok v' w') (h:wpList P ops Q rest (a.put o.dst v') w'):wpList P ops Q (o::rest) a w:=
 wpList_plain hgd fun _ hK=>uD w d s t t' ho v u hd hs hr (hK _ _ h)
theorem fM {P:Program}{ops:Array Oper}{o:Oper}{a:Act}{w:World}{K:Act->World->Prop}{Q:Exit->Act->World->Prop}{E:Prop}
 (hg:o.guard=none) (d x:Operand) (dT sT:TypeId) (hop:o.op=Op.call { callee:=Callee.builtin Builtin.copy,args:=#[d,x],argTypes:=#[dT,sT] })
 (v u:Value) (hd:a.eval d=v) (hx:a.eval x=u) {v':Value} {w':World} (hr:(Builtin.copy_ #[dT,sT] o.type #[v,u]).run P w=.ok v' w') (hK:K (a.put o.dst v') w'):
 if Region.wanted o (yielded ops a.tmps)=true then Oper.wp P o a w K Q else E:=by
 have hw:Region.wanted o (yielded ops a.tmps)=true:=by simp[Region.wanted,hg]
 rw[if_pos hw]
 exact uD w d x dT sT hop v u hd hx hr hK
def aX (cur:Array Value)(o:Nat)(vs:List Value):Array Value:=(cur.toList.take o++vs++cur.toList.drop (o+vs.length)).toArray
theorem dH {cur:Array Value}{o:Nat}{vs:List Value}(h:o+vs.length<=cur.size):(aX cur o vs).size=cur.size:=by
 unfold aX
 simp
 omega
theorem lY (cur:Array Value)(o:Nat)(vs:List Value):(aX cur o vs).toList=cur.toList.take o++vs++cur.toList.drop (o+vs.length):=by
 unfold aX
 simp
theorem tF {cur:Array Value}{o n:Nat}{vs:List Value}(h:o+vs.length<=cur.size)(hn:n<=o):(aX cur o vs).toList.take n=cur.toList.take n:=by
 rw[lY,List.append_assoc,List.take_append_of_le_length (by simp; omega),List.take_take]
 congr 1
 omega
theorem dX {cur:Array Value}{o:Nat}{vs:List Value}(h:o+vs.length<=cur.size):(aX cur o vs).toList.take (o+vs.length)=cur.toList.take o++vs:=by
 rw[lY]
 exact List.take_left' (by simp; omega)
theorem dJ {P:Program}(w:World)(dT sT ty elem:TypeId)(k g o dLen dCap:Nat)(a:Addr)(sLen sCap:Nat)(cur:Array Value)(t:TypeId)(cs:List Value)
 (hu:P.underlying dT=some (.slice elem)) (hs:(P.info? elem).map (·.size)=some k)
 (hg:aC w g cur t) (hn:cs.length=Nat.min sLen dLen*k)
 (hsrc:∀ j v,cs[j]? =some v->w.cell? (a.add j)=some v) (hfit:o+cs.length<=cur.size) (h1:∀ v∈cs,v.oneCell'=true):
 (Builtin.copy_ #[dT,sT] ty #[.slice (some ⟨g,o,none⟩) dLen dCap,.slice (some a) sLen sCap]).run P w=
   .ok (goInt (Nat.min sLen dLen)) (w.setRow g (aX cur o cs)):=by
 have hl:=run_loadCells_list (P:=P) w a cs hsrc
 have hst:=run_storeCells_at P g o t cs 0 cur w hg (by simpa using hfit) h1
 cases hq:P.info? elem with
 | none=>simp[hq] at hs
 | some i=>
   have hi:i.size=k:=by simpa [hq] using hs
   simp[Builtin.copy_,run_underlying hu,Builtin.lenOf,Builtin.firstCells,sizeOf,typeInfo,hq,hi,<-hn,hl,hst,aX]
theorem dD {w:World}{g:Nat}{cur cur':Array Value}{t:TypeId}(hg:aC w g cur t):aC (w.setRow g cur') g cur' t:=setRow_heap w g cur cur' t (0,0) hg
theorem bN (w:World)(g:Nat)(cur:Array Value):Kept g w (w.setRow g cur):=by
 refine⟨rfl,rfl,rfl,by unfold World.setRow; simp,fun k hk=>?_⟩
 unfold World.setRow
 simp only[Array.getElem?_modify]
 rw[if_neg (fun e=>hk e.symm)]
theorem jB {g:Nat}{t:TypeId}:∀ (vs:List Value) (o:Nat) (w:World) (cur:Array Value),aC w g cur t->o+vs.length<=cur.size->aC (w.setCells g o vs) g (aX cur o vs) t
 | [],o,w,cur,hg,_=>by
   have:aX cur o []=cur:=by unfold aX; simp
   rw[this]
   exact hg
 | v::r,o,w,cur,hg,h=>by
   simp only[List.length_cons] at h
   have h1:=hg.set o v
   have h2:=jB r (o+1) _ _ h1 (by simp; omega)
   have e:aX (cur.setIfInBounds o v) (o+1) r=aX cur o (v::r):=by
    unfold aX
    congr 1
    have:=list_seg_step cur.toList o v r (by simp; omega)
    simpa [Array.toList_setIfInBounds,Nat.add_assoc] using this
   rw[e] at h2
   exact h2
theorem jM (g:Nat):∀ (vs:List Value) (o:Nat) (w:World),Kept g w (w.setCells g o vs)
 | [],_,w=>Kept.refl _ _
 | v::r,o,w=>(Kept.setCell (g:=g) (Kept.refl _ _) (p:=⟨g,o,none⟩) rfl v).trans (jM g r (o+1) _)
theorem lL {P:Program}(w:World)(t e tc:TypeId)(z:Value)(k g o n c:Nat)(cur:Array Value)(ht:P.underlying t=some (.slice e))(hv:∀ w,(zeroValue e).run P w=.ok z w)(hz:z.cells.size=k)(h1:∀ v∈z.cells.toList,v.oneCell'=true)(hn:0<n)
 (hg:aC w g cur tc) (hfit:o+n*k<=cur.size):
 ∃ vs:List Value,vs.length=n*k/\∀ ty:TypeId,(Builtin.clear_ #[t] ty #[.slice (some ⟨g,o,none⟩) n c]).run P w=.ok (.tuple #[]) (w.setRow g (aX cur o vs)):=by
 refine⟨(Builtin.zeroCells z.cells n).toList,by simp[Builtin.zeroCells,hz],fun ty=>?_⟩
 have hlen:(Builtin.zeroCells z.cells n).toList.length=n*k:=by simp[Builtin.zeroCells,hz]
 have hone:∀ v∈(Builtin.zeroCells z.cells n).toList,v.oneCell'=true:=by
  intro v hv
  simp only[Builtin.zeroCells,Array.toList_map,List.mem_map] at hv
  obtain⟨j,hj,rfl⟩:=hv
  by_cases hk:k=0
  ·subst hk
   rw[hz] at hj
   simp at hj
  ·have hlt:j%z.cells.size<z.cells.size:=Nat.mod_lt _ (by omega)
   rw[getElem!_pos z.cells _ hlt]
   exact h1 _ (by simp)
 have hst:=run_storeCells_at P g o tc (Builtin.zeroCells z.cells n).toList 0 cur w hg (by rw[hlen]; simpa using hfit) hone
 cases n with
 | zero=>omega
 | succ n=>simp[Builtin.clear_,run_underlying ht,hv,hst,aX]
end Go.Proofs.YtjafgnohlkkopaaGreatDoor
