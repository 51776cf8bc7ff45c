import Derived.Test.YtjafgnohlkkopaaGreatDoorPart30
import Derived.Test.YtjafgnohlkkopaaGreatDoorPart08
import Derived.Test.YtjafgnohlkkopaaGreatDoorPart09
import Derived.Test.YtjafgnohlkkopaaGreatDoorPart21
import Derived.Test.YtjafgnohlkkopaaGreatDoorPart10
import Derived.Test.YtjafgnohlkkopaaGreatDoorPart28
set_option linter.unusedVariables false
set_option maxHeartbeats 8000000
set_option maxRecDepth 100000
namespace Go.Proofs.YtjafgnohlkkopaaGreatDoor
theorem tH (B:Nat->Blk)(a:Int)(k:Nat):(dZ B a k).level=(B k).level/\(dZ B a k).kids=(B k).kids/\(dZ B a k).bytes=(B k).bytes:=by
 unfold dZ
 by_cases h:a=0
 ·rw[if_pos h]; exact⟨rfl,rfl,rfl⟩
 ·rw[if_neg h]
  by_cases e:k=(a-1).toNat
  ·subst e; rw[upd_same]; exact⟨rfl,rfl,rfl⟩
  ·rw[bG _ _ _ _ e]; exact⟨rfl,rfl,rfl⟩
theorem bQ6 (B:Nat->Blk)(K:Blk){i k:Nat}(h:k≠i):(made B K i k).level=(B k).level/\(made B K i k).kids=(B k).kids/\(made B K i k).bytes=(B k).bytes:=by
 rw[cZ _ _ h]; exact⟨rfl,rfl,rfl⟩
theorem rY {n:Nat}{B:Nat->Blk}{R:List Int}(hR:Right n B)(hr:bE n B R){j:Nat}(h0:(B j).refs=0){x:Int}(hx:Clo B R x):(x-1).toNat≠j:=fun e=>(hx.there hR hr).2.2 (by rw[e]; exact h0)
theorem lK {n:Nat}{B:Nat->Blk}{R:List Int}(hR:Right n B)(hr:bE n B R){j:Nat}(h0:(B j).refs=0):¬Clo B R ((j:Int)+1):=fun h=>rY hR hr h0 h (by omega)
theorem xP {n:Nat}{B:Nat->Blk}{R:List Int}{K:Blk}{j:Nat}(hR:Right n B)(hr:bE n B R)(h0:(B j).refs=0):eH B (made B K j) R:=fun x hx=>bQ6 B K (rY hR hr h0 hx)
theorem xR {n:Nat}{B:Nat->Blk}{R:List Int}{K:Blk}{j:Nat}(k:Int)(hR:Right n B)(hr:bE n B R)(h0:(B j).refs=0):eH B (dZ (made B K j) k) R:=fun x hx=>by
 obtain⟨h1,h2,h3⟩:=tH (made B K j) k (x-1).toNat
 obtain⟨k1,k2,k3⟩:=bQ6 B K (rY hR hr h0 hx)
 exact⟨by rw[h1,k1],by rw[h2,k2],by rw[h3,k3]⟩
theorem bT8 {l i:Nat}(h:i<pw (l+1)):i / pw l<4:=by
 simp only[pw] at h
 exact Nat.div_lt_of_lt_mul (by rw[Nat.mul_comm]; exact h)
theorem bZ0 {L:List Int}(h4:L.length=4){j:Nat}(hj:j<4)(k:Int):k∈L.set j k:=List.mem_set (by omega) k
theorem wV {n:Nat}{b:List Int}:∀ (l:Nat) {B C:Nat->Blk} {root a c:Int} {i:Nat},Right n B->1<=c->c+4*(l+1)<=1000000->(∀ k,k<n->(B k).refs<=c)->Root n B l root->i<pw l->cP7 n b l B root i C a->cF0 n B C l a (c+4*(l+1))
 | 0,B,C,root,a,c,i,hR,h1,h2,hc,hr,hi,h=>by simpa using (xU hR h1 (by omega) hc h).1
 | l+1,B,C,root,a,c,i,hR,h1,h2,hc,hr,hi,h=>by
   obtain⟨D,k,hp,ha⟩:=h
   have hj:=bT8 hi
   have hg:=wV l hR h1 (by omega) hc (hr.kidAt hR hj) (Nat.mod_lt _ (nH l)) hp
   have:=(aD1 hR hg (by omega) (by omega) (fun _=>bZ0 (hr.len hR) hj k) ha).1
   have e:c+4*(((l+1:Nat):Int)+1)=c+4*((l:Int)+1)+4:=by omega
   rw[e]; exact this
theorem Iso.root {n:Nat}{f:Int->Int}{B D:Nat->Blk}{R:List Int}(h:Iso f B R D)(hD:Right n D)(hr:bE n D (R.map f)){l:Nat}{a:Int}(ha:a=0\/Clo B R a)(hl:Root n B l a):Root n D l (f a):=by
 rcases ha with rfl | ha
 ·exact .inl h.zero
 ·rcases hl with e | ⟨_,hl⟩
  ·exact absurd e ha.ne
  ·exact .inr ⟨(h.clo ha).there hD hr,by rw[h.lev a ha]; exact hl⟩
theorem bQ2 {g:Int->Int}{ks:List Int}(h:ks.map g=[0,0,0,0])(hp:∀ x∈ks,g x=0->x=0):ks=[0,0,0,0]:=by
 have h4:ks.length=4:=by have:=congrArg List.length h; simpa using this
 match ks,h4 with
 | [x,y,z,u],_=>
   simp only[List.map_cons,List.map_nil,List.cons.injEq,and_true] at h
   obtain⟨e1,e2,e3,e4⟩:=h
   rw[hp x (by simp) e1,hp y (by simp) e2,hp z (by simp) e3,hp u (by simp) e4]
theorem iE {n:Nat}{B:Nat->Blk}{R:List Int}{a:Int}(h:a=0\/There n B a)(hr:bE n B R):bE n B (a::R):=fun r hm=>by
 rcases List.mem_cons.1 hm with rfl | hm
 ·exact h
 ·exact hr r hm
theorem bE.ext {n:Nat}{B C:Nat->Blk}{R:List Int}(hr:bE n B R)(h:Ext n B C):bE n C R:=fun r hm=>(hr r hm).imp id fun ht=>(h.there ht).1
theorem Root.or {n:Nat}{B:Nat->Blk}{l:Nat}{a:Int}(h:Root n B l a):a=0\/There n B a:=h.imp id fun h=>h.1
theorem vS {B:Nat->Blk}{R:List Int}{a x:Int}(h:Clo B R x):Clo B (a::R) x:=h.mono fun r hr h0=>Clo.root (List.mem_cons_of_mem _ hr) h0
theorem xO {B:Nat->Blk}{R S:List Int}(hs:∀ r∈S,r∈R):∀ r∈S,r≠0->Clo B R r:=fun r hr h0=>Clo.root (hs r hr) h0
theorem aL8 {f g:Int->Int}{B:Nat->Blk}{R:List Int}(e:∀ x,x=0\/Clo B R x->g x=f x):R.map g=R.map f:=List.map_congr_left fun r hr=>e r (by
 by_cases h0:r=0
 ·exact .inl h0
 ·exact .inr (Clo.root hr h0))
theorem aE0 {n:Nat}{b:List Int}:∀ (l:Nat) {B D C E:Nat->Blk} {root a d c:Int} {i:Nat} {f:Int->Int} {R:List Int},Right n B->Right n D->1<=c->c+4*(l+1)<=1000000->(∀ k,k<n->(B k).refs<=c)->(∀ k,k<n->(D k).refs<=c)->Root n B l root->i<pw l->bE n B R->bE n D (R.map f)->Iso f B R D->(root=0\/Clo B R root)->cP7 n b l B root i C a->cP7 n b l D (f root) i E d->
 ∃ g,Iso g C (a::R) E/\g a=d/\∀ x,x=0\/Clo B R x->g x=f x
 | 0,B,D,C,E,root,a,d,c,i,f,R,hB,hD,h1,h2,hcB,hcD,hr,hi,rB,rD,hI,ha,hp,hq=>by
   rcases hp with⟨rfl,rfl,rfl⟩ | ⟨hb,j,⟨hj,h0,_⟩,_,rfl,rfl⟩
   ·rcases hq with⟨_,rfl,rfl⟩ | ⟨hb,_⟩
    ·refine⟨f,hI.sub fun r hr h0=>?_,hI.zero,fun _ _=>rfl⟩
     rcases List.mem_cons.1 hr with e | h
     ·exact absurd e h0
     ·exact Clo.root h h0
    ·exact absurd rfl hb
   ·rcases hq with⟨e,_⟩ | ⟨_,j', ⟨hj', h0', _⟩,_,rfl,rfl⟩
    ·exact absurd e hb
    ·have e0:((j:Int)+1-1).toNat=j:=by omega
     have e1:((j':Int)+1-1).toNat=j':=by omega
     refine⟨_,hI.add (lK hB rB h0) (lK hD rD h0') (by omega) (by omega) (xP hB rB h0) (xP hD rD h0') ?_ ?_ ?_ ?_,if_pos rfl,fun x hx=>if_neg fun e=>?_⟩
     ·rw[e0,e1,bJ,bJ]
     ·rw[e0,e1,bJ,bJ]; rfl
     ·rw[e0,e1,bJ,bJ]
     ·rw[e0,bJ]
      intro k hk
      exact absurd hk (by simp[xW])
     ·rcases hx with hx | hx
      ·omega
      ·exact rY hB rB h0 hx (by omega)
 | l+1,B,D,C,E,root,a,d,c,i,f,R,hB,hD,h1,h2,hcB,hcD,hr,hi,rB,rD,hI,ha,hp,hq=>by
   obtain⟨C0,k,hp,hpa⟩:=hp
   obtain⟨E0,k', hq,hqa⟩:=hq
   have hj:=bT8 hi
   have hk:=hr.kidAt hB hj
   have hf:(kidsL D (f root)).getD (i / pw l) 0=f ((kidsL B root).getD (i / pw l) 0):=by rw[hI.kidsL ha,getD_map hI.zero]
   have hr':=hI.root hD rD ha hr
   have hk':=hr'.kidAt hD hj
   have hmod:=Nat.mod_lt i (nH l)
   have gB:=wV l hB h1 (by omega) hcB hk hmod hp
   have gD:=wV l hD h1 (by omega) hcD hk' hmod hq
   rw[hf] at hq
   obtain⟨g,iG,gk,gf⟩:=aE0 l hB hD h1 (by omega) hcB hcD hk hmod rB rD hI (aM9 ha _) hp hq
   have sB:=gB.ext.sameOn hB rB
   have hks:(kidsL D (f root)).set (i / pw l) k'=((kidsL B root).set (i / pw l) k).map g:=by
    rw[List.map_set,gk,hI.kidsL ha]
    congr 1
    exact List.map_congr_left fun x hx=>(gf x (xY ha hx)).symm
   have hin:∀ x∈(kidsL B root).set (i / pw l) k,x=0\/Clo C0 (k::R) x:=fun x hx=>by
    rcases List.mem_or_eq_of_mem_set hx with h | rfl
    ·rcases xY ha h with h | h
     ·exact .inl h
     ·exact .inr (vS ((sB.clo x).2 h))
    ·by_cases h0:x=0
     ·exact .inl h0
     ·exact .inr (Clo.root List.mem_cons_self h0)
   rw[hks] at hqa
   generalize (kidsL B root).set (i / pw l) k=ks at *
   have mR:(k::R).map g=k'::R.map f:=by rw[List.map_cons,gk,aL8 gf]
   rcases hpa with⟨rfl,rfl,rfl⟩ | ⟨hne,j,⟨hj1,h0,_⟩,⟨hR0,hF,_⟩,rfl,rfl⟩
   ·rcases hqa with⟨_,rfl,rfl⟩ | ⟨hne,_⟩
    ·refine⟨g,iG.sub fun r hr h0=>?_,iG.zero,gf⟩
     rcases List.mem_cons.1 hr with e | h
     ·exact absurd e h0
     ·exact Clo.root (List.mem_cons_of_mem _ h) h0
    ·exact absurd (by simp[iG.zero]) hne
   ·rcases hqa with⟨e,_⟩ | ⟨_,j', ⟨hj2,h0', _⟩,⟨hR1,hF1,_⟩,rfl,rfl⟩
    ·refine absurd (bQ2 e fun x hx hx0=>?_) hne
     rcases hin x hx with h | h
     ·exact h
     ·exact absurd hx0 (iG.pos x h)
    ·have rC:=iE gB.root.or (rB.ext gB.ext)
     have rE:bE n E0 ((k::R).map g):=by rw[mR]; exact iE gD.root.or (rD.ext gD.ext)
     have e0:((j:Int)+1-1).toNat=j:=by omega
     have e1:((j':Int)+1-1).toNat=j':=by omega
     obtain⟨l1,l2,l3⟩:=tH (made C0 (gK (l+1) ks) j) k j
     obtain⟨m1,m2,m3⟩:=tH (made E0 (gK (l+1) (ks.map g)) j') k' j'
     have hA:=iG.add (B':=dZ (made C0 (gK (l+1) ks) j) k) (D':=dZ (made E0 (gK (l+1) (ks.map g)) j') k') (lK hR0 rC h0) (lK hR1 rE h0') (by omega) (by omega) (xR k hR0 rC h0) (xR k' hR1 rE h0')
      (by rw[e0,e1,l1,m1,bJ,bJ]; rfl) (by rw[e0,e1,l2,m2,bJ,bJ]; rfl) (by rw[e0,e1,l3,m3,bJ,bJ]; rfl) (by
        rw[e0,l2,bJ]
        intro x hx h0
        exact(hin x hx).resolve_left h0)
     refine⟨_,hA.sub fun r hr h0=>?_,if_pos rfl,fun x hx=>?_⟩
     ·rcases List.mem_cons.1 hr with e | h
      ·rw[e]; exact Clo.root List.mem_cons_self (by omega)
      ·exact Clo.root (List.mem_cons_of_mem _ (List.mem_cons_of_mem _ h)) h0
     ·have hne:x≠(j:Int)+1:=fun e=>by
       rcases hx with hx | hx
       ·omega
       ·exact rY hR0 rC h0 (vS ((sB.clo x).2 hx)) (by omega)
      show (if x=(j:Int)+1 then _ else g x)=f x
      rw[if_neg hne,gf x hx]
end Go.Proofs.YtjafgnohlkkopaaGreatDoor
namespace Go.Proofs.YtjafgnohlkkopaaGreatDoor
theorem yA (B:Nat->Blk)(m:Nat)(R:List Int):eH B (lU B ((m:Int)+1)) R:=fun x _=>by
 by_cases e:(x-1).toNat=m
 ·rw[e,gX]; exact⟨rfl,rfl,rfl⟩
 ·rw[eO e]; exact⟨rfl,rfl,rfl⟩
theorem iQ.sameOn {n:Nat}{B C:Nat->Blk}{T R:List Int}(h:iQ n B C T)(hC:Right n C)(hr:bE n C R):eH B C R:=fun x hx=>eB h (((tV hC h hr x).1 hx).there hC hr)
theorem Iso.more {f:Int->Int}{B D:Nat->Blk}{R:List Int}(h:Iso f B R D){a:Int}(ha:a=0\/Clo B R a):Iso f B (a::R) D:=h.sub fun r hr h0=>by
 rcases List.mem_cons.1 hr with rfl | hr
 ·exact ha.resolve_left h0
 ·exact Clo.root hr h0
theorem Iso.less {f:Int->Int}{B D:Nat->Blk}{R:List Int}{a:Int}(h:Iso f B (a::R) D):Iso f B R D:=h.sub fun r hr h0=>Clo.root (List.mem_cons_of_mem _ hr) h0
theorem Iso.swap {f:Int->Int}{B D:Nat->Blk}{R:List Int}{a b:Int}(h:Iso f B (a::b::R) D):Iso f B (a::R) D:=h.sub fun r hr h0=>by
 rcases List.mem_cons.1 hr with e | hr
 ·rw[e] at h0 ⊢; exact Clo.root List.mem_cons_self h0
 ·exact Clo.root (List.mem_cons_of_mem _ (List.mem_cons_of_mem _ hr)) h0
theorem bA4 {B:Nat->Blk}{R:List Int}{a:Int}(h:a∈R):a=0\/Clo B R a:=by
 by_cases h0:a=0
 ·exact .inl h0
 ·exact .inr (Clo.root h h0)
theorem qG {n:Nat}{B E:Nat->Blk}{R:List Int}{f g:Int->Int}{a d:Int}(h:bE n E (R.map f))(hd:d=0\/There n E d)(g1:g a=d)(g2:∀ x,x=0\/Clo B R x->g x=f x):bE n E ((a::R).map g):=by
 rw[List.map_cons,g1,aL8 g2]
 exact iE hd h
theorem oH {n:Nat}{B D:Nat->Blk}{key cc:Int}{O W:List Int}{f:Int->Int}{R:List Int}{root root':Int}(hroot:f root=root')(hB:Right n B)(hD:Right n D)(hcc:0<=cc/\cc<=999936)(rB:bE n B R)(rD:bE n D (R.map f))(hI:Iso f B R D)(ha:root=0\/Clo B R root):∀ (j:Nat) {C E:Nat->Blk} {a d:Int},bV7 n B key O W cc root j C a->bV7 n D key O W cc root' j E d->
 ∃ g,Iso g C (a::R) E/\g a=d/\∀ x,x=0\/Clo B R x->g x=f x
 | 0,C,E,a,d,hw,hv=>by
   cases hw with
   | zero=>
     cases hv with
     | zero=>exact⟨f,hI.more (.inl rfl),hI.zero,fun _ _=>rfl⟩
     | kept m=>rw[hI.zero] at hroot; omega
   | kept m=>
     have hc:=ha.resolve_left (by omega)
     cases hv with
     | zero=>exact absurd hroot (hI.pos _ hc)
     | kept m'=>exact⟨f,(hI.more (.inr hc)).keep (yA B m _) (yA D m' _),hroot,fun _ _=>rfl⟩
 | j+1,C,E,a,d,hw,hv=>by
   cases hw with
   | same hw e=>
     cases hv with
     | same hv _=>exact oH hroot hB hD hcc rB rD hI ha j hw hv
     | put0 _ e'=>exact absurd e e'
     | put _ e'=>exact absurd e e'
   | put0 hw e hj hs hp=>
     cases hv with
     | same _ e'=>exact absurd e' e
     | put0 hv _ _ ht hq=>
       obtain⟨g,i1,g1,g2⟩:=oH hroot hB hD hcc rB rD hI ha j hw hv
       have rC:=iE (a:=0) (.inl rfl) (rB.ext hs.ext)
       have rE:=qG (rD.ext ht.ext) (.inl rfl) g1 g2
       have hq':=hq.puts
       rw[<-g1] at hq'
       obtain⟨k,k1,k2,k3⟩:=aE0 3 hs.right ht.right (c:=cc+48) (by omega) (by omega) hs.few ht.few hs.root hj rC rE i1 (.inl rfl) hp.puts hq'
       refine⟨k,k1.swap,k2,fun x hx=>?_⟩
       rw[k3 x (hx.imp id fun h=>vS (((hs.ext.sameOn hB rB).clo x).2 h)),g2 x hx]
     | put hv _ _ ht hq=>
       obtain⟨g,i1,g1,g2⟩:=oH hroot hB hD hcc rB rD hI ha j hw hv
       rw[i1.zero] at g1
       omega
   | put hw e hj hs hp hs' hF=>
     cases hv with
     | same _ e'=>exact absurd e' e
     | put0 hv _ _ ht hq=>
       obtain⟨g,i1,g1,g2⟩:=oH hroot hB hD hcc rB rD hI ha j hw hv
       exact absurd g1 (i1.pos _ (Clo.root List.mem_cons_self (by omega)))
     | put hv _ _ ht hq ht' hG=>
       obtain⟨g,i1,g1,g2⟩:=oH hroot hB hD hcc rB rD hI ha j hw hv
       have rC:=iE hs.root.or (rB.ext hs.ext)
       have rE:=qG (rD.ext ht.ext) ht.root.or g1 g2
       have hq':=hq.puts
       rw[<-g1] at hq'
       obtain⟨k,k1,k2,k3⟩:=aE0 3 hs.right ht.right (c:=cc+48) (by omega) (by omega) hs.few ht.few hs.root hj rC rE i1 (.inr (Clo.root List.mem_cons_self (by omega))) hp.puts hq'
       have k3':∀ x,x=0\/Clo B R x->k x=f x:=fun x hx=>by
        rw[k3 x (hx.imp id fun h=>vS (((hs.ext.sameOn hB rB).clo x).2 h)),g2 x hx]
       refine⟨k,k1.swap.keep (hF.sameOn hs'.right (iE hs'.root.or (rB.ext hs'.ext))) (hG.sameOn ht'.right (qG (rD.ext ht'.ext) ht'.root.or k2 k3')),k2,k3'⟩
end Go.Proofs.YtjafgnohlkkopaaGreatDoor
namespace Go.Proofs.YtjafgnohlkkopaaGreatDoor
def bQ4 (f:Int->Int)(e:Ent):Ent:=⟨e.name,f e.root,e.size⟩
def jH (f:Int->Int)(l:List Ent):List Ent:=l.map (bQ4 f)
def nU (f:Int->Int)(s:bQ):bQ:=⟨s.name,jH f s.files⟩
def fB (f:Int->Int)(x:aK):aK:=⟨x.name,jH f x.files,x.snaps.map (nU f)⟩
theorem aA1 (f:Int->Int)(l:List Ent):aS (jH f l)=(aS l).map f:=by
 unfold aS jH
 rw[List.map_map,List.map_map]; rfl
theorem zY (f:Int->Int):∀ l:List bQ,dQ (l.map (nU f))=(dQ l).map f
 | []=>rfl
 | s::l=>by
   have h:=zY f l
   unfold dQ at h ⊢
   rw[List.map_cons,List.flatMap_cons,List.flatMap_cons,List.map_append,h]
   congr 1
   exact aA1 f s.files
theorem zX (f:Int->Int)(x:aK):aG (fB f x)=(aG x).map f:=by
 unfold aG
 rw[List.map_append]
 exact congr (congrArg _ (aA1 f x.files)) (zY f x.snaps)
theorem aB4 {f g:Int->Int}{l:List Ent}(h:∀ e∈l,g e.root=f e.root):jH g l=jH f l:=List.map_congr_left fun e he=>by unfold bQ4; rw[h e he]
theorem aB1 {f g:Int->Int}{x:aK}(h:∀ r∈aG x,g r=f r):fB g x=fB f x:=by
 have h1:jH g x.files=jH f x.files:=aB4 fun e he=>h _ (List.mem_append_left _ (bV.2 ⟨e,he,rfl⟩))
 have h2:x.snaps.map (nU g)=x.snaps.map (nU f):=List.map_congr_left fun s hs=>by
  unfold nU
  rw[aB4 fun e he=>h _ (List.mem_append_right _ (List.mem_flatMap.2 ⟨s,hs,bV.2 ⟨e,he,rfl⟩⟩))]
 unfold fB
 rw[h1,h2]
theorem bZ3 (f:Int->Int)(l:List Ent)(p:Nat)(e:Ent):jH f (l.set p e)=(jH f l).set p (bQ4 f e):=List.map_set
theorem aB3 (f:Int->Int)(l:List Ent)(p:Nat):jH f (l.eraseIdx p)=(jH f l).eraseIdx p:=by
 unfold jH
 rw[List.eraseIdx_eq_take_drop_succ,List.eraseIdx_eq_take_drop_succ,List.map_append,List.map_take,List.map_drop]
theorem bA6 (f:Int->Int)(l:List Ent)(p:Nat)(e:Ent):jH f (l.take p++e::l.drop p)=(jH f l).take p++bQ4 f e::(jH f l).drop p:=by
 unfold jH
 rw[List.map_append,List.map_cons,List.map_take,List.map_drop]
theorem bG9 (f:Int->Int)(l:List bQ)(p:Nat):(l.eraseIdx p).map (nU f)=(l.map (nU f)).eraseIdx p:=by
 rw[List.eraseIdx_eq_take_drop_succ,List.eraseIdx_eq_take_drop_succ,List.map_append,List.map_take,List.map_drop]
theorem bZ2 (f:Int->Int)(l:List bQ)(p:Nat)(e:bQ):(l.take p++e::l.drop p).map (nU f)=(l.map (nU f)).take p++nU f e::(l.map (nU f)).drop p:=by
 rw[List.map_append,List.map_cons,List.map_take,List.map_drop]
theorem qO {α:Type}{f:α->List UInt8}{l:List α}(ho:l.Pairwise fun a b=>f a<f b){p q:Nat}(hp:p<l.length)(hq:q<l.length)(h:f l[p]=f l[q]):p=q:=by
 rcases Nat.lt_trichotomy p q with hlt | rfl | hlt
 ·exact absurd (h▸List.pairwise_iff_getElem.1 ho p q hp hq hlt) (nT _)
 ·rfl
 ·exact absurd (h▸List.pairwise_iff_getElem.1 ho q p hq hp hlt) (nT _)
theorem cG1 {α:Type}{f:α->List UInt8}{l:List α}{t:List UInt8}{p q:Nat}(h2:∀ e∈l.drop p,t<f e)(h3:∀ e∈l.take q,f e<t):¬(p<q/\p<l.length):=fun⟨h,hl⟩=>by
 have m1:l[p]∈l.drop p:=by
  rw[List.drop_eq_getElem_cons hl]; exact List.mem_cons_self
 have m2:l[p]∈l.take q:=List.mem_take_iff_getElem.2 ⟨p,by omega,rfl⟩
 exact bA1 (h2 _ m1) (h3 _ m2)
theorem vL {α:Type}{f:α->List UInt8}{l:List α}{t:List UInt8}{p q:Nat}(h1:∀ e∈l.take p,f e<t)(h2:∀ e∈l.drop p,t<f e)(h3:∀ e∈l.take q,f e<t)(h4:∀ e∈l.drop q,t<f e):l.take p=l.take q/\l.drop p=l.drop q:=by
 have a:=cG1 h2 h3
 have b:=cG1 h4 h1
 by_cases e:p=q
 ·subst e; exact⟨rfl,rfl⟩
 ·have hp:l.length<=p:=by omega
  have hq:l.length<=q:=by omega
  exact⟨by rw[List.take_of_length_le hp,List.take_of_length_le hq],by rw[List.drop_of_length_le hp,List.drop_of_length_le hq]⟩
theorem bZ1 {f:Int->Int}{l:List Ent}{e:Ent}(h:e∈jH f l):∃ e0∈l,e0.nm=e.nm:=by
 obtain⟨e0,h0,rfl⟩:=List.mem_map.1 h
 exact⟨e0,h0,rfl⟩
theorem aG1 {f:Int->Int}{l:List Ent}{t:List UInt8}:(∃ e∈jH f l,e.nm=t)↔∃ e∈l,e.nm=t:=by
 constructor
 ·rintro⟨e,he,rfl⟩
  exact bZ1 he
 ·rintro⟨e,he,rfl⟩
  exact⟨bQ4 f e,List.mem_map_of_mem he,rfl⟩
theorem cA9 {f:Int->Int}{l:List bQ}{t:List UInt8}:(∃ e∈l.map (nU f),e.nm=t)↔∃ e∈l,e.nm=t:=by
 constructor
 ·rintro⟨e,he,rfl⟩
  obtain⟨e0,h0,rfl⟩:=List.mem_map.1 he
  exact⟨e0,h0,rfl⟩
 ·rintro⟨e,he,rfl⟩
  exact⟨nU f e,List.mem_map_of_mem he,rfl⟩
theorem rP (f:Int->Int)(l:List Ent):(jH f l).length=l.length:=List.length_map _
theorem vK (f:Int->Int)(l:List Ent)(p:Nat)(h:p<(jH f l).length):(jH f l)[p]=bQ4 f (l[p]'(by rw[rP] at h; exact h)):=List.getElem_map (bQ4 f)
end Go.Proofs.YtjafgnohlkkopaaGreatDoor
namespace Go.Proofs.YtjafgnohlkkopaaGreatDoor
open Go.RowKit
theorem wF {x y y':aK}{nm:ByteArray}{root size ra rs root' size' ra' rs':Int}{f g:Int->Int}(ho:aH8 x.files)(h:tZ x nm root size ra rs y)(k:tZ (fB f x) nm root' size' ra' rs' y')(hz:f 0=0)(hg:∀ r∈aG x,g r=f r):
 root'=f root/\size'=size/\(g ra=ra'->rs=rs'->y'=fB g y):=by
 have hn:∀ p (hp:p<(fB f x).files.length),((fB f x).files[p]).nm=(x.files[p]'(by have:=rP f x.files; exact this▸hp)).nm:=fun p hp=>by
  have:=vK f x.files p hp
  exact(congrArg Ent.nm this).trans rfl
 have hmx:=aB1 hg
 have hfl:jH g x.files=jH f x.files:=congrArg aK.files hmx
 have hsn:x.snaps.map (nU g)=x.snaps.map (nU f):=congrArg aK.snaps hmx
 obtain⟨p,h | h⟩:=h
 ·obtain⟨hp,h1,h2,h3,h4⟩:=h
  obtain⟨q,k | k⟩:=k
  ·obtain⟨hq,k1,k2,k3,k4⟩:=k
   have hq':q<x.files.length:=by have:=rP f x.files; exact this▸hq
   obtain rfl:p=q:=qO (f:=Ent.nm) ho hp hq' (by rw[h1,<-k1]; exact hn q hq)
   have hge:(fB f x).files[p]=bQ4 f x.files[p]:=vK f x.files p hq
   refine⟨by rw[k2,hge,h2]; rfl,by rw[k3,hge,h3]; rfl,fun e1 e2=>?_⟩
   rw[k4,h4,hge]
   show aK.mk x.name ((jH f x.files).set p _) (x.snaps.map (nU f))=aK.mk x.name (jH g (x.files.set p _)) (x.snaps.map (nU g))
   rw[bZ3,hfl,hsn]
   subst e1 e2
   rfl
  ·exact absurd (aG1.2 ⟨x.files[p],List.getElem_mem hp,h1⟩) k.1
 ·obtain⟨h1,h2,h3,h4,h5,h6,h7⟩:=h
  obtain⟨q,k | k⟩:=k
  ·obtain⟨hq,k1,_⟩:=k
   exact absurd (aG1.1 ⟨(fB f x).files[q],List.getElem_mem hq,k1⟩) h1
  ·obtain⟨k1,k2,k3,k4,k5,k6,k7⟩:=k
   refine⟨by rw[k2,h2,hz],by rw[k3,h3],fun e1 e2=>?_⟩
   have h5':∀ e∈(jH f x.files).take p,e.nm<nm.data.toList:=fun e he=>by
    unfold jH at he
    rw[<-List.map_take] at he
    obtain⟨e0,h0,rfl⟩:=List.mem_map.1 he
    exact h5 e0 h0
   have h6':∀ e∈(jH f x.files).drop p,nm.data.toList<e.nm:=fun e he=>by
    unfold jH at he
    rw[<-List.map_drop] at he
    obtain⟨e0,h0,rfl⟩:=List.mem_map.1 he
    exact h6 e0 h0
   obtain⟨u1,u2⟩:=vL (f:=Ent.nm) h5' h6' k5 k6
   rw[k7,h7]
   show aK.mk x.name ((jH f x.files).take q++_::(jH f x.files).drop q) (x.snaps.map (nU f))=aK.mk x.name (jH g (x.files.take p++_::x.files.drop p)) (x.snaps.map (nU g))
   rw[bA6,hfl,hsn,u1,u2]
   subst e1 e2
   rfl
theorem bA5 (f:Int->Int)(l:List bQ):(l.map (nU f)).length=l.length:=List.length_map _
theorem bO1 {x y y':aK}{a:aM}{f:Int->Int}(hs:Shape x)(h:Plain x a y)(k:Plain (fB f x) a y'):y'=fB f y:=by
 have ho:=hs.order
 have hoS:=hs.orderS
 have fl:=rP f x.files
 have sl:=bA5 f x.snaps
 have fg:∀ p (hp:p<(fB f x).files.length),((fB f x).files[p]).nm=(x.files[p]'(fl▸hp)).nm:=fun p hp=>(congrArg Ent.nm (vK f x.files p hp)).trans rfl
 have sg:∀ p (hp:p<(fB f x).snaps.length),((fB f x).snaps[p])=nU f (x.snaps[p]'(sl▸hp)):=fun p hp=>List.getElem_map (nU f)
 rcases h with⟨ha,h⟩ | ⟨ha,_,h⟩ | ⟨ha,_,h⟩ | ⟨ha,_,h⟩ | ⟨ha,_,h⟩
 ·rcases k with⟨_,k⟩ | ⟨e,_⟩ | ⟨e,_⟩ | ⟨e,_⟩ | ⟨e,_⟩
  ·obtain⟨p,hp,h1,rfl⟩:=h
   obtain⟨q,hq,k1,rfl⟩:=k
   obtain rfl:p=q:=qO (f:=Ent.nm) ho hp (fl▸hq) (by rw[h1,<-k1]; exact fg q hq)
   show aK.mk x.name ((jH f x.files).eraseIdx p) _=aK.mk x.name (jH f (x.files.eraseIdx p)) _
   rw[aB3]
   rfl
  all_goals omega
 ·rcases k with⟨e,_⟩ | ⟨_,_,k⟩ | ⟨e,_⟩ | ⟨e,_⟩ | ⟨e,_⟩
  ·omega
  ·obtain⟨p,q,hp,h1,h2,h3,rfl⟩:=h
   obtain⟨p', q', hp', k1,k2,k3,rfl⟩:=k
   obtain rfl:p=p':=qO (f:=Ent.nm) ho hp (fl▸hp') (by rw[h1,<-k1]; exact fg p' hp')
   have hge:(fB f x).files[p]=bQ4 f x.files[p]:=vK f x.files p hp'
   have hm:(fB f x).files.eraseIdx p=jH f (x.files.eraseIdx p):=(aB3 f x.files p).symm
   rw[hm] at k2 k3
   have h2':∀ e∈(jH f (x.files.eraseIdx p)).take q,e.nm<a.to.data.toList:=fun e he=>by
    unfold jH at he
    rw[<-List.map_take] at he
    obtain⟨e0,h0,rfl⟩:=List.mem_map.1 he
    exact h2 e0 h0
   have h3':∀ e∈(jH f (x.files.eraseIdx p)).drop q,a.to.data.toList<e.nm:=fun e he=>by
    unfold jH at he
    rw[<-List.map_drop] at he
    obtain⟨e0,h0,rfl⟩:=List.mem_map.1 he
    exact h3 e0 h0
   obtain⟨u1,u2⟩:=vL (f:=Ent.nm) h2' h3' k2 k3
   rw[hm,hge,<-u1,<-u2]
   show aK.mk x.name _ _=aK.mk x.name (jH f _) _
   rw[bA6]
   rfl
  all_goals omega
 ·rcases k with⟨e,_⟩ | ⟨e,_⟩ | ⟨_,_,k⟩ | ⟨e,_⟩ | ⟨e,_⟩
  ·omega
  ·omega
  ·obtain⟨q,h2,h3,rfl⟩:=h
   obtain⟨q', k2,k3,rfl⟩:=k
   have h2':∀ e∈(x.snaps.map (nU f)).take q,e.nm<a.to.data.toList:=fun e he=>by
    rw[<-List.map_take] at he
    obtain⟨e0,h0,rfl⟩:=List.mem_map.1 he
    exact h2 e0 h0
   have h3':∀ e∈(x.snaps.map (nU f)).drop q,a.to.data.toList<e.nm:=fun e he=>by
    rw[<-List.map_drop] at he
    obtain⟨e0,h0,rfl⟩:=List.mem_map.1 he
    exact h3 e0 h0
   obtain⟨u1,u2⟩:=vL (f:=bQ.nm) h2' h3' k2 k3
   show aK.mk x.name _ ((x.snaps.map (nU f)).take q'++_::(x.snaps.map (nU f)).drop q')=aK.mk x.name _ ((x.snaps.take q++_::x.snaps.drop q).map (nU f))
   rw[bZ2,<-u1,<-u2]
   rfl
  all_goals omega
 ·rcases k with⟨e,_⟩ | ⟨e,_⟩ | ⟨e,_⟩ | ⟨_,_,k⟩ | ⟨e,_⟩
  ·omega
  ·omega
  ·omega
  ·obtain⟨q,hq,h1,rfl⟩:=h
   obtain⟨q', hq', k1,rfl⟩:=k
   obtain rfl:q=q':=qO (f:=bQ.nm) hoS hq (sl▸hq') (by rw[h1,<-k1,sg q' hq']; rfl)
   show aK.mk x.name _ ((x.snaps.map (nU f)).eraseIdx q)=aK.mk x.name _ ((x.snaps.eraseIdx q).map (nU f))
   rw[bG9]
   rfl
  ·omega
 ·rcases k with⟨e,_⟩ | ⟨e,_⟩ | ⟨e,_⟩ | ⟨e,_⟩ | ⟨_,_,k⟩
  ·omega
  ·omega
  ·omega
  ·omega
  ·obtain⟨q,hq,h1,rfl⟩:=h
   obtain⟨q', hq', k1,rfl⟩:=k
   obtain rfl:q=q':=qO (f:=bQ.nm) hoS hq (sl▸hq') (by rw[h1,<-k1,sg q' hq']; rfl)
   show aK.mk x.name ((fB f x).snaps[q]).files _=aK.mk x.name (jH f x.snaps[q].files) _
   rw[sg q hq']
   rfl
theorem aI3 {n:Nat}{B C D E:Nat->Blk}{key cc made made':Int}{x y y':aK}{nm:ByteArray}{N N':Int->Int->List Int}{f:Int->Int}{R:List Int}(hB:Right n B)(hD:Right n D)(hcc:0<=cc/\cc<=999936)(rB:bE n B R)(rD:bE n D (R.map f))(hI:Iso f B R D)(hx:Shape x)(hR:∀ r∈aG x,r∈R)
 (hN:∀ root size,root=0\/Clo B R root->N' (f root) size=N root size) (h:Wrote n B C key x nm N cc made y) (k:Wrote n D E key (fB f x) nm N' cc made' y'):
 ∃ g,Iso g C (made::R) E/\g made=made'/\(∀ r,r=0\/Clo B R r->g r=f r)/\y'=fB g y:=by
 obtain⟨root,size,_,hT,ht⟩:=h
 obtain⟨root', size', _,kT,kt⟩:=k
 have hfx:∀ r∈aG x,r=0\/Clo B R r:=fun r hr=>bA4 (hR r hr)
 obtain⟨e1,e2,_⟩:=wF hx.order ht kt hI.zero (fun r _=>rfl)
 have hroot:root=0\/Clo B R root:=by
  obtain⟨p,ht | ht⟩:=ht
  ·obtain⟨hp,_,e,_⟩:=ht
   rw[e]
   exact hfx _ (List.mem_append_left _ (bV.2 ⟨_,List.getElem_mem hp,rfl⟩))
  ·exact .inl ht.2.1
 subst e1 e2
 have hl:aH D 3 (f root)=aH B 3 root:=funext fun i=>hI.leaf 3 root hroot i
 have w2:=kT.way
 rw[hl,hN root size' hroot] at w2
 obtain⟨g,g1,g2,g3⟩:=oH rfl hB hD hcc rB rD hI hroot 64 hT.way w2
 refine⟨g,g1,g2,g3,?_⟩
 exact(wF hx.order ht kt hI.zero (fun r hr=>g3 r (hfx r hr))).2.2 g2 (by rw[hN root size' hroot])
theorem cJ7 {n:Nat}{B C D E:Nat->Blk}{key cc made made':Int}{x y y':aK}{a:aM}{f:Int->Int}{R:List Int}(hB:Right n B)(hD:Right n D)(hcc:0<=cc/\cc<=999936)(rB:bE n B R)(rD:bE n D (R.map f))(hI:Iso f B R D)(hx:Shape x)(hR:∀ r∈aG x,r∈R)
 (h:kV n B C key x a made y cc) (k:kV n D E key (fB f x) a made' y' cc):
 ∃ g,Iso g C (made::R) E/\g made=made'/\(∀ r,r=0\/Clo B R r->g r=f r)/\y'=fB g y:=by
 have hP:∀ {x y:aK},Plain x a y->5<=a.kind:=fun h=>by
  rcases h with⟨e,_⟩ | ⟨e,_⟩ | ⟨e,_⟩ | ⟨e,_⟩ | ⟨e,_⟩<;>omega
 have hl:∀ root,root=0\/Clo B R root->aH D 3 (f root)=aH B 3 root:=fun root hr=>funext fun i=>hI.leaf 3 root hr i
 rcases h with⟨hk,_,_,h⟩ | ⟨hk,_,_,h⟩ | ⟨h,rfl,rfl⟩
 ·rcases k with⟨_,_,_,k⟩ | ⟨e,_⟩ | ⟨k,_⟩
  ·refine aI3 hB hD hcc rB rD hI hx hR (fun root size hr=>?_) h k
   unfold sW; rw[hl root hr]
  ·omega
  ·have:=hP k; omega
 ·rcases k with⟨e,_⟩ | ⟨_,_,_,k⟩ | ⟨k,_⟩
  ·omega
  ·refine aI3 hB hD hcc rB rD hI hx hR (fun root size hr=>?_) h k
   unfold cJ4; rw[hl root hr]
  ·have:=hP k; omega
 ·rcases k with⟨e,_⟩ | ⟨e,_⟩ | ⟨k,rfl,rfl⟩
  ·have:=hP h; omega
  ·have:=hP h; omega
  ·exact⟨f,hI.more (.inl rfl),hI.zero,fun _ _=>rfl,bO1 hx h k⟩
theorem aB0 {x:aK}{r:Int}:r∈aG x↔∃ e∈lC x,e.root=r:=by rw[gQ]; exact bV
theorem bU7 {n:Nat}{B C:Nat->Blk}{key cc made:Int}{x y:aK}{a:aM}(hx:bD n B key x)(hb:Bytes a.bytes)(h:kV n B C key x a made y cc):∀ r∈aG y,r=made\/r∈aG x:=by
 have hcount:(∀ r:Int,(aG y).count r<=(aG x).count r+[made].count r)->∀ r∈aG y,r=made\/r∈aG x:=fun h r hr=>by
  have h1:=List.count_pos_iff.2 hr
  have h2:=h r
  by_cases e:r=made
  ·exact .inl e
  ·right
   rw[List.count_cons_of_ne (fun f=>e f.symm)] at h2
   simp only[List.count_nil,Nat.add_zero] at h2
   exact List.count_pos_iff.1 (by omega)
 rcases h with⟨_,hn,ho,h⟩ | ⟨_,hn,ho,h⟩ | ⟨h,_,_⟩
 ·obtain⟨_,_,_,_,h5,_⟩:=mU hx hn (sV hb ho) h
  exact hcount h5
 ·obtain⟨_,_,_,_,h5,_⟩:=mU hx hn (aP1 ho) h
  exact hcount h5
 ·intro r hr
  right
  obtain⟨e,he,rfl⟩:=aB0.1 hr
  have fin:∀ e'∈lC x,e'.root=e.root->e.root∈aG x:=fun e' h1 h2=>aB0.2 ⟨e', h1,h2⟩
  rcases h with⟨_,p,hp,_,rfl⟩ | ⟨_,_,p,q,hp,_,_,_,rfl⟩ | ⟨_,_,q,_,_,rfl⟩ | ⟨_,_,q,hq,_,rfl⟩ | ⟨_,_,q,hq,_,rfl⟩
  ·rcases List.mem_append.1 he with he | he
   ·exact fin e (List.mem_append_left _ (List.mem_of_mem_eraseIdx he)) rfl
   ·exact fin e (List.mem_append_right _ he) rfl
  ·rcases List.mem_append.1 he with he | he
   ·rcases List.mem_append.1 he with he | he
    ·exact fin e (List.mem_append_left _ (List.mem_of_mem_eraseIdx (List.mem_of_mem_take he))) rfl
    ·rcases List.mem_cons.1 he with rfl | he
     ·exact fin x.files[p] (List.mem_append_left _ (List.getElem_mem hp)) rfl
     ·exact fin e (List.mem_append_left _ (List.mem_of_mem_eraseIdx (List.mem_of_mem_drop he))) rfl
   ·exact fin e (List.mem_append_right _ he) rfl
  ·rcases List.mem_append.1 he with he | he
   ·exact fin e (List.mem_append_left _ he) rfl
   ·obtain⟨s,hs,he⟩:=List.mem_flatMap.1 he
    rcases List.mem_append.1 hs with hs | hs
    ·exact fin e (List.mem_append_right _ (List.mem_flatMap.2 ⟨s,List.mem_of_mem_take hs,he⟩)) rfl
    ·rcases List.mem_cons.1 hs with rfl | hs
     ·exact fin e (List.mem_append_left _ he) rfl
     ·exact fin e (List.mem_append_right _ (List.mem_flatMap.2 ⟨s,List.mem_of_mem_drop hs,he⟩)) rfl
  ·rcases List.mem_append.1 he with he | he
   ·exact fin e (List.mem_append_left _ he) rfl
   ·obtain⟨s,hs,he⟩:=List.mem_flatMap.1 he
    exact fin e (List.mem_append_right _ (List.mem_flatMap.2 ⟨s,List.mem_of_mem_eraseIdx hs,he⟩)) rfl
  ·rcases List.mem_append.1 he with he | he
   ·exact fin e (List.mem_append_right _ (List.mem_flatMap.2 ⟨x.snaps[q],List.getElem_mem hq,he⟩)) rfl
   ·exact fin e (List.mem_append_right _ he) rfl
theorem cJ2 {n:Nat}{B D B' D':Nat->Blk}{key cc:Int}{x y y':aK}{a:aM}{f:Int->Int}{R0:List Int}(hx:bD n B key x)(hD:Right n D)(hb:Bytes a.bytes)(hcc:0<=cc/\cc<=999936)(rB:bE n B (aG x++R0))(rD:bE n D ((aG x++R0).map f))(hI:Iso f B (aG x++R0) D)
 (h:Did n B key x a cc B' y) (k:Did n D key (fB f x) a cc D' y') (rB':bE n B' (aG y++R0)) (rD':bE n D' (aG y'++R0.map f)):
 ∃ g,Iso g B' (aG y++R0) D'/\y'=fB g y/\∀ r∈R0,g r=f r:=by
 obtain⟨C,made,hy,hR', hF⟩:=h
 obtain⟨E,made', ky,kR', kF⟩:=k
 obtain⟨g,g1,g2,g3,g4⟩:=cJ7 hx.right hD hcc rB rD hI hx.shape (fun r hr=>List.mem_append_left _ hr) hy ky
 have g0:∀ r∈R0,g r=f r:=fun r hr=>g3 r (bA4 (List.mem_append_right _ hr))
 have hm:(aG y++R0).map g=aG y'++R0.map f:=by
  rw[List.map_append,g4,zX,List.map_congr_left g0]
 have hsub:Iso g C (aG y++R0) E:=g1.sub fun r hr h0=>by
  rcases List.mem_append.1 hr with hr | hr
  ·rcases bU7 hx hb hy r hr with rfl | hr
   ·exact Clo.root List.mem_cons_self h0
   ·exact Clo.root (List.mem_cons_of_mem _ (List.mem_append_left _ hr)) h0
  ·exact Clo.root (List.mem_cons_of_mem _ (List.mem_append_right _ hr)) h0
 have hmore:∀ (B:Nat->Blk) (K S:List Int),eH B (eX B K) S:=fun B K S x _=>⟨rfl,rfl,rfl⟩
 refine⟨g,hsub.keep ((hmore C _ _).trans (hF.sameOn hR' rB')) ((hmore E (aG y') _).trans (kF.sameOn kR' ?_)),g4,g0⟩
 rw[hm]; exact rD'
end Go.Proofs.YtjafgnohlkkopaaGreatDoor
namespace Go.Proofs.YtjafgnohlkkopaaGreatDoor
theorem aQ4 {B:Nat->Blk}:∀ (l:List aP),(∀ t∈l,∃ m,sI B (aL t) m/\m<=t.quota)->∃ U:List Int,(∀ t∈l,∀ x,Clo B (aL t) x->x∈U)/\(U.length:Int)<=pG l
 | [],_=>⟨[],fun t ht=>absurd ht (by simp),by simp[pG]⟩
 | t::l,h=>by
   obtain⟨U,h1,h2⟩:=aQ4 l fun u hu=>h u (List.mem_cons_of_mem _ hu)
   obtain⟨m,⟨L,_,h3,rfl⟩,h4⟩:=h t List.mem_cons_self
   refine⟨L++U,fun u hu x hx=>?_,?_⟩
   ·rcases List.mem_cons.1 hu with rfl | hu
    ·exact List.mem_append_left _ ((h3 x).2 hx)
    ·exact List.mem_append_right _ (h1 u hu x hx)
   ·have e:pG (t::l)=t.quota+pG l:=by simp[pG]
    rw[e,List.length_append]
    omega
theorem zR:∀ n,cO (fun _=>Blk.zero) n=0
 | 0=>rfl
 | n+1=>by rw[dW,zR n]; rfl
theorem aR.used {n:Nat}{B:Nat->Blk}{l:List aP}(h:aR n B l):(cO B n:Int)<=pG l:=by
 obtain⟨U,h1,h2⟩:=aQ4 l h.uses
 have key:∀ k,k<n->0<(B k).refs->0<((fun _=>Blk.zero) k:Blk).refs\/((k:Int)+1)∈U:=by
  intro k hk h0
  right
  have hc:=qP h.right (l:=gT l) (fun i hi ho=>by
   rw[h.held i hi] at ho
   exact List.count_pos_iff.1 (by omega)) k hk (by omega)
  obtain⟨t,ht,hx⟩:∃ t∈l,Clo B (aL t) ((k:Int)+1):=by
   refine hc (fun y=>∃ t∈l,Clo B (aL t) y) (fun r hr hr0=>?_) fun y hy z hz hz0=>?_
   ·obtain⟨t,ht,hr⟩:=List.mem_flatMap.1 hr
    exact⟨t,ht,Clo.root hr hr0⟩
   ·obtain⟨t,ht,hy⟩:=hy
    exact⟨t,ht,hy.kid hz hz0⟩
  exact h1 t ht _ hx
 have a:=qB key
 have b:=xS (jO (L:=U) n) (M:=U) fun x hx=>(kG hx).1
 rw[zR] at a
 omega
theorem aR.roomy {n:Nat}{B:Nat->Blk}{l:List aP}(h:aR n B l)(h0:0<l.length)(c:Nat):¬sJ n B c:=fun⟨_,ht⟩=>by
 have:=h.used
 have:=h.room h0
 omega
theorem Iso.uses {f:Int->Int}{B D:Nat->Blk}{R:List Int}(h:Iso f B R D){m k:Int}(hm:sI B R m)(hk:sI D (R.map f) k):m=k:=by
 obtain⟨L,h1,h2,rfl⟩:=hm
 obtain⟨M,k1,k2,rfl⟩:=hk
 rw[h.many h1 h2 k1 k2]
def aM0 (f:Int->Int)(t:aP):aP:=⟨t.key,t.quota,t.sets.map (fB f)⟩
theorem oL (f:Int->Int):∀ l:List aK,cK (l.map (fB f))=(cK l).map f
 | []=>rfl
 | x::l=>by
   have h:=oL f l
   unfold cK at h ⊢
   rw[List.map_cons,List.flatMap_cons,List.flatMap_cons,List.map_append,h,zX]
theorem jT (f:Int->Int)(t:aP):aL (aM0 f t)=(aL t).map f:=oL f t.sets
theorem bH0 {f g:Int->Int}{l:List aK}(h:∀ r∈cK l,g r=f r):l.map (fB g)=l.map (fB f):=List.map_congr_left fun x hx=>aB1 fun r hr=>h r (List.mem_flatMap.2 ⟨x,hx,hr⟩)
theorem gM.sameOn {n:Nat}{B C:Nat->Blk}{l:List Int}(h:gM n B C l):eH B C l:=fun x hx=>(h x hx).2
end Go.Proofs.YtjafgnohlkkopaaGreatDoor
namespace Go.Proofs.YtjafgnohlkkopaaGreatDoor
open Go.RowKit
def aY0 (x:aK)(a:aM):Prop:=
 (a.kind=3/\aN a.file/\okW a/\((∃ f∈x.files,f.nm=a.file.data.toList)\/x.files.length<6))\/(a.kind=4/\aN a.file/\okC x a)\/(a.kind=5/\∃ f∈x.files,f.nm=a.file.data.toList)\/(a.kind=6/\oG x a)\/(a.kind=7/\zC x a)\/((a.kind=8\/a.kind=9)/\oD x a)
theorem cN0 {f:Int->Int}{x:aK}{t:List UInt8}:(∃ e∈(fB f x).files,e.nm=t)↔∃ e∈x.files,e.nm=t:=aG1
theorem cQ4 {f:Int->Int}{x:aK}{t:List UInt8}:(∃ e∈(fB f x).snaps,e.nm=t)↔∃ e∈x.snaps,e.nm=t:=cA9
theorem cT2 {f:Int->Int}{x:aK}:(fB f x).files.length=x.files.length:=rP f x.files
theorem cT1 {f:Int->Int}{x:aK}:(fB f x).snaps.length=x.snaps.length:=bA5 f x.snaps
theorem yO {f:Int->Int}{x:aK}{a:aM}:aY0 (fB f x) a↔aY0 x a:=by
 unfold aY0 okC oG zC oD
 rw[cN0,cN0,cQ4,cT2,cT1]
theorem kV.can {n:Nat}{B C:Nat->Blk}{key cc made:Int}{x y:aK}{a:aM}(h:kV n B C key x a made y cc):aY0 x a:=by
 rcases h with⟨hk,hn,ho,root,size,_,_,p,ht⟩ | ⟨hk,hn,ho,_⟩ | ⟨h,_,_⟩
 ·refine .inl ⟨hk,hn,ho,?_⟩
  rcases ht with⟨hp,h1,_⟩ | ⟨_,_,_,h6,_⟩
  ·exact .inl ⟨_,List.getElem_mem hp,h1⟩
  ·exact .inr h6
 ·exact .inr (.inl ⟨hk,hn,ho⟩)
 ·rcases h with⟨hk,p,hp,h1,_⟩ | ⟨hk,h,_⟩ | ⟨hk,h,_⟩ | ⟨hk,h,_⟩ | ⟨hk,h,_⟩
  ·exact .inr (.inr (.inl ⟨hk,_,List.getElem_mem hp,h1⟩))
  ·exact .inr (.inr (.inr (.inl ⟨hk,h⟩)))
  ·exact .inr (.inr (.inr (.inr (.inl ⟨hk,h⟩))))
  ·exact .inr (.inr (.inr (.inr (.inr ⟨.inl hk,h⟩))))
  ·exact .inr (.inr (.inr (.inr (.inr ⟨.inr hk,h⟩))))
theorem NoRoom.no {n:Nat}{B:Nat->Blk}{key:Int}{x:aK}{nm:ByteArray}{N:Int->Int->List Int}(ht:∀ c,¬sJ n B c)(h:NoRoom n B key x nm N):False:=by
 obtain⟨_,_,_,h⟩:=h
 exact ht _ h
theorem lW.cannot {n:Nat}{B:Nat->Blk}{key e:Int}{x:aK}{a:aM}(ht:∀ c,¬sJ n B c)(h:lW n B key e x a)(hno:zO n B key x a):¬aY0 x a:=by
 rintro (⟨hk,h1,h2,h3⟩ | ⟨hk,h1,h2⟩ | ⟨hk,h1⟩ | ⟨hk,h1⟩ | ⟨hk,h1⟩ | ⟨hk,h1⟩)
 ·exact((h.write hk).room h1 h2 h3).2.no ht
 ·exact((h.cut hk).room h1 h2 (.inl h2.2)).2.no ht
 ·exact(h.remove hk).2 h1
 ·exact hno.2.1 hk h1
 ·exact hno.2.2.1 hk h1
 ·rcases hk with hk | hk
  ·exact hno.2.2.2.1 hk h1
  ·exact hno.2.2.2.2 hk h1
theorem bV6.same {n:Nat}{B D:Nat->Blk}{key:Int}{x x':aK}{nm:ByteArray}{ok ok':Prop}{bad bad':Int->Prop}{N N':Int->Int->List Int}{e e':Int}(hB:∀ c,¬sJ n B c)(hD:∀ c,¬sJ n D c)(hok:ok↔ok')(hbad:bad e->bad' e'->e=e')(h:bV6 n B key x nm ok bad N e)(k:bV6 n D key x' nm ok' bad' N' e'):e=e':=by
 by_cases hn:aN nm
 ·by_cases ho:ok
  ·have h1:=(h.2.2 hn ho).resolve_left fun f=>NoRoom.no (key:=key) (x:=x) (nm:=nm) (N:=N) hB f.2
   have k1:=(k.2.2 hn (hok.1 ho)).resolve_left fun f=>NoRoom.no (key:=key) (x:=x') (nm:=nm) (N:=N') hD f.2
   rw[h1.1,k1.1]
  ·exact hbad (h.2.1 hn ho) (k.2.1 hn fun f=>ho (hok.2 f))
 ·rw[h.1 hn,k.1 hn]
theorem lW.same {n:Nat}{B D:Nat->Blk}{key e e':Int}{x:aK}{a:aM}{f:Int->Int}(hB:∀ c,¬sJ n B c)(hD:∀ c,¬sJ n D c)(h:lW n B key e x a)(k:lW n D key e' (fB f x) a):e=e':=by
 by_cases h3:a.kind=3
 ·exact(h.write h3).same hB hD Iff.rfl (fun e1 e2=>by rw[e1,e2]) (k.write h3)
 by_cases h4:a.kind=4
 ·refine(h.cut h4).same hB hD (by unfold okC; rw[cN0]) (fun e1 e2=>?_) (k.cut h4)
  unfold aR2 at e1 e2
  rw[cN0] at e2
  rcases e1 with⟨p,rfl⟩ | ⟨p,rfl⟩
  ·rcases e2 with⟨_,rfl⟩ | ⟨q,rfl⟩
   ·rfl
   ·exact absurd p q
  ·rcases e2 with⟨q,rfl⟩ | ⟨_,rfl⟩
   ·exact absurd q p
   ·rfl
 by_cases h5:a.kind=5
 ·rw[(h.remove h5).1,(k.remove h5).1]
 by_cases h6:a.kind=6
 ·have e1:=h.rename h6
  have e2:=k.rename h6
  unfold cE9 at e1 e2
  rw[cN0] at e2
  rcases e1 with⟨p,rfl⟩ | ⟨p,p', rfl⟩ | ⟨p,p', rfl⟩<;>rcases e2 with⟨q,rfl⟩ | ⟨q,q', rfl⟩ | ⟨q,q', rfl⟩<;>first | rfl | exact absurd p q | exact absurd q p | exact absurd p' q' | exact absurd q' p'
 by_cases h7:a.kind=7
 ·have e1:=h.snap h7
  have e2:=k.snap h7
  unfold bD1 at e1 e2
  rw[cQ4] at e2
  rcases e1 with⟨p,rfl⟩ | ⟨p,p', rfl⟩ | ⟨p,p', rfl⟩<;>rcases e2 with⟨q,rfl⟩ | ⟨q,q', rfl⟩ | ⟨q,q', rfl⟩<;>first | rfl | exact absurd p q | exact absurd q p | exact absurd p' q' | exact absurd q' p'
 by_cases h8:a.kind=8\/a.kind=9
 ·have e1:=h.old h8
  have e2:=k.old h8
  unfold aR0 at e1 e2
  rcases e1 with⟨p,rfl⟩ | ⟨p,rfl⟩<;>rcases e2 with⟨q,rfl⟩ | ⟨q,rfl⟩<;>first | rfl | exact absurd p q | exact absurd q p
 ·rw[h.other (by omega),k.other (by omega)]
def kQ (B D:Nat->Blk)(t u:aP):Prop:=∃ f,u=aM0 f t/\Iso f B (aL t) D
theorem cR1 {f:Int->Int}{l:List aK}{s:List UInt8}:(∃ x∈l.map (fB f),x.nm=s)↔∃ x∈l,x.nm=s:=by
 constructor
 ·rintro⟨x,hx,rfl⟩
  obtain⟨y,hy,rfl⟩:=List.mem_map.1 hx
  exact⟨y,hy,rfl⟩
 ·rintro⟨x,hx,rfl⟩
  exact⟨fB f x,List.mem_map_of_mem hx,rfl⟩
theorem zA {f:Int->Int}{l:List aK}{nm:ByteArray}{e:Int}(h:vC (l.map (fB f)) nm e):vC l nm e:=by
 unfold vC at h
 rw[cR1,List.length_map] at h
 exact h
theorem vC.uni {l:List aK}{nm:ByteArray}{e e':Int}(h:vC l nm e)(k:vC l nm e'):e=e':=by
 rcases h with⟨h1,h2⟩ | ⟨h1,h2,h3⟩ | ⟨h1,h2,h3,h4⟩<;>rcases k with⟨k1,k2⟩ | ⟨k1,k2,k3⟩ | ⟨k1,k2,k3,k4⟩<;>first | omega | (exact absurd ‹aN nm› ‹¬aN nm›) | (exact absurd h3 k3) | (exact absurd k3 h3)
theorem bS3 {l:List aK}{s:List UInt8}{p:Nat}(ho:l.Pairwise fun a b=>a.nm<b.nm)(h:Found aK.nm l s p false):¬∃ x∈l,x.nm=s:=fun f=>absurd ((dJ ho h).2 f) (by decide)
theorem vC.not {l:List aK}{nm:ByteArray}{e:Int}{p:Nat}(ho:l.Pairwise fun a b=>a.nm<b.nm)(h:vC l nm e)(hn:aN nm)(h3:l.length<3)(hf:Found aK.nm l nm.data.toList p false):False:=by
 rcases h with⟨_,h⟩ | ⟨_,_,h⟩ | ⟨_,_,_,h⟩
 ·exact h hn
 ·exact bS3 ho hf h
 ·omega
theorem yD {f:Int->Int}{l:List aK}{s:List UInt8}{p:Nat}(h:Found aK.nm (l.map (fB f)) s p false):Found aK.nm l s p false:=by
 refine⟨by have:=h.le; rwa [List.length_map] at this,fun x hx=>?_,fun x hx=>?_,?_⟩
 ·have:=h.ahead (fB f x) (by rw[<-List.map_take]; exact List.mem_map_of_mem hx)
  exact this
 ·have:=h.behind (fB f x) (by rw[<-List.map_drop]; exact List.mem_map_of_mem hx)
  exact this
 ·constructor
  ·intro e; cases e
  ·rintro⟨x,hx,e⟩
   exact h.there.2 ⟨fB f x,by rw[List.getElem?_map,hx]; rfl,e⟩
theorem aC2 {f:Int->Int}{l:List aK}{s:List UInt8}{p q:Nat}(ho:l.Pairwise fun a b=>a.nm<b.nm)(h:Found aK.nm l s p false)(k:Found aK.nm (l.map (fB f)) s q false)(z:aK):(l.map (fB f)).take q++fB f z::(l.map (fB f)).drop q=(l.take p++z::l.drop p).map (fB f):=by
 have k':=yD k
 obtain⟨e1,e2⟩:=vL (f:=aK.nm) h.ahead (jX ho h) k'.ahead (jX ho k')
 rw[List.map_append,List.map_cons,e1,e2,List.map_take,List.map_drop]
theorem vF {f:Int->Int}{l:List aK}{s:List UInt8}{k j:Nat}{x z:aK}(ho:l.Pairwise fun a b=>a.nm<b.nm)(hk:l[k]? =some x)(hx:x.nm=s)(hj:(l.map (fB f))[j]? =some z)(hz:z.nm=s):j=k/\z=fB f x:=by
 rw[List.getElem?_map,Option.map_eq_some_iff] at hj
 obtain⟨y,hy,rfl⟩:=hj
 obtain⟨h1,h2⟩:=List.getElem?_eq_some_iff.1 hk
 obtain⟨g1,g2⟩:=List.getElem?_eq_some_iff.1 hy
 obtain rfl:j=k:=qO ho g1 h1 (by rw[g2,h2]; exact hz.trans hx.symm)
 rw[hk] at hy
 cases hy
 exact⟨rfl,rfl⟩
theorem uZ.map {f:Int->Int}{l:List aK}{x:aK}{a:aM}{e:Int}(h:uZ (l.map (fB f)) (fB f x) a e):uZ l x a e:=by
 unfold uZ ClE at h
 rw[cQ4] at h
 exact h.imp id fun h=>⟨h.1,zA h.2⟩
theorem uZ.uni {l:List aK}{x:aK}{a:aM}{e e':Int}(h:uZ l x a e)(k:uZ l x a e'):e=e':=by
 rcases h with (⟨h1,h2⟩ | ⟨h1,h2,h3⟩) | ⟨h1,h2⟩<;>rcases k with (⟨k1,k2⟩ | ⟨k1,k2,k3⟩) | ⟨k1,k2⟩
 ·omega
 ·exact absurd k2 h2
 ·rcases k2 with⟨k2,_⟩ | ⟨_,k2,_⟩ | ⟨_,k2,_⟩
  ·omega
  ·exact absurd k2 h2
  ·exact absurd k2 h2
 ·exact absurd h2 k2
 ·omega
 ·exact absurd k1 h3
 ·rcases h2 with⟨h2,_⟩ | ⟨_,h2,_⟩ | ⟨_,h2,_⟩
  ·omega
  ·exact absurd h2 k2
  ·exact absurd h2 k2
 ·exact absurd h1 k3
 ·exact h2.uni k2
theorem uZ.not {n:Nat}{B C:Nat->Blk}{l:List aK}{x y:aK}{a:aM}{e key:Int}{p:Nat}(ho:l.Pairwise fun a b=>a.nm<b.nm)(h:uZ l x a e)(hy:bD n C key y)(hF:ClF n B C x a.to a.file y)(h3:l.length<3)(hf:Found aK.nm l y.nm p false):False:=by
 have hn:aN a.file:=by rw[<-hF.name]; exact hy.name
 obtain⟨q,hq,e1,_⟩:=hF.snap
 rcases h with (⟨_,h⟩ | ⟨_,_,h⟩) | ⟨_,h⟩
 ·exact h hn
 ·exact h ⟨x.snaps[q],List.getElem_mem hq,e1⟩
 ·exact h.not ho hn h3 (p:=p) (by have e:y.nm=a.file.data.toList:=by unfold aK.nm; rw[hF.name]
                                  rw[<-e]; exact hf)
section
variable {n:Nat} {B D:Nat->Blk} {l m:List aP} {i:Nat} {t:aP} {a:aM} {e N:Int}
theorem cG5 (hk:a.kind=1)(h:dU n B l i t a D m e N):N=0/\D=B/\((e≠0/\m=l/\vC t.sets a.set e)\/(e=0/\∃ p,aN a.set/\t.sets.length<3/\Found aK.nm t.sets a.set.data.toList p false/\m=l.set i ⟨t.key,t.quota,t.sets.take p++⟨a.set,[],[]⟩::t.sets.drop p⟩)):=by
 cases h with
 | noadd _ h1 h2 h3=>exact⟨rfl,rfl,.inl ⟨h2,rfl,h3⟩⟩
 | add p h1 h2 h3 h4=>exact⟨rfl,rfl,.inr ⟨rfl,p,h2,h3,h4,rfl⟩⟩
 | uses _ h1=>omega
 | missing h1=>exact absurd hk h1
 | look _ _ _ _ _ _ h1=>omega
 | destroy _ _ _ _ _ h1=>omega
 | noclone _ _ _ _ _ h1=>omega
 | clone _ _ _ _ _ _ _ h1=>omega
 | nochange _ _ _ _ _ h1=>exact absurd hk h1.1
 | change _ _ _ _ _ _ _ h1=>exact absurd hk h1.1
theorem bT5 (hk:a.kind=13)(h:dU n B l i t a D m e N):e=0/\D=B/\m=l/\sI B (aL t) N:=by
 cases h with
 | noadd _ h1=>omega
 | add _ h1=>omega
 | uses _ h1 h2=>exact⟨rfl,rfl,rfl,h2⟩
 | missing _ h1=>exact absurd hk h1
 | look _ _ _ _ _ _ h1=>omega
 | destroy _ _ _ _ _ h1=>omega
 | noclone _ _ _ _ _ h1=>omega
 | clone _ _ _ _ _ _ _ h1=>omega
 | nochange _ _ _ _ _ h1=>exact absurd hk h1.2.1
 | change _ _ _ _ _ _ _ h1=>exact absurd hk h1.2.1
theorem bT6 (h1:a.kind≠1)(h13:a.kind≠13)(hno:¬∃ x∈t.sets,x.nm=a.set.data.toList)(h:dU n B l i t a D m e N):e=5/\N=0/\D=B/\m=l:=by
 cases h with
 | noadd _ h=>exact absurd h h1
 | add _ h=>exact absurd h h1
 | uses _ h=>exact absurd h h13
 | missing=>exact⟨rfl,rfl,rfl,rfl⟩
 | look k x _ _ h g=>exact absurd ⟨x,List.mem_of_getElem? h,g⟩ hno
 | destroy k x _ h g=>exact absurd ⟨x,List.mem_of_getElem? h,g⟩ hno
 | noclone k x _ h g=>exact absurd ⟨x,List.mem_of_getElem? h,g⟩ hno
 | clone k x _ _ _ h g=>exact absurd ⟨x,List.mem_of_getElem? h,g⟩ hno
 | nochange k x _ h g=>exact absurd ⟨x,List.mem_of_getElem? h,g⟩ hno
 | change k x _ _ _ h g=>exact absurd ⟨x,List.mem_of_getElem? h,g⟩ hno
def bK4 (t:aP)(a:aM)(k:Nat)(x:aK):Prop:=t.sets[k]? =some x/\x.nm=a.set.data.toList
theorem bK4.has {k:Nat}{x:aK}(h:bK4 t a k x):∃ x∈t.sets,x.nm=a.set.data.toList:=⟨x,List.mem_of_getElem? h.1,h.2⟩
theorem bT7 (h1:a.kind=11\/a.kind=12)(hy:∃ x∈t.sets,x.nm=a.set.data.toList)(h:dU n B l i t a D m e N):D=B/\m=l/\∃ k x,bK4 t a k x/\e=zK x a/\N=zJ x a:=by
 cases h with
 | noadd _ h=>omega
 | add _ h=>omega
 | uses _ h=>omega
 | missing _ _ h=>exact absurd hy h
 | look k x _ _ h g _ e1 e2=>exact⟨rfl,rfl,k,x,⟨h,g⟩,e1,e2⟩
 | destroy k x _ h g h2=>omega
 | noclone k x _ h g h2=>omega
 | clone k x _ _ _ h g h2=>omega
 | nochange k x _ h g h2=>exact(h1.elim h2.2.2.1 h2.2.2.2.1).elim
 | change k x _ _ _ h g h2=>exact(h1.elim h2.2.2.1 h2.2.2.2.1).elim
theorem aC5 (h1:a.kind=2)(hy:∃ x∈t.sets,x.nm=a.set.data.toList)(h:dU n B l i t a D m e N):e=0/\N=0/\∃ k x,bK4 t a k x/\Right n D/\iQ n B D (aG x)/\m=l.set i ⟨t.key,t.quota,t.sets.eraseIdx k⟩:=by
 cases h with
 | noadd _ h=>omega
 | add _ h=>omega
 | uses _ h=>omega
 | missing _ _ h=>exact absurd hy h
 | look k x _ _ h g h2=>omega
 | destroy k x _ h g h2 h3 h4=>exact⟨rfl,rfl,k,x,⟨h,g⟩,h3,h4,rfl⟩
 | noclone k x _ h g h2=>omega
 | clone k x _ _ _ h g h2=>omega
 | nochange k x _ h g h2=>exact absurd h1 h2.2.2.2.2.1
 | change k x _ _ _ h g h2=>exact absurd h1 h2.2.2.2.2.1
theorem bC2 (h1:a.kind=10)(hy:∃ x∈t.sets,x.nm=a.set.data.toList)(h:dU n B l i t a D m e N):N=0/\∃ k x,bK4 t a k x/\((e≠0/\D=B/\m=l/\uZ t.sets x a e)\/(e=0/\∃ y p,bD n D t.key y/\ClF n B D x a.to a.file y/\t.sets.length<3/\Found aK.nm t.sets y.nm p false/\m=l.set i ⟨t.key,t.quota,t.sets.take p++y::t.sets.drop p⟩)):=by
 cases h with
 | noadd _ h=>omega
 | add _ h=>omega
 | uses _ h=>omega
 | missing _ _ h=>exact absurd hy h
 | look k x _ _ h g h2=>omega
 | destroy k x _ h g h2=>omega
 | noclone k x _ h g h2 h3 h4=>exact⟨rfl,k,x,⟨h,g⟩,.inl ⟨h3,rfl,rfl,h4⟩⟩
 | clone k x _ y p h g h2 h3 h4 h5 h6=>exact⟨rfl,k,x,⟨h,g⟩,.inr ⟨rfl,y,p,h3,h4,h5,h6,rfl⟩⟩
 | nochange k x _ h g h2=>exact absurd h1 h2.2.2.2.2.2
 | change k x _ _ _ h g h2=>exact absurd h1 h2.2.2.2.2.2
theorem aP0 (h1:bK1 a)(hy:∃ x∈t.sets,x.nm=a.set.data.toList)(h:dU n B l i t a D m e N):N=0/\∃ k x,bK4 t a k x/\((e≠0/\D=B/\m=l/\cP8 n B t k x a e)\/(e=0/\∃ y q,Did n B t.key x a 2000 D y/\sI D (cK (t.sets.set k y)) q/\q<=t.quota/\m=l.set i ⟨t.key,t.quota,t.sets.set k y⟩)):=by
 cases h with
 | noadd _ h=>exact absurd h h1.1
 | add _ h=>exact absurd h h1.1
 | uses _ h=>exact absurd h h1.2.1
 | missing _ _ h=>exact absurd hy h
 | look k x _ _ h g h2=>exact(h2.elim h1.2.2.1 h1.2.2.2.1).elim
 | destroy k x _ h g h2=>exact absurd h2 h1.2.2.2.2.1
 | noclone k x _ h g h2=>exact absurd h2 h1.2.2.2.2.2
 | clone k x _ _ _ h g h2=>exact absurd h2 h1.2.2.2.2.2
 | nochange k x _ h g h2 h3 h4=>exact⟨rfl,k,x,⟨h,g⟩,.inl ⟨h3,rfl,rfl,h4⟩⟩
 | change k x _ y q h g h2 h3 h4 h5=>exact⟨rfl,k,x,⟨h,g⟩,.inr ⟨rfl,y,q,h3,h4,h5,rfl⟩⟩
end
theorem tO (f:Int->Int)(x:aK)(s:List UInt8):fileOf (fB f x) s=(fileOf x s).map (bQ4 f):=by
 unfold fileOf fB jH
 rw[List.find?_map]
 rfl
theorem bM6 (f:Int->Int)(t:aP)(s:List UInt8):setOf (aM0 f t) s=(setOf t s).map (fB f):=by
 unfold setOf aM0
 rw[List.find?_map]
 rfl
theorem bQ9 (f:Int->Int)(x:aK)(a:aM):zK (fB f x) a=zK x a:=by
 unfold zK
 rw[tO]
 cases fileOf x a.file.data.toList<;>rfl
theorem bQ8 (f:Int->Int)(x:aK)(a:aM):zJ (fB f x) a=zJ x a:=by
 unfold zJ
 rw[tO,cT2]
 cases fileOf x a.file.data.toList<;>rfl
theorem bQ7 (f:Int->Int)(x:aK)(a:aM):uX (fB f x) a=uX x a:=by
 have e:(fB f x).files.map (·.name)=x.files.map (·.name):=by
  unfold fB jH
  rw[List.map_map]; rfl
 unfold uX
 rw[e]
theorem bR0 {f:Int->Int}{B D:Nat->Blk}{R:List Int}(hI:Iso f B R D){x:aK}(hR:∀ r∈aG x,r∈R)(key:Int)(a:aM):zL D key (fB f x) a=zL B key x a:=by
 unfold zL
 rw[tO]
 cases h:fileOf x a.file.data.toList with
 | none=>rfl
 | some e=>
   have he:e∈x.files:=List.mem_of_find?_eq_some h
   have hr:e.root=0\/Clo B R e.root:=bA4 (hR _ (List.mem_append_left _ (bV.2 ⟨e,he,rfl⟩)))
   have hl:aH D 3 (f e.root)=aH B 3 e.root:=funext fun i=>hI.leaf 3 e.root hr i
   show (if a.kind=12 then [] else if bW0 a then nP (aT key (aH D 3 (f e.root))) e.size.toNat a.pos.toNat a.num.toNat else [])=_
   rw[hl]
theorem cK2 {B D:Nat->Blk}{t u:aP}(h:kQ B D t u)(a:aM):aH3 u a=aH3 t a/\aQ3 D u a=aQ3 B t a:=by
 obtain⟨f,rfl,hI⟩:=h
 unfold aH3 aQ3
 rw[bM6]
 cases h:setOf t a.set.data.toList with
 | none=>exact⟨rfl,rfl⟩
 | some x=>
   have hx:x∈t.sets:=List.mem_of_find?_eq_some h
   refine⟨?_,?_⟩
   ·show (if a.kind=11\/a.kind=12 then uX (fB f x) a else [])=_
    rw[bQ7]
   ·show (if a.kind=11\/a.kind=12 then zL D t.key (fB f x) a else [])=_
    rw[bR0 hI fun r hr=>List.mem_flatMap.2 ⟨x,hx,hr⟩]
end Go.Proofs.YtjafgnohlkkopaaGreatDoor
