import Derived.Test.YtjafgnohlkkopaaGreatDoorPart11
import Derived.Test.YtjafgnohlkkopaaGreatDoorPart17
set_option linter.unusedVariables false
set_option maxHeartbeats 8000000
set_option maxRecDepth 100000
namespace Go.Proofs.YtjafgnohlkkopaaGreatDoor
open Go.RowKit
theorem wF {x y y':aK}{nm:ByteArray}{root size ra rs root' size' ra' rs':Int}{f g:Int->Int}(ho:aI2 x.files)(h:tX x nm root size ra rs y)(k:tX (fA f x) nm root' size' ra' rs' y')(hz:f 0=0)(hg:∀ r∈aG x,g r=f r):
 root'=f root/\size'=size/\(g ra=ra'->rs=rs'->y'=fA g y):=by
 have hn:∀ p (hp:p<(fA f x).files.length),((fA f x).files[p]).nm=(x.files[p]'(by have:=rQ f x.files; exact this▸hp)).nm:=fun p hp=>by
  have:=vM f x.files p hp
  exact(congrArg Ent.nm this).trans rfl
 have hmx:=aA8 hg
 have hfl:jJ g x.files=jJ f x.files:=congrArg aK.files hmx
 have hsn:x.snaps.map (nW g)=x.snaps.map (nW f):=congrArg aK.snaps hmx
 obtain⟨p,h | h⟩:=h
 ·obtain⟨hp,h1,h2,h3,h4⟩:=h
  obtain⟨q,k | k⟩:=k
  ·obtain⟨hq,k1,k2,k3,k4⟩:=k
   have hq':q<x.files.length:=by have:=rQ f x.files; exact this▸hq
   obtain rfl:p=q:=qQ (f:=Ent.nm) ho hp hq' (by rw[h1,<-k1]; exact hn q hq)
   have hge:(fA f x).files[p]=bR8 f x.files[p]:=vM f x.files p hq
   refine⟨by rw[k2,hge,h2]; rfl,by rw[k3,hge,h3]; rfl,fun e1 e2=>?_⟩
   rw[k4,h4,hge]
   show aK.mk x.name ((jJ f x.files).set p _) (x.snaps.map (nW f))=aK.mk x.name (jJ g (x.files.set p _)) (x.snaps.map (nW g))
   rw[cB6,hfl,hsn]
   subst e1 e2
   rfl
  ·exact absurd (aG6.2 ⟨x.files[p],List.getElem_mem hp,h1⟩) k.1
 ·obtain⟨h1,h2,h3,h4,h5,h6,h7⟩:=h
  obtain⟨q,k | k⟩:=k
  ·obtain⟨hq,k1,_⟩:=k
   exact absurd (aG6.1 ⟨(fA f x).files[q],List.getElem_mem hq,k1⟩) h1
  ·obtain⟨k1,k2,k3,k4,k5,k6,k7⟩:=k
   refine⟨by rw[k2,h2,hz],by rw[k3,h3],fun e1 e2=>?_⟩
   have h5':∀ e∈(jJ f x.files).take p,e.nm<nm.data.toList:=fun e he=>by
    unfold jJ at he
    rw[<-List.map_take] at he
    obtain⟨e0,h0,rfl⟩:=List.mem_map.1 he
    exact h5 e0 h0
   have h6':∀ e∈(jJ f x.files).drop p,nm.data.toList<e.nm:=fun e he=>by
    unfold jJ at he
    rw[<-List.map_drop] at he
    obtain⟨e0,h0,rfl⟩:=List.mem_map.1 he
    exact h6 e0 h0
   obtain⟨u1,u2⟩:=vN (f:=Ent.nm) h5' h6' k5 k6
   rw[k7,h7]
   show aK.mk x.name ((jJ f x.files).take q++_::(jJ f x.files).drop q) (x.snaps.map (nW f))=aK.mk x.name (jJ g (x.files.take p++_::x.files.drop p)) (x.snaps.map (nW g))
   rw[bB5,hfl,hsn,u1,u2]
   subst e1 e2
   rfl
theorem bB4 (f:Int->Int)(l:List bD):(l.map (nW f)).length=l.length:=List.length_map _
theorem bP5 {x y y':aK}{a:aP}{f:Int->Int}(hs:Shape x)(h:Plain x a y)(k:Plain (fA f x) a y'):y'=fA f y:=by
 have ho:=hs.order
 have hoS:=hs.orderS
 have fl:=rQ f x.files
 have sl:=bB4 f x.snaps
 have fg:∀ p (hp:p<(fA f x).files.length),((fA f x).files[p]).nm=(x.files[p]'(fl▸hp)).nm:=fun p hp=>(congrArg Ent.nm (vM f x.files p hp)).trans rfl
 have sg:∀ p (hp:p<(fA f x).snaps.length),((fA f x).snaps[p])=nW f (x.snaps[p]'(sl▸hp)):=fun p hp=>List.getElem_map (nW f)
 rcases h with⟨ha,h⟩ | ⟨ha,_,h⟩ | ⟨ha,_,h⟩ | ⟨ha,_,h⟩ | ⟨ha,_,h⟩
 ·rcases k with⟨_,k⟩ | ⟨e,_⟩ | ⟨e,_⟩ | ⟨e,_⟩ | ⟨e,_⟩
  ·obtain⟨p,hp,h1,rfl⟩:=h
   obtain⟨q,hq,k1,rfl⟩:=k
   obtain rfl:p=q:=qQ (f:=Ent.nm) ho hp (fl▸hq) (by rw[h1,<-k1]; exact fg q hq)
   show aK.mk x.name ((jJ f x.files).eraseIdx p) _=aK.mk x.name (jJ f (x.files.eraseIdx p)) _
   rw[aB0]
   rfl
  all_goals omega
 ·rcases k with⟨e,_⟩ | ⟨_,_,k⟩ | ⟨e,_⟩ | ⟨e,_⟩ | ⟨e,_⟩
  ·omega
  ·obtain⟨p,q,hp,h1,h2,h3,rfl⟩:=h
   obtain⟨p', q', hp', k1,k2,k3,rfl⟩:=k
   obtain rfl:p=p':=qQ (f:=Ent.nm) ho hp (fl▸hp') (by rw[h1,<-k1]; exact fg p' hp')
   have hge:(fA f x).files[p]=bR8 f x.files[p]:=vM f x.files p hp'
   have hm:(fA f x).files.eraseIdx p=jJ f (x.files.eraseIdx p):=(aB0 f x.files p).symm
   rw[hm] at k2 k3
   have h2':∀ e∈(jJ f (x.files.eraseIdx p)).take q,e.nm<a.to.data.toList:=fun e he=>by
    unfold jJ at he
    rw[<-List.map_take] at he
    obtain⟨e0,h0,rfl⟩:=List.mem_map.1 he
    exact h2 e0 h0
   have h3':∀ e∈(jJ f (x.files.eraseIdx p)).drop q,a.to.data.toList<e.nm:=fun e he=>by
    unfold jJ at he
    rw[<-List.map_drop] at he
    obtain⟨e0,h0,rfl⟩:=List.mem_map.1 he
    exact h3 e0 h0
   obtain⟨u1,u2⟩:=vN (f:=Ent.nm) h2' h3' k2 k3
   rw[hm,hge,<-u1,<-u2]
   show aK.mk x.name _ _=aK.mk x.name (jJ f _) _
   rw[bB5]
   rfl
  all_goals omega
 ·rcases k with⟨e,_⟩ | ⟨e,_⟩ | ⟨_,_,k⟩ | ⟨e,_⟩ | ⟨e,_⟩
  ·omega
  ·omega
  ·obtain⟨q,h2,h3,rfl⟩:=h
   obtain⟨q', k2,k3,rfl⟩:=k
   have h2':∀ e∈(x.snaps.map (nW f)).take q,e.nm<a.to.data.toList:=fun e he=>by
    rw[<-List.map_take] at he
    obtain⟨e0,h0,rfl⟩:=List.mem_map.1 he
    exact h2 e0 h0
   have h3':∀ e∈(x.snaps.map (nW f)).drop q,a.to.data.toList<e.nm:=fun e he=>by
    rw[<-List.map_drop] at he
    obtain⟨e0,h0,rfl⟩:=List.mem_map.1 he
    exact h3 e0 h0
   obtain⟨u1,u2⟩:=vN (f:=bD.nm) h2' h3' k2 k3
   show aK.mk x.name _ ((x.snaps.map (nW f)).take q'++_::(x.snaps.map (nW f)).drop q')=aK.mk x.name _ ((x.snaps.take q++_::x.snaps.drop q).map (nW f))
   rw[cB5,<-u1,<-u2]
   rfl
  all_goals omega
 ·rcases k with⟨e,_⟩ | ⟨e,_⟩ | ⟨e,_⟩ | ⟨_,_,k⟩ | ⟨e,_⟩
  ·omega
  ·omega
  ·omega
  ·obtain⟨q,hq,h1,rfl⟩:=h
   obtain⟨q', hq', k1,rfl⟩:=k
   obtain rfl:q=q':=qQ (f:=bD.nm) hoS hq (sl▸hq') (by rw[h1,<-k1,sg q' hq']; rfl)
   show aK.mk x.name _ ((x.snaps.map (nW f)).eraseIdx q)=aK.mk x.name _ ((x.snaps.eraseIdx q).map (nW f))
   rw[bI2]
   rfl
  ·omega
 ·rcases k with⟨e,_⟩ | ⟨e,_⟩ | ⟨e,_⟩ | ⟨e,_⟩ | ⟨_,_,k⟩
  ·omega
  ·omega
  ·omega
  ·omega
  ·obtain⟨q,hq,h1,rfl⟩:=h
   obtain⟨q', hq', k1,rfl⟩:=k
   obtain rfl:q=q':=qQ (f:=bD.nm) hoS hq (sl▸hq') (by rw[h1,<-k1,sg q' hq']; rfl)
   show aK.mk x.name ((fA f x).snaps[q]).files _=aK.mk x.name (jJ f x.snaps[q].files) _
   rw[sg q hq']
   rfl
theorem aI6 {n:Nat}{B C D E:Nat->Blk}{key cc made made':Int}{x y y':aK}{nm:ByteArray}{N N':Int->Int->List Int}{f:Int->Int}{R:List Int}(hB:Right n B)(hD:Right n D)(hcc:0<=cc/\cc<=999936)(rB:bE n B R)(rD:bE n D (R.map f))(hI:Iso f B R D)(hx:Shape x)(hR:∀ r∈aG x,r∈R)
 (hN:∀ root size,root=0\/Clo B R root->N' (f root) size=N root size) (h:Wrote n B C key x nm N cc made y) (k:Wrote n D E key (fA f x) nm N' cc made' y'):
 ∃ g,Iso g C (made::R) E/\g made=made'/\(∀ r,r=0\/Clo B R r->g r=f r)/\y'=fA g y:=by
 obtain⟨root,size,_,hT,ht⟩:=h
 obtain⟨root', size', _,kT,kt⟩:=k
 have hfx:∀ r∈aG x,r=0\/Clo B R r:=fun r hr=>bB3 (hR r hr)
 obtain⟨e1,e2,_⟩:=wF hx.order ht kt hI.zero (fun r _=>rfl)
 have hroot:root=0\/Clo B R root:=by
  obtain⟨p,ht | ht⟩:=ht
  ·obtain⟨hp,_,e,_⟩:=ht
   rw[e]
   exact hfx _ (List.mem_append_left _ (bV.2 ⟨_,List.getElem_mem hp,rfl⟩))
  ·exact .inl ht.2.1
 subst e1 e2
 have hl:aH D 3 (f root)=aH B 3 root:=funext fun i=>hI.leaf 3 root hroot i
 have w2:=kT.way
 rw[hl,hN root size' hroot] at w2
 obtain⟨g,g1,g2,g3⟩:=oI rfl hB hD hcc rB rD hI hroot 64 hT.way w2
 refine⟨g,g1,g2,g3,?_⟩
 exact(wF hx.order ht kt hI.zero (fun r hr=>g3 r (hfx r hr))).2.2 g2 (by rw[hN root size' hroot])
end Go.Proofs.YtjafgnohlkkopaaGreatDoor
