import Derived.Test.YtjafgnohlkkopaaGreatDoorPart07
import Derived.Laws.CopyOwn
import Derived.Test.YtjafgnohlkkopaaGreatDoorPart01
import Derived.Test.YtjafgnohlkkopaaGreatDoorPart02
import Derived.Laws.OwnMore
set_option linter.unusedVariables false
set_option maxHeartbeats 8000000
set_option maxRecDepth 100000
namespace Go.Proofs.YtjafgnohlkkopaaGreatDoor
def Bytes (l:List Int):Prop:=∀ x∈l,0<=x/\x<256
theorem oQ {l:List Int}(hl:Bytes l)(i:Nat):0<=l.getD i 0/\l.getD i 0<256:=by
 by_cases h:i<l.length
 ·have e:l.getD i 0=l[i]:=by simp[List.getD,h]
  rw[e]; exact hl _ (List.getElem_mem h)
 ·have e:l.getD i 0=0:=by simp[List.getD,List.getElem?_eq_none (by omega:l.length<=i)]
  rw[e]; omega
theorem bX1 (a b:Int)(h:0<=a/\a<256):bE0 (bK6 a b) b=a:=by unfold bE0 bK6; omega
theorem bG5 (key at':Int)(l:List Int)(hl:Bytes l):uV key at' (aT2 key at' l)=l:=by
 apply eT
 ·rw[jB,iZ]
 ·intro i hi
  rw[jB,iZ] at hi
  unfold uV
  rw[iZ,aA9 _ _ _ _ _ hi]
  unfold bG8 aT2
  rw[aA9 _ _ _ _ _ hi]
  unfold bG8
  exact bX1 _ _ (oQ hl i)
theorem aU6 (key at':Int)(l:List Int):Bytes (uV key at' l):=aE9 bE0 bL8 _ _ _
def fZ (i:Nat):Int:=(i:Int)
theorem aD9 {key:Int}(hk:0<=key/\key<=1000){i:Nat}(hi:i<64):aI1 key (fZ i)=true:=decide_eq_true (by unfold fZ; omega)
def plain (key:Int)(i:Nat)(l:List Int):List Int:=if l=[] then [0,0,0,0] else uV key (fZ i) l
def eG (key:Int)(i:Nat)(p:List Int):List Int:=if p=[0,0,0,0] then [] else aT2 key (fZ i) p
theorem xB (key:Int)(i:Nat):plain key i []=[0,0,0,0]:=by simp[plain]
theorem aE3 {key:Int}{i:Nat}{p:List Int}(h4:p.length=4)(hb:Bytes p):plain key i (eG key i p)=p:=by
 unfold eG plain
 by_cases e:p=[0,0,0,0]
 ·simp[e]
 ·rw[if_neg e,if_neg (by intro h; have h5:=congrArg List.length h; rw[iZ,h4] at h5; cases h5),bG5 _ _ _ hb]
theorem bH7 {key:Int}{i:Nat}{p:List Int}(h4:p.length=4):eG key i p=[]\/(eG key i p).length=4:=by
 unfold eG
 split
 ·exact .inl rfl
 ·exact .inr (by rw[iZ,h4])
theorem aL2 {key:Int}{i:Nat}{l:List Int}(h:l=[]\/l.length=4):(plain key i l).length=4:=by
 unfold plain
 split
 ·rfl
 ·rename_i e
  rw[jB]; exact h.resolve_left e
theorem aU5 (key:Int)(i:Nat)(l:List Int):Bytes (plain key i l):=by
 unfold plain
 split
 ·intro x hx; simp at hx; omega
 ·exact aU6 _ _ _
theorem aN9 {l:List Int}(h4:l.length=4)(h:∀ x∈l,x=0):l=[0,0,0,0]:=by
 match l,h4 with
 | [a,b,c,d],_=>
   have h1:=h a (by simp); have h2:=h b (by simp); have h3:=h c (by simp); have h4:=h d (by simp)
   subst h1 h2 h3 h4; rfl
def aT (key:Int)(L:Nat->List Int):List Int:=(List.range 256).map fun k=>(plain key (k / 4) (L (k / 4))).getD (k%4) 0
theorem bY (key:Int)(L:Nat->List Int):(aT key L).length=256:=by simp[aT]
theorem aC3 (key:Int)(L:Nat->List Int)(k:Nat)(hk:k<256):(aT key L).getD k 0=(plain key (k / 4) (L (k / 4))).getD (k%4) 0:=by simp[aT,List.getD,hk]
theorem iW (key:Int)(L:Nat->List Int):Bytes (aT key L):=by
 intro x hx
 obtain⟨k,_,rfl⟩:=List.mem_map.1 hx
 exact oQ (aU5 _ _ _) _
def chunk (l:List Int)(i:Nat):List Int:=(l.drop (4*i)).take 4
theorem lL {l:List Int}(h:l.length=256){i:Nat}(hi:i<64):(chunk l i).length=4:=by simp[chunk,h]; omega
theorem tX (l:List Int)(i j:Nat)(hj:j<4):(chunk l i).getD j 0=l.getD (4*i+j) 0:=by
 simp[chunk,List.getD,hj]
theorem aX5 {l:List Int}(h:Bytes l)(i:Nat):Bytes (chunk l i):=fun x hx=>h x (List.mem_of_mem_drop (List.mem_of_mem_take hx))
theorem yL (key:Int)(L:Nat->List Int){i:Nat}(hi:i<64)(hL:L i=[]\/(L i).length=4):chunk (aT key L) i=plain key i (L i):=by
 have h4:=aL2 (key:=key) (i:=i) hL
 apply eT
 ·rw[lL (bY _ _) hi,h4]
 ·intro j hj
  rw[lL (bY _ _) hi] at hj
  rw[tX _ _ _ hj,aC3 _ _ _ (by omega),show (4*i+j) / 4=i by omega,show (4*i+j)%4=j by omega]
theorem bC0 {key:Int}{L:Nat->List Int}{W:List Int}(hW:W.length=256)(h:∀ i,i<64->plain key i (L i)=chunk W i):aT key L=W:=by
 apply eT
 ·rw[bY,hW]
 ·intro k hk
  rw[bY] at hk
  rw[aC3 _ _ _ hk,h _ (by omega),tX _ _ _ (by omega),show 4*(k / 4)+k%4=k by omega]
theorem yH {key:Int}{L M:Nat->List Int}(h:∀ i,i<64->L i=M i):aT key L=aT key M:=by
 unfold aT
 apply List.map_congr_left
 intro k hk
 rw[h _ (by have:=List.mem_range.1 hk; omega)]
def zeros (m:Nat):List Int:=List.replicate m 0
theorem zeros_length (m:Nat):(zeros m).length=m:=List.length_replicate
theorem lX (m k:Nat):(zeros m).getD k 0=0:=by
 unfold zeros
 rw[List.getD_eq_getElem?_getD,List.getElem?_replicate]
 split<;>rfl
structure bU (n:Nat)(B:Nat->Blk)(key root size:Int):Prop where
 kb:0<=key/\key<=1000
 sb:0<=size/\size<=256
 right:Right n B
 rooted:Root n B 3 root
 form:∀ i,i<64->aH B 3 root i=[]\/plain key i (aH B 3 root i)≠[0,0,0,0]
 behind:∀ k:Nat,size<=k->k<256->(aT key (aH B 3 root)).getD k 0=0
theorem bU.checked {n:Nat}{B:Nat->Blk}{key root size:Int}(h:bU n B key root size):Checked n B root 3 0:=⟨h.right,3,by omega,rfl,h.rooted,by omega,by have:=nH 3; omega⟩
theorem bU.leaf04 {n:Nat}{B:Nat->Blk}{key root size:Int}(h:bU n B key root size)(i:Nat)(hi:i<64):aH B 3 root i=[]\/(aH B 3 root i).length=4:=xX h.right 3 root h.rooted i hi
theorem bU.ext {n:Nat}{B C:Nat->Blk}{key root size:Int}(h:bU n B key root size)(hx:Ext n B C)(hC:Right n C):bU n C key root size/\aT key (aH C 3 root)=aT key (aH B 3 root):=by
 have hl:∀ i,i<64->aH C 3 root i=aH B 3 root i:=fun i hi=>hx.leaf h.right 3 root h.rooted i hi
 have e:aT key (aH C 3 root)=aT key (aH B 3 root):=yH hl
 exact⟨⟨h.kb,h.sb,hC,(hx.root h.rooted).1,fun i hi=>by rw[hl i hi]; exact h.form i hi,by rw[e]; exact h.behind⟩,e⟩
theorem aW2 {n:Nat}{B:Nat->Blk}{key size:Int}(hR:Right n B)(hk:0<=key/\key<=1000)(hs:0<=size/\size<=256):bU n B key 0 size/\aT key (aH B 3 0)=zeros 256:=by
 have hl:∀ i,i<64->aH B 3 0 i=[]:=fun i hi=>iV B 3 i hi
 have e:aT key (aH B 3 0)=zeros 256:=by
  apply bC0 (zeros_length _)
  intro i hi
  rw[hl i hi,xB]
  apply eT
  ·rw[lL (zeros_length _) hi]; rfl
  ·intro j hj
   simp at hj
   rw[tX _ _ _ (by omega)]
   rw[lX]
   match j,hj with
   | 0,_=>rfl
   | 1,_=>rfl
   | 2,_=>rfl
   | 3,_=>rfl
 refine⟨⟨hk,hs,hR,.inl rfl,fun i hi=>.inl (hl i hi),fun k _ hk=>?_⟩,e⟩
 rw[e,lX]
def dE (N:List Int):List Int:=N++zeros (256-N.length)
theorem nQ {N:List Int}(h:N.length<=256):(dE N).length=256:=by unfold dE; rw[List.length_append,zeros_length]; omega
theorem bG3 (N:List Int)(k:Nat):(dE N).getD k 0=N.getD k 0:=by
 unfold dE
 by_cases h:k<N.length
 ·rw[List.getD_eq_getElem?_getD,List.getElem?_append_left h,List.getD_eq_getElem?_getD]
 ·have h1:=lX (256-N.length) (k-N.length)
  rw[List.getD_eq_getElem?_getD] at h1
  rw[List.getD_eq_getElem?_getD,List.getElem?_append_right (by omega),h1,List.getD_eq_getElem?_getD,List.getElem?_eq_none (by omega)]
  rfl
theorem xC {N:List Int}(h:Bytes N):Bytes (dE N):=by
 intro x hx
 rcases List.mem_append.1 hx with h' | h'
 ·exact h x h'
 ·have:=List.eq_of_mem_replicate (show x∈List.replicate _ 0 from h'); omega
theorem bE2 {N:List Int}(h:N.length<=256):splice ((zeros 256).map (Value.int .u8)) 0 (N.map (Value.int .u8))=(dE N).map (Value.int .u8):=by
 have e:(zeros 256).drop N.length=zeros (256-N.length):=by unfold zeros; rw[List.drop_replicate]
 unfold splice dE
 rw[List.length_map,Nat.zero_add,<-List.map_drop,e,List.map_append]
 rfl
def chg (O W:List Int):Nat->Nat
 | 0=>0
 | j+1=>chg O W j+if chunk O j=chunk W j then 0 else 1
theorem cD1 (O W:List Int){i j:Nat}(h:i<=j):chg O W i<=chg O W j:=by
 induction j with
 | zero=>obtain rfl:i=0:=by omega
         exact Nat.le_refl _
 | succ j ih=>
   by_cases e:i=j+1
   ·subst e; exact Nat.le_refl _
   ·have:=ih (by omega); simp only[chg]; omega
theorem cG6 (O W:List Int)(j:Nat):chg O W j<=j:=by
 induction j with
 | zero=>exact Nat.le_refl _
 | succ j ih=>simp only[chg]; split<;>omega
def nC (key:Int)(L:Nat->List Int)(O W:List Int)(i:Nat):List Int:=if chunk O i=chunk W i then L i else eG key i (chunk W i)
structure WSt (n:Nat)(B C:Nat->Blk)(a cc:Int):Prop where
 right:Right n C
 ext:Ext n B C
 root:Root n C 3 a
 few:∀ k,k<n->(C k).refs<=cc+48
theorem Turned.wst {n:Nat}{B C:Nat->Blk}{a cc:Int}(h:Turned n B C a (cc+48)):WSt n B C a cc:=⟨h.right,h.ext,h.root,h.few⟩
inductive bV7 (n:Nat)(B:Nat->Blk)(key:Int)(O W:List Int)(cc:Int):Int->Nat->(Nat->Blk)->Int->Prop
 | zero:bV7 n B key O W cc 0 0 B 0
 | kept (m:Nat):bV7 n B key O W cc ((m:Int)+1) 0 (lU B ((m:Int)+1)) ((m:Int)+1)
 | same {root:Int} {j:Nat} {C:Nat->Blk} {a:Int}:bV7 n B key O W cc root j C a->chunk O j=chunk W j->bV7 n B key O W cc root (j+1) C a
 | put0 {root:Int} {j:Nat} {C D:Nat->Blk} {a' c':Int}:bV7 n B key O W cc root j C 0->chunk O j≠chunk W j->j<64->WSt n B C 0 cc->kU n C 3 0 j (eG key j (chunk W j)) c' D a'->bV7 n B key O W cc root (j+1) D a'
 | put {root:Int} {j m:Nat} {C D E:Nat->Blk} {a' c':Int}:bV7 n B key O W cc root j C ((m:Int)+1)->chunk O j≠chunk W j->j<64->WSt n B C ((m:Int)+1) cc->kU n C 3 ((m:Int)+1) j (eG key j (chunk W j)) c' D a'->WSt n B E a' cc->iQ n D E [(m:Int)+1]->bV7 n B key O W cc root (j+1) E a'
structure eU (n:Nat)(B C:Nat->Blk)(key root:Int)(O W:List Int)(j:Nat)(a:Int)(cc:Int):Prop where
 turned:Turned n B C a (cc+48)
 base:∀ k,k<n->(B k).refs<=cc
 used:cO C n<=cO B n+4*chg O W j
 leaf:∀ i,i<64->aH C 3 a i=if i<j then nC key (aH B 3 root) O W i else aH B 3 root i
 still:chg O W j=0->a=root
 fro:∀ x,Clo C [a] x->(B (x-1).toNat).refs=0\/Clo B [root] x
 way:bV7 n B key O W cc root j C a
theorem cC9 {B:Nat->Blk}{i:Nat}{l:List Int}{x:Int}(h:Clo (lU B ((i:Int)+1)) l x):Clo B l x:=
 h (Clo B l) (fun r hr h0=>Clo.root hr h0) fun y hy k hk h0=>hy.kid (by
  by_cases e:(y-1).toNat=i
  ·rw[e] at hk ⊢
   rw[gX] at hk
   exact hk
  ·rw[eO e] at hk
   exact hk) h0
theorem bC8 {n:Nat}{D E:Nat->Blk}{T:List Int}{a x:Int}(hF:iQ n D E T)(hE:Right n E)(ha:a=0\/There n E a)(h:Clo E [a] x):Clo D [a] x:=
 (tV hE hF (fun r hr=>by rw[List.mem_singleton.1 hr]; exact ha) x).2 h
theorem eU.fro_put {n:Nat}{B C D:Nat->Blk}{key root a a' cc c':Int}{O W:List Int}{j i:Nat}{bs:List Int}(h:eU n B C key root O W j a cc)(hp:kU n C 3 a i bs c' D a'){x:Int}(hx:Clo D [a'] x):(B (x-1).toNat).refs=0\/Clo B [root] x:=by
 rcases hp.from' h.turned.right h.turned.root hx with h1 | h1
 ·by_cases e:(B (x-1).toNat).refs=0
  ·exact .inl e
  ·by_cases hxn:(x-1).toNat<n
   ·exact absurd h1 (h.turned.ext.keep _ hxn e).1
   ·have ht:=hx.there hp.grew.right (fun r hr=>by rw[List.mem_singleton.1 hr]; exact hp.grew.root.imp id fun h=>h.1)
    exact absurd (ix ht.1 ht.2.1).1 hxn
 ·exact h.fro x h1
theorem aR8 {n:Nat}{B:Nat->Blk}{key cc:Int}{O W:List Int}(hR:Right n B)(hc:∀ k,k<n->(B k).refs<=cc):eU n B B key 0 O W 0 0 cc:=
 ⟨aR6 hR (fun k hk=>by have:=hc k hk; omega),hc,by simp[chg],fun i _=>by rw[if_neg (by omega)],fun _=>rfl,fun x h=>.inr h,.zero⟩
theorem aR9 {n:Nat}{B:Nat->Blk}{key cc:Int}{O W:List Int}{m:Nat}(hR:Right n B)(hr:Root n B 3 ((m:Int)+1))(hcm:cc<=999999)(hc:∀ k,k<n->(B k).refs<=cc):eU n B (lU B ((m:Int)+1)) key ((m:Int)+1) O W 0 ((m:Int)+1) cc:=by
 have ht:=aR7 hR hr hcm hc
 refine⟨⟨ht.right,ht.ext,ht.root,ht.out,fun k hk=>by have:=ht.few k hk; omega,ht.newk⟩,hc,?_,fun i hi=>?_,fun _=>rfl,fun x h=>.inr (cC9 h),.kept m⟩
 ·have h0:(B m).refs≠0:=by
   rcases hr with h | ⟨⟨_,_,h⟩,_⟩
   ·omega
   ·rwa [show ((m:Int)+1-1).toNat=m by omega] at h
  have:=bL1 (i:=m) hR h0
  simp[chg]; exact this
 ·rw[if_neg (by omega)]
  exact ht.ext.leaf hR 3 _ hr i hi
theorem eU.same {n:Nat}{B C:Nat->Blk}{key root a cc:Int}{O W:List Int}{j:Nat}(h:eU n B C key root O W j a cc)(hj:j<64)(e:chunk O j=chunk W j):eU n B C key root O W (j+1) a cc:=by
 have ec:chg O W (j+1)=chg O W j:=by simp[chg,e]
 refine⟨h.turned,h.base,by rw[ec]; exact h.used,fun i hi=>?_,by rw[ec]; exact h.still,h.fro,.same h.way e⟩
 rw[h.leaf i hi]
 by_cases h1:i<j
 ·rw[if_pos h1,if_pos (by omega)]
 ·by_cases h2:i=j
  ·subst h2
   rw[if_neg h1,if_pos (by omega)]
   simp[nC,e]
  ·rw[if_neg h1,if_neg (by omega)]
theorem eU.step0 {n:Nat}{B C D:Nat->Blk}{key root a' cc c':Int}{O W:List Int}{j:Nat}(hB:Right n B)(h:eU n B C key root O W j 0 cc)(h1:64<=cc)(hj:j<64)(e:chunk O j≠chunk W j)(hp:kU n C 3 0 j (eG key j (chunk W j)) c' D a'):eU n B D key root O W (j+1) a' cc:=by
 have ec:chg O W (j+1)=chg O W j+1:=by simp[chg,e]
 have ht:=h.turned.put0 hB h1 h.base hp
 refine⟨ht,h.base,?_,fun i hi=>?_,fun h0=>by omega,fun x hx=>h.fro_put hp hx,.put0 h.way e hj h.turned.wst hp⟩
 ·rw[ec]; have:=hp.grew.used; have:=h.used; omega
 ·rw[hp.leaf i hi,h.leaf i hi]
  by_cases h2:i=j
  ·subst h2; rw[if_pos rfl,if_pos (by omega)]; simp[nC,e]
  ·rw[if_neg h2]
   by_cases h3:i<j
   ·rw[if_pos h3,if_pos (by omega)]
   ·rw[if_neg h3,if_neg (by omega)]
theorem eU.step {n:Nat}{B C D E:Nat->Blk}{key root a' cc c':Int}{O W:List Int}{j m:Nat}(hB:Right n B)(h:eU n B C key root O W j ((m:Int)+1) cc)(h1:64<=cc)(hj:j<64)(e:chunk O j≠chunk W j)(hp:kU n C 3 ((m:Int)+1) j (eG key j (chunk W j)) c' D a')(hE:Right n E)(hF:iQ n D E [(m:Int)+1]):eU n B E key root O W (j+1) a' cc:=by
 have ec:chg O W (j+1)=chg O W j+1:=by simp[chg,e]
 obtain⟨ht,hl,hu⟩:=h.turned.drop hB h1 h.base hp hE hF
 refine⟨ht,h.base,?_,fun i hi=>?_,fun h0=>by omega,fun x hx=>h.fro_put hp (bC8 hF hE (ht.root.imp id fun h=>h.1) hx),.put h.way e hj h.turned.wst hp ht.wst hF⟩
 ·rw[ec]; have:=hp.grew.used; have:=h.used; omega
 ·rw[hl i hi,hp.leaf i hi,h.leaf i hi]
  by_cases h2:i=j
  ·subst h2; rw[if_pos rfl,if_pos (by omega)]; simp[nC,e]
  ·rw[if_neg h2]
   by_cases h3:i<j
   ·rw[if_pos h3,if_pos (by omega)]
   ·rw[if_neg h3,if_neg (by omega)]
theorem eU.file {n:Nat}{B C:Nat->Blk}{key root a cc size:Int}{N:List Int}(hok:bU n B key root size)(hN:N.length<=256)(hb:Bytes N)(h:eU n B C key root (aT key (aH B 3 root)) (dE N) 64 a cc):
 bU n C key a (N.length:Int)/\aT key (aH C 3 a)=dE N/\(∀ i,i<64->aH C 3 a i=nC key (aH B 3 root) (aT key (aH B 3 root)) (dE N) i):=by
 have hl:∀ i,i<64->aH C 3 a i=nC key (aH B 3 root) (aT key (aH B 3 root)) (dE N) i:=fun i hi=>by rw[h.leaf i hi,if_pos hi]
 have hpl:∀ i,i<64->plain key i (aH C 3 a i)=chunk (dE N) i:=fun i hi=>by
  rw[hl i hi]
  unfold nC
  by_cases e:chunk (aT key (aH B 3 root)) i=chunk (dE N) i
  ·rw[if_pos e,<-e,yL _ _ hi (hok.leaf04 i hi)]
  ·rw[if_neg e,aE3 (lL (nQ hN) hi) (aX5 (xC hb) i)]
 have hf:aT key (aH C 3 a)=dE N:=bC0 (nQ hN) hpl
 refine⟨⟨hok.kb,by omega,h.turned.right,h.turned.root,fun i hi=>?_,fun k h1 h2=>?_⟩,hf,hl⟩
 ·by_cases e:chunk (aT key (aH B 3 root)) i=chunk (dE N) i
  ·have e2:aH C 3 a i=aH B 3 root i:=by rw[hl i hi]; simp[nC,e]
   rw[e2]; exact hok.form i hi
  ·by_cases e0:chunk (dE N) i=[0,0,0,0]
   ·left; rw[hl i hi]; simp only[nC]; rw[if_neg e]; simp[eG,e0]
   ·right; rw[hpl i hi]; exact e0
 ·rw[hf,bG3]
  simp[List.getD,List.getElem?_eq_none (by omega:N.length<=k)]
def gU (b:List Int)(at':Nat)(more:List Int):List Int:=if more=[] then b else splice (splice (zeros (max b.length (at'+more.length))) 0 b) at' more
theorem nS (b:List Int)(at':Nat)(more:List Int):(gU b at' more).length=if more=[] then b.length else max b.length (at'+more.length):=by
 unfold gU
 split
 ·rfl
 ·have h1:(splice (zeros (max b.length (at'+more.length))) 0 b).length=max b.length (at'+more.length):=by
   rw[length_splice _ _ _ (by rw[zeros_length]; omega),zeros_length]
  rw[length_splice _ _ _ (by rw[h1]; omega),h1]
theorem qD (L:List Int)(off:Nat)(cs:List Int)(h:off+cs.length<=L.length)(k:Nat):(splice L off cs).getD k 0=if off<=k/\k<off+cs.length then cs.getD (k-off) 0 else L.getD k 0:=by
 unfold splice
 have ht:(L.take off).length=off:=by simp; omega
 by_cases h1:k<off
 ·rw[if_neg (by omega)]
  simp[List.getD,List.getElem?_append_left (by omega:k<(L.take off).length),h1]
 ·by_cases h2:k<off+cs.length
  ·rw[if_pos ⟨by omega,h2⟩]
   simp[List.getD,List.getElem?_append_right (by omega:(L.take off).length<=k),ht,List.getElem?_append_left (by omega:k-off<cs.length)]
  ·rw[if_neg (by omega)]
   simp only[List.getD,List.getElem?_append_right (by omega:(L.take off).length<=k),ht,List.getElem?_append_right (by omega:cs.length<=k-off),List.getElem?_drop]
   rw[show off+cs.length+(k-off-cs.length)=k by omega]
theorem bG4 (b:List Int)(at':Nat)(more:List Int)(k:Nat):(gU b at' more).getD k 0=if at'<=k/\k<at'+more.length then more.getD (k-at') 0 else b.getD k 0:=by
 unfold gU
 split
 ·rename_i e
  subst e
  rw[if_neg (by simp)]
 ·have h0:(splice (zeros (max b.length (at'+more.length))) 0 b).length=max b.length (at'+more.length):=by
   rw[length_splice _ _ _ (by rw[zeros_length]; omega),zeros_length]
  rw[qD _ _ _ (by rw[h0]; omega),qD _ _ _ (by rw[zeros_length]; omega),lX]
  by_cases h1:at'<=k/\k<at'+more.length
  ·rw[if_pos h1,if_pos h1]
  ·rw[if_neg h1,if_neg h1]
   by_cases h2:k<b.length
   ·rw[if_pos (by omega)]; simp
   ·rw[if_neg (by omega)]
    simp[List.getD,List.getElem?_eq_none (by omega:b.length<=k)]
theorem xE {b:List Int}{at':Nat}{more:List Int}(hb:Bytes b)(hm:Bytes more):Bytes (gU b at' more):=by
 intro x hx
 obtain⟨k,hk,rfl⟩:=List.mem_iff_getElem.1 hx
 have e:(gU b at' more).getD k 0=(gU b at' more)[k]:=by simp[List.getD,hk]
 rw[<-e,bG4]
 split
 ·exact oQ hm _
 ·exact oQ hb _
end Go.Proofs.YtjafgnohlkkopaaGreatDoor
namespace Go.Proofs.YtjafgnohlkkopaaGreatDoor
def gM (n:Nat)(B C:Nat->Blk)(l:List Int):Prop:=
 ∀ x,Clo B l x->There n C x/\(C (x-1).toNat).level=(B (x-1).toNat).level/\(C (x-1).toNat).kids=(B (x-1).toNat).kids/\(C (x-1).toNat).bytes=(B (x-1).toNat).bytes
theorem bE1 {n:Nat}{B:Nat->Blk}{l:List Int}(hB:Right n B)(hl:bE n B l):gM n B B l:=fun x hx=>⟨hx.there hB hl,rfl,rfl,rfl⟩
theorem qV {n:Nat}{B C:Nat->Blk}{l:List Int}(hB:Right n B)(hl:bE n B l)(hx:Ext n B C):gM n B C l:=fun x hc=>by
 obtain⟨h1,h2,h3⟩:=hc.there hB hl
 obtain⟨g1,g2,g3,g4⟩:=hx.keep _ (ix h1 h2).1 h3
 exact⟨⟨h1,h2,g1⟩,g2,g3,g4⟩
theorem oJ {n:Nat}{B C:Nat->Blk}{l T:List Int}(hC:Right n C)(hF:iQ n B C T)(hl:bE n C l):gM n B C l:=fun x hc=>by
 have ht:=((tV hC hF hl x).1 hc).there hC hl
 exact⟨ht,eB hF ht⟩
theorem gM.clo {n:Nat}{B C:Nat->Blk}{l:List Int}(h:gM n B C l){x:Int}(hx:Clo B l x):Clo C l x:=by
 refine(hx (fun y=>Clo B l y/\Clo C l y) (fun r hr h0=>⟨Clo.root hr h0,Clo.root hr h0⟩) ?_).2
 rintro y ⟨h1,h2⟩ k hk h0
 exact⟨h1.kid hk h0,h2.kid (by rw[(h y h1).2.2.1]; exact hk) h0⟩
theorem gM.trans {n:Nat}{B C D:Nat->Blk}{l:List Int}(h:gM n B C l)(k:gM n C D l):gM n B D l:=fun x hx=>by
 obtain⟨_,h1,h2,h3⟩:=h x hx
 obtain⟨k0,k1,k2,k3⟩:=k x (h.clo hx)
 exact⟨k0,k1.trans h1,k2.trans h2,k3.trans h3⟩
theorem gM.mono {n:Nat}{B C:Nat->Blk}{l m:List Int}(h:gM n B C l)(hm:∀ x∈m,x∈l):gM n B C m:=fun x hx=>h x (hx.mono fun r hr h0=>Clo.root (hm r hr) h0)
theorem gM.leaf {n:Nat}{B C:Nat->Blk}{l:List Int}(hB:Right n B)(hC:Right n C)(h:gM n B C l):∀ (v:Nat) (a:Int),Root n B v a->(a=0\/Clo B l a)->Root n C v a/\∀ i,i<pw v->aH C v a i=aH B v a i
 | v,a,hr,.inl h0=>by
   subst h0
   exact⟨.inl rfl,fun i hi=>by rw[iV _ _ _ hi,iV _ _ _ hi]⟩
 | 0,a,hr,.inr ht=>by
   obtain⟨c0,c1,c2,c3⟩:=h a ht
   have h1:=c0.1
   refine⟨?_,fun i _=>?_⟩
   ·rcases hr with h | ⟨_,h⟩
    ·exact .inl h
    ·exact .inr ⟨c0,c1.trans h⟩
   ·simp only[aH,bytesL]
    rw[if_neg (by omega),if_neg (by omega),c3]
 | v+1,a,hr,.inr ht=>by
   obtain⟨c0,c1,c2,c3⟩:=h a ht
   have h1:=c0.1
   have hrE:Root n C (v+1) a:=by
    rcases hr with h | ⟨_,h⟩
    ·exact .inl h
    ·exact .inr ⟨c0,c1.trans h⟩
   have hk:kidsL C a=kidsL B a:=by unfold kidsL; rw[if_neg (by omega),if_neg (by omega),c2]
   refine⟨hrE,fun i hi=>?_⟩
   have hp:=nH v
   have hd:i / pw v<4:=by simp only[pw] at hi; exact Nat.div_lt_of_lt_mul (by rw[Nat.mul_comm]; exact hi)
   simp only[aH]
   rw[hk]
   refine(gM.leaf hB hC h v _ (hr.kidAt hB hd) ?_).2 _ (Nat.mod_lt _ hp)
   by_cases h0:(kidsL B a).getD (i / pw v) 0=0
   ·exact .inl h0
   ·refine .inr (ht.kid ?_ h0)
    have hlen:=hr.len hB
    have hm:(kidsL B a).getD (i / pw v) 0∈kidsL B a:=by
     rw[List.getD_eq_getElem?_getD,List.getElem?_eq_getElem (by omega)]
     exact List.getElem_mem _
    have hk2:kidsL B a=(B (a-1).toNat).kids:=by unfold kidsL; rw[if_neg (by omega)]
    rw[hk2] at hm ⊢
    exact hm
theorem bU.stays {n:Nat}{B C:Nat->Blk}{key root size:Int}{l:List Int}(h:bU n B key root size)(hC:Right n C)(hs:gM n B C l)(hr:root∈l):bU n C key root size/\aT key (aH C 3 root)=aT key (aH B 3 root):=by
 have hor:root=0\/Clo B l root:=by
  by_cases h0:root=0
  ·exact .inl h0
  ·exact .inr (Clo.root hr h0)
 obtain⟨h1,hl⟩:=hs.leaf h.right hC 3 root h.rooted hor
 have e:aT key (aH C 3 root)=aT key (aH B 3 root):=yH hl
 exact⟨⟨h.kb,h.sb,hC,h1,fun i hi=>by rw[hl i hi]; exact h.form i hi,by rw[e]; exact h.behind⟩,e⟩
structure Grow (n:Nat)(B C:Nat->Blk)(K:List Int):Prop where
 right:Right n C
 ext:Ext n B C
 out:∀ k,k<n->outs n C k=outs n B k+(K.count ((k:Int)+1):Int)
theorem Turned.grow {n:Nat}{B C:Nat->Blk}{a c:Int}(h:Turned n B C a c):Grow n B C [a]:=⟨h.right,h.ext,fun k hk=>by
 rw[h.out k hk]
 by_cases e:(k:Int)+1=a
 ·subst e; rw[if_pos rfl,List.count_cons_self]; simp
 ·rw[if_neg e,List.count_cons_of_ne (fun h=>e h.symm)]; simp⟩
theorem bB3 {n:Nat}{B:Nat->Blk}(hB:Right n B):Grow n B B []:=⟨hB,Ext.refl _ _,fun k _=>by simp⟩
theorem Grow.trans {n:Nat}{B C D:Nat->Blk}{K L:List Int}(h:Grow n B C K)(g:Grow n C D L):Grow n B D (K++L):=⟨g.right,h.ext.trans g.ext,fun k hk=>by
 rw[g.out k hk,h.out k hk,List.count_append]; omega⟩
theorem Grow.zero {n:Nat}{B C:Nat->Blk}{K:List Int}(h:Grow n B C K):Grow n B C (0::K):=⟨h.right,h.ext,fun k hk=>by
 rw[h.out k hk,List.count_cons_of_ne (by omega)]⟩
def dY (n:Nat)(B:Nat->Blk)(R:List Int):Prop:=∀ k,k<n->(R.count ((k:Int)+1):Int)<=outs n B k
def aQ0 (n:Nat)(B:Nat->Blk)(R:List Int):List Int:=aN6 (fun k=>decide (0<outs n B k-(R.count ((k:Int)+1):Int))) n
theorem rM {n:Nat}{B:Nat->Blk}{R:List Int}{x:Int}:x∈aQ0 n B R↔∃ k:Nat,k<n/\0<outs n B k-(R.count ((k:Int)+1):Int)/\x=(k:Int)+1:=by
 unfold aQ0
 rw[aL5]
 simp only[decide_eq_true_eq]
theorem oM {n:Nat}{B:Nat->Blk}{k:Nat}(hk:k<n)(h:0<outs n B k):There n B ((k:Int)+1):=by
 refine⟨by omega,by omega,?_⟩
 rw[show ((k:Int)+1-1).toNat=k by omega]
 unfold outs at h
 omega
theorem bJ6 {n:Nat}{B:Nat->Blk}{R:List Int}:bE n B (aQ0 n B R):=fun x hx=>by
 obtain⟨k,hk,h,rfl⟩:=rM.1 hx
 exact .inr (oM hk (by omega))
theorem aC0 {n:Nat}{B:Nat->Blk}{R:List Int}(h:dY n B R){l:List Int}(hl:∀ x∈l,x∈R)(hb:∀ x∈R,x=0\/(1<=x/\x<=n)):bE n B l:=fun x hx=>by
 rcases hb x (hl x hx) with h0 | ⟨h1,h2⟩
 ·exact .inl h0
 ·obtain⟨k,rfl⟩:∃ k:Nat,x=(k:Int)+1:=⟨(x-1).toNat,by omega⟩
  have hk:k<n:=by omega
  refine .inr (oM hk ?_)
  have:=h k hk
  have hc:0<R.count ((k:Int)+1):=List.count_pos_iff.2 (hl _ hx)
  omega
structure uA (n:Nat)(B C:Nat->Blk)(R S:List Int):Prop where
 right:Right n C
 out:∀ k,k<n->outs n C k-(S.count ((k:Int)+1):Int)=outs n B k-(R.count ((k:Int)+1):Int)
 stays:gM n B C (aQ0 n B R)
theorem uA.base {n:Nat}{B C:Nat->Blk}{R S:List Int}(h:uA n B C R S):aQ0 n C S=aQ0 n B R:=by
 have:∀ i,i<=n->aN6 (fun k=>decide (0<outs n C k-(S.count ((k:Int)+1):Int))) i=aN6 (fun k=>decide (0<outs n B k-(R.count ((k:Int)+1):Int))) i:=by
  intro i
  induction i with
  | zero=>intro _; rfl
  | succ i ih=>
    intro hi
    unfold aN6
    rw[ih (by omega),h.out i (by omega)]
 exact this n (Nat.le_refl _)
theorem uA.trans {n:Nat}{B C D:Nat->Blk}{R S T:List Int}(h:uA n B C R S)(g:uA n C D S T):uA n B D R T:=
 ⟨g.right,fun k hk=>(g.out k hk).trans (h.out k hk),h.stays.trans (h.base▸g.stays)⟩
theorem uA.held {n:Nat}{B C:Nat->Blk}{R S:List Int}(h:uA n B C R S)(hR:dY n B R):dY n C S:=fun k hk=>by
 have h1:=h.out k hk
 have h2:=hR k hk
 omega
theorem aE8 {n:Nat}{B C D:Nat->Blk}{R S K T:List Int}(hB:Right n B)(hR:dY n B R)(h:Grow n B C K)(hD:Right n D)(hF:iQ n C D T)(hS:∀ x:Int,x≠0->S.count x+T.count x=R.count x+K.count x):
 uA n B D R S/\∀ l,(∀ x∈l,x∈R/\x∈S)->(∀ x∈R,x=0\/(1<=x/\x<=n))->gM n B D l:=by
 have ho:∀ k,k<n->outs n D k-(S.count ((k:Int)+1):Int)=outs n B k-(R.count ((k:Int)+1):Int):=fun k hk=>by
  rw[hF.outs k hk,h.out k hk]
  have:=hS ((k:Int)+1) (by omega)
  omega
 have hSD:dY n D S:=fun k hk=>by
  have h1:=ho k hk
  have h2:=hR k hk
  omega
 refine⟨⟨hD,ho,?_⟩,fun l hl hb=>?_⟩
 ·refine(qV hB bJ6 h.ext).trans (oJ hD hF fun x hx=>?_)
  obtain⟨k,hk,h1,rfl⟩:=rM.1 hx
  refine .inr (oM hk ?_)
  have:=ho k hk
  omega
 ·refine(qV hB (aC0 hR (fun x hx=>(hl x hx).1) hb) h.ext).trans (oJ hD hF fun x hx=>?_)
  rcases hb x (hl x hx).1 with h0 | ⟨h1,h2⟩
  ·exact .inl h0
  ·obtain⟨k,rfl⟩:∃ k:Nat,x=(k:Int)+1:=⟨(x-1).toNat,by omega⟩
   have hk:k<n:=by omega
   refine .inr (oM hk ?_)
   have:=hSD k hk
   have hc:0<S.count ((k:Int)+1):=List.count_pos_iff.2 (hl _ hx).2
   omega
end Go.Proofs.YtjafgnohlkkopaaGreatDoor
namespace Go.Proofs.YtjafgnohlkkopaaGreatDoor
open Go.RowKit
structure Ent where
 name:ByteArray
 root:Int
 size:Int
def Ent.zero:Ent:=⟨ByteArray.empty,0,0⟩
instance : Inhabited Ent:=⟨Ent.zero⟩
def Ent.ok (x:Ent):Prop:=x.name.size<=maxLen/\(-9223372036854775808<=x.root/\x.root<=9223372036854775807)/\(-9223372036854775808<=x.size/\x.size<=9223372036854775807)
structure aR1 (w:World)(b off:Nat)(x:Ent):Prop where
 c0:w.cell? ⟨b,off,none⟩=some (.string x.name)
 c1:w.cell? ⟨b,off+1,none⟩=some (.int .i64 x.root)
 c2:w.cell? ⟨b,off+2,none⟩=some (.int .i64 x.size)
def dS (Q:Nat->Prop)(w:World)(a:Option Addr)(n:Nat)(l:List Ent):Prop:=
 l.length=n/\(∀ x∈l,x.ok)/\(0<n->∃ b off,a=some ⟨b,off,none⟩/\b<w.heap.size/\Q b/\∀ i,i<n->aR1 w b (off+i*3) (l.getD i Ent.zero))
theorem aR1.below {w w':World}{b off:Nat}{x:Ent}(h:aR1 w b off x)(hb:Below w.heap.size w w'):aR1 w' b off x:=by
 have hlt:=eZ h.c0
 exact⟨(hb.cell (p:=⟨b,off,none⟩) hlt).trans h.c0,(hb.cell (p:=⟨b,off+1,none⟩) hlt).trans h.c1,(hb.cell (p:=⟨b,off+2,none⟩) hlt).trans h.c2⟩
theorem aR1.kept {g:Nat}{w w':World}{b off:Nat}{x:Ent}(h:aR1 w b off x)(hg:b≠g)(hk:Kept g w w'):aR1 w' b off x:=
 ⟨(hk.cell (p:=⟨b,off,none⟩) hg).trans h.c0,(hk.cell (p:=⟨b,off+1,none⟩) hg).trans h.c1,(hk.cell (p:=⟨b,off+2,none⟩) hg).trans h.c2⟩
theorem aC4 (Q:Nat->Prop)(w:World)(a:Option Addr):dS Q w a 0 []:=⟨rfl,by simp,fun h=>absurd h (by omega)⟩
theorem dS.below {Q:Nat->Prop}{w w':World}{a:Option Addr}{n:Nat}{l:List Ent}(h:dS Q w a n l)(hb:Below w.heap.size w w'):dS Q w' a n l:=by
 refine⟨h.1,h.2.1,fun hn=>?_⟩
 obtain⟨b,off,rfl,hlt,hq,hc⟩:=h.2.2 hn
 exact⟨b,off,rfl,Nat.lt_of_lt_of_le hlt hb.size,hq,fun i hi=>(hc i hi).below hb⟩
theorem dS.weaken {Q R:Nat->Prop}{w:World}{a:Option Addr}{n:Nat}{l:List Ent}(h:dS Q w a n l)(hq:∀ b,b<w.heap.size->Q b->R b):dS R w a n l:=by
 refine⟨h.1,h.2.1,fun hn=>?_⟩
 obtain⟨b,off,rfl,hlt,q,hc⟩:=h.2.2 hn
 exact⟨b,off,rfl,hlt,hq b hlt q,hc⟩
theorem dS.kept {Q:Nat->Prop}{g:Nat}{w w':World}{a:Option Addr}{n:Nat}{l:List Ent}(h:dS Q w a n l)(hq:∀ b,Q b->b≠g)(hk:Kept g w w'):dS Q w' a n l:=by
 refine⟨h.1,h.2.1,fun hn=>?_⟩
 obtain⟨b,off,rfl,hlt,q,hc⟩:=h.2.2 hn
 exact⟨b,off,rfl,by rw[hk.size]; exact hlt,q,fun i hi=>(hc i hi).kept (hq b q) hk⟩
theorem dS.getD {Q:Nat->Prop}{w:World}{a:Option Addr}{n:Nat}{l:List Ent}(h:dS Q w a n l){i:Nat}(hi:i<n):l.getD i Ent.zero∈l:=by
 have hl:i<l.length:=by rw[h.1]; exact hi
 have e:l.getD i Ent.zero=l[i]:=by simp[List.getD,hl]
 rw[e]
 exact List.getElem_mem hl
theorem dS.ent {Q:Nat->Prop}{w:World}{b off n:Nat}{l:List Ent}(h:dS Q w (some ⟨b,off,none⟩) n l){i:Nat}(hi:i<n):aR1 w b (off+i*3) (l.getD i Ent.zero):=by
 obtain⟨b', off', e,_,_,hc⟩:=h.2.2 (by omega)
 simp only[Option.some.injEq,Addr.mk.injEq,and_true] at e
 obtain⟨rfl,rfl⟩:=e
 exact hc i hi
structure bQ where
 name:ByteArray
 files:List Ent
def bQ.zero:bQ:=⟨ByteArray.empty,[]⟩
instance : Inhabited bQ:=⟨bQ.zero⟩
structure oC (Q:Nat->Prop)(w:World)(b off:Nat)(x:bQ)(fa:Option Addr)(fn fc:Nat):Prop where
 c0:w.cell? ⟨b,off,none⟩=some (.string x.name)
 c1:w.cell? ⟨b,off+1,none⟩=some (.slice fa fn fc)
 files:dS Q w fa fn x.files
 small:x.name.size<=maxLen
 caps:fn<=fc
def dV (Q:Nat->Prop)(w:World)(a:Option Addr)(n:Nat)(l:List bQ):Prop:=
 l.length=n/\(0<n->∃ b off,a=some ⟨b,off,none⟩/\b<w.heap.size/\Q b/\∀ i,i<n->∃ fa fn fc,oC Q w b (off+i*2) (l.getD i bQ.zero) fa fn fc)
theorem oC.below {Q:Nat->Prop}{w w':World}{b off:Nat}{x:bQ}{fa:Option Addr}{fn fc:Nat}(h:oC Q w b off x fa fn fc)(hb:Below w.heap.size w w'):oC Q w' b off x fa fn fc:=by
 have hlt:=eZ h.c0
 exact⟨(hb.cell (p:=⟨b,off,none⟩) hlt).trans h.c0,(hb.cell (p:=⟨b,off+1,none⟩) hlt).trans h.c1,h.files.below hb,h.small,h.caps⟩
theorem oC.kept {Q:Nat->Prop}{g:Nat}{w w':World}{b off:Nat}{x:bQ}{fa:Option Addr}{fn fc:Nat}(h:oC Q w b off x fa fn fc)(hg:b≠g)(hq:∀ b,Q b->b≠g)(hk:Kept g w w'):oC Q w' b off x fa fn fc:=
 ⟨(hk.cell (p:=⟨b,off,none⟩) hg).trans h.c0,(hk.cell (p:=⟨b,off+1,none⟩) hg).trans h.c1,h.files.kept hq hk,h.small,h.caps⟩
theorem oC.weaken {Q R:Nat->Prop}{w:World}{b off:Nat}{x:bQ}{fa:Option Addr}{fn fc:Nat}(h:oC Q w b off x fa fn fc)(hq:∀ b,b<w.heap.size->Q b->R b):oC R w b off x fa fn fc:=
 ⟨h.c0,h.c1,h.files.weaken hq,h.small,h.caps⟩
theorem wJ (Q:Nat->Prop)(w:World)(a:Option Addr):dV Q w a 0 []:=⟨rfl,fun h=>absurd h (by omega)⟩
theorem dV.below {Q:Nat->Prop}{w w':World}{a:Option Addr}{n:Nat}{l:List bQ}(h:dV Q w a n l)(hb:Below w.heap.size w w'):dV Q w' a n l:=by
 refine⟨h.1,fun hn=>?_⟩
 obtain⟨b,off,rfl,hlt,hq,hc⟩:=h.2 hn
 refine⟨b,off,rfl,Nat.lt_of_lt_of_le hlt hb.size,hq,fun i hi=>?_⟩
 obtain⟨fa,fn,fc,hs⟩:=hc i hi
 exact⟨fa,fn,fc,hs.below hb⟩
theorem dV.weaken {Q R:Nat->Prop}{w:World}{a:Option Addr}{n:Nat}{l:List bQ}(h:dV Q w a n l)(hq:∀ b,b<w.heap.size->Q b->R b):dV R w a n l:=by
 refine⟨h.1,fun hn=>?_⟩
 obtain⟨b,off,rfl,hlt,q,hc⟩:=h.2 hn
 refine⟨b,off,rfl,hlt,hq b hlt q,fun i hi=>?_⟩
 obtain⟨fa,fn,fc,hs⟩:=hc i hi
 exact⟨fa,fn,fc,hs.weaken hq⟩
theorem dV.kept {Q:Nat->Prop}{g:Nat}{w w':World}{a:Option Addr}{n:Nat}{l:List bQ}(h:dV Q w a n l)(hq:∀ b,Q b->b≠g)(hk:Kept g w w'):dV Q w' a n l:=by
 refine⟨h.1,fun hn=>?_⟩
 obtain⟨b,off,rfl,hlt,q,hc⟩:=h.2 hn
 refine⟨b,off,rfl,by rw[hk.size]; exact hlt,q,fun i hi=>?_⟩
 obtain⟨fa,fn,fc,hs⟩:=hc i hi
 exact⟨fa,fn,fc,hs.kept (hq b q) hq hk⟩
theorem dV.snap {Q:Nat->Prop}{w:World}{b off n:Nat}{l:List bQ}(h:dV Q w (some ⟨b,off,none⟩) n l){i:Nat}(hi:i<n):∃ fa fn fc,oC Q w b (off+i*2) (l.getD i bQ.zero) fa fn fc:=by
 obtain⟨b', off', e,_,_,hc⟩:=h.2 (by omega)
 simp only[Option.some.injEq,Addr.mk.injEq,and_true] at e
 obtain⟨rfl,rfl⟩:=e
 exact hc i hi
structure aK where
 name:ByteArray
 files:List Ent
 snaps:List bQ
structure cB where
 name:ByteArray
 fa:Option Addr
 fn:Nat
 fc:Nat
 sa:Option Addr
 sn:Nat
 sc:Nat
def cB.val (v:cB):Value:=.agg #[.string v.name,.slice v.fa v.fn v.fc,.slice v.sa v.sn v.sc]
structure dN (Q:Nat->Prop)(w:World)(v:cB)(x:aK):Prop where
 name:v.name=x.name
 small:x.name.size<=maxLen
 files:dS Q w v.fa v.fn x.files
 snaps:dV Q w v.sa v.sn x.snaps
 caps:v.fn<=v.fc/\v.sn<=v.sc
theorem dN.below {Q:Nat->Prop}{w w':World}{v:cB}{x:aK}(h:dN Q w v x)(hb:Below w.heap.size w w'):dN Q w' v x:=⟨h.name,h.small,h.files.below hb,h.snaps.below hb,h.caps⟩
theorem dN.kept {Q:Nat->Prop}{g:Nat}{w w':World}{v:cB}{x:aK}(h:dN Q w v x)(hq:∀ b,Q b->b≠g)(hk:Kept g w w'):dN Q w' v x:=⟨h.name,h.small,h.files.kept hq hk,h.snaps.kept hq hk,h.caps⟩
theorem dN.weaken {Q R:Nat->Prop}{w:World}{v:cB}{x:aK}(h:dN Q w v x)(hq:∀ b,b<w.heap.size->Q b->R b):dN R w v x:=⟨h.name,h.small,h.files.weaken hq,h.snaps.weaken hq,h.caps⟩
structure aM where
 kind:Int
 set:ByteArray
 file:ByteArray
 to:ByteArray
 pos:Int
 num:Int
 bytes:List Int
def aM.zero:aM:=⟨0,ByteArray.empty,ByteArray.empty,ByteArray.empty,0,0,[]⟩
instance : Inhabited aM:=⟨aM.zero⟩
def aM.ok (x:aM):Prop:=(x.set.size<=maxLen/\x.file.size<=maxLen/\x.to.size<=maxLen)/\(-9223372036854775808<=x.kind/\x.kind<=9223372036854775807)/\(-9223372036854775808<=x.pos/\x.pos<=9223372036854775807)/\(-9223372036854775808<=x.num/\x.num<=9223372036854775807)
def aM.val (x:aM)(ba:Option Addr)(bn bc:Nat):Value:=.agg #[.int .i64 x.kind,.string x.set,.string x.file,.string x.to,.int .i64 x.pos,.int .i64 x.num,.slice ba bn bc]
structure cF2 (w:World)(b off:Nat)(x:aM)(ba:Option Addr)(bn bc:Nat):Prop where
 c0:w.cell? ⟨b,off,none⟩=some (.int .i64 x.kind)
 c1:w.cell? ⟨b,off+1,none⟩=some (.string x.set)
 c2:w.cell? ⟨b,off+2,none⟩=some (.string x.file)
 c3:w.cell? ⟨b,off+3,none⟩=some (.string x.to)
 c4:w.cell? ⟨b,off+4,none⟩=some (.int .i64 x.pos)
 c5:w.cell? ⟨b,off+5,none⟩=some (.int .i64 x.num)
 c6:w.cell? ⟨b,off+6,none⟩=some (.slice ba bn bc)
 bytes:aI (fun _=>True) .u8 w ba bn x.bytes
 ok:x.ok
 caps:bn<=bc
theorem cF2.below {w w':World}{b off:Nat}{x:aM}{ba:Option Addr}{bn bc:Nat}(h:cF2 w b off x ba bn bc)(hb:Below w.heap.size w w'):cF2 w' b off x ba bn bc:=by
 have hlt:=eZ h.c0
 exact⟨(hb.cell (p:=⟨b,off,none⟩) hlt).trans h.c0,(hb.cell (p:=⟨b,off+1,none⟩) hlt).trans h.c1,(hb.cell (p:=⟨b,off+2,none⟩) hlt).trans h.c2,(hb.cell (p:=⟨b,off+3,none⟩) hlt).trans h.c3,(hb.cell (p:=⟨b,off+4,none⟩) hlt).trans h.c4,(hb.cell (p:=⟨b,off+5,none⟩) hlt).trans h.c5,(hb.cell (p:=⟨b,off+6,none⟩) hlt).trans h.c6,h.bytes.below hb,h.ok,h.caps⟩
def kW (w:World)(a:Option Addr)(n:Nat)(l:List aM):Prop:=
 l.length=n/\(0<n->∃ b off,a=some ⟨b,off,none⟩/\b<w.heap.size/\∀ i,i<n->∃ ba bn bc,cF2 w b (off+i*7) (l.getD i aM.zero) ba bn bc)
theorem kW.below {w w':World}{a:Option Addr}{n:Nat}{l:List aM}(h:kW w a n l)(hb:Below w.heap.size w w'):kW w' a n l:=by
 refine⟨h.1,fun hn=>?_⟩
 obtain⟨b,off,rfl,hlt,hc⟩:=h.2 hn
 refine⟨b,off,rfl,Nat.lt_of_lt_of_le hlt hb.size,fun i hi=>?_⟩
 obtain⟨ba,bn,bc,hs⟩:=hc i hi
 exact⟨ba,bn,bc,hs.below hb⟩
end Go.Proofs.YtjafgnohlkkopaaGreatDoor
namespace Go.Proofs.YtjafgnohlkkopaaGreatDoor
def Ent.nm (x:Ent):List UInt8:=x.name.data.toList
def bQ.nm (x:bQ):List UInt8:=x.name.data.toList
def oP (c:UInt8):Prop:=(97<=c/\c<=122)\/(48<=c/\c<=57)
def aN (s:ByteArray):Prop:=1<=s.data.toList.length/\s.data.toList.length<=8/\∀ c∈s.data.toList,oP c
theorem cD3 {a b:ByteArray}(h:a.data.toList=b.data.toList):a=b:=by
 cases a; cases b
 simp only[ByteArray.mk.injEq]
 exact Array.toList_inj.1 h
def aH8 (l:List Ent):Prop:=l.Pairwise fun a b=>a.nm<b.nm
def nY (l:List bQ):Prop:=l.Pairwise fun a b=>a.nm<b.nm
theorem xJ {α:Type}(f:α->List UInt8){l:List α}(h:l.Pairwise fun a b=>f a<f b){x y:α}(hx:x∈l)(hy:y∈l)(e:f x=f y):x=y:=by
 induction l with
 | nil=>simp at hx
 | cons z l ih=>
   rw[List.pairwise_cons] at h
   rcases List.mem_cons.1 hx with e1 | h1
   ·rcases List.mem_cons.1 hy with e2 | h2
    ·rw[e1,e2]
    ·have:=h.1 y h2
     rw[<-e1,e] at this
     exact absurd this (List.lt_irrefl _)
   ·rcases List.mem_cons.1 hy with e2 | h2
    ·have:=h.1 x h1
     rw[<-e2,e] at this
     exact absurd this (List.lt_irrefl _)
    ·exact ih h.2 h1 h2
def aS (l:List Ent):List Int:=l.map (·.root)
def dQ (l:List bQ):List Int:=l.flatMap fun s=>aS s.files
def aG (x:aK):List Int:=aS x.files++dQ x.snaps
theorem fF (l m:List Ent):aS (l++m)=aS l++aS m:=List.map_append
theorem iJ (l m:List bQ):dQ (l++m)=dQ l++dQ m:=List.flatMap_append
theorem bV {l:List Ent}{x:Int}:x∈aS l↔∃ f∈l,f.root=x:=by simp[aS]
structure oF (n:Nat)(B:Nat->Blk)(key:Int)(l:List Ent):Prop where
 few:l.length<=6
 names:∀ x∈l,aN x.name
 order:aH8 l
 files:∀ x∈l,bU n B key x.root x.size
structure bD (n:Nat)(B:Nat->Blk)(key:Int)(x:aK):Prop where
 kb:0<=key/\key<=1000
 right:Right n B
 name:aN x.name
 files:oF n B key x.files
 fewS:x.snaps.length<=3
 namesS:∀ s∈x.snaps,aN s.name
 orderS:nY x.snaps
 filesS:∀ s∈x.snaps,oF n B key s.files
theorem oF.stays {n:Nat}{B C:Nat->Blk}{key:Int}{l:List Ent}{L:List Int}(h:oF n B key l)(hC:Right n C)(hs:gM n B C L)(hl:∀ x∈l,x.root∈L):oF n C key l:=
 ⟨h.few,h.names,h.order,fun x hx=>((h.files x hx).stays hC hs (hl x hx)).1⟩
theorem bU.rootBd {n:Nat}{B:Nat->Blk}{key r s:Int}(h:bU n B key r s):r=0\/(1<=r/\r<=n):=by
 rcases h.rooted with h0 | ⟨⟨h1,h2,_⟩,_⟩
 ·exact .inl h0
 ·exact .inr ⟨h1,h2⟩
theorem bD.rootBd {n:Nat}{B:Nat->Blk}{key:Int}{x:aK}(h:bD n B key x):∀ r∈aG x,r=0\/(1<=r/\r<=n):=fun r hr=>by
 rcases List.mem_append.1 hr with hr | hr
 ·obtain⟨f,hf,rfl⟩:=bV.1 hr
  exact(h.files.files f hf).rootBd
 ·obtain⟨s,hs,hr⟩:=List.mem_flatMap.1 hr
  obtain⟨f,hf,rfl⟩:=bV.1 hr
  exact((h.filesS s hs).files f hf).rootBd
end Go.Proofs.YtjafgnohlkkopaaGreatDoor
namespace Go.Proofs.YtjafgnohlkkopaaGreatDoor
def lC (x:aK):List Ent:=x.files++x.snaps.flatMap (·.files)
theorem gQ (x:aK):aG x=aS (lC x):=by
 unfold aG lC dQ
 rw[fF]
 congr 1
 unfold aS
 rw[List.map_flatMap]
theorem bD.ents {n:Nat}{B:Nat->Blk}{key:Int}{x:aK}(h:bD n B key x):∀ e∈lC x,bU n B key e.root e.size:=fun e he=>by
 rcases List.mem_append.1 he with he | he
 ·exact h.files.files e he
 ·obtain⟨s,hs,he⟩:=List.mem_flatMap.1 he
  exact(h.filesS s hs).files e he
structure Shape (x:aK):Prop where
 name:aN x.name
 few:x.files.length<=6
 names:∀ e∈x.files,aN e.name
 order:aH8 x.files
 fewS:x.snaps.length<=3
 namesS:∀ s∈x.snaps,aN s.name
 orderS:nY x.snaps
 filesS:∀ s∈x.snaps,s.files.length<=6/\(∀ e∈s.files,aN e.name)/\aH8 s.files
theorem bD.shape {n:Nat}{B:Nat->Blk}{key:Int}{x:aK}(h:bD n B key x):Shape x:=
 ⟨h.name,h.files.few,h.files.names,h.files.order,h.fewS,h.namesS,h.orderS,fun s hs=>⟨(h.filesS s hs).few,(h.filesS s hs).names,(h.filesS s hs).order⟩⟩
theorem qX {n:Nat}{B:Nat->Blk}{key:Int}{x:aK}(hk:0<=key/\key<=1000)(hB:Right n B)(h:Shape x)(hf:∀ e∈lC x,bU n B key e.root e.size):bD n B key x:=
 ⟨hk,hB,h.name,⟨h.few,h.names,h.order,fun e he=>hf e (List.mem_append_left _ he)⟩,h.fewS,h.namesS,h.orderS,fun s hs=>⟨(h.filesS s hs).1,(h.filesS s hs).2.1,(h.filesS s hs).2.2,fun e he=>hf e (List.mem_append_right _ (List.mem_flatMap.2 ⟨s,hs,he⟩))⟩⟩
theorem bD.bytes {n:Nat}{B C:Nat->Blk}{key:Int}{x:aK}(h:bD n B key x){L:List Int}(hC:Right n C)(hs:gM n B C L)(hl:∀ r∈aG x,r∈L):bD n C key x/\∀ e∈lC x,aT key (aH C 3 e.root)=aT key (aH B 3 e.root):=by
 have hm:∀ e∈lC x,e.root∈L:=fun e he=>hl _ (by rw[gQ]; exact bV.2 ⟨e,he,rfl⟩)
 exact⟨qX h.kb hC h.shape fun e he=>((h.ents e he).stays hC hs (hm e he)).1,fun e he=>((h.ents e he).stays hC hs (hm e he)).2⟩
structure After (n:Nat)(key:Int)(B D:Nat->Blk)(x y:aK):Prop where
 ok:bD n D key y
 held:dY n D (aG y)
 moved:uA n B D (aG x) (aG y)
 same:∀ e∈lC x,e∈lC y->aT key (aH D 3 e.root)=aT key (aH B 3 e.root)
theorem cE1 {n:Nat}{key:Int}{B C D:Nat->Blk}{x y:aK}{K T:List Int}(hx:bD n B key x)(hh:dY n B (aG x))(hg:Grow n B C K)(hD:Right n D)(hF:iQ n C D T)
 (hc:∀ r:Int,r≠0->(aG y).count r+T.count r=(aG x).count r+K.count r) (hy:Shape y) (hf:∀ e∈lC y,bU n C key e.root e.size):After n key B D x y/\∀ e∈lC y,aT key (aH D 3 e.root)=aT key (aH C 3 e.root):=by
 obtain⟨hm,hst⟩:=aE8 hx.right hh hg hD hF hc
 have hhd:=hm.held hh
 have hb:∀ r∈aG y,r=0\/(1<=r/\r<=n):=fun r hr=>by
  rw[gQ] at hr
  obtain⟨e,he,rfl⟩:=bV.1 hr
  exact(hf e he).rootBd
 have hro:bE n D (aG y):=aC0 hhd (fun _ h=>h) hb
 have hs:=oJ hD hF hro
 have hfd:=fun e (he:e∈lC y)=>(hf e he).stays hD hs (by rw[gQ]; exact bV.2 ⟨e,he,rfl⟩)
 refine⟨⟨qX hx.kb hD hy fun e he=>(hfd e he).1,hhd,hm,fun e he he'=>?_⟩,fun e he=>(hfd e he).2⟩
 rw[(hfd e he').2]
 exact((hx.ents e he).ext hg.ext hg.right).2
theorem jW {n:Nat}{key:Int}{B C:Nat->Blk}{x:aK}{K:List Int}(hx:bD n B key x)(hg:Grow n B C K):∀ e∈lC x,bU n C key e.root e.size:=fun e he=>((hx.ents e he).ext hg.ext hg.right).1
theorem iY {α:Type}{f:α->List UInt8}{l:List α}(h:l.Pairwise fun a b=>f a<f b){p:Nat}{x:α}(h1:∀ y∈l.take p,f y<f x)(h2:∀ y∈l.drop p,f x<f y):(l.take p++x::l.drop p).Pairwise fun a b=>f a<f b:=by
 rw[List.pairwise_append,List.pairwise_cons]
 refine⟨h.sublist (List.take_sublist _ _),⟨h2,h.sublist (List.drop_sublist _ _)⟩,fun a ha b hb=>?_⟩
 rcases List.mem_cons.1 hb with rfl | hb
 ·exact h1 a ha
 ·exact List.lt_trans (h1 a ha) (h2 b hb)
theorem iK {α:Type}{f:α->List UInt8}{l:List α}(h:l.Pairwise fun a b=>f a<f b)(p:Nat):(l.eraseIdx p).Pairwise fun a b=>f a<f b:=h.sublist (List.eraseIdx_sublist _ _)
theorem xI {α:Type}{f:α->List UInt8}{l:List α}(h:l.Pairwise fun a b=>f a<f b){p:Nat}(hp:p<l.length){x:α}(e:f x=f l[p]):(l.set p x).Pairwise fun a b=>f a<f b:=by
 rw[List.pairwise_iff_getElem] at h ⊢
 intro i j hi hj hij
 simp only[List.length_set] at hi hj
 have:=h i j hi hj hij
 simp only[List.getElem_set]
 by_cases e1:p=i
 ·subst e1
  rw[if_pos rfl,if_neg (by omega),e]
  exact this
 ·rw[if_neg e1]
  by_cases e2:p=j
  ·subst e2; rw[if_pos rfl,e]; exact this
  ·rw[if_neg e2]; exact this
theorem uN {l:List Ent}(p:Nat)(x:Ent)(r:Int):(aS (l.take p++x::l.drop p)).count r=(aS l).count r+[x.root].count r:=by
 have e:aS l=aS (l.take p)++aS (l.drop p):=by rw[<-fF,List.take_append_drop]
 rw[e,fF]
 show (aS (l.take p)++x.root::aS (l.drop p)).count r=_
 simp only[List.count_append,List.count_cons,List.count_nil]
 omega
theorem yK {l:List Ent}{p:Nat}(hp:p<l.length)(r:Int):(aS (l.eraseIdx p)).count r+[(l[p]).root].count r=(aS l).count r:=by
 have e:l=l.take p++l[p]::l.drop (p+1):=by rw[List.getElem_cons_drop,List.take_append_drop]
 have e2:aS l=aS (l.take p)++(l[p].root::aS (l.drop (p+1))):=by
  conv=>lhs; rw[e]
  rw[fF]; rfl
 rw[List.eraseIdx_eq_take_drop_succ,fF,e2]
 simp only[List.count_append,List.count_cons,List.count_nil]
 omega
theorem bU1 {l:List Ent}{p:Nat}(hp:p<l.length)(x:Ent)(r:Int):(aS (l.set p x)).count r+[(l[p]).root].count r=(aS l).count r+[x.root].count r:=by
 have e:l=l.take p++l[p]::l.drop (p+1):=by rw[List.getElem_cons_drop,List.take_append_drop]
 have e2:aS l=aS (l.take p)++(l[p].root::aS (l.drop (p+1))):=by
  conv=>lhs; rw[e]
  rw[fF]; rfl
 rw[List.set_eq_take_append_cons_drop,if_pos hp,fF,e2]
 show (aS (l.take p)++x.root::aS (l.drop (p+1))).count r+_=_
 simp only[List.count_append,List.count_cons,List.count_nil]
 omega
end Go.Proofs.YtjafgnohlkkopaaGreatDoor
namespace Go.Proofs.YtjafgnohlkkopaaGreatDoor
open Go.RowKit
section
variable {α β:Type} {f:α->List β} {k:Nat}
theorem rU (hk:∀ x,(f x).length=k):∀ l:List α,(l.flatMap f).length=l.length*k
 | []=>by simp
 | x::l=>by
   rw[List.flatMap_cons,List.length_append,hk,rU hk l,List.length_cons,Nat.add_mul,Nat.one_mul,Nat.add_comm]
theorem kI (hk:∀ x,(f x).length=k):∀ (l:List α) (i:Nat),(l.flatMap f).take (i*k)=(l.take i).flatMap f
 | [],i=>by simp
 | x::l,0=>by simp
 | x::l,i+1=>by
   rw[List.flatMap_cons,List.take_succ_cons,List.flatMap_cons,<-kI hk l i,Nat.add_mul,Nat.one_mul,Nat.add_comm,List.take_append,hk]
   rw[List.take_of_length_le (by rw[hk]; omega)]
   congr 2
   omega
theorem kJ (hk:∀ x,(f x).length=k):∀ (l:List α) (i:Nat),(l.flatMap f).drop (i*k)=(l.drop i).flatMap f
 | [],i=>by simp
 | x::l,0=>by simp
 | x::l,i+1=>by
   rw[List.flatMap_cons,List.drop_succ_cons,<-kJ hk l i,Nat.add_mul,Nat.one_mul,Nat.add_comm,List.drop_append,hk]
   rw[List.drop_of_length_le (by rw[hk]; omega)]
   rw[List.nil_append]
   congr 1
   omega
theorem flat_get (hk:∀ x,(f x).length=k):∀ (l:List α) (i r:Nat) (hi:i<l.length),r<k->(l.flatMap f)[i*k+r]? =(f l[i])[r]?
 | [],i,r,hi,_=>absurd hi (by simp)
 | x::l,0,r,hi,hr=>by
   rw[List.flatMap_cons,Nat.zero_mul,Nat.zero_add,List.getElem?_append_left (by rw[hk]; exact hr)]
   rfl
 | x::l,i+1,r,hi,hr=>by
   rw[List.flatMap_cons,List.getElem?_append_right (by rw[hk,Nat.add_mul]; omega),hk]
   have:=flat_get hk l i r (by simpa using hi) hr
   rw[show (i+1)*k+r-k=i*k+r by rw[Nat.add_mul]; omega,this]
   rfl
theorem qM (l:List α)(i:Nat)(x:α):(l.take i++x::l.drop i).flatMap f=(l.take i).flatMap f++(f x++(l.drop i).flatMap f):=by
 rw[List.flatMap_append,List.flatMap_cons]
theorem tN (l:List α)(i:Nat):(l.eraseIdx i).flatMap f=(l.take i).flatMap f++(l.drop (i+1)).flatMap f:=by
 rw[List.eraseIdx_eq_take_drop_succ,List.flatMap_append]
end
def Ent.cells (e:Ent):List Value:=[.string e.name,.int .i64 e.root,.int .i64 e.size]
theorem Ent.cells_len (e:Ent):e.cells.length=3:=rfl
theorem Ent.cells_one (e:Ent):∀ v∈e.cells,v.oneCell'=true:=by
 intro v hv
 simp only[Ent.cells,List.mem_cons,List.not_mem_nil,or_false] at hv
 rcases hv with rfl | rfl | rfl<;>rfl
def bK (l:List Ent):List Value:=l.flatMap Ent.cells
theorem gI (l:List Ent):(bK l).length=l.length*3:=rU Ent.cells_len l
theorem fD (l:List Ent):∀ v∈bK l,v.oneCell'=true:=fun v hv=>by
 obtain⟨e,_,h⟩:=List.mem_flatMap.1 hv
 exact e.cells_one v h
structure aZ where
 e:bQ
 fa:Option Addr
 fn:Nat
 fc:Nat
def aZ.cells (m:aZ):List Value:=[.string m.e.name,.slice m.fa m.fn m.fc]
theorem aZ.cells_len (m:aZ):m.cells.length=2:=rfl
theorem aZ.cells_one (m:aZ):∀ v∈m.cells,v.oneCell'=true:=by
 intro v hv
 simp only[aZ.cells,List.mem_cons,List.not_mem_nil,or_false] at hv
 rcases hv with rfl | rfl<;>rfl
def dB (l:List aZ):List Value:=l.flatMap aZ.cells
theorem iI (l:List aZ):(dB l).length=l.length*2:=rU aZ.cells_len l
theorem mW (l:List aZ):∀ v∈dB l,v.oneCell'=true:=fun v hv=>by
 obtain⟨e,_,h⟩:=List.mem_flatMap.1 hv
 exact e.cells_one v h
structure aZ.At (Q:Nat->Prop)(w:World)(m:aZ):Prop where
 files:dS Q w m.fa m.fn m.e.files
 caps:m.fn<=m.fc
 small:m.e.name.size<=maxLen
structure Only (M:Nat->Prop)(w w':World):Prop where
 os:w'.os=w.os
 tape:w'.tape=w.tape
 output:w'.output=w.output
 size:w.heap.size<=w'.heap.size
 block:∀ k,k<w.heap.size->¬M k->w'.heap[k]? =w.heap[k]?
theorem Only.refl (M:Nat->Prop)(w:World):Only M w w:=⟨rfl,rfl,rfl,Nat.le_refl _,fun _ _ _=>rfl⟩
theorem Only.trans {M:Nat->Prop}{a b c:World}(h:Only M a b)(k:Only M b c):Only M a c:=
 ⟨k.os.trans h.os,k.tape.trans h.tape,k.output.trans h.output,Nat.le_trans h.size k.size,fun i hi hm=>(k.block i (Nat.lt_of_lt_of_le hi h.size) hm).trans (h.block i hi hm)⟩
theorem Only.mono {M N:Nat->Prop}{a b:World}(h:Only M a b)(hm:∀ k,k<a.heap.size->M k->N k):Only N a b:=
 ⟨h.os,h.tape,h.output,h.size,fun i hi hn=>h.block i hi fun m=>hn (hm i hi m)⟩
theorem Only.of_below {M:Nat->Prop}{a b:World}(h:Below a.heap.size a b):Only M a b:=⟨h.os,h.tape,h.output,h.size,fun k hk _=>h.block k hk⟩
theorem Only.of_out {M:Nat->Prop}{g:Nat}{a b:World}(h:Out g a b)(hg:M g):Only M a b:=⟨h.os,h.tape,h.output,h.size,fun k hk hm=>h.block k hk (fun e=>hm (e▸hg))⟩
theorem Only.of_kept {M:Nat->Prop}{g:Nat}{a b:World}(h:Kept g a b)(hg:M g):Only M a b:=Only.of_out (Out.of_kept h) hg
theorem Only.below {M:Nat->Prop}{B:Nat}{a b:World}(h:Only M a b)(hB:∀ k,M k->B<=k)(hs:B<=a.heap.size):Below B a b:=
 ⟨h.os,h.tape,h.output,h.size,fun k hk=>h.block k (by omega) (fun m=>by have:=hB k m; omega)⟩
theorem Only.cell {M:Nat->Prop}{a b:World}(h:Only M a b){p:Addr}(hp:p.block<a.heap.size)(hm:¬M p.block):b.cell? p=a.cell? p:=World.cell?_of_block (w:=a) (h.block p.block hp hm)
theorem Only.cells {M:Nat->Prop}{a b:World}(h:Only M a b){g:Nat}{cs:Array Value}{t:TypeId}(hc:aC a g cs t)(hm:¬M g):aC b g cs t:=by
 have hl:=hc.lt
 unfold aC at hc ⊢
 rw[h.block g hl hm]
 exact hc
theorem Only.row {M:Nat->Prop}{a b:World}(h:Only M a b){base:Nat}{e:TypeId}{size:Nat}{v:Value}{n:Nat}{xs:List Value}(hr:a.ownsRow base e size v n xs)(hm:∀ k,v.ownBlock=some k->¬M k):b.ownsRow base e size v n xs:=by
 refine⟨hr.1,?_⟩
 rcases hr.2 with h0 | ⟨g,cap,cur,hv,hb,hg,rest⟩
 ·exact .inl h0
 ·have hl:=(hr.lt g (by rw[hv]; rfl)).2
  exact .inr ⟨g,cap,cur,hv,hb,by rw[h.block g hl (hm g (by rw[hv]; rfl))]; exact hg,rest⟩
theorem Only.ents {M:Nat->Prop}{a b:World}(h:Only M a b){Q:Nat->Prop}{x:Option Addr}{n:Nat}{l:List Ent}(he:dS Q a x n l)(hm:∀ k,Q k->¬M k):dS Q b x n l:=by
 refine⟨he.1,he.2.1,fun hn=>?_⟩
 obtain⟨g,off,rfl,hlt,hq,hc⟩:=he.2.2 hn
 refine⟨g,off,rfl,Nat.lt_of_lt_of_le hlt h.size,hq,fun i hi=>?_⟩
 have hE:=hc i hi
 exact⟨(h.cell (p:=⟨g,off+i*3,none⟩) hlt (hm g hq)).trans hE.c0,(h.cell (p:=⟨g,off+i*3+1,none⟩) hlt (hm g hq)).trans hE.c1,(h.cell (p:=⟨g,off+i*3+2,none⟩) hlt (hm g hq)).trans hE.c2⟩
theorem Only.snap {M:Nat->Prop}{a b:World}(h:Only M a b){Q:Nat->Prop}{m:aZ}(hs:m.At Q a)(hm:∀ k,Q k->¬M k):m.At Q b:=⟨h.ents hs.files hm,hs.caps,hs.small⟩
theorem Only.nums {M:Nat->Prop}{a b:World}(h:Only M a b){Q:Nat->Prop}{k:IntKind}{x:Option Addr}{n:Nat}{l:List Int}(hn:aI Q k a x n l)(hm:∀ k,Q k->¬M k):aI Q k b x n l:=by
 refine⟨hn.1,hn.2.1,fun h0=>?_⟩
 obtain⟨g,off,rfl,hlt,hq,hc⟩:=hn.2.2 h0
 exact⟨g,off,rfl,Nat.lt_of_lt_of_le hlt h.size,hq,fun i hi=>(h.cell (p:=⟨g,off+i,none⟩) hlt (hm g hq)).trans (hc i hi)⟩
theorem Only.blocks {M:Nat->Prop}{a b:World}(h:Only M a b){Q:Nat->Prop}{g off n:Nat}{B:Nat->Blk}(hb:dO Q a g off n B)(hg:¬M g)(hgl:g<a.heap.size)(hm:∀ k,Q k->¬M k):dO Q b g off n B:=by
 intro i hi
 obtain⟨ka,kn,kc,ba,bn,bc,hE⟩:=hb i hi
 exact⟨ka,kn,kc,ba,bn,bc,(h.cell (p:=⟨g,off+i*4,none⟩) hgl hg).trans hE.c0,(h.cell (p:=⟨g,off+i*4+1,none⟩) hgl hg).trans hE.c1,(h.cell (p:=⟨g,off+i*4+2,none⟩) hgl hg).trans hE.c2,(h.cell (p:=⟨g,off+i*4+3,none⟩) hgl hg).trans hE.c3,h.nums hE.kids hm,h.nums hE.bytes hm,hE.refs,hE.level,hE.caps⟩
theorem mE {M:Nat->Prop}{a b:World}{row:Option Nat}(h:a.grownBy b row)(hm:∀ k,row=some k->M k):Only M a b:=
 ⟨h.os,h.tape,h.output,h.size,fun k hk hn=>h.block k hk (fun e=>hn (hm k e.symm))⟩
theorem vR {w:World}{base:Nat}{e:TypeId}{fa:Option Addr}{fn fc:Nat}{l:List Ent}(hok:∀ x∈l,x.ok)(h:w.ownsRow base e 3 (.slice fa fn fc) fn (bK l)):dS (fun b=>base<=b/\((Value.slice fa fn fc).ownBlock=some b)) w fa fn l:=by
 have hl:l.length=fn:=by have:=h.1; rw[gI] at this; omega
 refine⟨hl,hok,fun hn=>?_⟩
 rcases h.2 with⟨hv,h0⟩ | ⟨g,cap,cur,hv,hb,hg,hnc,_⟩
 ·omega
 ·simp only[Value.slice.injEq] at hv
  obtain⟨rfl,_,rfl⟩:=hv
  refine⟨g,0,rfl,(h.lt g rfl).2,⟨hb,rfl⟩,fun i hi=>?_⟩
  have hil:i<l.length:=by omega
  have hx:l.getD i Ent.zero=l[i]:=by simp[List.getD,hil]
  rw[hx,Nat.zero_add]
  have hc:=fun r (hr:r<3)=>(h.cellAt (i*3+r) (by omega)).trans (flat_get Ent.cells_len l i r hil hr)
  exact⟨hc 0 (by omega),hc 1 (by omega),hc 2 (by omega)⟩
theorem aJ9 {w:World}{Q:Nat->Prop}{base:Nat}{e:TypeId}{sa:Option Addr}{sn sc:Nat}{l:List aZ}(hl:∀ m∈l,m.At Q w)(h:w.ownsRow base e 2 (.slice sa sn sc) sn (dB l)):dV (fun b=>Q b\/(base<=b/\(Value.slice sa sn sc).ownBlock=some b)) w sa sn (l.map (·.e)):=by
 have hln:l.length=sn:=by have:=h.1; rw[iI] at this; omega
 refine⟨by rw[List.length_map]; exact hln,fun hn=>?_⟩
 rcases h.2 with⟨hv,h0⟩ | ⟨g,cap,cur,hv,hb,hg,hnc,_⟩
 ·omega
 ·simp only[Value.slice.injEq] at hv
  obtain⟨rfl,_,rfl⟩:=hv
  refine⟨g,0,rfl,(h.lt g rfl).2,.inr ⟨hb,rfl⟩,fun i hi=>?_⟩
  have hil:i<l.length:=by omega
  have hx:(l.map (·.e)).getD i bQ.zero=l[i].e:=by simp[List.getD,hil]
  rw[hx,Nat.zero_add]
  have hc:=fun r (hr:r<2)=>(h.cellAt (i*2+r) (by omega)).trans (flat_get aZ.cells_len l i r hil hr)
  have hA:=hl l[i] (List.getElem_mem hil)
  exact⟨l[i].fa,l[i].fn,l[i].fc,hc 0 (by omega),hc 1 (by omega),hA.files.weaken (fun b _ q=>.inl q),hA.small,hA.caps⟩
theorem dS.cells {Q:Nat->Prop}{w:World}{b off n:Nat}{l:List Ent}(h:dS Q w (some ⟨b,off,none⟩) n l):∀ j u,(bK l)[j]? =some u->w.cell? ⟨b,off+j,none⟩=some u:=by
 intro j u hj
 have hjl:j<l.length*3:=by
  rw[<-gI]
  rcases Nat.lt_or_ge j (bK l).length with h | h
  ·exact h
  ·rw[List.getElem?_eq_none h] at hj; cases hj
 have hi:j / 3<l.length:=by omega
 have hE:=h.ent (i:=j / 3) (by rw[<-h.1]; exact hi)
 have hx:l.getD (j / 3) Ent.zero=l[j / 3]:=by simp[List.getD,hi]
 rw[hx] at hE
 have hg:=flat_get Ent.cells_len l (j / 3) (j%3) hi (Nat.mod_lt _ (by omega))
 rw[show j / 3*3+j%3=j by omega] at hg
 unfold bK at hj
 rw[hg] at hj
 have h3:j%3=0\/j%3=1\/j%3=2:=by omega
 rcases h3 with h3 | h3 | h3
 ·rw[h3] at hj
  rw[show off+j=off+j / 3*3 by omega,hE.c0]
  exact hj
 ·rw[h3] at hj
  rw[show off+j=off+j / 3*3+1 by omega,hE.c1]
  exact hj
 ·rw[h3] at hj
  rw[show off+j=off+j / 3*3+2 by omega,hE.c2]
  exact hj
theorem dV.rows {Q:Nat->Prop}{w:World}{a:Option Addr}{n:Nat}{l:List bQ}(h:dV Q w a n l):∃ ms:List aZ,ms.map (·.e)=l/\(∀ m∈ms,m.At Q w)/\(0<n->∃ b off,a=some ⟨b,off,none⟩/\b<w.heap.size/\∀ j u,(dB ms)[j]? =some u->w.cell? ⟨b,off+j,none⟩=some u):=by
 rcases Nat.eq_zero_or_pos n with h0 | h0
 ·subst h0
  have:=List.eq_nil_of_length_eq_zero h.1
  subst this
  exact⟨[],rfl,by simp,fun h=>absurd h (by omega)⟩
 ·obtain⟨b,off,rfl,hlt,hq,hc⟩:=h.2 h0
  have hl:=h.1
  have key:∀ i,i<=n->∃ ms:List aZ,ms.length=i/\ms.map (·.e)=l.take i/\(∀ m∈ms,m.At Q w)/\∀ j (hj:j<ms.length),w.cell? ⟨b,off+j*2,none⟩=some (.string ms[j].e.name)/\w.cell? ⟨b,off+j*2+1,none⟩=some (.slice ms[j].fa ms[j].fn ms[j].fc):=by
   intro i
   induction i with
   | zero=>intro _; exact⟨[],rfl,by simp,by simp,fun j hj=>absurd hj (by simp)⟩
   | succ i ih=>
     intro hi
     obtain⟨ms,e1,e2,e3,e4⟩:=ih (by omega)
     obtain⟨fa,fn,fc,hs⟩:=hc i (by omega)
     have hil:i<l.length:=by omega
     have hx:l.getD i bQ.zero=l[i]:=by simp[List.getD,hil]
     rw[hx] at hs
     refine⟨ms++[⟨l[i],fa,fn,fc⟩],by simp[e1],by rw[List.map_append,e2,List.take_succ_eq_append_getElem hil]; rfl,?_,?_⟩
     ·intro m hm
      rcases List.mem_append.1 hm with hm | hm
      ·exact e3 m hm
      ·rw[List.mem_singleton.1 hm]; exact⟨hs.files,hs.caps,hs.small⟩
     ·intro j hj
      rw[List.length_append,List.length_singleton] at hj
      by_cases ej:j<ms.length
      ·rw[List.getElem_append_left ej]; exact e4 j ej
      ·obtain rfl:j=i:=by omega
       rw[List.getElem_append_right (by omega)]
       simp only[e1,Nat.sub_self,List.getElem_cons_zero]
       exact⟨hs.c0,hs.c1⟩
  obtain⟨ms,e1,e2,e3,e4⟩:=key n (Nat.le_refl _)
  refine⟨ms,by rw[e2]; exact List.take_of_length_le (by omega),e3,fun _=>⟨b,off,rfl,hlt,fun j u hj=>?_⟩⟩
  have hjl:j<ms.length*2:=by
   rw[<-iI]
   rcases Nat.lt_or_ge j (dB ms).length with h | h
   ·exact h
   ·rw[List.getElem?_eq_none h] at hj; cases hj
  have hi:j / 2<ms.length:=by omega
  have hg:=flat_get aZ.cells_len ms (j / 2) (j%2) hi (Nat.mod_lt _ (by omega))
  rw[show j / 2*2+j%2=j by omega] at hg
  unfold dB at hj
  rw[hg] at hj
  have h4:=e4 (j / 2) hi
  have h2:j%2=0\/j%2=1:=by omega
  rcases h2 with h2 | h2
  ·rw[h2] at hj
   rw[show off+j=off+j / 2*2 by omega,h4.1]
   exact hj
  ·rw[h2] at hj
   rw[show off+j=off+j / 2*2+1 by omega,h4.2]
   exact hj
end Go.Proofs.YtjafgnohlkkopaaGreatDoor
