import Derived.Test.YtjafgnohlkkopaaGreatDoorPart24
import Derived.Test.YtjafgnohlkkopaaGreatDoorPart15
import Derived.Test.YtjafgnohlkkopaaGreatDoorPart23
import Derived.Test.YtjafgnohlkkopaaGreatDoorPart22
import Derived.Test.YtjafgnohlkkopaaGreatDoorPart13
import Derived.Lib.SliceRun
import Derived.Laws.Externs
import Derived.Maps.AppendAt
set_option linter.unusedVariables false
set_option maxHeartbeats 8000000
set_option maxRecDepth 100000
namespace Go.Proofs.YtjafgnohlkkopaaGreatDoor
open Go.RowKit
structure CB (W wr:World)(sa:Option Addr)(n sc:Nat)(v:cB):Prop where
 bel:Below W.heap.size W wr
 sz:W.heap.size+4<=wr.heap.size
 bS:aC wr W.heap.size #[.slice sa n sc] 24
 bX:aC wr (W.heap.size+1) #[.string v.name,.slice v.fa v.fn v.fc,.slice v.sa v.sn v.sc] 84
 r8:aC wr (W.heap.size+1+1) #[.slice none 0 0] 24
 r9:aC wr (W.heap.size+1+1+1) #[.string (ByteArray.mk #[]),.slice none 0 0,.slice none 0 0] 84
theorem CB.below {W wr w':World}{sa:Option Addr}{n sc:Nat}{v:cB}(h:CB W wr sa n sc v)(b:Below wr.heap.size wr w'):CB W w' sa n sc v:=⟨Below.tr h.bel b,Nat.le_trans h.sz b.size,h.bS.below b,h.bX.below b,h.r8.below b,h.r9.below b⟩
theorem cE8 (w:World)(sa:Option Addr)(n sc:Nat)(v:cB):CB w ((((w.alloc (.cells #[.slice sa n sc] 24)).alloc (.cells #[.string v.name,.slice v.fa v.fn v.fc,.slice v.sa v.sn v.sc] 84)).alloc (.cells #[.slice none 0 0] 24)).alloc (.cells #[.string (ByteArray.mk #[]),.slice none 0 0,.slice none 0 0] 84)) sa n sc v:=by
 have h1:=aB w #[.slice sa n sc] 24
 have h2:=aB (w.alloc (.cells #[.slice sa n sc] 24)) #[.string v.name,.slice v.fa v.fn v.fc,.slice v.sa v.sn v.sc] 84
 have h3:=aB ((w.alloc (.cells #[.slice sa n sc] 24)).alloc (.cells #[.string v.name,.slice v.fa v.fn v.fc,.slice v.sa v.sn v.sc] 84)) #[.slice none 0 0] 24
 have h4:=aB (((w.alloc (.cells #[.slice sa n sc] 24)).alloc (.cells #[.string v.name,.slice v.fa v.fn v.fc,.slice v.sa v.sn v.sc] 84)).alloc (.cells #[.slice none 0 0] 24)) #[.string (ByteArray.mk #[]),.slice none 0 0,.slice none 0 0] 84
 simp only[mQ] at h2 h3 h4
 exact⟨bAl (bAl (bAl (bAl (Below.refl _ w) _) _) _) _,by simp,((h1.below (aA _ _)).below (aA _ _)).below (aA _ _),(h2.below (aA _ _)).below (aA _ _),h3.below (aA _ _),h4⟩
theorem CB.put {W wr:World}{sa:Option Addr}{n sc:Nat}{v:cB}(h:CB W wr sa n sc v)(s:Value)(u:cB):Below W.heap.size W (bA5 (wr.setCell ⟨W.heap.size+1+1,0,none⟩ s) (W.heap.size+1+1+1) u):=
 (h.bel.trans ((gT wr (W.heap.size+1+1) s).below (by omega))).trans ((jF _ _ u).below (by omega))
theorem bW1 (name:ByteArray)(fa:Option Addr)(fn fc:Nat)(l:List Ent)(w:World)(h6:fn<=6)(hnm:name.size<=maxLen)(hE:dU (fun _=>True) w fa fn l):
 Calls Tryz.prog 61 #[.slice fa fn fc] w fun e w'=>(∃ (ya:Option Addr) (yc lo:Nat),e=.returned (.slice ya fn yc)/\w.heap.size<=lo/\fQ lo (fun b=>lo<=b) w' ⟨name,ya,fn,yc,none,0,0⟩ ⟨name,l,[]⟩ [])/\Below w.heap.size w w':=by
 refine(mG fa fn fc (bK l) w (by omega) (by rw[fZ,hE.1]) (fF _) (hE.srcAt.src (Nat.le_refl _))).mono ?_
 rintro e w' ⟨b,ya,yc,rfl,_,hr⟩
 exact⟨⟨ya,yc,w.heap.size,rfl,Nat.le_refl _,⟨rfl,hnm,hr,⟨rfl,.inl ⟨rfl,rfl⟩⟩,rfl,hE.2.1,fun m hm=>by simp at hm,fun b _ h=>by cases h⟩⟩,b⟩
structure ClF (n:Nat)(B C:Nat->Blk)(x:aK)(fr nm:ByteArray)(y:aK):Prop where
 none:y.snaps=[]
 name:y.name=nm
 snap:∃ q,∃ h:q<x.snaps.length,x.snaps[q].nm=fr.data.toList/\y.files=x.snaps[q].files
 more:∀ k,k<n->C k=eX B (aG y) k
def ClE (x:aK)(fr nm:ByteArray)(e:Int):Prop:=(e=1/\¬aM nm)\/(e=5/\aM nm/\¬∃ s∈x.snaps,s.nm=fr.data.toList)
def aQ7 (w:World)(n:Nat)(B:Nat->Blk)(key:Int)(x:aK)(fr nm:ByteArray)(cc:Int)(e:Ending)(w':World):Prop:=
 Below w.heap.size w w'/\((∃ e':Int,e=.returned (.tuple #[.agg #[.slice none 0 0],.agg #[.string (ByteArray.mk #[]),.slice none 0 0,.slice none 0 0],.int .i64 e'])/\e'≠0/\(aV n B key x->dY n B (aG x)->ClE x fr nm e'))\/
  (∃ (g:Nat) (C:Nat->Blk) (u:cB) (y:aK) (K:List Int),e=.returned (.tuple #[.agg #[.slice (some ⟨g,0,none⟩) n n],.agg #[.string u.name,.slice u.fa u.fn u.fc,.slice u.sa u.sn u.sc],.int .i64 0])/\aV n B key x/\dY n B (aG x)/\Grow n B C K/\(∀ r:Int,r≠0->(aG y).count r=K.count r)/\aV n C key y/\dY n C (aG y)/\ClF n B C x fr nm y/\(∀ k,k<n->(C k).refs<=cc+6)/\(w.heap.size<=g/\Own w' g n C)/\dK (fun b=>w.heap.size<=b) w' u y))
theorem aQ7.drew {w w':World}{n:Nat}{B:Nat->Blk}{key:Int}{x:aK}{fr nm:ByteArray}{cc:Int}{e:Ending}(h:aQ7 w n B key x fr nm cc e w'):aQ7 w n B key x fr nm cc e w'.drew:=by
 obtain⟨b,h⟩:=h
 refine⟨b.trans (aD _ _),?_⟩
 rcases h with h | ⟨g,C,u,y,K,h1,h2,h3,h4,h5,h6,h7,h8,h9,h10,h11⟩
 ·exact .inl h
 ·exact .inr ⟨g,C,u,y,K,h1,h2,h3,h4,h5,h6,h7,h8,h9,⟨h10.1,h10.2.below (aD _ _)⟩,h11.below (aD _ _)⟩
theorem aO0 {n:Nat}{B D:Nat->Blk}{K:List Int}(hB:Right n B)(hK:∀ r∈K,r=0\/There n B r)(hc:∀ i,i<n->(B i).refs+(K.length:Int)<=1000000)(hD:Right n D)(hF:iU n (eX B K) D []):Grow n B D K/\(∀ k,k<n->(D k).refs=(B k).refs+(K.count ((k:Int)+1):Int))/\∀ k,k<n->D k=eX B K k:=by
 have hE:=qH hB hK hc
 have hg:=aB8 hB hK hc
 have he:∀ k,k<n->D k=eX B K k:=aT1 hD hE (fun k hk=>by
  by_cases e1:(D k).refs=0
  ·exact .inl e1
  have e0:((k:Int)+1-1).toNat=k:=by omega
  have hcD:=eB hF (x:=(k:Int)+1) ⟨by omega,by omega,by rw[e0]; exact e1⟩
  rw[e0] at hcD
  exact .inr (.inr hcD)) (fun k hk=>by rw[hF.outs k hk]; simp)
 refine⟨⟨hD,⟨fun k hk h0=>?_⟩,fun k hk=>by rw[hF.outs k hk,oQ]; simp⟩,fun k hk=>by rw[he k hk]; rfl,he⟩
 rw[he k hk]
 exact hg.ext.keep k hk h0
theorem cP7 {w w2 WC:World}{sa:Option Addr}{n sc:Nat}{B D:Nat->Blk}{key:Int}{v u:cB}{x:aK}{fr name:ByteArray}{l2:List Ent}{g:Nat}{cc:Int}{L:Nat->Prop}{ms:List aZ}(hcb:CB w WC sa n sc v)(hsz2:w.heap.size+4<=w2.heap.size)(g8:w2.heap.size<=g)(hx:aV n B key x)(hh:dY n B (aG x))(hg:Grow n B D (aG ⟨name,l2,[]⟩))(hcf:ClF n B D x fr name ⟨name,l2,[]⟩)(hok:aV n D key ⟨name,l2,[]⟩)(hheld:dY n D (aG ⟨name,l2,[]⟩))(hfew:∀ k,k<n->(D k).refs<=cc+6)(hOD:Own WC g n D)(hSN:fQ w2.heap.size L WC u ⟨name,l2,[]⟩ ms)(hL:∀ b,L b->w2.heap.size<=b):
 aQ7 w n B key x fr name cc (.returned (.tuple #[.agg #[.slice (some ⟨g,0,none⟩) n n],.agg #[.string name,.slice u.fa u.fn u.fc,.slice u.sa u.sn u.sc],.int .i64 0])) (bA5 (WC.setCell ⟨w.heap.size+1+1,0,none⟩ (.slice (some ⟨g,0,none⟩) n n)) (w.heap.size+1+1+1) ⟨name,u.fa,u.fn,u.fc,u.sa,u.sn,u.sc⟩):=by
 have k1:=gT WC (w.heap.size+1+1) (.slice (some ⟨g,0,none⟩) n n)
 have k2:=jF (WC.setCell ⟨w.heap.size+1+1,0,none⟩ (.slice (some ⟨g,0,none⟩) n n)) (w.heap.size+1+1+1) ⟨name,u.fa,u.fn,u.fc,u.sa,u.sn,u.sc⟩
 have o1:=Only.of_kept (M:=fun k=>k=w.heap.size+1+1\/k=w.heap.size+1+1+1) k1 (.inl rfl)
 have o2:=Only.of_kept (M:=fun k=>k=w.heap.size+1+1\/k=w.heap.size+1+1+1) k2 (.inr rfl)
 have on:=o1.trans o2
 have hS2:=(hSN.only on (fun b hb m=>by have:=(hSN.mine_ge hb).1; omega) (fun b hb m=>by have:=hL b hb; omega)).at
 refine⟨hcb.put _ _,.inr ⟨g,D,⟨name,u.fa,u.fn,u.fc,u.sa,u.sn,u.sc⟩,⟨name,l2,[]⟩,_,rfl,hx,hh,hg,fun _ _=>rfl,hok,hheld,hcf,hfew,⟨by omega,rG hOD on (fun b _ m=>by omega)⟩,?_⟩⟩
 exact⟨rfl,hS2.small,hS2.files.weaken (fun b _ h=>by rcases h with h | h; (· omega); have:=hL b h; omega),hS2.snaps.weaken (fun b _ h=>by rcases h with h | h; (· omega); have:=hL b h; omega),hS2.caps⟩
theorem Clo.split {B:Nat->Blk}{l:List Int}{x:Int}(h:Clo B l x):∃ r∈l,r≠0/\Clo B [r] x:=
 h (fun x=>∃ r∈l,r≠0/\Clo B [r] x) (fun r hr h0=>⟨r,hr,h0,Clo.root (List.mem_singleton.2 rfl) h0⟩) fun y ⟨r,hr,h0,hy⟩ k hk hk0=>⟨r,hr,h0,hy.kid hk hk0⟩
theorem Clo.of_one {B:Nat->Blk}{l:List Int}{r x:Int}(h:Clo B [r] x)(hr:r∈l):Clo B l x:=h.mono fun s hs h0=>by
 rw[List.mem_singleton.1 hs] at h0 ⊢
 exact Clo.root hr h0
theorem Clo.sub {B:Nat->Blk}{l m:List Int}{x:Int}(h:Clo B l x)(hs:∀ r∈l,r≠0->r∈m):Clo B m x:=h.mono fun r hr h0=>Clo.root (hs r hr h0) h0
theorem bW3 {B:Nat->Blk}{K l:List Int}{x:Int}:Clo (eX B K) l x↔Clo B l x:=
 ⟨fun h=>h (Clo B l) (fun r hr h0=>Clo.root hr h0) fun y hy k hk h0=>hy.kid hk h0,fun h=>h (Clo (eX B K) l) (fun r hr h0=>Clo.root hr h0) fun y hy k hk h0=>hy.kid hk h0⟩
theorem aT9 {x y:aK}{a:aP}(h:Plain x a y):∀ r∈aG y,r∈aG x:=by
 intro r hr
 rw[gL] at hr ⊢
 obtain⟨e,he,rfl⟩:=bV.1 hr
 have key:∃ e'∈kK x,e'.root=e.root:=by
  rcases h with⟨_,p,hp,_,rfl⟩ | ⟨_,_,p,q,hp,_,_,_,rfl⟩ | ⟨_,_,q,_,_,rfl⟩ | ⟨_,_,q,hq,_,rfl⟩ | ⟨_,_,q,hq,_,rfl⟩
  ·rcases List.mem_append.1 he with h | h
   ·exact⟨e,List.mem_append_left _ ((List.eraseIdx_sublist _ _).subset h),rfl⟩
   ·exact⟨e,List.mem_append_right _ h,rfl⟩
  ·rcases List.mem_append.1 he with h | h
   ·rcases mem_insert.1 h with rfl | h
    ·exact⟨x.files[p],List.mem_append_left _ (List.getElem_mem hp),rfl⟩
    ·exact⟨e,List.mem_append_left _ ((List.eraseIdx_sublist _ _).subset h),rfl⟩
   ·exact⟨e,List.mem_append_right _ h,rfl⟩
  ·rcases List.mem_append.1 he with h | h
   ·exact⟨e,List.mem_append_left _ h,rfl⟩
   ·obtain⟨s,hs,h⟩:=List.mem_flatMap.1 h
    rcases mem_insert.1 hs with rfl | hs
    ·exact⟨e,List.mem_append_left _ h,rfl⟩
    ·exact⟨e,List.mem_append_right _ (List.mem_flatMap.2 ⟨s,hs,h⟩),rfl⟩
  ·rcases List.mem_append.1 he with h | h
   ·exact⟨e,List.mem_append_left _ h,rfl⟩
   ·obtain⟨s,hs,h⟩:=List.mem_flatMap.1 h
    exact⟨e,List.mem_append_right _ (List.mem_flatMap.2 ⟨s,(List.eraseIdx_sublist _ _).subset hs,h⟩),rfl⟩
  ·rcases List.mem_append.1 he with h | h
   ·exact⟨e,List.mem_append_right _ (List.mem_flatMap.2 ⟨x.snaps[q],List.getElem_mem hq,h⟩),rfl⟩
   ·exact⟨e,List.mem_append_right _ h,rfl⟩
 obtain⟨e', h1,h2⟩:=key
 exact bV.2 ⟨e', h1,h2⟩
theorem zO {n:Nat}{B C:Nat->Blk}{key:Int}{x y:aK}{nm:ByteArray}{N:Int->Int->List Int}{cc made:Int}(h:Wrote n B C key x nm N cc made y):Ext n B C/\∀ r∈aG y,r∈aG x\/∀ z,Clo C [r] z->(B (z-1).toNat).refs=0\/Clo B (aG x) z:=by
 obtain⟨root,size,hok,hT,p,ht⟩:=h
 refine⟨hT.turned.ext,fun r hr=>?_⟩
 have hroot:root=0\/root∈aG x:=by
  rcases ht with⟨hp,_,h,_⟩ | ⟨_,h,_⟩
  ·right
   rw[h,gL]
   exact bV.2 ⟨x.files[p],List.mem_append_left _ (List.getElem_mem hp),rfl⟩
  ·exact .inl h
 have hmade:r=made->r∈aG x\/∀ z,Clo C [r] z->(B (z-1).toNat).refs=0\/Clo B (aG x) z:=fun e=>.inr fun z hz=>by
  rw[e] at hz
  rcases hT.fro z hz with h | h
  ·exact .inl h
  ·exact .inr (h.sub fun s hs h0=>by
    rw[List.mem_singleton.1 hs] at h0 ⊢
    exact hroot.resolve_left h0)
 have hold:∀ e:Ent,e∈x.files->e.root=r->r∈aG x:=fun e he h=>by
  rw[gL]
  exact bV.2 ⟨e,List.mem_append_left _ he,h⟩
 rcases List.mem_append.1 hr with h | h
 ·obtain⟨e,he,hr'⟩:=bV.1 h
  rcases ht with⟨hp,_,_,_,rfl⟩ | ⟨_,_,_,_,_,_,rfl⟩
  ·rcases lW he with rfl | he
   ·exact hmade hr'.symm
   ·exact .inl (hold e he hr')
  ·rcases mem_insert.1 he with rfl | he
   ·exact hmade hr'.symm
   ·exact .inl (hold e he hr')
 ·left
  have e:y.snaps=x.snaps:=by rcases ht with⟨_,_,_,_,rfl⟩ | ⟨_,_,_,_,_,_,rfl⟩<;>rfl
  rw[e] at h
  exact List.mem_append_right _ h
theorem kV.from' {n:Nat}{B C:Nat->Blk}{key:Int}{x y:aK}{a:aP}{made cc:Int}(h:kV n B C key x a made y cc):Ext n B C/\∀ r∈aG y,r∈aG x\/∀ z,Clo C [r] z->(B (z-1).toNat).refs=0\/Clo B (aG x) z:=by
 rcases h with⟨_,_,_,h⟩ | ⟨_,_,_,h⟩ | ⟨h,rfl,_⟩
 ·exact zO h
 ·exact zO h
 ·exact⟨Ext.refl _ _,fun r hr=>.inl (aT9 h r hr)⟩
theorem aZ6 {t:aO}{k:Nat}{x:aK}(hk:t.sets[k]? =some x)(y:aK)(r:Int):(cZ (t.sets.set k y)).count r+(aG x).count r=(aL t).count r+(aG y).count r:=by
 obtain⟨h,rfl⟩:=List.getElem?_eq_some_iff.1 hk
 have e:t.sets=t.sets.take k++t.sets[k]::t.sets.drop (k+1):=by rw[List.getElem_cons_drop,List.take_append_drop]
 have e2:t.sets.set k y=t.sets.take k++y::t.sets.drop (k+1):=by rw[List.set_eq_take_append_cons_drop,if_pos h]
 unfold aL
 rw[e2]
 conv=>rhs; rw[e]
 simp only[cZ,List.flatMap_append,List.flatMap_cons,List.count_append]
 omega
theorem aQ.beside {n:Nat}{B:Nat->Blk}{l:List aO}{i k j:Nat}{t:aO}{x z:aK}(h:aQ n B l)(hi:l[i]? =some t)(hk:t.sets[k]? =some x)(hj:t.sets[j]? =some z)(hjk:j≠k):∀ r∈aG z,r∈(0::aQ1 n B (aG x)):=by
 intro r hr
 have ht:=h.tens t (List.mem_of_getElem? hi)
 rcases(ht.sets z (List.mem_of_getElem? hj)).rootBd r hr with rfl | ⟨h1,h2⟩
 ·exact List.mem_cons_self
 ·refine List.mem_cons_of_mem _ (rO.2 ⟨(r-1).toNat,by omega,?_,by omega⟩)
  have e:(((r-1).toNat:Nat):Int)+1=r:=by omega
  have h3:=h.held (r-1).toNat (by omega)
  have h5:0<(aG z).count r:=List.count_pos_iff.2 hr
  have h6:=aZ6 hk aK.zero r
  have h7:(aG z).count r<=(cZ (t.sets.set k aK.zero)).count r:=by
   have hm:z∈t.sets.set k aK.zero:=List.mem_of_getElem? (i:=j) (by rw[List.getElem?_set_ne (fun f=>hjk f.symm)]; exact hj)
   obtain⟨l1,l2,e3⟩:=List.append_of_mem hm
   rw[e3]
   simp only[cZ,List.flatMap_append,List.flatMap_cons,List.count_append]
   omega
  have h8:(aG aK.zero).count r=0:=by simp[aG,aT,dR,aK.zero]
  have h9:=mF hi ⟨0,0,[]⟩ r
  have h0:(aL ⟨0,0,[]⟩).count r=0:=by simp[aL,cZ]
  rw[e] at h3 ⊢
  omega
theorem cE6 {n:Nat}{B C:Nat->Blk}{key:Int}{x y:aK}{a:aP}{made cc:Int}(h:kV n B C key x a made y cc):y.name=x.name:=by
 rcases h with⟨_,_,_,_,_,_,_,_,h⟩ | ⟨_,_,_,_,_,_,_,_,h⟩ | ⟨h,_,_⟩
 ·rcases h with⟨_,_,_,_,rfl⟩ | ⟨_,_,_,_,_,_,rfl⟩<;>rfl
 ·rcases h with⟨_,_,_,_,rfl⟩ | ⟨_,_,_,_,_,_,rfl⟩<;>rfl
 ·rcases h with⟨_,_,_,_,rfl⟩ | ⟨_,_,_,_,_,_,_,_,rfl⟩ | ⟨_,_,_,_,_,rfl⟩ | ⟨_,_,_,_,_,rfl⟩ | ⟨_,_,_,_,_,rfl⟩<;>rfl
theorem aQ.changed {n:Nat}{B D:Nat->Blk}{l:List aO}{i k:Nat}{t:aO}{x y:aK}{a:aP}{cc:Int}(h:aQ n B l)(hi:l[i]? =some t)(hk:t.sets[k]? =some x)(hb:Bytes a.bytes)(hc:∀ k,k<n->(B k).refs<=cc)(hcc:cc+iP a+24<=1000000)(hD:Did n B t.key x a cc D y):Right n D/\jK n D ⟨t.key,t.quota,t.sets.set k y⟩/\After n t.key B D x y:=by
 obtain⟨hx,hh,_⟩:=h.heldX hi (List.mem_of_getElem? hk)
 have hA:=(hD.after hx hh hb hc hcc).1
 have ht:=h.tens t (List.mem_of_getElem? hi)
 obtain⟨hkl,hkx⟩:=List.getElem?_eq_some_iff.1 hk
 have hnm:y.name=x.name:=by obtain⟨C,made,hY,_,_⟩:=hD; exact cE6 hY
 refine⟨hA.moved.right,⟨ht.kb,ht.qb,by simpa using ht.few,fun z hz=>?_,xH ht.order hkl (by rw[hkx]; unfold aK.nm; rw[hnm])⟩,hA⟩
 obtain⟨j,hj,rfl⟩:=List.mem_iff_getElem.1 hz
 simp only[List.length_set] at hj
 by_cases e:k=j
 ·subst e
  rw[List.getElem_set_self]
  exact hA.ok
 ·rw[List.getElem_set_ne e]
  have hjz:t.sets[j]? =some t.sets[j]:=List.getElem?_eq_getElem hj
  exact((ht.sets _ (List.getElem_mem hj)).bytes hA.moved.right hA.moved.stays.zero (h.beside hi hk hjz (fun f=>e f.symm))).1
theorem aQ.change {n:Nat}{B D:Nat->Blk}{l:List aO}{i k:Nat}{t:aO}{x y:aK}{a:aP}{cc q:Int}(h:aQ n B l)(hi:l[i]? =some t)(hk:t.sets[k]? =some x)(hb:Bytes a.bytes)(hc:∀ k,k<n->(B k).refs<=cc)(hcc:cc+iP a+24<=1000000)(hD:Did n B t.key x a cc D y)(hu:qU D (cZ (t.sets.set k y)) q)(hq:q<=t.quota):Step n B D l i ⟨t.key,t.quota,t.sets.set k y⟩:=by
 obtain⟨hR,hT,hA⟩:=h.changed hi hk hb hc hcc hD
 obtain⟨hx,hh,hle⟩:=h.heldX hi (List.mem_of_getElem? hk)
 have ht:=h.tens t (List.mem_of_getElem? hi)
 refine h.move hi rfl hA.moved (fun r _=>hle r) (fun r _=>?_) hT ⟨q,hu,hq⟩ fun z hz=>?_
 ·exact aZ6 hk y r
 ·obtain⟨r,hr,hr0,hz⟩:=hz.split
  obtain⟨C,made,hY,_,hF⟩:=hD
  have hzC:Clo C [r] z:=bW3.1 (bD9 hF hR (hT.rootsOk r hr) hz)
  obtain⟨hE,hfro⟩:=hY.from'
  have hold:r∈aL t->Clo B (aL t) z\/¬There n B z:=fun hrt=>by
   have hs:=qW h.right (l:=[r]) (fun s hs=>by rw[List.mem_singleton.1 hs]; exact ht.rootsOk r hrt) hE
   exact .inl ((hs.back hzC).of_one hrt)
  obtain⟨z', hz', hr'⟩:=List.mem_flatMap.1 hr
  have hxt:∀ s∈aG x,s∈aL t:=fun s hs=>List.mem_flatMap.2 ⟨x,List.mem_of_getElem? hk,hs⟩
  rcases lW hz' with rfl | hz'
  ·rcases hfro r hr' with h1 | h1
   ·exact hold (hxt r h1)
   ·rcases h1 z hzC with h2 | h2
    ·exact .inr fun f=>f.2.2 h2
    ·exact .inl (h2.sub fun s hs _=>hxt s hs)
  ·exact hold (List.mem_flatMap.2 ⟨z', hz', hr'⟩)
theorem aQ.more {n:Nat}{B C:Nat->Blk}{l:List aO}{i p:Nat}{t:aO}{y:aK}(h:aQ n B l)(hi:l[i]? =some t)(h3:t.sets.length<3)(hF:Found aK.nm t.sets y.nm p false)(hR:Right n C)(hM:∀ k,k<n->C k=eX B (aG y) k)(hy:aV n C t.key y)(hsub:∀ r∈aG y,r∈aL t):Step n B C l i ⟨t.key,t.quota,t.sets.take p++y::t.sets.drop p⟩:=by
 have ht:=h.tens t (List.mem_of_getElem? hi)
 have hxt:Ext n B C:=⟨fun k hk h0=>by
  have:=(h.right.one k hk).bounds
  rw[hM k hk]
  exact⟨by rw[fO]; omega,rfl,rfl,rfl⟩⟩
 have hout:∀ k,k<n->outs n C k=outs n B k+((aG y).count ((k:Int)+1):Int):=fun k hk=>by
  rw[<-oQ]
  unfold outs
  rw[hM k hk,gY _ fun i hi=>by rw[hM i hi]]
 have hg:Grow n B C (aG y):=⟨hR,hxt,hout⟩
 have hmv:tZ n B C [] (aG y):=(aF4 h.right (fun k hk=>by simpa using qI h.right k hk) hg hR (bU7 hR) (fun r _=>by simp)).1
 have hst:gJ n B C (aL t):=qW h.right ht.rootsOk hxt
 have hcnt:∀ r:Int,(cZ (t.sets.take p++y::t.sets.drop p)).count r=(aL t).count r+(aG y).count r:=fun r=>by
  have e:aL t=cZ (t.sets.take p++t.sets.drop p):=by rw[List.take_append_drop]; rfl
  rw[e]
  simp only[cZ,List.flatMap_append,List.flatMap_cons,List.count_append]
  omega
 have hmem:∀ r,r∈cZ (t.sets.take p++y::t.sets.drop p)↔r∈aL t:=fun r=>by
  rw[<-List.count_pos_iff,hcnt r,<-List.count_pos_iff]
  constructor
  ·intro h0
   by_cases e:0<(aG y).count r
   ·exact List.count_pos_iff.2 (hsub r (List.count_pos_iff.1 e))
   ·omega
  ·intro h0; omega
 have hclo:∀ z,Clo C (cZ (t.sets.take p++y::t.sets.drop p)) z↔Clo B (aL t) z:=fun z=>by
  constructor
  ·intro hz
   exact hst.back (hz.sub fun r hr _=>(hmem r).1 hr)
  ·intro hz
   exact(hst.clo hz).sub fun r hr _=>(hmem r).2 hr
 refine h.move hi rfl hmv (fun r _=>by simp) (fun r _=>by have:=hcnt r; unfold aL at this ⊢; simp only[List.count_nil]; omega) ⟨ht.kb,ht.qb,?_,fun z hz=>?_,?_⟩ ?_ fun z hz=>.inl ((hclo z).1 hz)
 ·show (t.sets.take p++y::t.sets.drop p).length<=3
  rw[length_insert]
  omega
 ·rcases mem_insert.1 hz with rfl | hz
  ·exact hy
  ·exact((ht.sets z hz).bytes hR hst (fun r hr=>List.mem_flatMap.2 ⟨z,hz,hr⟩)).1
 ·exact jC (f:=aK.nm) ht.order hF.ahead (jX ht.order hF)
 ·obtain⟨m,⟨V,h1,h2,h3⟩,h4⟩:=h.uses t (List.mem_of_getElem? hi)
  exact⟨m,⟨V,h1,fun x=>(h2 x).trans (hclo x).symm,h3⟩,h4⟩
theorem aQ.add {n:Nat}{B:Nat->Blk}{l:List aO}{i p:Nat}{t:aO}{nm:ByteArray}(h:aQ n B l)(hi:l[i]? =some t)(h3:t.sets.length<3)(hn:aM nm)(hF:Found aK.nm t.sets nm.data.toList p false):Step n B B l i ⟨t.key,t.quota,t.sets.take p++⟨nm,[],[]⟩::t.sets.drop p⟩:=by
 have ht:=h.tens t (List.mem_of_getElem? hi)
 refine h.more (y:=⟨nm,[],[]⟩) hi h3 hF h.right (fun k _=>by rw[show aG ⟨nm,[],[]⟩=[] from rfl,xN]) ?_ (fun r hr=>by cases hr)
 exact qY ht.kb h.right ⟨hn,by simp,fun e he=>by simp at he,List.Pairwise.nil,by simp,fun s h=>by simp at h,List.Pairwise.nil,fun s h=>by simp at h⟩ (fun e he=>by simp[kK] at he)
theorem aQ.clone {n:Nat}{B C:Nat->Blk}{l:List aO}{i p k:Nat}{t:aO}{x y:aK}(h:aQ n B l)(hi:l[i]? =some t)(hk:t.sets[k]? =some x)(h3:t.sets.length<3)(hF:Found aK.nm t.sets y.nm p false)(hy:aV n C t.key y){fr nm:ByteArray}(hc:ClF n B C x fr nm y):Step n B C l i ⟨t.key,t.quota,t.sets.take p++y::t.sets.drop p⟩:=by
 refine h.more hi h3 hF hy.right hc.more hy fun r hr=>?_
 obtain⟨q,hq,_,e⟩:=hc.snap
 have e2:aG y=aT x.snaps[q].files:=by unfold aG; rw[hc.none,e]; simp[dR]
 rw[e2] at hr
 exact List.mem_flatMap.2 ⟨x,List.mem_of_getElem? hk,List.mem_append_right _ (List.mem_flatMap.2 ⟨_,List.getElem_mem hq,hr⟩)⟩
open Classical in
theorem bG2 {V:List Int}(h:jH V)(P:Int->Prop)(hP:∀ x,P x->x∈V):∃ L:List Int,jH L/\(∀ x,x∈L↔P x)/\L.length<=V.length:=
 ⟨V.filter (fun x=>decide (P x)),h.sublist List.filter_sublist,fun x=>by
   rw[List.mem_filter,decide_eq_true_eq]
   exact⟨fun h=>h.2,fun h=>⟨hP x h,h⟩⟩,List.length_filter_le _ _⟩
theorem aQ.destroy {n:Nat}{B D:Nat->Blk}{l:List aO}{i k:Nat}{t:aO}{x:aK}(h:aQ n B l)(hi:l[i]? =some t)(hk:t.sets[k]? =some x)(hR:Right n D)(hF:iU n B D (aG x)):Step n B D l i ⟨t.key,t.quota,t.sets.eraseIdx k⟩:=by
 have ht:=h.tens t (List.mem_of_getElem? hi)
 obtain⟨hkl,hkx⟩:=List.getElem?_eq_some_iff.1 hk
 obtain⟨hx,hh,hle⟩:=h.heldX hi (List.mem_of_getElem? hk)
 have hmv:tZ n B D (aG x) []:=(aF4 h.right hh (bC3 h.right) hR hF (fun r _=>by simp)).1
 have hcnt:∀ r:Int,(cZ (t.sets.eraseIdx k)).count r+(aG x).count r=(aL t).count r:=fun r=>by
  have e:t.sets=t.sets.take k++t.sets[k]::t.sets.drop (k+1):=by rw[List.getElem_cons_drop,List.take_append_drop]
  unfold aL
  conv=>rhs; rw[e]
  rw[List.eraseIdx_eq_take_drop_succ,hkx]
  simp only[cZ,List.flatMap_append,List.flatMap_cons,List.count_append]
  omega
 have hsub:∀ z∈t.sets.eraseIdx k,∃ j,j≠k/\t.sets[j]? =some z:=fun z hz=>by
  obtain⟨j,hj,rfl⟩:=List.mem_iff_getElem.1 hz
  rw[List.length_eraseIdx,if_pos hkl] at hj
  rw[List.getElem_eraseIdx]
  split
  ·exact⟨j,by omega,List.getElem?_eq_getElem (by omega)⟩
  ·exact⟨j+1,by omega,List.getElem?_eq_getElem (by omega)⟩
 have hok:jK n D ⟨t.key,t.quota,t.sets.eraseIdx k⟩:=⟨ht.kb,ht.qb,Nat.le_trans (List.eraseIdx_sublist _ _).length_le ht.few,fun z hz=>by
  obtain⟨j,hjk,hj⟩:=hsub z hz
  exact((ht.sets z (List.mem_of_getElem? hj)).bytes hR hmv.stays.zero (h.beside hi hk hj hjk)).1,iM ht.order k⟩
 have hst:gJ n B D (cZ (t.sets.eraseIdx k)):=oK hR hF hok.rootsOk
 have hin:∀ z,Clo D (cZ (t.sets.eraseIdx k)) z->Clo B (aL t) z:=fun z hz=>(hst.back hz).sub fun r hr _=>by
  obtain⟨z', hz', hr⟩:=List.mem_flatMap.1 hr
  exact List.mem_flatMap.2 ⟨z', (List.eraseIdx_sublist _ _).subset hz', hr⟩
 refine h.move hi rfl hmv (fun r _=>hle r) (fun r _=>by have:=hcnt r; unfold aL at this ⊢; simp only[List.count_nil]; omega) hok ?_ fun z hz=>.inl (hin z hz)
 obtain⟨m,⟨V,h1,h2,h3⟩,h4⟩:=h.uses t (List.mem_of_getElem? hi)
 obtain⟨L,hL1,hL2,hL3⟩:=bG2 h1 (fun x=>Clo D (cZ (t.sets.eraseIdx k)) x) (fun x hx=>(h2 x).2 (hin x hx))
 exact⟨(L.length:Int),⟨L,hL1,hL2,rfl⟩,by omega⟩
theorem Tryz.infoT:(Tryz.prog.info? 84).map (fun i=>(i.zero,i.size,i.bytes))=some (some (.agg #[.string ⟨#[]⟩,.slice none 0 0,.slice none 0 0]),3,64):=by kernel_rfl
theorem bJ8 (a:Option Addr)(n c:Nat)(cs:List Value)(w:World)(hn:n<=1000)(hl:cs.length=n*3)(h1:∀ v∈cs,v.oneCell'=true)
 (hc:0<n->∃ b off,a=some ⟨b,off,none⟩/\b<w.heap.size/\∀ j u,cs[j]? =some u->w.cell? ⟨b,off+j,none⟩=some u):
 Calls Tryz.prog 32 #[.slice a n c] w fun e w'=>
  Below w.heap.size w w'/\∃ a' c', e=.returned (.slice a' n c')/\n<=c'/\w'.ownsRow w.heap.size 84 3 (.slice a' n c') n cs:=by
 obtain⟨i0,hi,hz0,hz1,hz2⟩:=info_parts Tryz.infoT
 have qn:∀ (w:World) (a:Option Addr) (n c n' c':Nat),(binOp .eql 62 (.slice a n c) (.slice none n' c')).run Tryz.prog w=.ok (.bool a.isNone) w:=fun w a n c n' c'=>Lib.run_eql_slice_nil w _ _ a n c n' c' Tryz.underlying62
 cases a with
 | none=>
   have hn0:n=0:=by
    rcases Nat.eq_zero_or_pos n with h0 | h0
    ·exact h0
    ·obtain⟨_,_,h1,_⟩:=hc h0
     cases h1
   subst hn0
   replace hl:=hid hl
   replace hc:=hid hc
   replace h1:=hid h1
   go_enter Tryz.func32,Tryz.ntmps32
   go_wp2_with fail
   go_ret
   have e0:cs=[]:=List.eq_nil_of_length_eq_zero (by have:=hl.out; omega)
   exact⟨Below.refl _ _,_,_,rfl,Nat.le_refl _,by rw[e0]; exact World.ownsRow_nil _ _ _ _⟩
 | some x=>
   have hcn:∀ j u,cs[j]? =some u->(w.alloc (.cells #[] 84)).cell? (x.add j)=some u:=by
    intro j u hj
    have hjl:j<cs.length:=by
     rcases Nat.lt_or_ge j cs.length with h | h
     ·exact h
     ·simp[List.getElem?_eq_none h] at hj
    obtain⟨b,off,he,hb,hcc⟩:=hc (by omega)
    obtain rfl:x=⟨b,off,none⟩:=by simpa using he
    have ea:(⟨b,off,none⟩:Addr).add j=⟨b,off+j,none⟩:=by unfold Addr.add; split<;>simp_all
    rw[ea,World.cell?_alloc_past _ _ _ hb]
    exact hcc j u hj
   have A:=hid hcn
   have H1:=hid h1
   have Hl:=hid hl
   clear hcn hc h1 hl
   go_enter Tryz.func32,Tryz.ntmps32
   go_wp2_with (at_builtin; refine wpList_append_own _ rfl _ _ 62 rfl w.heap.size 84 i0 _ 3 64 Tryz.underlying62 hi hz0 hz1 hz2 rfl (by decide) _ _ _ rfl (World.ownsRow_made w #[] 0 (Nat.le_refl _) (Nat.zero_le _) (by simp)) x n c cs rfl ?qc1 ?qc2 ?qc3 ?qc4 ?qc5 ?qc6 ?_)
   case qc1=>exact Hl.out
   case qc2=>exact A.out
   case qc3=>exact H1.out
   case qc4=>unfold maxLen; omega
   case qc5=>omega
   case qc6=>simp
   intro v' w1 hown hgrow hnil
   have hown':w1.ownsRow w.heap.size 84 3 v' n cs:=by simpa using hown
   have hbel:=((Below.refl _ w).alloc (Nat.le_refl _) _).grown hgrow (by simp) (by intro k hk; simp[Value.ownBlock] at hk; omega)
   clear hown hgrow A hnil
   obtain⟨a', c', rfl,hnc⟩:∃ a' c', v'=.slice a' n c'/\n<=c':=by
    rcases hown'.2 with⟨hv,h0⟩ | ⟨g,cap,cur,hv,_,_,hnc,_⟩
    ·exact⟨none,0,by rw[hv,h0],by omega⟩
    ·exact⟨_,_,hv,hnc⟩
   replace hown':=hid hown'
   go_wp2_with fail
   go_ret
   exact⟨hbel,a', c', rfl,hnc,hown'.out⟩
theorem aX0 (g n cap i j:Nat)(cur:Array Value)(w:World)(hij:i<j)(hj:j<=n)(hnc:n<=cap)(hcm:cap<=maxLen)(hsz:cur.size=cap*3)(hg:aC w g cur 84)(hone:∀ v∈cur.toList.take (n*3),v.oneCell'=true):
 Calls Tryz.prog 71 #[.slice (some ⟨g,0,none⟩) n cap,.int .i64 i,.int .i64 j] w fun e w'=>
  e=.returned (.slice (some ⟨g,0,none⟩) (i+(n-j)) cap)/\Kept g w w'/\∃ cur':Array Value,aC w' g cur' 84/\cur'.size=cap*3/\cur'.toList.take ((i+(n-j))*3)=cur.toList.take (i*3)++(cur.toList.take (n*3)).drop (j*3):=by
 obtain⟨i0,hi0,hz0,hz1,hz2⟩:=info_parts Tryz.infoT
 obtain⟨news,hnews⟩:∃ news,news=(cur.toList.take (n*3)).drop (j*3):=⟨_,rfl⟩
 have hlen:news.length=(n-j)*3:=by
  rw[hnews,List.length_drop,List.length_take,Array.length_toList,hsz,Nat.sub_mul]
  omega
 have hcg:∀ t u,news[t]? =some u->w.drew.cell? ⟨g,j*3+t,none⟩=some u:=by
  intro t u hu
  have ht:t<news.length:=(List.getElem?_eq_some_iff.1 hu).1
  show w.cell? ⟨g,j*3+t,none⟩=some u
  rw[hg.cell,<-hu,hnews,List.getElem?_drop,List.getElem?_take,if_pos (by omega),Array.getElem?_toList]
 obtain⟨A,hA,hsrc⟩:∃ A:Addr,(if cap=j then some (⟨g,0,none⟩:Addr) else some ⟨g,j*3,none⟩)=some A/\Hid (∀ t u,news[t]? =some u->w.drew.cell? (A.add t)=some u):=by
  by_cases h:cap=j
  ·refine⟨⟨g,0,none⟩,by simp[h],fun t u hu=>?_⟩
   have h0:news.length=0:=by rw[hlen]; omega
   rw[List.length_eq_zero_iff.1 h0] at hu
   simp at hu
  ·refine⟨⟨g,j*3,none⟩,by simp[h],fun t u hu=>?_⟩
   rw[Addr.add_lit]
   exact hcg t u hu
 have s1:Hid (news.length=(n-j)*3):=hlen
 have s2:Hid (∀ u∈news,u.oneCell'=true):=by
  intro u hu
  rw[hnews] at hu
  exact hone u (List.mem_of_mem_drop hu)
 have s3:Hid (∀ t,t<news.length->(w.drew.cell? ⟨g,0+i*3+t,none⟩).isSome=true/\w.drew.frozen? ⟨g,0+i*3+t,none⟩=false):=by
  intro t ht
  rw[hlen] at ht
  refine⟨?_,hg.frozen _⟩
  show (w.cell? _).isSome=true
  rw[hg.cell,Array.getElem?_eq_getElem (by rw[hsz]; omega)]
  rfl
 have hfit:i*3+news.length<=cur.size:=by rw[hlen,hsz]; omega
 obtain⟨W1,hW1⟩:∃ W1,W1=w.drew.setCells g (0+i*3) news:=⟨_,rfl⟩
 have hk1:Kept g w W1:=by
  rw[hW1]
  exact(show Kept g w w.drew from⟨rfl,rfl,rfl,rfl,fun _ _=>rfl⟩).trans (jM g news _ _)
 have hc1:aC W1 g (aX cur (i*3) news) 84:=by
  rw[hW1,Nat.zero_add]
  exact jB news (i*3) w.drew cur hg hfit
 have hs1:(aX cur (i*3) news).size=cap*3:=by rw[dH hfit,hsz]
 have ht1:(aX cur (i*3) news).toList.take ((i+(n-j))*3)=cur.toList.take (i*3)++news:=by
  rw[<-dX hfit,hlen,Nat.add_mul]
 generalize aX cur (i*3) news=cur1 at *
 obtain⟨vs,hvl,hclr⟩:=lL (P:=Tryz.prog) W1 62 84 84 (.agg #[.string ⟨#[]⟩,.slice none 0 0,.slice none 0 0]) 3 g ((i+(n-j))*3) (n-(i+(n-j))) (cap-(i+(n-j))) cur1 Tryz.underlying62 (fun w=>by simp[Go.zeroValue,typeInfo,hi0,hz0]) rfl (by simp[Value.cells]; decide) (by omega) hc1 (by rw[hs1]; omega)
 have hfin:Hid (Kept g w (W1.setRow g (aX cur1 ((i+(n-j))*3) vs))/\∃ cur':Array Value,aC (W1.setRow g (aX cur1 ((i+(n-j))*3) vs)) g cur' 84/\cur'.size=cap*3/\cur'.toList.take ((i+(n-j))*3)=cur.toList.take (i*3)++(cur.toList.take (n*3)).drop (j*3)):=by
  have hf:(i+(n-j))*3+vs.length<=cur1.size:=by rw[hvl,hs1]; omega
  exact⟨hk1.trans (bN _ _ _),_,dD hc1,by rw[dH hf,hs1],by rw[tF hf (Nat.le_refl _),ht1,hnews]⟩
 have hW:Hid (W1=w.drew.setCells g (0+i*3) news):=hW1
 have hic:i<=cap:=by omega
 have hjc:j<=cap:=by omega
 have hin:i<=n:=by omega
 have hcm':cap<=9223372036854775807:=by unfold maxLen at hcm; omega
 clear hW1 hk1 hc1 hs1 ht1 hcg hfit hvl hlen hnews hsz hg hone hcm
 go_enter Tryz.func71,Tryz.ntmps71
 go_wp2_with fail
 go_region_law (refine step_append_room rfl (.tmp 22) (.tmp 25) 62 rfl 84 i0 3 Tryz.underlying62 hi0 hz1 g 0 i cap (by simp[Act.eval,Act.put]) A (n-j) (cap-j) news (by simp[Act.eval,Act.put]) s1.out hsrc.out s2.out (by omega) s3.out ?_; rw[<-hW.out])
 go_wp2
 go_ret
 exact⟨rfl,hfin.out⟩
theorem aU7 (sa:Option Addr)(n c vb m vc base:Nat)(cs vs:List Value)(w:World)(hm:0<m)(hn:n+m<=1000)(hs:w.ownsRow base 84 3 (.slice sa n c) n cs)(hb:base<=w.heap.size)(hvl:vs.length=m*3)
 (hvs:∀ j u,vs[j]? =some u->w.cell? ⟨vb,j,none⟩=some u) (h1:∀ v∈vs,v.oneCell'=true) (hcn:n<=c) (hc63:c<=maxLen):
 Calls Tryz.prog 65 #[.slice sa n c,.int .i64 n,.slice (some ⟨vb,0,none⟩) m vc] w fun e w'=>
  ∃ a' c', e=.returned (.slice a' (n+m) c')/\w'.ownsRow base 84 3 (.slice a' (n+m) c') (n+m) (cs++vs)/\w.grownBy w' (Value.slice sa n c).ownBlock/\((Value.slice a' (n+m) c').ownBlock=(Value.slice sa n c).ownBlock\/(Value.slice a' (n+m) c').ownBlock=some w.heap.size):=by
 obtain⟨i0,hi0,hz0,hz1,hz2⟩:=info_parts Tryz.infoT
 have hz:¬((m:Int)=0):=by omega
 have A:Hid (∀ j u,vs[j]? =some u->w.cell? ((⟨vb,0,none⟩:Addr).add j)=some u):=hid (fun j u hj=>by rw[Addr.add_lit,Nat.zero_add]; exact hvs j u hj)
 have H1:=hid h1
 have Hl:=hid hvl
 have Hs:=hid hs
 have hcm':c<=9223372036854775807:=by unfold maxLen at hc63; omega
 clear hvs h1 hvl hs hc63
 by_cases hcc:c=n
 ·subst hcc
  go_enter Tryz.func65,Tryz.ntmps65
  go_wp2_with (at_builtin; refine wpList_append_own_at _ rfl _ _ 62 rfl base 84 i0 _ 3 64 Tryz.underlying62 hi0 hz0 hz1 hz2 rfl (by decide) _ _ _ rfl Hs.out ⟨vb,0,none⟩ m vc vs rfl Hl.out A.out H1.out (by unfold maxLen; omega) (by omega) hb ?_)
  intro v' w1 hown hgrow hnil hat
  clear A hnil
  obtain⟨a', c', rfl⟩:∃ a' c', v'=.slice a' (c+m) c':=by
   rcases hown.2 with⟨hv,h0⟩ | ⟨g,cap,cur,hv,_⟩
   ·omega
   ·exact⟨_,_,hv⟩
  replace hown:=hid hown
  replace hgrow:=hid hgrow
  replace hat:=hid hat
  go_wp2_with fail
  go_ret
  exact⟨a', c', rfl,hown.out,hgrow.out,hat.out⟩
 ·go_enter Tryz.func65,Tryz.ntmps65
  go_wp2_with (at_builtin; refine wpList_append_own_at _ rfl _ _ 62 rfl base 84 i0 _ 3 64 Tryz.underlying62 hi0 hz0 hz1 hz2 rfl (by decide) _ _ _ rfl Hs.out ⟨vb,0,none⟩ m vc vs rfl Hl.out A.out H1.out (by unfold maxLen; omega) (by omega) hb ?_)
  intro v' w1 hown hgrow hnil hat
  clear A hnil
  obtain⟨a', c', rfl⟩:∃ a' c', v'=.slice a' (n+m) c':=by
   rcases hown.2 with⟨hv,h0⟩ | ⟨g,cap,cur,hv,_⟩
   ·omega
   ·exact⟨_,_,hv⟩
  replace hown:=hid hown
  replace hgrow:=hid hgrow
  replace hat:=hid hat
  go_wp2_with fail
  go_ret
  exact⟨a', c', rfl,hown.out,hgrow.out,hat.out⟩
theorem aC.shapeT {w:World}{g:Nat}{cs:Array Value}{t:TypeId}(h:aC w g cs t):w.shape? g=some (t,cs.size):=by
 unfold aC at h
 simp[World.shape?,h]
theorem aG1 (g n cap i vb m vc:Nat)(cur:Array Value)(vs:List Value)(vt:TypeId)(vcur:Array Value)(w:World)(hi:i<n)(hm:0<m)(hroom:n+m<=cap)(hcm:cap<=maxLen)(hvb:vb≠g)(hsz:cur.size=cap*3)(hg:aC w g cur 84)
 (hv:aC w vb vcur vt) (hvl:vs.length=m*3) (hvs:∀ j u,vs[j]? =some u->w.cell? ⟨vb,j,none⟩=some u) (h1c:∀ v∈cur.toList.take (n*3),v.oneCell'=true) (h1v:∀ v∈vs,v.oneCell'=true):
 Calls Tryz.prog 65 #[.slice (some ⟨g,0,none⟩) n cap,.int .i64 i,.slice (some ⟨vb,0,none⟩) m vc] w fun e w'=>
  e=.returned (.slice (some ⟨g,0,none⟩) (n+m) cap)/\Kept g w w'/\∃ cur':Array Value,aC w' g cur' 84/\cur'.size=cap*3/\cur'.toList.take ((n+m)*3)=cur.toList.take (i*3)++(vs++(cur.toList.take (n*3)).drop (i*3)):=by
 obtain⟨i0,hi0,hz0,hz1,hz2⟩:=info_parts Tryz.infoT
 have hzi:¬((m:Int)=0):=by omega
 have hz2':¬((i:Int)=(n:Int)):=by omega
 have hsize:(Tryz.prog.info? 84).map (·.size)=some 3:=by rw[hi0]; simp[hz1]
 have hzs:∀ w,(Go.sizeOf 84).run Tryz.prog w=.ok 3 w:=fun w=>by simp[Go.sizeOf,typeInfo,hi0,hz1]
 have hov:∀ lb cb,(callFunc 89 #[.slice (some ⟨vb,0,none⟩) m vc,.slice (some ⟨g,(i+m)*3,none⟩) lb cb]).run Tryz.prog w=.ok (.value (.bool false)) w:=fun lb cb=>by
  rw[run_callFunc_extern Tryz.func89 (by kernel_rfl) (by kernel_rfl) (by kernel_rfl) (e:=Extern.SlicesOverlaps.overlaps #[62,62] #[4]) (by kernel_rfl),
   Lib.run_overlaps_apart w 62 4 84 Tryz.underlying62 3 hzs ⟨vb,0,none⟩ ⟨g,(i+m)*3,none⟩ m vc lb cb hvb vt 84 vcur.size cur.size hv.shapeT hg.shapeT (by omega) (hv.frozen _) (hv.frozen _)]
  rfl
 obtain⟨tail,htail⟩:∃ tail,tail=(cur.toList.take (n*3)).drop (i*3):=⟨_,rfl⟩
 have htl:tail.length=(n-i)*3:=by
  rw[htail,List.length_drop,List.length_take,Array.length_toList,hsz,Nat.sub_mul]
  omega
 have hgd:aC w.drew g cur 84:=hg
 have hcp1:∀ ty dc sc,(Builtin.copy_ #[62,62] ty #[.slice (some ⟨g,(i+m)*3,none⟩) (n+m-(i+m)) dc,.slice (some ⟨g,i*3,none⟩) (n+m-i) sc]).run Tryz.prog w.drew=.ok (goInt ((n-i:Nat):Int)) (w.drew.setRow g (aX cur ((i+m)*3) tail)):=fun ty dc sc=>by
  have hmin:Nat.min (n+m-i) (n+m-(i+m))=n-i:=by simp only[Nat.min_def]; split<;>omega
  have:=dJ (P:=Tryz.prog) w.drew 62 62 ty 84 3 g ((i+m)*3) (n+m-(i+m)) dc ⟨g,i*3,none⟩ (n+m-i) sc cur 84 tail Tryz.underlying62 hsize hgd (by rw[hmin]; exact htl)
   (fun j v hj=>by
     have hjl:j<tail.length:=(List.getElem?_eq_some_iff.1 hj).1
     rw[Addr.add_lit,hgd.cell,<-hj,htail,List.getElem?_drop,List.getElem?_take,if_pos (by omega),Array.getElem?_toList])
   (by rw[htl,hsz]; omega) (fun v hv=>h1c v (List.mem_of_mem_drop (htail▸hv)))
  rw[hmin] at this
  exact this
 have hf1:(i+m)*3+tail.length<=cur.size:=by rw[htl,hsz]; omega
 have hc1:aC (w.drew.setRow g (aX cur ((i+m)*3) tail)) g (aX cur ((i+m)*3) tail) 84:=dD hgd
 have hk1:Kept g w (w.drew.setRow g (aX cur ((i+m)*3) tail)):=(show Kept g w w.drew from⟨rfl,rfl,rfl,rfl,fun _ _=>rfl⟩).trans (bN _ _ _)
 have hs1:(aX cur ((i+m)*3) tail).size=cap*3:=by rw[dH hf1,hsz]
 have ht1:(aX cur ((i+m)*3) tail).toList.take ((n+m)*3)=cur.toList.take ((i+m)*3)++tail:=by
  have:=dX hf1
  rw[htl,<-Nat.add_mul,show i+m+(n-i)=n+m by omega] at this
  exact this
 obtain⟨cur1,hcur1⟩:∃ cur1,cur1=aX cur ((i+m)*3) tail:=⟨_,rfl⟩
 rw[<-hcur1] at hcp1 hc1 hk1 hs1 ht1
 clear hcur1
 obtain⟨W1,hW1⟩:∃ W1,W1=w.drew.setRow g cur1:=⟨_,rfl⟩
 rw[<-hW1] at hcp1 hc1 hk1
 have hf2:i*3+vs.length<=cur1.size:=by rw[hvl,hs1]; omega
 have hcp2:∀ ty dc,(Builtin.copy_ #[62,62] ty #[.slice (some ⟨g,i*3,none⟩) (n+m-i) dc,.slice (some ⟨vb,0,none⟩) m vc]).run Tryz.prog W1=.ok (goInt m) (W1.setRow g (aX cur1 (i*3) vs)):=fun ty dc=>by
  have hmin:Nat.min m (n+m-i)=m:=by simp only[Nat.min_def]; split<;>omega
  have:=dJ (P:=Tryz.prog) W1 62 62 ty 84 3 g (i*3) (n+m-i) dc ⟨vb,0,none⟩ m vc cur1 84 vs Tryz.underlying62 hsize hc1 (by rw[hmin]; exact hvl)
   (fun j v hj=>by
     rw[Addr.add_lit,Nat.zero_add,hk1.cell (p:=⟨vb,j,none⟩) hvb]
     exact hvs j v hj)
   hf2 h1v
  rw[hmin] at this
  exact this
 have hfin:Hid (Kept g w (W1.setRow g (aX cur1 (i*3) vs))/\∃ cur':Array Value,aC (W1.setRow g (aX cur1 (i*3) vs)) g cur' 84/\cur'.size=cap*3/\cur'.toList.take ((n+m)*3)=cur.toList.take (i*3)++(vs++(cur.toList.take (n*3)).drop (i*3))):=by
  refine hid ⟨hk1.trans (bN _ _ _),_,dD hc1,by rw[dH hf2,hs1],?_⟩
  rw[lY,<-htail]
  have e1:cur1.toList.take (i*3)=cur.toList.take (i*3):=by
   have:=congrArg (List.take (i*3)) ht1
   rw[List.take_take,List.take_append_of_le_length (by rw[List.length_take,Array.length_toList,hsz]; omega),List.take_take] at this
   rw[show min (i*3) ((n+m)*3)=i*3 by omega,show min (i*3) ((i+m)*3)=i*3 by omega] at this
   exact this
  have e2:(cur1.toList.drop (i*3+vs.length)).take ((n-i)*3)=tail:=by
   have:=congrArg (List.drop ((i+m)*3)) ht1
   rw[List.drop_take,List.drop_left' (by rw[List.length_take,Array.length_toList,hsz]; omega)] at this
   rw[hvl,<-Nat.add_mul,<-this]
   congr 1
   rw[<-Nat.sub_mul]
   congr 1
   omega
  rw[e1,List.append_assoc,List.take_append,List.take_of_length_le (by rw[List.length_take,Array.length_toList,hsz]; omega)]
  congr 1
  rw[List.length_take,Array.length_toList,hsz,List.take_append,hvl,List.take_of_length_le (by rw[hvl]; omega)]
  congr 1
  rw[<-e2,hvl]
  congr 1
  omega
 have hW:Hid (W1=w.drew.setRow g cur1):=hW1
 have hw1:IntKind.i64.wrap ((i:Int)+(m:Int))=(i:Int)+(m:Int):=by rw[IntKind.wrap_i64]; unfold maxLen at hcm; omega
 have hb1:(0:Int)<=(i:Int)+(m:Int):=by omega
 have hin:i<=n:=by omega
 have htn:((i:Int)+(m:Int)).toNat=i+m:=by omega
 have hb2:¬(cap=i+m):=by omega
 have hb3:(i:Int)<=(n:Int)+(m:Int):=by omega
 have hb4:¬(cap=i):=by omega
 have hcm':cap<=9223372036854775807:=by unfold maxLen at hcm; omega
 clear hW1 hk1 hc1 hs1 ht1 hf1 hf2 htl htail hsz hg hgd h1c h1v hvs hv hvl hcm hsize hzs
 go_enter Tryz.func65,Tryz.ntmps65
 go_wp2_with (simp only[hov])
 go_region_law (refine fM rfl _ _ 62 62 rfl _ _ (by simp[Act.eval,Act.put]) (by simp[Act.eval,Act.put]) (hcp1 _ _ _) ?_)
 go_wp2_with (at_builtin; refine jI _ rfl _ _ 62 62 rfl _ _ rfl rfl (hcp2 _ _) ?_)
 go_ret
 exact⟨rfl,hfin.out⟩
theorem aN4 (g n cap i vb m vc:Nat)(cur:Array Value)(vs:List Value)(w:World)(hi:i<n)(hm:0<m)(hnc:n<=cap)(hroom:cap<n+m)(hnm:n+m<=1000)(hsz:cur.size=cap*3)(hg:aC w g cur 84)
 (hvw:vb<w.heap.size) (hvl:vs.length=m*3) (hvs:∀ j u,vs[j]? =some u->w.cell? ⟨vb,j,none⟩=some u) (h1c:∀ v∈cur.toList.take (n*3),v.oneCell'=true) (h1v:∀ v∈vs,v.oneCell'=true):
 Calls Tryz.prog 65 #[.slice (some ⟨g,0,none⟩) n cap,.int .i64 i,.slice (some ⟨vb,0,none⟩) m vc] w fun e w'=>
  ∃ G,e=.returned (.slice (some ⟨w.heap.size,0,none⟩) (n+m) G)/\Below w.heap.size w w'/\n+m<=G/\G<=maxLen/\∃ cur':Array Value,aC w' w.heap.size cur' 84/\cur'.size=G*3/\cur'.toList.take ((n+m)*3)=cur.toList.take (i*3)++(vs++(cur.toList.take (n*3)).drop (i*3)):=by
 obtain⟨i0,hi0,hz0,hz1,hz2⟩:=info_parts Tryz.infoT
 have hzi:¬((m:Int)=0):=by omega
 have hz2':¬((i:Int)=(n:Int)):=by omega
 have hz3:(cap:Int)<(n:Int)+(m:Int):=by omega
 have hsize:(Tryz.prog.info? 84).map (·.size)=some 3:=by rw[hi0]; simp[hz1]
 have hgw:=hg.lt
 have hik:i+(n+m-i)=n+m:=by omega
 have hold:(Builtin.firstCells i0.size i (.slice (some ⟨g,0,none⟩) i cap)).run Tryz.prog w.drew=.ok (cur.toList.take (i*3)).toArray w.drew:=by
  rw[hz1]
  have:=run_loadCells_list (P:=Tryz.prog) w.drew ⟨g,0,none⟩ (cur.toList.take (i*3)) (fun j v hj=>by
   have hjl:=(List.getElem?_eq_some_iff.1 hj).1
   rw[List.length_take] at hjl
   rw[Addr.add_lit,Nat.zero_add]
   show w.cell? ⟨g,j,none⟩=some v
   rw[hg.cell,<-hj,List.getElem?_take,if_pos (by omega),Array.getElem?_toList])
  rw[List.length_take,Array.length_toList,hsz,show min (i*3) (cap*3)=i*3 by omega] at this
  exact this
 have hrz:∀ ty,(Builtin.append_ #[62,3] ty #[.slice (some ⟨g,0,none⟩) i cap,.int .i64 ((n:Int)+(m:Int)-(i:Int))]).run Tryz.prog w=
  .ok (.slice (some ⟨w.heap.size,0,none⟩) (n+m) (grownCap w (n+m) cap 84)) (w.drew.alloc (.cells ((cur.toList.take (i*3)).toArray++Builtin.zeroCells (Value.cells (.agg #[.string ⟨#[]⟩,.slice none 0 0,.slice none 0 0])) (n+m-i)++Builtin.zeroCells (Value.cells (.agg #[.string ⟨#[]⟩,.slice none 0 0,.slice none 0 0])) (grownCap w (n+m) cap 84-(n+m))) 84)):=fun ty=>by
  have h:=Lib.run_append_grow_zeros w 62 3 ty 84 i0 (.agg #[.string ⟨#[]⟩,.slice none 0 0,.slice none 0 0]) .i64 .i64 Tryz.underlying62 Tryz.underlying3 hi0 hz0 (some ⟨g,0,none⟩) i cap (cur.toList.take (i*3)) hold (n+m-i) (by omega) (by omega) (by omega) (by omega) (by rw[hz2]; omega) (by rw[hz2,hik]; exact growslice_fits hroom (by omega))
  rw[hik] at h
  rw[show (n:Int)+(m:Int)-(i:Int)=((n+m-i:Nat):Int) by omega]
  exact h
 have hGn:n+m<=grownCap w (n+m) cap 84:=grownCap_ge w _ _ _
 have hG63:grownCap w (n+m) cap 84<=maxLen:=grownCap_le_maxLen w (n+m) cap 84 (by unfold maxLen; omega)
 generalize grownCap w (n+m) cap 84=G at *
 obtain⟨ROW,hROW⟩:∃ ROW:Array Value,ROW=(cur.toList.take (i*3)).toArray++Builtin.zeroCells (Value.cells (.agg #[.string ⟨#[]⟩,.slice none 0 0,.slice none 0 0])) (n+m-i)++Builtin.zeroCells (Value.cells (.agg #[.string ⟨#[]⟩,.slice none 0 0,.slice none 0 0])) (G-(n+m)):=⟨_,rfl⟩
 rw[<-hROW] at hrz
 have hz':(Value.cells (.agg #[.string ⟨#[]⟩,.slice none 0 0,.slice none 0 0])).size=3:=rfl
 have hRs:ROW.size=G*3:=by
  rw[hROW]
  simp only[Array.size_append,List.size_toArray,List.length_take,Array.length_toList,Builtin.zeroCells,Array.size_map,Array.size_range,hsz,hz']
  omega
 have hRt:ROW.toList.take (i*3)=cur.toList.take (i*3):=by
  rw[hROW]
  simp only[Array.toList_append,List.append_assoc]
  exact List.take_left' (by rw[List.length_take,Array.length_toList,hsz]; omega)
 clear hROW
 obtain⟨tail,htail⟩:∃ tail,tail=(cur.toList.take (n*3)).drop (i*3):=⟨_,rfl⟩
 have htl:tail.length=(n-i)*3:=by
  rw[htail,List.length_drop,List.length_take,Array.length_toList,hsz,Nat.sub_mul]
  omega
 obtain⟨H,hH⟩:∃ H,H=w.heap.size:=⟨_,rfl⟩
 rw[<-hH] at hrz hvw hgw ⊢
 have hf1:i*3+vs.length<=ROW.size:=by rw[hvl,hRs]; omega
 have hcpA:∀ (W:World),aC W H ROW 84->(∀ k,k<H->W.heap[k]? =w.heap[k]?)->∀ ty dc,(Builtin.copy_ #[62,62] ty #[.slice (some ⟨H,i*3,none⟩) (n+m-i) dc,.slice (some ⟨vb,0,none⟩) m vc]).run Tryz.prog W=.ok (goInt (m:Int)) (W.setRow H (aX ROW (i*3) vs)):=fun W hW hWb ty dc=>by
  have hmin:Nat.min m (n+m-i)=m:=by simp only[Nat.min_def]; split<;>omega
  have:=dJ (P:=Tryz.prog) W 62 62 ty 84 3 H (i*3) (n+m-i) dc ⟨vb,0,none⟩ m vc ROW 84 vs Tryz.underlying62 hsize hW (by rw[hmin]; exact hvl)
   (fun j v hj=>by
     rw[Addr.add_lit,Nat.zero_add,World.cell?_of_block (w:=w) (hWb vb hvw)]
     exact hvs j v hj)
   hf1 h1v
  rw[hmin] at this
  exact this
 have hRs1:(aX ROW (i*3) vs).size=G*3:=by rw[dH hf1,hRs]
 have hRt1:(aX ROW (i*3) vs).toList.take ((i+m)*3)=cur.toList.take (i*3)++vs:=by
  have:=dX hf1
  rw[hvl,<-Nat.add_mul,hRt] at this
  exact this
 obtain⟨R1,hR1⟩:∃ R1,R1=aX ROW (i*3) vs:=⟨_,rfl⟩
 rw[<-hR1] at hcpA hRs1 hRt1
 clear hR1
 have hf2:(i+m)*3+tail.length<=R1.size:=by rw[htl,hRs1]; omega
 have hcpB:∀ (W:World),aC W H R1 84->(∀ k,k<H->W.heap[k]? =w.heap[k]?)->∀ ty dc sc,(Builtin.copy_ #[62,62] ty #[.slice (some ⟨H,(i+m)*3,none⟩) (n+m-(i+m)) dc,.slice (some ⟨g,i*3,none⟩) (n-i) sc]).run Tryz.prog W=.ok (goInt ((n-i:Nat):Int)) (W.setRow H (aX R1 ((i+m)*3) tail)):=fun W hW hWb ty dc sc=>by
  have hmin:Nat.min (n-i) (n+m-(i+m))=n-i:=by simp only[Nat.min_def]; split<;>omega
  have:=dJ (P:=Tryz.prog) W 62 62 ty 84 3 H ((i+m)*3) (n+m-(i+m)) dc ⟨g,i*3,none⟩ (n-i) sc R1 84 tail Tryz.underlying62 hsize hW (by rw[hmin]; exact htl)
   (fun j v hj=>by
     have hjl:j<tail.length:=(List.getElem?_eq_some_iff.1 hj).1
     rw[Addr.add_lit,World.cell?_of_block (w:=w) (hWb g hgw),hg.cell,<-hj,htail,List.getElem?_drop,List.getElem?_take,if_pos (by omega),Array.getElem?_toList])
   hf2 (fun v hv=>h1c v (List.mem_of_mem_drop (htail▸hv)))
  rw[hmin] at this
  exact this
 have hRs2:(aX R1 ((i+m)*3) tail).size=G*3:=by rw[dH hf2,hRs1]
 have hRt2:(aX R1 ((i+m)*3) tail).toList.take ((n+m)*3)=cur.toList.take (i*3)++(vs++(cur.toList.take (n*3)).drop (i*3)):=by
  have:=dX hf2
  rw[htl,<-Nat.add_mul,show i+m+(n-i)=n+m by omega,hRt1] at this
  rw[this,htail,List.append_assoc]
 have kA:aC (w.alloc (.cells ROW 84)).drew H ROW 84:=by rw[hH]; exact aB w _ _
 have bA:∀ k,k<H->(w.alloc (.cells ROW 84)).drew.heap[k]? =w.heap[k]? :=fun k hk=>(aA w (.cells ROW 84)).block k (hH▸hk)
 have kB:aC ((w.alloc (.cells ROW 84)).drew.setRow H R1).drew H R1 84:=dD kA
 have bB:∀ k,k<H->((w.alloc (.cells ROW 84)).drew.setRow H R1).drew.heap[k]? =w.heap[k]? :=fun k hk=>((bN _ _ _).block k (by omega)).trans (bA k hk)
 have hfin:∀ w', w'.heap=(((w.alloc (.cells ROW 84)).drew.setRow H R1).drew.setRow H (aX R1 ((i+m)*3) tail)).heap->w'.os=w.os->w'.tape=w.tape->w'.output=w.output->Below H w w'/\∃ cur':Array Value,aC w' H cur' 84/\cur'.size=G*3/\cur'.toList.take ((n+m)*3)=cur.toList.take (i*3)++(vs++(cur.toList.take (n*3)).drop (i*3)):=by
  intro w' hw e1 e2 e3
  have kC:aC (((w.alloc (.cells ROW 84)).drew.setRow H R1).drew.setRow H (aX R1 ((i+m)*3) tail)) H (aX R1 ((i+m)*3) tail) 84:=dD kB
  refine⟨⟨e1,e2,e3,?_,fun k hk=>?_⟩,_,(by unfold aC at kC ⊢; rw[hw]; exact kC),hRs2,hRt2⟩
  ·rw[hw,(bN _ _ _).size]
   show w.heap.size<=((w.alloc (.cells ROW 84)).drew.setRow H R1).heap.size
   rw[(bN _ _ _).size]
   show w.heap.size<=(w.alloc (.cells ROW 84)).heap.size
   simp
  ·rw[hw,(bN _ _ _).block k (by omega)]
   exact bB k hk
 replace hfin:=hid hfin
 have hw1:IntKind.i64.wrap ((i:Int)+(m:Int))=(i:Int)+(m:Int):=by rw[IntKind.wrap_i64]; omega
 have hb1:(0:Int)<=(i:Int)+(m:Int):=by omega
 have hin:i<=n:=by omega
 have htn:((i:Int)+(m:Int)).toNat=i+m:=by omega
 have hb3:(i:Int)<=(n:Int):=by omega
 have hGi:¬(G=i):=by omega
 have hGim:¬(G=i+m):=by omega
 have hci:¬(cap=i):=by omega
 have hG63':G<=9223372036854775807:=by unfold maxLen at hG63; omega
 have hcap':cap<=9223372036854775807:=by omega
 clear hold hRs hRt hRs1 hRt1 hRs2 hRt2 hf1 hf2 htl htail hsz hg h1c h1v hvs hvl hsize
 replace hH:=hid hH
 have hA1:=fun ty dc=>hcpA _ kA bA ty dc
 have hB1:=fun ty dc sc=>hcpB _ kB bB ty dc sc
 clear hcpA hcpB kA bA kB bB
 go_enter Tryz.func65,Tryz.ntmps65
 go_wp2_with (at_builtin; refine Lib.wpList_append_run _ rfl _ _ _ _ rfl _ _ rfl rfl _ _ (hrz _) ?_)
 go_region_law (refine fM rfl _ _ 62 62 rfl _ _ (by simp[Act.eval,Act.put]) (by simp[Act.eval,Act.put]) (hB1 _ _ _) ?_)
 go_wp2
 go_ret
 exact⟨G,rfl,(hfin.out _ rfl rfl rfl rfl).1,hGn,hG63,(hfin.out _ rfl rfl rfl rfl).2⟩
theorem aU8 (sa:Option Addr)(n c i vb m vc base:Nat)(cs vs:List Value)(vt:TypeId)(w:World)(hi:i<=n)(hm:0<m)(hn:n+m<=1000)(hs:w.ownsRow base 84 3 (.slice sa n c) n cs)(hb:base<=w.heap.size)
 (hv:aC w vb vs.toArray vt) (hvl:vs.length=m*3) (hvb:(Value.slice sa n c).ownBlock≠some vb) (h1c:∀ v∈cs,v.oneCell'=true) (h1v:∀ v∈vs,v.oneCell'=true):
 Calls Tryz.prog 65 #[.slice sa n c,.int .i64 i,.slice (some ⟨vb,0,none⟩) m vc] w fun e w'=>
  ∃ a' c', e=.returned (.slice a' (n+m) c')/\w'.ownsRow base 84 3 (.slice a' (n+m) c') (n+m) (cs.take (i*3)++(vs++cs.drop (i*3)))/\Only (fun b=>(Value.slice sa n c).ownBlock=some b) w w'/\((Value.slice a' (n+m) c').ownBlock=(Value.slice sa n c).ownBlock\/(Value.slice a' (n+m) c').ownBlock=some w.heap.size):=by
 have hvs:∀ j u,vs[j]? =some u->w.cell? ⟨vb,j,none⟩=some u:=fun j u hj=>by rw[hv.cell]; simpa using hj
 have hcl:=hs.1
 by_cases e:i=n
 ·subst e
  have hcc:i<=c/\c<=maxLen:=by
   rcases hs.2 with⟨h0,h1⟩ | ⟨g,cap,cur,h0,_,_,h1,h2,_⟩
   ·simp only[Value.slice.injEq] at h0
    unfold maxLen
    omega
   ·simp only[Value.slice.injEq] at h0
    omega
  refine(aU7 sa i c vb m vc base cs vs w hm hn hs hb hvl hvs h1v hcc.1 hcc.2).mono ?_
  rintro e w' ⟨a', c', rfl,ho,hg,hat⟩
  refine⟨a', c', rfl,?_,sV hg (fun k hk=>hk),hat⟩
  rw[List.take_of_length_le (by omega),List.drop_of_length_le (by omega),List.append_nil]
  exact ho
 ·have hin:i<n:=by omega
  rcases hs.2 with⟨h0,h1⟩ | ⟨g,cap,cur,h0,hbg,hg,hnc,hcm,hsz,hcur⟩
  ·omega
  simp only[Value.slice.injEq,true_and] at h0
  obtain⟨rfl,rfl⟩:=h0
  have hvg:vb≠g:=fun e=>hvb (by rw[e]; rfl)
  have h1c':∀ v∈cur.toList.take (n*3),v.oneCell'=true:=by rw[hcur]; exact h1c
  have hti:cur.toList.take (i*3)=cs.take (i*3):=by rw[<-hcur,List.take_take,show min (i*3) (n*3)=i*3 by omega]
  by_cases hroom:n+m<=c
  ·refine(aG1 g n c i vb m vc cur vs vt vs.toArray w hin hm hroom hcm hvg hsz hg hv hvl hvs h1c' h1v).mono ?_
   rintro e w' ⟨rfl,hk,cur', hc', hs', ht'⟩
   rw[hcur,hti] at ht'
   refine⟨_,_,rfl,⟨by simp[hvl,hcl]; omega,.inr ⟨g,c,cur', rfl,hbg,hc', hroom,hcm,hs', ht'⟩⟩,Only.of_kept hk rfl,.inl rfl⟩
  ·refine(aN4 g n c i vb m vc cur vs w hin hm hnc (by omega) hn hsz hg hv.lt hvl hvs h1c' h1v).mono ?_
   rintro e w' ⟨G,rfl,hbel,hG1,hG2,cur', hc', hs', ht'⟩
   rw[hcur,hti] at ht'
   refine⟨_,_,rfl,⟨by simp[hvl,hcl]; omega,.inr ⟨w.heap.size,G,cur', rfl,hb,hc', hG1,hG2,hs', ht'⟩⟩,Only.of_below hbel,.inr rfl⟩
theorem aW9 (sa:Option Addr)(n c i base:Nat)(cs:List Value)(w:World)(hi:i<n)(hs:w.ownsRow base 84 3 (.slice sa n c) n cs)(h1c:∀ v∈cs,v.oneCell'=true):
 Calls Tryz.prog 71 #[.slice sa n c,.int .i64 i,.int .i64 ((i:Int)+1)] w fun e w'=>
  e=.returned (.slice sa (n-1) c)/\w'.ownsRow base 84 3 (.slice sa (n-1) c) (n-1) (cs.take (i*3)++cs.drop ((i+1)*3))/\Only (fun b=>(Value.slice sa n c).ownBlock=some b) w w':=by
 have hcl:=hs.1
 rcases hs.2 with⟨h0,h1⟩ | ⟨g,cap,cur,h0,hbg,hg,hnc,hcm,hsz,hcur⟩
 ·omega
 simp only[Value.slice.injEq,true_and] at h0
 obtain⟨rfl,rfl⟩:=h0
 have hti:cur.toList.take (i*3)=cs.take (i*3):=by rw[<-hcur,List.take_take,show min (i*3) (n*3)=i*3 by omega]
 refine(aX0 g n c i (i+1) cur w (by omega) (by omega) hnc hcm hsz hg (by rw[hcur]; exact h1c)).mono ?_
 rintro e w' ⟨rfl,hk,cur', hc', hs', ht'⟩
 rw[hcur,hti,show i+(n-(i+1))=n-1 by omega] at ht'
 refine⟨by rw[show i+(n-(i+1))=n-1 by omega],⟨by simp[hcl]; omega,.inr ⟨g,c,cur', rfl,hbg,hc', by omega,hcm,hs', ht'⟩⟩,Only.of_kept hk rfl⟩
end Go.Proofs.YtjafgnohlkkopaaGreatDoor
