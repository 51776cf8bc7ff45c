/-
  SetClA, PoolW in one text. Nothing here is trusted.
-/
import Derived.Test.YtjafgnohlkkopaaGreatDoorPart25
import Derived.Test.YtjafgnohlkkopaaGreatDoorPart17
import Derived.Test.YtjafgnohlkkopaaGreatDoorPart13
import Derived.Test.YtjafgnohlkkopaaGreatDoorPart24
import Derived.Test.YtjafgnohlkkopaaGreatDoorPart12
set_option linter.unusedVariables false
namespace Go.Proofs.YtjafgnohlkkopaaGreatDoor
open Go.RowKit
structure CB (W wr:World) (sa:Option Addr) (n sc:Nat) (v:SetV):Prop where
 bel:Below W.heap.size W wr
 sz:W.heap.size+4≤wr.heap.size
 bS:CellsAt wr W.heap.size #[.slice sa n sc] 24
 bX:CellsAt wr (W.heap.size+1) #[.string v.name,.slice v.fa v.fn v.fc,.slice v.sa v.sn v.sc] 84
 r8:CellsAt wr (W.heap.size+1+1) #[.slice none 0 0] 24
 r9:CellsAt wr (W.heap.size+1+1+1) #[.string (ByteArray.mk #[]),.slice none 0 0,.slice none 0 0] 84
theorem CB.below {W wr w':World} {sa:Option Addr} {n sc:Nat} {v:SetV} (h:CB W wr sa n sc v) (b:Below wr.heap.size wr w'):CB W w' sa n sc v:=⟨Below.tr h.bel b,Nat.le_trans h.sz b.size,h.bS.below b,h.bX.below b,h.r8.below b,h.r9.below b⟩
theorem cb_enter (w:World) (sa:Option Addr) (n sc:Nat) (v:SetV):CB w ((((w.alloc (.cells #[.slice sa n sc] 24)).alloc (.cells #[.string v.name,.slice v.fa v.fn v.fc,.slice v.sa v.sn v.sc] 84)).alloc (.cells #[.slice none 0 0] 24)).alloc (.cells #[.string (ByteArray.mk #[]),.slice none 0 0,.slice none 0 0] 84)) sa n sc v:=by
 have h1:=cellsAt_alloc w #[.slice sa n sc] 24
 have h2:=cellsAt_alloc (w.alloc (.cells #[.slice sa n sc] 24)) #[.string v.name,.slice v.fa v.fn v.fc,.slice v.sa v.sn v.sc] 84
 have h3:=cellsAt_alloc ((w.alloc (.cells #[.slice sa n sc] 24)).alloc (.cells #[.string v.name,.slice v.fa v.fn v.fc,.slice v.sa v.sn v.sc] 84)) #[.slice none 0 0] 24
 have h4:=cellsAt_alloc (((w.alloc (.cells #[.slice sa n sc] 24)).alloc (.cells #[.string v.name,.slice v.fa v.fn v.fc,.slice v.sa v.sn v.sc] 84)).alloc (.cells #[.slice none 0 0] 24)) #[.string (ByteArray.mk #[]),.slice none 0 0,.slice none 0 0] 84
 simp only[sz_alloc] at h2 h3 h4
 exact⟨bAl (bAl (bAl (bAl (Below.refl _ w) _) _) _) _,by simp,((h1.below (below_alloc _ _)).below (below_alloc _ _)).below (below_alloc _ _),(h2.below (below_alloc _ _)).below (below_alloc _ _),h3.below (below_alloc _ _),h4⟩
theorem CB.put {W wr:World} {sa:Option Addr} {n sc:Nat} {v:SetV} (h:CB W wr sa n sc v) (s:Value) (u:SetV):Below W.heap.size W (putX (wr.setCell ⟨W.heap.size+1+1,0,none⟩ s) (W.heap.size+1+1+1) u):=
 (h.bel.trans ((kept_putS wr (W.heap.size+1+1) s).below (by omega))).trans ((kept_putX _ _ u).below (by omega))
theorem cloneE_lo (name:ByteArray) (fa:Option Addr) (fn fc:Nat) (l:List Ent) (w:World) (h6:fn≤6) (hnm:name.size≤maxLen) (hE:EntsAt (fun _=>True) w fa fn l):
 Calls Tryz.prog 61 #[.slice fa fn fc] w fun e w'=>(∃ (ya:Option Addr) (yc lo:Nat),e=.returned (.slice ya fn yc)∧w.heap.size≤lo∧SetNew lo (fun b=>lo≤b) w' ⟨name,ya,fn,yc,none,0,0⟩ ⟨name,l,[]⟩ [])∧Below w.heap.size w w':=by
 refine(cloneE_any fa fn fc (entCells l) w (by omega) (by rw[entCells_len,hE.1]) (entCells_one _) (hE.srcAt.src (Nat.le_refl _))).mono ?_
 rintro e w' ⟨b,ya,yc,rfl,_,hr⟩
 exact⟨⟨ya,yc,w.heap.size,rfl,Nat.le_refl _,⟨rfl,hnm,hr,⟨rfl,.inl ⟨rfl,rfl⟩⟩,rfl,hE.2.1,fun m hm=>by simp at hm,fun b _ h=>by cases h⟩⟩,b⟩
structure ClF (n:Nat) (B C:Nat→Blk) (x:SetE) (fr nm:ByteArray) (y:SetE):Prop where
 none:y.snaps=[]
 name:y.name=nm
 snap:∃ q,∃ h:q<x.snaps.length,x.snaps[q].nm=fr.data.toList∧y.files=x.snaps[q].files
 more:∀ k,k<n→C k=moreB B (rootsX y) k
def ClE (x:SetE) (fr nm:ByteArray) (e:Int):Prop:=(e=1∧¬IsName nm)∨(e=5∧IsName nm∧¬∃ s∈x.snaps,s.nm=fr.data.toList)
def RetCl (w:World) (n:Nat) (B:Nat→Blk) (key:Int) (x:SetE) (fr nm:ByteArray) (cc:Int) (e:Ending) (w':World):Prop:=
 Below w.heap.size w w'∧((∃ e':Int,e=.returned (.tuple #[.agg #[.slice none 0 0],.agg #[.string (ByteArray.mk #[]),.slice none 0 0,.slice none 0 0],.int .i64 e'])∧e'≠0∧(SetOk n B key x→HeldR n B (rootsX x)→ClE x fr nm e'))∨
  (∃ (g:Nat) (C:Nat→Blk) (u:SetV) (y:SetE) (K:List Int),e=.returned (.tuple #[.agg #[.slice (some ⟨g,0,none⟩) n n],.agg #[.string u.name,.slice u.fa u.fn u.fc,.slice u.sa u.sn u.sc],.int .i64 0])∧SetOk n B key x∧HeldR n B (rootsX x)∧Grow n B C K∧(∀ r:Int,r≠0→(rootsX y).count r=K.count r)∧SetOk n C key y∧HeldR n C (rootsX y)∧ClF n B C x fr nm y∧(∀ k,k<n→(C k).refs≤cc+6)∧(w.heap.size≤g∧Own w' g n C)∧SetAt (fun b=>w.heap.size≤b) w' u y))
theorem RetCl.drew {w w':World} {n:Nat} {B:Nat→Blk} {key:Int} {x:SetE} {fr nm:ByteArray} {cc:Int} {e:Ending} (h:RetCl w n B key x fr nm cc e w'):RetCl w n B key x fr nm cc e w'.drew:=by
 obtain⟨b,h⟩:=h
 refine⟨b.trans (below_drew _ _),?_⟩
 rcases h with h | ⟨g,C,u,y,K,h1,h2,h3,h4,h5,h6,h7,h8,h9,h10,h11⟩
 ·exact .inl h
 ·exact .inr ⟨g,C,u,y,K,h1,h2,h3,h4,h5,h6,h7,h8,h9,⟨h10.1,h10.2.below (below_drew _ _)⟩,h11.below (below_drew _ _)⟩
theorem grow_of_fell {n:Nat} {B D:Nat→Blk} {K:List Int} (hB:Right n B) (hK:∀ r∈K,r=0∨There n B r) (hc:∀ i,i<n→(B i).refs+(K.length:Int)≤1000000) (hD:Right n D) (hF:Fell n (moreB B K) D []):Grow n B D K∧(∀ k,k<n→(D k).refs=(B k).refs+(K.count ((k:Int)+1):Int))∧∀ k,k<n→D k=moreB B K k:=by
 have hE:=right_moreB hB hK hc
 have hg:=grow_moreB hB hK hc
 have he:∀ k,k<n→D k=moreB B K k:=same_of hD hE (fun k hk=>by
  by_cases e1:(D k).refs=0
  ·exact .inl e1
  have e0:((k:Int)+1-1).toNat=k:=by omega
  have hcD:=fell_content hF (x:=(k:Int)+1) ⟨by omega,by omega,by rw[e0]; exact e1⟩
  rw[e0] at hcD
  exact .inr (.inr hcD)) (fun k hk=>by rw[hF.outs k hk]; simp)
 refine⟨⟨hD,⟨fun k hk h0=>?_⟩,fun k hk=>by rw[hF.outs k hk,outs_moreB]; simp⟩,fun k hk=>by rw[he k hk]; rfl,he⟩
 rw[he k hk]
 exact hg.ext.keep k hk h0
theorem fin_cl {w w2 WC:World} {sa:Option Addr} {n sc:Nat} {B D:Nat→Blk} {key:Int} {v u:SetV} {x:SetE} {fr name:ByteArray} {l2:List Ent} {g:Nat} {cc:Int} {L:Nat→Prop} {ms:List SnapM} (hcb:CB w WC sa n sc v) (hsz2:w.heap.size+4≤w2.heap.size) (g8:w2.heap.size≤g) (hx:SetOk n B key x) (hh:HeldR n B (rootsX x)) (hg:Grow n B D (rootsX ⟨name,l2,[]⟩)) (hcf:ClF n B D x fr name ⟨name,l2,[]⟩) (hok:SetOk n D key ⟨name,l2,[]⟩) (hheld:HeldR n D (rootsX ⟨name,l2,[]⟩)) (hfew:∀ k,k<n→(D k).refs≤cc+6) (hOD:Own WC g n D) (hSN:SetNew w2.heap.size L WC u ⟨name,l2,[]⟩ ms) (hL:∀ b,L b→w2.heap.size≤b):
 RetCl w n B key x fr name cc (.returned (.tuple #[.agg #[.slice (some ⟨g,0,none⟩) n n],.agg #[.string name,.slice u.fa u.fn u.fc,.slice u.sa u.sn u.sc],.int .i64 0])) (putX (WC.setCell ⟨w.heap.size+1+1,0,none⟩ (.slice (some ⟨g,0,none⟩) n n)) (w.heap.size+1+1+1) ⟨name,u.fa,u.fn,u.fc,u.sa,u.sn,u.sc⟩):=by
 have k1:=kept_putS WC (w.heap.size+1+1) (.slice (some ⟨g,0,none⟩) n n)
 have k2:=kept_putX (WC.setCell ⟨w.heap.size+1+1,0,none⟩ (.slice (some ⟨g,0,none⟩) n n)) (w.heap.size+1+1+1) ⟨name,u.fa,u.fn,u.fc,u.sa,u.sn,u.sc⟩
 have o1:=Only.of_kept (M:=fun k=>k=w.heap.size+1+1∨k=w.heap.size+1+1+1) k1 (.inl rfl)
 have o2:=Only.of_kept (M:=fun k=>k=w.heap.size+1+1∨k=w.heap.size+1+1+1) k2 (.inr rfl)
 have on:=o1.trans o2
 have hS2:=(hSN.only on (fun b hb m=>by have:=(hSN.mine_ge hb).1; omega) (fun b hb m=>by have:=hL b hb; omega)).at
 refine⟨hcb.put _ _,.inr ⟨g,D,⟨name,u.fa,u.fn,u.fc,u.sa,u.sn,u.sc⟩,⟨name,l2,[]⟩,_,rfl,hx,hh,hg,fun _ _=>rfl,hok,hheld,hcf,hfew,⟨by omega,own_only hOD on (fun b _ m=>by omega)⟩,?_⟩⟩
 exact⟨rfl,hS2.small,hS2.files.weaken (fun b _ h=>by rcases h with h | h; (· omega); have:=hL b h; omega),hS2.snaps.weaken (fun b _ h=>by rcases h with h | h; (· omega); have:=hL b h; omega),hS2.caps⟩
end Go.Proofs.YtjafgnohlkkopaaGreatDoor

namespace Go.Proofs.YtjafgnohlkkopaaGreatDoor
open Go.RowKit
theorem Clo.split {B:Nat→Blk} {l:List Int} {x:Int} (h:Clo B l x):∃ r∈l,r≠0∧Clo B [r] x:=
 h (fun x=>∃ r∈l,r≠0∧Clo B [r] x) (fun r hr h0=>⟨r,hr,h0,Clo.root (List.mem_singleton.2 rfl) h0⟩) fun y ⟨r,hr,h0,hy⟩ k hk hk0=>⟨r,hr,h0,hy.kid hk hk0⟩
theorem Clo.of_one {B:Nat→Blk} {l:List Int} {r x:Int} (h:Clo B [r] x) (hr:r∈l):Clo B l x:=h.mono fun s hs h0=>by
 rw[List.mem_singleton.1 hs] at h0 ⊢
 exact Clo.root hr h0
theorem Clo.sub {B:Nat→Blk} {l m:List Int} {x:Int} (h:Clo B l x) (hs:∀ r∈l,r≠0→r∈m):Clo B m x:=h.mono fun r hr h0=>Clo.root (hs r hr h0) h0
theorem clo_moreB {B:Nat→Blk} {K l:List Int} {x:Int}:Clo (moreB B K) l x↔Clo B l x:=
 ⟨fun h=>h (Clo B l) (fun r hr h0=>Clo.root hr h0) fun y hy k hk h0=>hy.kid hk h0,fun h=>h (Clo (moreB B K) l) (fun r hr h0=>Clo.root hr h0) fun y hy k hk h0=>hy.kid hk h0⟩
theorem plain_roots {x y:SetE} {a:AskE} (h:Plain x a y):∀ r∈rootsX y,r∈rootsX x:=by
 intro r hr
 rw[rootsX_eq] at hr ⊢
 obtain⟨e,he,rfl⟩:=mem_rootsE.1 hr
 have key:∃ e'∈entsX x,e'.root=e.root:=by
  rcases h with⟨_,p,hp,_,rfl⟩ | ⟨_,_,p,q,hp,_,_,_,rfl⟩ | ⟨_,_,q,_,_,rfl⟩ | ⟨_,_,q,hq,_,rfl⟩ | ⟨_,_,q,hq,_,rfl⟩
  ·rcases List.mem_append.1 he with h | h
   ·exact⟨e,List.mem_append_left _ ((List.eraseIdx_sublist _ _).subset h),rfl⟩
   ·exact⟨e,List.mem_append_right _ h,rfl⟩
  ·rcases List.mem_append.1 he with h | h
   ·rcases mem_insert.1 h with rfl | h
    ·exact⟨x.files[p],List.mem_append_left _ (List.getElem_mem hp),rfl⟩
    ·exact⟨e,List.mem_append_left _ ((List.eraseIdx_sublist _ _).subset h),rfl⟩
   ·exact⟨e,List.mem_append_right _ h,rfl⟩
  ·rcases List.mem_append.1 he with h | h
   ·exact⟨e,List.mem_append_left _ h,rfl⟩
   ·obtain⟨s,hs,h⟩:=List.mem_flatMap.1 h
    rcases mem_insert.1 hs with rfl | hs
    ·exact⟨e,List.mem_append_left _ h,rfl⟩
    ·exact⟨e,List.mem_append_right _ (List.mem_flatMap.2 ⟨s,hs,h⟩),rfl⟩
  ·rcases List.mem_append.1 he with h | h
   ·exact⟨e,List.mem_append_left _ h,rfl⟩
   ·obtain⟨s,hs,h⟩:=List.mem_flatMap.1 h
    exact⟨e,List.mem_append_right _ (List.mem_flatMap.2 ⟨s,(List.eraseIdx_sublist _ _).subset hs,h⟩),rfl⟩
  ·rcases List.mem_append.1 he with h | h
   ·exact⟨e,List.mem_append_right _ (List.mem_flatMap.2 ⟨x.snaps[q],List.getElem_mem hq,h⟩),rfl⟩
   ·exact⟨e,List.mem_append_right _ h,rfl⟩
 obtain⟨e', h1,h2⟩:=key
 exact mem_rootsE.2 ⟨e', h1,h2⟩
theorem wrote_from {n:Nat} {B C:Nat→Blk} {key:Int} {x y:SetE} {nm:ByteArray} {N:Int→Int→List Int} {cc made:Int} (h:Wrote n B C key x nm N cc made y):Ext n B C∧∀ r∈rootsX y,r∈rootsX x∨∀ z,Clo C [r] z→(B (z-1).toNat).refs=0∨Clo B (rootsX x) z:=by
 obtain⟨root,size,hok,hT,p,ht⟩:=h
 refine⟨hT.turned.ext,fun r hr=>?_⟩
 have hroot:root=0∨root∈rootsX x:=by
  rcases ht with⟨hp,_,h,_⟩ | ⟨_,h,_⟩
  ·right
   rw[h,rootsX_eq]
   exact mem_rootsE.2 ⟨x.files[p],List.mem_append_left _ (List.getElem_mem hp),rfl⟩
  ·exact .inl h
 have hmade:r=made→r∈rootsX x∨∀ z,Clo C [r] z→(B (z-1).toNat).refs=0∨Clo B (rootsX x) z:=fun e=>.inr fun z hz=>by
  rw[e] at hz
  rcases hT.fro z hz with h | h
  ·exact .inl h
  ·exact .inr (h.sub fun s hs h0=>by
    rw[List.mem_singleton.1 hs] at h0 ⊢
    exact hroot.resolve_left h0)
 have hold:∀ e:Ent,e∈x.files→e.root=r→r∈rootsX x:=fun e he h=>by
  rw[rootsX_eq]
  exact mem_rootsE.2 ⟨e,List.mem_append_left _ he,h⟩
 rcases List.mem_append.1 hr with h | h
 ·obtain⟨e,he,hr'⟩:=mem_rootsE.1 h
  rcases ht with⟨hp,_,_,_,rfl⟩ | ⟨_,_,_,_,_,_,rfl⟩
  ·rcases mem_set_or he with rfl | he
   ·exact hmade hr'.symm
   ·exact .inl (hold e he hr')
  ·rcases mem_insert.1 he with rfl | he
   ·exact hmade hr'.symm
   ·exact .inl (hold e he hr')
 ·left
  have e:y.snaps=x.snaps:=by rcases ht with⟨_,_,_,_,rfl⟩ | ⟨_,_,_,_,_,_,rfl⟩<;>rfl
  rw[e] at h
  exact List.mem_append_right _ h
theorem ChgYes.from' {n:Nat} {B C:Nat→Blk} {key:Int} {x y:SetE} {a:AskE} {made cc:Int} (h:ChgYes n B C key x a made y cc):Ext n B C∧∀ r∈rootsX y,r∈rootsX x∨∀ z,Clo C [r] z→(B (z-1).toNat).refs=0∨Clo B (rootsX x) z:=by
 rcases h with⟨_,_,_,h⟩ | ⟨_,_,_,h⟩ | ⟨h,rfl,_⟩
 ·exact wrote_from h
 ·exact wrote_from h
 ·exact⟨Ext.refl _ _,fun r hr=>.inl (plain_roots h r hr)⟩
theorem set_sets {t:TenE} {k:Nat} {x:SetE} (hk:t.sets[k]? =some x) (y:SetE) (r:Int):(rootsL (t.sets.set k y)).count r+(rootsX x).count r=(rootsT t).count r+(rootsX y).count r:=by
 obtain⟨h,rfl⟩:=List.getElem?_eq_some_iff.1 hk
 have e:t.sets=t.sets.take k++t.sets[k]::t.sets.drop (k+1):=by rw[List.getElem_cons_drop,List.take_append_drop]
 have e2:t.sets.set k y=t.sets.take k++y::t.sets.drop (k+1):=by rw[List.set_eq_take_append_cons_drop,if_pos h]
 unfold rootsT
 rw[e2]
 conv=>rhs; rw[e]
 simp only[rootsL,List.flatMap_append,List.flatMap_cons,List.count_append]
 omega
theorem PoolOk.beside {n:Nat} {B:Nat→Blk} {l:List TenE} {i k j:Nat} {t:TenE} {x z:SetE} (h:PoolOk n B l) (hi:l[i]? =some t) (hk:t.sets[k]? =some x) (hj:t.sets[j]? =some z) (hjk:j≠k):∀ r∈rootsX z,r∈(0::baseL n B (rootsX x)):=by
 intro r hr
 have ht:=h.tens t (List.mem_of_getElem? hi)
 rcases(ht.sets z (List.mem_of_getElem? hj)).rootBd r hr with rfl | ⟨h1,h2⟩
 ·exact List.mem_cons_self
 ·refine List.mem_cons_of_mem _ (mem_baseL.2 ⟨(r-1).toNat,by omega,?_,by omega⟩)
  have e:(((r-1).toNat:Nat):Int)+1=r:=by omega
  have h3:=h.held (r-1).toNat (by omega)
  have h5:0<(rootsX z).count r:=List.count_pos_iff.2 hr
  have h6:=set_sets hk SetE.zero r
  have h7:(rootsX z).count r≤(rootsL (t.sets.set k SetE.zero)).count r:=by
   have hm:z∈t.sets.set k SetE.zero:=List.mem_of_getElem? (i:=j) (by rw[List.getElem?_set_ne (fun f=>hjk f.symm)]; exact hj)
   obtain⟨l1,l2,e3⟩:=List.append_of_mem hm
   rw[e3]
   simp only[rootsL,List.flatMap_append,List.flatMap_cons,List.count_append]
   omega
  have h8:(rootsX SetE.zero).count r=0:=by simp[rootsX,rootsE,rootsS,SetE.zero]
  have h9:=count_flat hi ⟨0,0,[]⟩ r
  have h0:(rootsT ⟨0,0,[]⟩).count r=0:=by simp[rootsT,rootsL]
  rw[e] at h3 ⊢
  omega
theorem chg_name {n:Nat} {B C:Nat→Blk} {key:Int} {x y:SetE} {a:AskE} {made cc:Int} (h:ChgYes n B C key x a made y cc):y.name=x.name:=by
 rcases h with⟨_,_,_,_,_,_,_,_,h⟩ | ⟨_,_,_,_,_,_,_,_,h⟩ | ⟨h,_,_⟩
 ·rcases h with⟨_,_,_,_,rfl⟩ | ⟨_,_,_,_,_,_,rfl⟩<;>rfl
 ·rcases h with⟨_,_,_,_,rfl⟩ | ⟨_,_,_,_,_,_,rfl⟩<;>rfl
 ·rcases h with⟨_,_,_,_,rfl⟩ | ⟨_,_,_,_,_,_,_,_,rfl⟩ | ⟨_,_,_,_,_,rfl⟩ | ⟨_,_,_,_,_,rfl⟩ | ⟨_,_,_,_,_,rfl⟩<;>rfl
theorem PoolOk.changed {n:Nat} {B D:Nat→Blk} {l:List TenE} {i k:Nat} {t:TenE} {x y:SetE} {a:AskE} {cc:Int} (h:PoolOk n B l) (hi:l[i]? =some t) (hk:t.sets[k]? =some x) (hb:Bytes a.bytes) (hc:∀ k,k<n→(B k).refs≤cc) (hcc:cc+moreOf a+24≤1000000) (hD:Did n B t.key x a cc D y):Right n D∧TenOk n D ⟨t.key,t.quota,t.sets.set k y⟩∧After n t.key B D x y:=by
 obtain⟨hx,hh,_⟩:=h.heldX hi (List.mem_of_getElem? hk)
 have hA:=(hD.after hx hh hb hc hcc).1
 have ht:=h.tens t (List.mem_of_getElem? hi)
 obtain⟨hkl,hkx⟩:=List.getElem?_eq_some_iff.1 hk
 have hnm:y.name=x.name:=by obtain⟨C,made,hY,_,_⟩:=hD; exact chg_name hY
 refine⟨hA.moved.right,⟨ht.kb,ht.qb,by simpa using ht.few,fun z hz=>?_,ordered_set ht.order hkl (by rw[hkx]; unfold SetE.nm; rw[hnm])⟩,hA⟩
 obtain⟨j,hj,rfl⟩:=List.mem_iff_getElem.1 hz
 simp only[List.length_set] at hj
 by_cases e:k=j
 ·subst e
  rw[List.getElem_set_self]
  exact hA.ok
 ·rw[List.getElem_set_ne e]
  have hjz:t.sets[j]? =some t.sets[j]:=List.getElem?_eq_getElem hj
  exact((ht.sets _ (List.getElem_mem hj)).bytes hA.moved.right hA.moved.stays.zero (h.beside hi hk hjz (fun f=>e f.symm))).1
theorem PoolOk.change {n:Nat} {B D:Nat→Blk} {l:List TenE} {i k:Nat} {t:TenE} {x y:SetE} {a:AskE} {cc q:Int} (h:PoolOk n B l) (hi:l[i]? =some t) (hk:t.sets[k]? =some x) (hb:Bytes a.bytes) (hc:∀ k,k<n→(B k).refs≤cc) (hcc:cc+moreOf a+24≤1000000) (hD:Did n B t.key x a cc D y) (hu:Uses D (rootsL (t.sets.set k y)) q) (hq:q≤t.quota):Step n B D l i ⟨t.key,t.quota,t.sets.set k y⟩:=by
 obtain⟨hR,hT,hA⟩:=h.changed hi hk hb hc hcc hD
 obtain⟨hx,hh,hle⟩:=h.heldX hi (List.mem_of_getElem? hk)
 have ht:=h.tens t (List.mem_of_getElem? hi)
 refine h.move hi rfl hA.moved (fun r _=>hle r) (fun r _=>?_) hT ⟨q,hu,hq⟩ fun z hz=>?_
 ·exact set_sets hk y r
 ·obtain⟨r,hr,hr0,hz⟩:=hz.split
  obtain⟨C,made,hY,_,hF⟩:=hD
  have hzC:Clo C [r] z:=clo_moreB.1 (clo_fell hF hR (hT.rootsOk r hr) hz)
  obtain⟨hE,hfro⟩:=hY.from'
  have hold:r∈rootsT t→Clo B (rootsT t) z∨¬There n B z:=fun hrt=>by
   have hs:=stays_ext h.right (l:=[r]) (fun s hs=>by rw[List.mem_singleton.1 hs]; exact ht.rootsOk r hrt) hE
   exact .inl ((hs.back hzC).of_one hrt)
  obtain⟨z', hz', hr'⟩:=List.mem_flatMap.1 hr
  have hxt:∀ s∈rootsX x,s∈rootsT t:=fun s hs=>List.mem_flatMap.2 ⟨x,List.mem_of_getElem? hk,hs⟩
  rcases mem_set_or hz' with rfl | hz'
  ·rcases hfro r hr' with h1 | h1
   ·exact hold (hxt r h1)
   ·rcases h1 z hzC with h2 | h2
    ·exact .inr fun f=>f.2.2 h2
    ·exact .inl (h2.sub fun s hs _=>hxt s hs)
  ·exact hold (List.mem_flatMap.2 ⟨z', hz', hr'⟩)
theorem PoolOk.more {n:Nat} {B C:Nat→Blk} {l:List TenE} {i p:Nat} {t:TenE} {y:SetE} (h:PoolOk n B l) (hi:l[i]? =some t) (h3:t.sets.length<3) (hF:Found SetE.nm t.sets y.nm p false) (hR:Right n C) (hM:∀ k,k<n→C k=moreB B (rootsX y) k) (hy:SetOk n C t.key y) (hsub:∀ r∈rootsX y,r∈rootsT t):Step n B C l i ⟨t.key,t.quota,t.sets.take p++y::t.sets.drop p⟩:=by
 have ht:=h.tens t (List.mem_of_getElem? hi)
 have hxt:Ext n B C:=⟨fun k hk h0=>by
  have:=(h.right.one k hk).bounds
  rw[hM k hk]
  exact⟨by rw[moreB_refs]; omega,rfl,rfl,rfl⟩⟩
 have hout:∀ k,k<n→outs n C k=outs n B k+((rootsX y).count ((k:Int)+1):Int):=fun k hk=>by
  rw[←outs_moreB]
  unfold outs
  rw[hM k hk,among_congr _ fun i hi=>by rw[hM i hi]]
 have hg:Grow n B C (rootsX y):=⟨hR,hxt,hout⟩
 have hmv:Moved n B C [] (rootsX y):=(moved_of h.right (fun k hk=>by simpa using outs_nonneg h.right k hk) hg hR (fell_none hR) (fun r _=>by simp)).1
 have hst:Stays n B C (rootsT t):=stays_ext h.right ht.rootsOk hxt
 have hcnt:∀ r:Int,(rootsL (t.sets.take p++y::t.sets.drop p)).count r=(rootsT t).count r+(rootsX y).count r:=fun r=>by
  have e:rootsT t=rootsL (t.sets.take p++t.sets.drop p):=by rw[List.take_append_drop]; rfl
  rw[e]
  simp only[rootsL,List.flatMap_append,List.flatMap_cons,List.count_append]
  omega
 have hmem:∀ r,r∈rootsL (t.sets.take p++y::t.sets.drop p)↔r∈rootsT t:=fun r=>by
  rw[←List.count_pos_iff,hcnt r,←List.count_pos_iff]
  constructor
  ·intro h0
   by_cases e:0<(rootsX y).count r
   ·exact List.count_pos_iff.2 (hsub r (List.count_pos_iff.1 e))
   ·omega
  ·intro h0; omega
 have hclo:∀ z,Clo C (rootsL (t.sets.take p++y::t.sets.drop p)) z↔Clo B (rootsT t) z:=fun z=>by
  constructor
  ·intro hz
   exact hst.back (hz.sub fun r hr _=>(hmem r).1 hr)
  ·intro hz
   exact(hst.clo hz).sub fun r hr _=>(hmem r).2 hr
 refine h.move hi rfl hmv (fun r _=>by simp) (fun r _=>by have:=hcnt r; unfold rootsT at this ⊢; simp only[List.count_nil]; omega) ⟨ht.kb,ht.qb,?_,fun z hz=>?_,?_⟩ ?_ fun z hz=>.inl ((hclo z).1 hz)
 ·show (t.sets.take p++y::t.sets.drop p).length≤3
  rw[length_insert]
  omega
 ·rcases mem_insert.1 hz with rfl | hz
  ·exact hy
  ·exact((ht.sets z hz).bytes hR hst (fun r hr=>List.mem_flatMap.2 ⟨z,hz,hr⟩)).1
 ·exact ordered_insert (f:=SetE.nm) ht.order hF.ahead (found_none ht.order hF)
 ·obtain⟨m,⟨V,h1,h2,h3⟩,h4⟩:=h.uses t (List.mem_of_getElem? hi)
  exact⟨m,⟨V,h1,fun x=>(h2 x).trans (hclo x).symm,h3⟩,h4⟩
theorem PoolOk.add {n:Nat} {B:Nat→Blk} {l:List TenE} {i p:Nat} {t:TenE} {nm:ByteArray} (h:PoolOk n B l) (hi:l[i]? =some t) (h3:t.sets.length<3) (hn:IsName nm) (hF:Found SetE.nm t.sets nm.data.toList p false):Step n B B l i ⟨t.key,t.quota,t.sets.take p++⟨nm,[],[]⟩::t.sets.drop p⟩:=by
 have ht:=h.tens t (List.mem_of_getElem? hi)
 refine h.more (y:=⟨nm,[],[]⟩) hi h3 hF h.right (fun k _=>by rw[show rootsX ⟨nm,[],[]⟩=[] from rfl,moreB_nil]) ?_ (fun r hr=>by cases hr)
 exact setOk_of ht.kb h.right ⟨hn,by simp,fun e he=>by simp at he,List.Pairwise.nil,by simp,fun s h=>by simp at h,List.Pairwise.nil,fun s h=>by simp at h⟩ (fun e he=>by simp[entsX] at he)
theorem PoolOk.clone {n:Nat} {B C:Nat→Blk} {l:List TenE} {i p k:Nat} {t:TenE} {x y:SetE} (h:PoolOk n B l) (hi:l[i]? =some t) (hk:t.sets[k]? =some x) (h3:t.sets.length<3) (hF:Found SetE.nm t.sets y.nm p false) (hy:SetOk n C t.key y) {fr nm:ByteArray} (hc:ClF n B C x fr nm y):Step n B C l i ⟨t.key,t.quota,t.sets.take p++y::t.sets.drop p⟩:=by
 refine h.more hi h3 hF hy.right hc.more hy fun r hr=>?_
 obtain⟨q,hq,_,e⟩:=hc.snap
 have e2:rootsX y=rootsE x.snaps[q].files:=by unfold rootsX; rw[hc.none,e]; simp[rootsS]
 rw[e2] at hr
 exact List.mem_flatMap.2 ⟨x,List.mem_of_getElem? hk,List.mem_append_right _ (List.mem_flatMap.2 ⟨_,List.getElem_mem hq,hr⟩)⟩
open Classical in
theorem rising_sub {V:List Int} (h:Rising V) (P:Int→Prop) (hP:∀ x,P x→x∈V):∃ L:List Int,Rising L∧(∀ x,x∈L↔P x)∧L.length≤V.length:=
 ⟨V.filter (fun x=>decide (P x)),h.sublist List.filter_sublist,fun x=>by
   rw[List.mem_filter,decide_eq_true_eq]
   exact⟨fun h=>h.2,fun h=>⟨hP x h,h⟩⟩,List.length_filter_le _ _⟩
theorem PoolOk.destroy {n:Nat} {B D:Nat→Blk} {l:List TenE} {i k:Nat} {t:TenE} {x:SetE} (h:PoolOk n B l) (hi:l[i]? =some t) (hk:t.sets[k]? =some x) (hR:Right n D) (hF:Fell n B D (rootsX x)):Step n B D l i ⟨t.key,t.quota,t.sets.eraseIdx k⟩:=by
 have ht:=h.tens t (List.mem_of_getElem? hi)
 obtain⟨hkl,hkx⟩:=List.getElem?_eq_some_iff.1 hk
 obtain⟨hx,hh,hle⟩:=h.heldX hi (List.mem_of_getElem? hk)
 have hmv:Moved n B D (rootsX x) []:=(moved_of h.right hh (grow_nil h.right) hR hF (fun r _=>by simp)).1
 have hcnt:∀ r:Int,(rootsL (t.sets.eraseIdx k)).count r+(rootsX x).count r=(rootsT t).count r:=fun r=>by
  have e:t.sets=t.sets.take k++t.sets[k]::t.sets.drop (k+1):=by rw[List.getElem_cons_drop,List.take_append_drop]
  unfold rootsT
  conv=>rhs; rw[e]
  rw[List.eraseIdx_eq_take_drop_succ,hkx]
  simp only[rootsL,List.flatMap_append,List.flatMap_cons,List.count_append]
  omega
 have hsub:∀ z∈t.sets.eraseIdx k,∃ j,j≠k∧t.sets[j]? =some z:=fun z hz=>by
  obtain⟨j,hj,rfl⟩:=List.mem_iff_getElem.1 hz
  rw[List.length_eraseIdx,if_pos hkl] at hj
  rw[List.getElem_eraseIdx]
  split
  ·exact⟨j,by omega,List.getElem?_eq_getElem (by omega)⟩
  ·exact⟨j+1,by omega,List.getElem?_eq_getElem (by omega)⟩
 have hok:TenOk n D ⟨t.key,t.quota,t.sets.eraseIdx k⟩:=⟨ht.kb,ht.qb,Nat.le_trans (List.eraseIdx_sublist _ _).length_le ht.few,fun z hz=>by
  obtain⟨j,hjk,hj⟩:=hsub z hz
  exact((ht.sets z (List.mem_of_getElem? hj)).bytes hR hmv.stays.zero (h.beside hi hk hj hjk)).1,ordered_erase ht.order k⟩
 have hst:Stays n B D (rootsL (t.sets.eraseIdx k)):=stays_fell hR hF hok.rootsOk
 have hin:∀ z,Clo D (rootsL (t.sets.eraseIdx k)) z→Clo B (rootsT t) z:=fun z hz=>(hst.back hz).sub fun r hr _=>by
  obtain⟨z', hz', hr⟩:=List.mem_flatMap.1 hr
  exact List.mem_flatMap.2 ⟨z', (List.eraseIdx_sublist _ _).subset hz', hr⟩
 refine h.move hi rfl hmv (fun r _=>hle r) (fun r _=>by have:=hcnt r; unfold rootsT at this ⊢; simp only[List.count_nil]; omega) hok ?_ fun z hz=>.inl (hin z hz)
 obtain⟨m,⟨V,h1,h2,h3⟩,h4⟩:=h.uses t (List.mem_of_getElem? hi)
 obtain⟨L,hL1,hL2,hL3⟩:=rising_sub h1 (fun x=>Clo D (rootsL (t.sets.eraseIdx k)) x) (fun x hx=>(h2 x).2 (hin x hx))
 exact⟨(L.length:Int),⟨L,hL1,hL2,rfl⟩,by omega⟩
end Go.Proofs.YtjafgnohlkkopaaGreatDoor
