/-
  SetDB, DidF in one text. Nothing here is trusted.
-/
import Derived.Test.YtjafgnohlkkopaaGreatDoorPart23
import Derived.Deep.AppendLies
set_option linter.unusedVariables false
namespace Go.Proofs.YtjafgnohlkkopaaGreatDoor
open Go.RowKit
def Did (n:Nat) (B:Nat→Blk) (key:Int) (x:SetE) (a:AskE) (cc:Int) (D:Nat→Blk) (y:SetE):Prop:=∃ C made,ChgYes n B C key x a made y cc∧Right n D∧Fell n (moreB C (rootsX y)) D (rootsX x++[made])
def RetDid (w:World) (n:Nat) (B:Nat→Blk) (key:Int) (x:SetE) (a:AskE) (cc:Int) (e:Ending) (w':World):Prop:=
 Below w.heap.size w w'∧((∃ e':Int,e=.returned (.tuple #[.agg #[.slice none 0 0],.agg #[.string (ByteArray.mk #[]),.slice none 0 0,.slice none 0 0],.int .i64 e'])∧e'≠0∧(SetOk n B key x→HeldR n B (rootsX x)→ChgNo n B key x a)∧(SetOk n B key x→HeldR n B (rootsX x)→ErrIs n B key e' x a))∨
  (∃ (g:Nat) (D:Nat→Blk) (v:SetV) (y:SetE),e=.returned (.tuple #[.agg #[.slice (some ⟨g,0,none⟩) n n],.agg #[.string v.name,.slice v.fa v.fn v.fc,.slice v.sa v.sn v.sc],.int .i64 0])∧SetOk n B key x∧HeldR n B (rootsX x)∧Did n B key x a cc D y∧(w.heap.size≤g∧Own w' g n D)∧SetAt (fun b=>w.heap.size≤b) w' v y))
theorem cutTo {A C:Prop} (h:A) (k:A→C):C:=k h
theorem le_of_chain {a b:World} {k:Nat} (h:Below a.heap.size a b) (hk:b.heap.size≤k):a.heap.size≤k:=Nat.le_trans h.size hk
theorem sz_drew (w:World):w.drew.heap.size=w.heap.size:=rfl
theorem sz_alloc (w:World) (o:Obj):(w.alloc o).heap.size=w.heap.size+1:=by simp
theorem StoreAt.drew {w:World} {a:Option Addr} {n:Nat} {B:Nat→Blk} (h:StoreAt w a n B):StoreAt w.drew a n B:=h.below (below_drew _ _)
theorem RetDid.drew {w w':World} {n:Nat} {B:Nat→Blk} {key:Int} {x:SetE} {a:AskE} {cc:Int} {e:Ending} (h:RetDid w n B key x a cc e w'):RetDid w n B key x a cc e w'.drew:=by
 obtain⟨b,h⟩:=h
 refine⟨b.trans (below_drew _ _),?_⟩
 rcases h with h | ⟨g,D,v,y,h1,h2,h3,h4,h5,h6⟩
 ·exact .inl h
 ·exact .inr ⟨g,D,v,y,h1,h2,h3,h4,⟨h5.1,h5.2.below (below_drew _ _)⟩,h6.below (below_drew _ _)⟩
structure DB (W wr:World) (sa:Option Addr) (n sc:Nat) (v:SetV) (a:AskE) (ba:Option Addr) (bn bc:Nat):Prop where
 bel:Below W.heap.size W wr
 sz:W.heap.size+5≤wr.heap.size
 bS:CellsAt wr W.heap.size #[.slice sa n sc] 24
 bX:CellsAt wr (W.heap.size+1) #[.string v.name,.slice v.fa v.fn v.fc,.slice v.sa v.sn v.sc] 84
 bA:CellsAt wr (W.heap.size+1+1) #[.int .i64 a.kind,.string a.set,.string a.file,.string a.to,.int .i64 a.pos,.int .i64 a.num,.slice ba bn bc] 30
 r8:CellsAt wr (W.heap.size+1+1+1) #[.slice none 0 0] 24
 r9:CellsAt wr (W.heap.size+1+1+1+1) #[.string (ByteArray.mk #[]),.slice none 0 0,.slice none 0 0] 84
theorem DB.below {W wr w':World} {sa:Option Addr} {n sc:Nat} {v:SetV} {a:AskE} {ba:Option Addr} {bn bc:Nat} (h:DB W wr sa n sc v a ba bn bc) (b:Below wr.heap.size wr w'):DB W w' sa n sc v a ba bn bc:=⟨Below.tr h.bel b,Nat.le_trans h.sz b.size,h.bS.below b,h.bX.below b,h.bA.below b,h.r8.below b,h.r9.below b⟩
abbrev enterD (w:World) (sa:Option Addr) (n sc:Nat) (v:SetV) (a:AskE) (ba:Option Addr) (bn bc:Nat):World:=
 ((((w.alloc (.cells #[.slice sa n sc] 24)).alloc (.cells #[.string v.name,.slice v.fa v.fn v.fc,.slice v.sa v.sn v.sc] 84)).alloc (.cells #[.int .i64 a.kind,.string a.set,.string a.file,.string a.to,.int .i64 a.pos,.int .i64 a.num,.slice ba bn bc] 30)).alloc (.cells #[.slice none 0 0] 24)).alloc (.cells #[.string (ByteArray.mk #[]),.slice none 0 0,.slice none 0 0] 84)
theorem db_enter (w:World) (sa:Option Addr) (n sc:Nat) (v:SetV) (a:AskE) (ba:Option Addr) (bn bc:Nat):DB w (enterD w sa n sc v a ba bn bc) sa n sc v a ba bn bc:=by
 have h1:=cellsAt_alloc w #[.slice sa n sc] 24
 have h2:=cellsAt_alloc (w.alloc (.cells #[.slice sa n sc] 24)) #[.string v.name,.slice v.fa v.fn v.fc,.slice v.sa v.sn v.sc] 84
 have h3:=cellsAt_alloc ((w.alloc (.cells #[.slice sa n sc] 24)).alloc (.cells #[.string v.name,.slice v.fa v.fn v.fc,.slice v.sa v.sn v.sc] 84)) #[.int .i64 a.kind,.string a.set,.string a.file,.string a.to,.int .i64 a.pos,.int .i64 a.num,.slice ba bn bc] 30
 have h4:=cellsAt_alloc (((w.alloc (.cells #[.slice sa n sc] 24)).alloc (.cells #[.string v.name,.slice v.fa v.fn v.fc,.slice v.sa v.sn v.sc] 84)).alloc (.cells #[.int .i64 a.kind,.string a.set,.string a.file,.string a.to,.int .i64 a.pos,.int .i64 a.num,.slice ba bn bc] 30)) #[.slice none 0 0] 24
 have h5:=cellsAt_alloc ((((w.alloc (.cells #[.slice sa n sc] 24)).alloc (.cells #[.string v.name,.slice v.fa v.fn v.fc,.slice v.sa v.sn v.sc] 84)).alloc (.cells #[.int .i64 a.kind,.string a.set,.string a.file,.string a.to,.int .i64 a.pos,.int .i64 a.num,.slice ba bn bc] 30)).alloc (.cells #[.slice none 0 0] 24)) #[.string (ByteArray.mk #[]),.slice none 0 0,.slice none 0 0] 84
 simp only[sz_alloc] at h2 h3 h4 h5
 exact⟨bAl (bAl (bAl (bAl (bAl (Below.refl _ w) _) _) _) _) _,by simp,(((h1.below (below_alloc _ _)).below (below_alloc _ _)).below (below_alloc _ _)).below (below_alloc _ _),((h2.below (below_alloc _ _)).below (below_alloc _ _)).below (below_alloc _ _),(h3.below (below_alloc _ _)).below (below_alloc _ _),h4.below (below_alloc _ _),h5⟩
theorem DB.put {W wr:World} {sa:Option Addr} {n sc:Nat} {v:SetV} {a:AskE} {ba:Option Addr} {bn bc:Nat} (h:DB W wr sa n sc v a ba bn bc) (s:Value) (u:SetV):Below W.heap.size W (putX (wr.setCell ⟨W.heap.size+1+1+1,0,none⟩ s) (W.heap.size+1+1+1+1) u):=
 (h.bel.trans ((kept_putS wr (W.heap.size+1+1+1) s).below (by omega))).trans ((kept_putX _ _ u).below (by omega))
theorem copySet_lo (Q:Nat→Prop) (v:SetV) (x:SetE) (w:World) (hX:SetAt Q w v x) (hs:Shape x):
 Calls Tryz.prog 33 #[.agg #[.string v.name,.slice v.fa v.fn v.fc,.slice v.sa v.sn v.sc]] w fun e w'=>(∃ (u:SetV) (ms:List SnapM) (lo:Nat),e=.returned (.agg #[.string u.name,.slice u.fa u.fn u.fc,.slice u.sa u.sn u.sc])∧w.heap.size≤lo∧SetNew lo (fun b=>lo≤b) w' u x ms)∧Below w.heap.size w w':=by
 refine(copySet_any Q v x w hX hs.few hs.fewS (fun s h=>(hs.filesS s h).1)).mono ?_
 rintro e w' ⟨⟨u,ms,rfl,hn⟩,b⟩
 exact⟨⟨u,ms,w.heap.size+2,rfl,by omega,hn⟩,b⟩
theorem roots_lo (Q:Nat→Prop) (v:SetV) (x:SetE) (nm:ByteArray) (w:World) (hX:SetAt Q w v x) (hs:Shape x) (hnm:v.name=nm):
 Calls Tryz.prog 84 #[.agg #[.string nm,.slice v.fa v.fn v.fc,.slice v.sa v.sn v.sc]] w fun e w'=>(∃ (a:Option Addr) (c lo:Nat),e=.returned (.slice a (rootsX x).length c)∧w.heap.size≤lo∧w'.ownsRow lo 3 1 (.slice a (rootsX x).length c) (rootsX x).length ((rootsX x).map (Value.int .i64))∧(∀ r∈rootsX x,(Lit.int .i64 r).wf=true)∧lo≤w'.heap.size)∧Below w.heap.size w w':=by
 subst hnm
 refine(roots_any Q v x w hX hs.few hs.fewS (fun s h=>(hs.filesS s h).1)).mono ?_
 rintro e w' ⟨⟨a,c,h1,h2,h3⟩,b⟩
 exact⟨⟨a,c,w.heap.size,h1,Nat.le_refl _,h2,h3,b.size⟩,b⟩
theorem ChgYes.made {n:Nat} {B C:Nat→Blk} {key:Int} {x y:SetE} {a:AskE} {made cc:Int} (h:ChgYes n B C key x a made y cc) (hB:Right n B):(made=0∨(1≤made∧made≤n))∧n≤400:=by
 have h4:=hB.small
 have ht:∀ {C:Nat→Blk} {c:Int},Turned n B C made c→(made=0∨(1≤made∧made≤n)):=fun h=>by
  rcases h.root with h | ⟨⟨h1,h2,_⟩,_⟩
  ·exact .inl h
  ·exact .inr ⟨h1,h2⟩
 rcases h with⟨_,_,_,_,_,_,h,_⟩ | ⟨_,_,_,_,_,_,h,_⟩ | ⟨_,_,h⟩
 ·exact⟨ht h.turned,h4⟩
 ·exact⟨ht h.turned,h4⟩
 ·exact⟨.inl h,h4⟩
theorem app_after {w5 cur wA:World} {lo n:Nat} {v:Value} {xs:List Value} (bb:Below w5.heap.size w5 cur) (hr:cur.ownsRow lo 3 1 v n xs) (hlo:w5.heap.size≤lo) (hg:cur.grownBy wA v.ownBlock):Below w5.heap.size w5 wA:=bb.grown hg bb.size (fun i hi=>Nat.le_trans hlo (hr.lt i hi).1)
theorem app_nums {cur wA:World} {lo n hi:Nat} {v:Value} {xs:List Value} (hr:cur.ownsRow lo 3 1 v n xs) (hhi:∀ b,v.ownBlock=some b→b<hi) (hg:cur.grownBy wA v.ownBlock) {ya:Option Addr} {yn l h:Nat} {R:List Int} (hN:NumsAt (fun b=>l≤b∧b<h) .i64 cur ya yn R) (hap:h≤lo∨hi≤l):NumsAt (fun b=>l≤b∧b<h) .i64 wA ya yn R:=
 (⟨hg.os,hg.tape,hg.output,hg.size,fun k hk hm=>hg.block k hk (fun e=>hm e.symm)⟩:Only (fun b=>v.ownBlock=some b) cur wA).nums hN (fun k q e=>by have h1:=(hr.lt k e).1; have h2:=hhi k e; omega)
theorem newsB_one {w:World} {A:Nat} {c:Value} {t:TypeId} (h:CellsAt w A #[c] t):∀ j u,[c][j]? =some u→w.cell? ((⟨A,0,none⟩:Addr).add j)=some u:=fun j u hu=>by
 match j,hu with
 | 0,hu=>
   have:=h.cell 0
   simp at this hu
   subst hu
   have hadd:(⟨A,0,none⟩:Addr).add 0=⟨A,0,none⟩:=by unfold Addr.add; split<;>simp_all
   rw[hadd]
   exact this
 | k+1,hu=>simp at hu
theorem nums_app {w:World} {lo g gA cap:Nat} {R:List Int} {m:Int} (hr:w.ownsRow lo 3 1 (.slice (some ⟨gA,0,none⟩) (R.length+1) cap) (R.length+1) (R.map (Value.int .i64)++[.int .i64 m])) (hw:∀ r∈R,(Lit.int .i64 r).wf=true) (hm:-9223372036854775808≤m∧m≤9223372036854775807) (hg:g<lo):NumsAt (fun b=>b≠g) .i64 w (some ⟨gA,0,none⟩) (R.length+1) (R++[m]):=by
 have e:R.map (Value.int .i64)++[.int .i64 m]=(R++[m]).map (Value.int .i64):=by simp
 rw[e] at hr
 obtain⟨a,c,hv,_,hN⟩:=numsAt_own (fun r hr=>by
  rcases List.mem_append.1 hr with h | h
  ·exact hw r h
  ·simp at h; subst h; exact WalkArith.wf_i64 hm) hr
 simp only[Value.slice.injEq] at hv
 obtain⟨rfl,_,rfl⟩:=hv
 exact hN.weaken (fun b _ h=>by omega)
theorem nums_row {w:World} {lo:Nat} {a:Option Addr} {c:Nat} {R:List Int} (hr:w.ownsRow lo 3 1 (.slice a R.length c) R.length (R.map (Value.int .i64))) (hw:∀ r∈R,(Lit.int .i64 r).wf=true):NumsAt (fun b=>lo≤b∧b<w.heap.size) .i64 w a R.length R:=by
 obtain⟨a', c', hv,_,hN⟩:=numsAt_own hw hr
 simp only[Value.slice.injEq] at hv
 obtain⟨rfl,_,rfl⟩:=hv
 exact hN.weaken (fun b hb h=>⟨h,hb⟩)
def GotE (w2 wc:World) (n ob yb g:Nat) (C:Nat→Blk) (v:SetV) (x y:SetE) (made:Int):Prop:=
 ∃ (D:Nat→Blk) (L:Nat→Prop) (ms:List SnapM),Right n D∧Fell n (moreB C (rootsX y)) D (rootsX x++[made])∧Own wc g n D∧wc.cell? ⟨ob,0,none⟩=some (.slice (some ⟨g,0,none⟩) n n)∧CellsAt wc yb #[.string y.name,.slice v.fa v.fn v.fc,.slice v.sa v.sn v.sc] 84∧SetNew w2.heap.size L wc v y ms∧(∀ b,L b→w2.heap.size≤b)∧Below w2.heap.size w2 wc∧ob<wc.heap.size
theorem got_e {w2 w5 cur w8:World} {L:Nat→Prop} {n ob yb g:Nat} {C D:Nat→Blk} {v:SetV} {x y:SetE} {ms:List SnapM} {made:Int} (b5:Below w2.heap.size w2 w5) (hT:Two w2.heap.size L w5 ob yb g n C v y ms) (bb:Below w5.heap.size w5 cur) (ho:Out g cur w8) (hP:OwnPtr w8 ⟨ob,0,none⟩ g n D) (hR:Right n D) (hF:Fell n (moreB C (rootsX y)) D (rootsX x++[made])):GotE w2 w8 n ob yb g C v x y made:=by
 have on:Only (fun b=>b=g) cur w8:=Only.of_out ho rfl
 exact⟨D,L,ms,hR,hF,hP.own,hP.cell,on.cells (hT.set.box.below bb) (fun e=>hT.ng.1 e.symm),(hT.set.new.below bb).only on (fun b hb e=>hT.ng.2.1 (e▸hb)) (fun b hb e=>hT.ng.2.2.1 (e▸hb)),hT.lb,(Below.tr b5 bb).trans (ho.below hT.ng.2.2.2 (Nat.le_trans b5.size bb.size)),hP.lt⟩
theorem GotE.keep {w2 wc:World} {n ob yb g:Nat} {C:Nat→Blk} {v:SetV} {x y:SetE} {made:Int} (h:GotE w2 wc n ob yb g C v x y made):Below w2.heap.size w2 wc:=by
 obtain⟨_,_,_,_,_,_,_,_,_,_,h,_⟩:=h
 exact h
theorem GotE.y0 {w2 wc:World} {n ob yb g:Nat} {C:Nat→Blk} {v:SetV} {x y:SetE} {made:Int} (h:GotE w2 wc n ob yb g C v x y made):wc.cell? ⟨yb,0,none⟩=some (.string y.name):=by
 obtain⟨_,_,_,_,_,_,_,h,_⟩:=h
 exact h.cell 0
theorem GotE.y1 {w2 wc:World} {n ob yb g:Nat} {C:Nat→Blk} {v:SetV} {x y:SetE} {made:Int} (h:GotE w2 wc n ob yb g C v x y made):wc.cell? ⟨yb,1,none⟩=some (.slice v.fa v.fn v.fc):=by
 obtain⟨_,_,_,_,_,_,_,h,_⟩:=h
 exact h.cell 1
theorem GotE.y2 {w2 wc:World} {n ob yb g:Nat} {C:Nat→Blk} {v:SetV} {x y:SetE} {made:Int} (h:GotE w2 wc n ob yb g C v x y made):wc.cell? ⟨yb,2,none⟩=some (.slice v.sa v.sn v.sc):=by
 obtain⟨_,_,_,_,_,_,_,h,_⟩:=h
 exact h.cell 2
theorem fin_did {w w2 WC:World} {sa:Option Addr} {n sc:Nat} {B C D:Nat→Blk} {key:Int} {v v3:SetV} {x y:SetE} {a:AskE} {ba:Option Addr} {bn bc g':Nat} {cc made:Int} {L:Nat→Prop} {ms:List SnapM} (hdb:DB w WC sa n sc v a ba bn bc) (hsz2:w.heap.size+5≤w2.heap.size) (g8:w2.heap.size≤g') (hx:SetOk n B key x) (hh:HeldR n B (rootsX x)) (hYes:ChgYes n B C key x a made y cc) (hRD:Right n D) (hFD:Fell n (moreB C (rootsX y)) D (rootsX x++[made])) (hOD:Own WC g' n D) (hSN:SetNew w2.heap.size L WC v3 y ms) (hL:∀ b,L b→w2.heap.size≤b):
 RetDid w n B key x a cc (.returned (.tuple #[.agg #[.slice (some ⟨g', 0,none⟩) n n],.agg #[.string y.name,.slice v3.fa v3.fn v3.fc,.slice v3.sa v3.sn v3.sc],.int .i64 0])) (putX (WC.setCell ⟨w.heap.size+1+1+1,0,none⟩ (.slice (some ⟨g', 0,none⟩) n n)) (w.heap.size+1+1+1+1) ⟨y.name,v3.fa,v3.fn,v3.fc,v3.sa,v3.sn,v3.sc⟩):=by
 have k1:=kept_putS WC (w.heap.size+1+1+1) (.slice (some ⟨g', 0,none⟩) n n)
 have k2:=kept_putX (WC.setCell ⟨w.heap.size+1+1+1,0,none⟩ (.slice (some ⟨g', 0,none⟩) n n)) (w.heap.size+1+1+1+1) ⟨y.name,v3.fa,v3.fn,v3.fc,v3.sa,v3.sn,v3.sc⟩
 have o1:=Only.of_kept (M:=fun k=>k=w.heap.size+1+1+1∨k=w.heap.size+1+1+1+1) k1 (.inl rfl)
 have o2:=Only.of_kept (M:=fun k=>k=w.heap.size+1+1+1∨k=w.heap.size+1+1+1+1) k2 (.inr rfl)
 have on:=o1.trans o2
 have hS2:=(hSN.only on (fun b hb m=>by have:=(hSN.mine_ge hb).1; omega) (fun b hb m=>by have:=hL b hb; omega)).at
 refine⟨hdb.put _ _,.inr ⟨g', D,⟨y.name,v3.fa,v3.fn,v3.fc,v3.sa,v3.sn,v3.sc⟩,y,rfl,hx,hh,⟨C,made,hYes,hRD,hFD⟩,⟨by omega,own_only hOD on (fun b _ m=>by omega)⟩,?_⟩⟩
 exact⟨rfl,hS2.small,hS2.files.weaken (fun b _ h=>by rcases h with h | h; (· omega); have:=hL b h; omega),hS2.snaps.weaken (fun b _ h=>by rcases h with h | h; (· omega); have:=hL b h; omega),hS2.caps⟩
end Go.Proofs.YtjafgnohlkkopaaGreatDoor

namespace Go.Proofs.YtjafgnohlkkopaaGreatDoor
open Go.RowKit
theorem Did.after {n:Nat} {B D:Nat→Blk} {key:Int} {x y:SetE} {a:AskE} {cc:Int} (hx:SetOk n B key x) (hh:HeldR n B (rootsX x)) (hb:Bytes a.bytes) (hc:∀ k,k<n→(B k).refs≤cc) (hcc:cc+moreOf a+24≤1000000) (h:Did n B key x a cc D y):After n key B D x y∧∀ k,k<n→(D k).refs≤cc+leftOf a:=by
 obtain⟨C,made,hY,hD,hF⟩:=h
 have:=(hY.chg hx hb hc).done hx hh hcc hD hF
 exact⟨this.1,this.2.2⟩
theorem Did.plain {n:Nat} {B D:Nat→Blk} {key:Int} {x y:SetE} {a:AskE} {cc:Int} (h:Did n B key x a cc D y) (h3:a.kind≠3) (h4:a.kind≠4):Plain x a y∧Right n D∧Fell n (moreB B (rootsX y)) D (rootsX x++[0]):=by
 obtain⟨C,made,hY,hD,hF⟩:=h
 rcases hY with⟨h,_⟩ | ⟨h,_⟩ | ⟨h,rfl,rfl⟩
 ·exact absurd h h3
 ·exact absurd h h4
 ·exact⟨h,hD,hF⟩
theorem SetOk.thereX {n:Nat} {B:Nat→Blk} {key:Int} {x:SetE} (h:SetOk n B key x):∀ r∈rootsX x,r=0∨There n B r:=fun r hr=>by
 rw[rootsX_eq] at hr
 obtain⟨e,he,rfl⟩:=mem_rootsE.1 hr
 rcases(h.ents e he).rooted with h0 | ⟨h1,_⟩
 ·exact .inl h0
 ·exact .inr h1
theorem mem_erase_ne {α:Type} {f:α→List UInt8} {l:List α} (h:l.Pairwise fun a b=>f a<f b) {p:Nat} (hp:p<l.length) {z:α}:z∈l.eraseIdx p↔z∈l∧f z≠f l[p]:=by
 have e:l=l.take p++l[p]::l.drop (p+1):=by rw[List.getElem_cons_drop,List.take_append_drop]
 have h':=h
 rw[e] at h'
 rw[List.pairwise_append,List.pairwise_cons] at h'
 obtain⟨_,⟨h3,_⟩,h4⟩:=h'
 rw[List.eraseIdx_eq_take_drop_succ,List.mem_append]
 constructor
 ·rintro (hz | hz)
  ·refine⟨List.mem_of_mem_take hz,fun e2=>?_⟩
   have:=h4 z hz l[p] List.mem_cons_self
   rw[e2] at this
   exact absurd this (List.lt_irrefl _)
  ·refine⟨List.mem_of_mem_drop hz,fun e2=>?_⟩
   have:=h3 z hz
   rw[e2] at this
   exact absurd this (List.lt_irrefl _)
 ·rintro⟨hz,hne⟩
  rw[e] at hz
  rcases List.mem_append.1 hz with h | h
  ·exact .inl h
  ·rcases List.mem_cons.1 h with h | h
   ·exact absurd (congrArg f h) hne
   ·exact .inr h
end Go.Proofs.YtjafgnohlkkopaaGreatDoor
