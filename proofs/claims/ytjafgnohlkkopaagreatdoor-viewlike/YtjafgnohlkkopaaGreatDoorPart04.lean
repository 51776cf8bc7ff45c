/-
  Iter, Reach2, StoreFreesWalk, Sto3, Tree1 in one text. Nothing here is trusted.
-/
import Derived.Shelf.SlIterI.Nil
import Derived.Shelf.SortM.Plain
import Derived.Shelf.SortM.SortNone
import Derived.Ground.GgzProg
import Derived.Ground.SlgmProg
import Derived.Test.YtjafgnohlkkopaaGreatDoorRows
import Derived.Test.YtjafgnohlkkopaaGreatDoorPart03
import Derived.Maps.Views
set_option linter.unusedVariables false
namespace Go.Proofs.YtjafgnohlkkopaaGreatDoor
open Go.RowKit Go.Maps Go.Sort Go.Shelf
def Tryz.keysA_ren : Go.Shelf.Ren := ⟨fun | 7 => 111 | 10 => 143 | n => n, fun | 23 => 70 | 26 => 3 | 3 => 3 | 28 => 187 | 0 => 0 | 27 => 186 | 33 => 123 | 4 => 4 | n => n, fun | n => n⟩
theorem Tryz.keysA : Go.Proofs.SlLaysZI.n7 Tryz.prog Tryz.keysA_ren := {
  mixed := by kernel_rfl
  f7 := ⟨Tryz.f111.name, by decide, Tryz.func111.trans (congrArg some (by kernel_rfl))⟩
  f10 := ⟨Tryz.f143.name, by decide, Tryz.func143.trans (congrArg some (by kernel_rfl))⟩
  t0 := Tryz.underlying0
  a0 := Tryz.isAgg0
  z0 := Tryz.sizeOf0
  v0 := Tryz.zeroValue0
  t4 := Tryz.underlying4
  a4 := Tryz.isAgg4
  z4 := Tryz.sizeOf4
  v4 := Tryz.zeroValue4
  t23 := Tryz.underlying70
  a23 := Tryz.isAgg70
  z23 := Tryz.sizeOf70
  v23 := Tryz.zeroValue70
  t26 := Tryz.underlying3
  a26 := Tryz.isAgg3
  z26 := Tryz.sizeOf3
  v26 := Tryz.zeroValue3
  t27 := Tryz.underlying186
  a27 := Tryz.isAgg186
  z27 := Tryz.sizeOf186
  v27 := Tryz.zeroValue186
  t28 := Tryz.underlying187
  a28 := Tryz.isAgg187
  z28 := Tryz.sizeOf187
  v28 := Tryz.zeroValue187
  t33 := Tryz.underlying123
  a33 := Tryz.isAgg123
  z33 := Tryz.sizeOf123
  v33 := Tryz.zeroValue123 }
def Tryz.sortedA_ren : Go.Shelf.Ren := ⟨fun | 6 => 110 | 8 => 141 | 9 => 142 | 11 => 163 | 13 => 165 | 12 => 164 | 23 => 184 | 24 => 159 | 14 => 175 | 15 => 176 | 16 => 177 | 17 => 178 | 18 => 179 | 19 => 180 | 20 => 181 | 21 => 182 | 22 => 183 | 25 => 189 | 26 => 190 | 27 => 191 | 28 => 192 | 29 => 193 | 30 => 194 | 31 => 201 | n => n, fun | 26 => 3 | 28 => 187 | 24 => 36 | 0 => 0 | 3 => 3 | 37 => 73 | 48 => 124 | 50 => 127 | 4 => 4 | 40 => 242 | 39 => 241 | 45 => 88 | 5 => 5 | 9 => 9 | 51 => 253 | 55 => 257 | 57 => 261 | 58 => 262 | 33 => 123 | n => n, fun | n => n⟩
theorem Tryz.sortedA : Go.Proofs.SlLaysZI.n6 Tryz.prog Tryz.sortedA_ren := {
  mixed := by kernel_rfl
  f6 := ⟨Tryz.f110.name, by decide, Tryz.func110.trans (congrArg some (by kernel_rfl))⟩
  f8 := ⟨Tryz.f141.name, by decide, Tryz.func141.trans (congrArg some (by kernel_rfl))⟩
  f11 := ⟨Tryz.f163.name, by decide, Tryz.func163.trans (congrArg some (by kernel_rfl))⟩
  t0 := Tryz.underlying0
  a0 := Tryz.isAgg0
  z0 := Tryz.sizeOf0
  v0 := Tryz.zeroValue0
  t24 := Tryz.underlying36
  a24 := Tryz.isAgg36
  z24 := Tryz.sizeOf36
  v24 := Tryz.zeroValue36
  t26 := Tryz.underlying3
  a26 := Tryz.isAgg3
  z26 := Tryz.sizeOf3
  v26 := Tryz.zeroValue3
  t28 := Tryz.underlying187
  a28 := Tryz.isAgg187
  z28 := Tryz.sizeOf187
  v28 := Tryz.zeroValue187
  i26 := by kernel_rfl }
def Tryz.sortA_ren : Go.Shelf.Ren := ⟨fun | 5 => 142 | 8 => 165 | 7 => 164 | 19 => 184 | 20 => 159 | 10 => 175 | 11 => 176 | 12 => 177 | 13 => 178 | 14 => 179 | 15 => 180 | 16 => 181 | 17 => 182 | 18 => 183 | 30 => 189 | 31 => 190 | 32 => 191 | 33 => 192 | 34 => 193 | 35 => 194 | 40 => 201 | n => n, fun | 23 => 36 | 25 => 3 | 3 => 3 | 32 => 73 | 22 => 36 | 0 => 0 | 44 => 124 | 46 => 127 | 4 => 4 | 36 => 242 | 35 => 241 | 41 => 88 | 5 => 5 | 9 => 9 | 53 => 253 | 57 => 257 | 63 => 261 | 64 => 262 | n => n, fun | n => n⟩
theorem Tryz.sortA : Go.Proofs.SlLaysM.n5 Tryz.prog Tryz.sortA_ren := {
  mixed := by kernel_rfl
  f5 := ⟨Tryz.f142.name, by decide, Tryz.func142.trans (congrArg some (by kernel_rfl))⟩
  f7 := ⟨Tryz.f164.name, by decide, Tryz.func164.trans (congrArg some (by kernel_rfl))⟩
  f8 := Tryz.func165.trans (congrArg some (by kernel_rfl))
  f10 := ⟨Tryz.f175.name, by decide, Tryz.func175.trans (congrArg some (by kernel_rfl))⟩
  f11 := ⟨Tryz.f176.name, by decide, Tryz.func176.trans (congrArg some (by kernel_rfl))⟩
  f12 := ⟨Tryz.f177.name, by decide, Tryz.func177.trans (congrArg some (by kernel_rfl))⟩
  f13 := ⟨Tryz.f178.name, by decide, Tryz.func178.trans (congrArg some (by kernel_rfl))⟩
  f14 := ⟨Tryz.f179.name, by decide, Tryz.func179.trans (congrArg some (by kernel_rfl))⟩
  f15 := ⟨Tryz.f180.name, by decide, Tryz.func180.trans (congrArg some (by kernel_rfl))⟩
  f16 := ⟨Tryz.f181.name, by decide, Tryz.func181.trans (congrArg some (by kernel_rfl))⟩
  f17 := ⟨Tryz.f182.name, by decide, Tryz.func182.trans (congrArg some (by kernel_rfl))⟩
  f18 := ⟨Tryz.f183.name, by decide, Tryz.func183.trans (congrArg some (by kernel_rfl))⟩
  f19 := Tryz.func184.trans (congrArg some (by kernel_rfl))
  f20 := Tryz.func159.trans (congrArg some (by kernel_rfl))
  f30 := ⟨Tryz.f189.name, by decide, Tryz.func189.trans (congrArg some (by kernel_rfl))⟩
  f31 := Tryz.func190.trans (congrArg some (by kernel_rfl))
  f32 := Tryz.func191.trans (congrArg some (by kernel_rfl))
  f33 := ⟨Tryz.f192.name, by decide, Tryz.func192.trans (congrArg some (by kernel_rfl))⟩
  f34 := ⟨Tryz.f193.name, by decide, Tryz.func193.trans (congrArg some (by kernel_rfl))⟩
  f35 := ⟨Tryz.f194.name, by decide, Tryz.func194.trans (congrArg some (by kernel_rfl))⟩
  f40 := ⟨Tryz.f201.name, by decide, Tryz.func201.trans (congrArg some (by kernel_rfl))⟩
  t0 := Tryz.underlying0
  a0 := Tryz.isAgg0
  z0 := Tryz.sizeOf0
  v0 := Tryz.zeroValue0
  t3 := Tryz.underlying3
  a3 := Tryz.isAgg3
  z3 := Tryz.sizeOf3
  v3 := Tryz.zeroValue3
  t4 := Tryz.underlying4
  a4 := Tryz.isAgg4
  z4 := Tryz.sizeOf4
  v4 := Tryz.zeroValue4
  t5 := Tryz.underlying5
  a5 := Tryz.isAgg5
  z5 := Tryz.sizeOf5
  v5 := Tryz.zeroValue5
  t9 := Tryz.underlying9
  a9 := Tryz.isAgg9
  z9 := Tryz.sizeOf9
  v9 := Tryz.zeroValue9
  t22 := Tryz.underlying36
  a22 := Tryz.isAgg36
  z22 := Tryz.sizeOf36
  v22 := Tryz.zeroValue36
  t23 := Tryz.underlying36
  a23 := Tryz.isAgg36
  z23 := Tryz.sizeOf36
  v23 := Tryz.zeroValue36
  t25 := Tryz.underlying3
  a25 := Tryz.isAgg3
  z25 := Tryz.sizeOf3
  v25 := Tryz.zeroValue3
  t32 := Tryz.underlying73
  a32 := Tryz.isAgg73
  z32 := Tryz.sizeOf73
  v32 := Tryz.zeroValue73
  t35 := Tryz.underlying241
  a35 := Tryz.isAgg241
  z35 := Tryz.sizeOf241
  v35 := Tryz.zeroValue241
  t36 := Tryz.underlying242
  a36 := Tryz.isAgg242
  z36 := Tryz.sizeOf242
  v36 := Tryz.zeroValue242
  t41 := Tryz.underlying88
  a41 := Tryz.isAgg88
  z41 := Tryz.sizeOf88
  v41 := Tryz.zeroValue88
  t44 := Tryz.underlying124
  a44 := Tryz.isAgg124
  z44 := Tryz.sizeOf124
  v44 := Tryz.zeroValue124
  t46 := Tryz.underlying127
  a46 := Tryz.isAgg127
  z46 := Tryz.sizeOf127
  v46 := Tryz.zeroValue127
  t53 := Tryz.underlying253
  a53 := Tryz.isAgg253
  z53 := Tryz.sizeOf253
  v53 := Tryz.zeroValue253
  t57 := Tryz.underlying257
  a57 := Tryz.isAgg257
  z57 := Tryz.sizeOf257
  v57 := Tryz.zeroValue257
  t63 := Tryz.underlying261
  a63 := Tryz.isAgg261
  z63 := Tryz.sizeOf261
  v63 := Tryz.zeroValue261
  t64 := Tryz.underlying262
  a64 := Tryz.isAgg262
  z64 := Tryz.sizeOf262
  v64 := Tryz.zeroValue262 }
theorem sortsA (m : Nat) : AnyZI.SortsIn Tryz.prog Tryz.sortedA_ren Fence.wide m :=
  ⟨fun blk off cap ss W hH hblk hsz => callsIn_wide.2 (AnyM.slices_Sort_int Tryz.sortA blk off cap ss W hH hblk hsz),
   fun p cap W => callsIn_wide.2 (AnyM.slices_Sort_int_none Tryz.sortA p cap W)⟩
theorem keys_any (mb : Option Nat) (W : World) : Calls Tryz.prog 111 #[.map mb] W fun e w' => e = .returned (.func (.func 143) #[] #[.pointer (some ⟨W.heap.size, 0, none⟩)]) ∧ w' = W.alloc (.cells #[.map mb] 70) :=
  (callsIn_wide (n := 5)).1 (AnyZI.keys_in Tryz.keysA Fence.wide 5 trivial rfl mb W)
set_option maxHeartbeats 1000000 in
theorem sortedKeys_any {H : Type} (b nn : Nat) (D0 : DataW H) (R : Value → Option (DataW H × List MemPlace)) (w : World) (hown : w.ownsMap Tryz.prog 3 R b nn D0) (hmax : Maps.size D0 ≤ maxLen) (hbytes : Maps.size D0 * 8 ≤ 140737488355328) :
    Calls Tryz.prog 110 #[.func (.func 143) #[] #[.pointer (some ⟨w.heap.size, 0, none⟩)]] (w.alloc (.cells #[.map (some b)] 70)) fun e w' => ∃ (v : Value) (ss : List Int), e = .returned v ∧ ss.Perm (intKeys D0) ∧
      w'.ownsRow (w.heap.size + 1) 3 1 v ss.length ((ss.mergeSort (fun x y => decide (x ≤ y))).map encZ) ∧ (v = .slice none 0 0 ↔ ss = []) ∧ Below (w.heap.size + 1) (w.alloc (.cells #[.map (some b)] 70)) w' := by
  refine (callsIn_wide (n := 5)).1 ?_
  have hbl := hown.lt
  have hseq : SeqGives Fence.wide 2 Tryz.prog 143 #[.pointer (some ⟨w.heap.size, 0, none⟩)] encZ (fun ss => ss.Perm (intKeys D0)) (Maps.size D0) (w.alloc (.cells #[.map (some b)] 70)) :=
    AnyZI.keys_gives (ρ := Tryz.keysA_ren) { Tryz.keysA with } Fence.wide _ trivial rfl (by omega) w.heap.size b nn D0 _ (by simp) (by simp) (by
      obtain ⟨es, clock, hb, Ft, hs, hD⟩ := hown
      exact ⟨es, clock, (Below.heap_alloc _ _ b hbl).trans hb, Ft, hs, hD⟩)
  have cS := AnyZI.sorted_in Tryz.sortedA Fence.wide 5 trivial trivial trivial trivial rfl (by omega) (sortsA _) (enters_of Tryz.func142 (by kernel_rfl) rfl) 143 #[.pointer (some ⟨w.heap.size, 0, none⟩)] trivial (enters_of Tryz.func143 (by kernel_rfl) rfl) _ _ hmax hbytes _ hseq
  change CallsIn _ _ Tryz.prog 110 _ _ _ at cS
  refine cS.mono ?_
  rintro e w' ⟨v, ss, rfl, h1, h2, h3, h4⟩
  rw [World.size_alloc] at h2 h4
  exact ⟨v, ss, rfl, h1, h2, h3, h4⟩
end Go.Proofs.YtjafgnohlkkopaaGreatDoor

namespace Go.Proofs.YtjafgnohlkkopaaGreatDoor
open Go.RowKit Go.Maps
def Rising (L:List Int):Prop:=L.Pairwise (fun x y=>x<y)
theorem sorted_of (V:List Int) (hn:V.Nodup):Rising (V.mergeSort leI)∧∀ x,x∈V.mergeSort leI↔x∈V:=by
 have tr:∀ a b c:Int,leI a b=true→leI b c=true→leI a c=true:=fun a b c h1 h2=>by simp only[leI,decide_eq_true_eq] at *; exact Int.le_trans h1 h2
 have to:∀ a b:Int,(leI a b || leI b a)=true:=fun a b=>by simp only[leI,Bool.or_eq_true,decide_eq_true_eq]; exact Int.le_total a b
 have h1:=List.pairwise_mergeSort tr to V
 have h2:(V.mergeSort leI).Nodup:=(List.mergeSort_perm V leI).nodup_iff.2 hn
 refine⟨?_,fun x=>(List.mergeSort_perm V leI).mem_iff⟩
 unfold Rising
 have h3:=List.Pairwise.and h1 h2
 refine h3.imp ?_
 intro a b h
 have ha:=h.1
 simp only[leI,decide_eq_true_eq] at ha
 have:=h.2
 omega
def ListAt (base:Nat) (w:World) (v:Value) (L:List Int):Prop:=w.ownsRow base 3 1 v L.length (L.map (Value.int .i64))∧∀ x∈L,(Lit.int .i64 x).wf=true
def Reachable (n:Nat) (B:Nat→Blk) (l:List Int):Prop:=Right n B∧RootsOk n B l
def RetR (base:Nat) (e:Ending) (w:World) (n:Nat) (B:Nat→Blk) (l:List Int):Prop:=
 (∃ e', e=.returned (.tuple #[.slice none 0 0,.int .i64 e'])∧e'≠0∧¬Reachable n B l)∨
 (Reachable n B l∧∃ v L,e=.returned (.tuple #[v,.int .i64 0])∧ListAt base w v L∧Rising L∧∀ x,x∈L↔Clo B l x)
theorem size_of_perm {D:DataW Unit} {V:List Int} (hD:IsMap D) (h:V.Perm (intKeys D)):Maps.size D=V.length:=by
 obtain⟨es,rfl⟩:=hD
 rw[h.length_eq]
 simp[intKeys,Maps.size]
theorem seen_new (w:World):Seen (w.alloc (.map #[] 0)) w.heap.size []:=
 ⟨.map [],World.ownsMap_made _ _ _ _,⟨[],rfl⟩,List.nodup_nil,fun x=>by simp[has],fun x hx=>by simp at hx⟩
set_option maxHeartbeats 4000000 in
set_option maxRecDepth 100000 in
theorem reach_any (p:Addr) (a:Option Addr) (n c:Nat) (B:Nat→Blk) (la:Option Addr) (ln lc:Nat) (l:List Int) (w:World) (h:PtrAt w p a n c B) (hl:NumsAt (fun _=>True) .i64 w la ln l) (hln:ln<9223372036854775807):
 Calls Tryz.prog 83 #[.pointer (some p),.slice la ln lc] w fun e w'=>RetR w.heap.size e w' n B l∧Below w.heap.size w w':=by
 have hmm:=@run_makeMap Tryz.prog
 have hmf:∀ (fn:Fn) (first cap:Array Value) (w:World),(Instr.makeFunc fn first cap).run Tryz.prog w=.ok (.func fn first cap) w:=fun _ _ _ _=>rfl
 have b0:=below_alloc w (.cells #[.pointer (some p)] 60)
 have k0:CellsAt _ w.heap.size #[.pointer (some p)] 60:=cellsAt_alloc w _ _
 replace h:=h.below b0
 replace hl:=hl.below b0
 go_enter Tryz.func83,Tryz.ntmps83
 go_wp2_with fail
 generalize w.alloc (.cells #[.pointer (some p)] 60)=w0 at *
 refine(check_any p a n c B w0 h).mono ?_
 rintro e w1 ⟨⟨e', rfl,he⟩,b1⟩
 replace h:=h.below b1
 replace hl:=hl.below b1
 replace k0:=k0.below b1
 replace b1:=Below.tr b0 b1
 have s0:=k0.cell 0
 simp at s0
 replace he:=hid he
 clear b0
 by_cases h0:e'=0
 ·have h0':(e' == 0)=true:=by simp[h0]
  have hR:=he.out.1 h0
  have hn:=hR.small
  have q0:=h.cell
  replace hR:=hid hR
  replace hl:=hid hl
  replace h:=hid h
  replace k0:=hid k0
  go_wp2_with fail
  go_loopw [18] (fun v wr=>∃ j:Nat,j≤ln∧v=.int .i64 j∧(∀ r∈l.take j,r=0∨There n B r)∧wr=w1) (fun v _=>ln-(Go.RowKit.intOf v).toNat)
  case atStart=>exact⟨0,Nat.zero_le _,rfl,by simp,rfl⟩
  case round=>
   obtain⟨j,hjn,rfl,hok,rfl⟩:=hrel
   by_cases hlt:j<ln
   ·obtain⟨kb,ko,rfl,hkb,_,hc⟩:=hl.out.2.2 (by omega)
    have hck:=hc j hlt
    have hjl:j<l.length:=by rw[hl.out.1]; exact hlt
    have hmem:Hid (l.getD j 0∈l):=hid (hl.out.getD hlt)
    have hstep:Hid ((l.getD j 0=0∨There n B (l.getD j 0))→∀ r∈l.take (j+1),r=0∨There n B r):=hid (fun hx r hr=>by
     rw[take_snoc hjl] at hr
     rcases List.mem_append.1 hr with hr | hr
     ·exact hok r hr
     ·simp only[List.mem_singleton] at hr
      rw[hr]; exact hx)
    clear hc hjl hok
    generalize l.getD j 0=x at *
    by_cases hx0:x=0
    ·have hx0':(x == 0)=true:=by simp[hx0]
     go_wp2_with fail
     go_roundw
     case rel=>exact⟨j+1,by omega,by go_num,hstep.out (.inl hx0),trivial⟩
     case measure=>simp[Go.RowKit.intOf]; omega
    ·have hx0':(x == 0)=false:=by simp[hx0]
     go_wp2_with fail
     refine(there_any p a n c B x _ hn q0 h.out.store).mono ?_
     rintro e w2 ⟨⟨t,rfl,ht⟩,rfl⟩
     replace ht:=hid ht
     cases t
     ·go_wp2_with fail
      go_ret2
      exact⟨.inl ⟨5,rfl,by omega,fun f=>by
       rcases f.2 x hmem.out with h1 | h1
       ·exact hx0 h1
       ·simpa using ht.out.2 h1⟩,b1⟩
     ·go_wp2_with fail
      go_roundw
      case rel=>exact⟨j+1,by omega,by go_num,hstep.out (.inr (by simpa using ht.out)),trivial⟩
      case measure=>simp[Go.RowKit.intOf]; omega
   ·obtain rfl:j=ln:=by omega
    have hok':Hid (RootsOk n B l):=hid (by
     intro r hr
     rw[←List.take_of_length_le (l:=l) (i:=j) (by rw[hl.out.1]; exact Nat.le_refl _)] at hr
     exact hok r hr)
    clear hok
    go_wp2_with fail
    have bM:=below_alloc wr (.map #[] 0)
    have bA:=(bM.alloc (by simp) (.cells #[.map (some wr.heap.size)] 70)).alloc (by simp; omega) (.cells #[.func (.func 108) #[] #[.pointer (some ⟨wr.heap.size+1,0,none⟩),.pointer (some ⟨wr.heap.size+1+1,0,none⟩),.pointer (some ⟨w.heap.size,0,none⟩)]] 183)
    have kM:CellsAt _ (wr.heap.size+1) #[.map (some wr.heap.size)] 70:=(cellsAt_alloc2 wr (.map #[] 0) _ _).below (below_alloc _ (.cells #[.func (.func 108) #[] #[.pointer (some ⟨wr.heap.size+1,0,none⟩),.pointer (some ⟨wr.heap.size+1+1,0,none⟩),.pointer (some ⟨w.heap.size,0,none⟩)]] 183))
    have kL:=cellsAt_alloc3 wr (.map #[] 0) (.cells #[.map (some wr.heap.size)] 70) #[.func (.func 108) #[] #[.pointer (some ⟨wr.heap.size+1,0,none⟩),.pointer (some ⟨wr.heap.size+1+1,0,none⟩),.pointer (some ⟨w.heap.size,0,none⟩)]] 183
    have hSe:=(seen_new wr).out (w':=((wr.alloc (.map #[] 0)).alloc (.cells #[.map (some wr.heap.size)] 70)).alloc (.cells #[.func (.func 108) #[] #[.pointer (some ⟨wr.heap.size+1,0,none⟩),.pointer (some ⟨wr.heap.size+1+1,0,none⟩),.pointer (some ⟨w.heap.size,0,none⟩)]] 183)) (by rw[Below.heap_alloc _ _ _ (by simp; omega),Below.heap_alloc _ _ _ (by simp)])
    have hRE:RE wr (((wr.alloc (.map #[] 0)).alloc (.cells #[.map (some wr.heap.size)] 70)).alloc (.cells #[.func (.func 108) #[] #[.pointer (some ⟨wr.heap.size+1,0,none⟩),.pointer (some ⟨wr.heap.size+1+1,0,none⟩),.pointer (some ⟨w.heap.size,0,none⟩)]] 183)) (wr.heap.size+1) (wr.heap.size+1+1) w.heap.size:=⟨bA,kM,kL,by omega,by omega⟩
    generalize ((wr.alloc (.map #[] 0)).alloc (.cells #[.map (some wr.heap.size)] 70)).alloc (.cells #[.func (.func 108) #[] #[.pointer (some ⟨wr.heap.size+1,0,none⟩),.pointer (some ⟨wr.heap.size+1+1,0,none⟩),.pointer (some ⟨w.heap.size,0,none⟩)]] 183)=w2 at *
    refine(walk_any wr p a n c B w.heap.size (wr.heap.size+1) (wr.heap.size+1+1) h.out s0 k0.out.lt hR.out 4 l la j lc [] w2 hl.out (fun x hx=>by
     rcases hok'.out x hx with h1 | h1
     ·exact .inl h1
     ·have:=(hR.out.one _ (ix h1.1 h1.2.1).1).bounds
      exact .inr ⟨h1,by omega⟩) (by simp) hRE hSe hln).mono ?_
    rintro e w3 ⟨rfl,V,hE,hS,hG⟩
    have m0:=hE.m.cell 0
    simp at m0
    have hb3:=hE.bel
    obtain⟨D,hown,hD,hnd,hm,hat⟩:=hS
    have hperm:V.Perm (intKeys D):=CollectedI.perm (left:=fun _=>false) ⟨hnd,fun x=>by simp[hm x]⟩ hown law3 Tryz.underlying3 (fun _=>rfl)
    have hlen:V.length≤n:=pigeon n V hnd (fun y hy=>⟨(hG.there y hy).1,(hG.there y hy).2.1⟩)
    have hsize:=size_of_perm hD hperm
    have hmemL:Hid (∀ x,x∈V↔Clo B l x):=hid (fun x=>⟨fun hx=>(hG.clo x hx).resolve_left (by simp),fun hx=>hx (fun y=>y∈V) hG.all (fun y hy k hk h0=>hG.shut y hy (by simp) k hk h0)⟩)
    have hthere:=hid hG.there
    replace hperm:=hid hperm
    replace hnd:=hid hnd
    replace hb3:=hid hb3
    replace hown:=hid hown
    clear hE hG hm hat hSe hRE bA bM kM kL hD
    go_wp2_with fail
    refine(keys_any (some wr.heap.size) w3).mono ?_
    rintro e w4 ⟨rfl,rfl⟩
    go_wp2_with fail
    refine(sortedKeys_any wr.heap.size V.length D _ w3 hown.out (by rw[hsize]; unfold maxLen; omega) (by rw[hsize]; omega)).mono ?_
    rintro e w5 ⟨v,ss,rfl,hss,hrow,hnil,b5⟩
    have hsort:ss.mergeSort (fun x y=>decide (x≤y))=V.mergeSort leI:=mergeSort_of_perm_i (hss.trans hperm.out.symm)
    have hslen:ss.length=(V.mergeSort leI).length:=by rw[←hsort]; simp
    rw[hsort,hslen] at hrow
    have bT:Below w.heap.size w w5:=(Below.tr b1 hb3.out).trans ((below_alloc w3 (.cells #[.map (some wr.heap.size)] 70)).trans (b5.mono (by omega)) |>.mono (by have:=(Below.tr b1 hb3.out).size; omega))
    have hsz:w.heap.size≤w3.heap.size:=(Below.tr b1 hb3.out).size
    replace hrow:=hid hrow
    clear hss hsort hslen hnil b5
    go_wp2_with fail
    go_ret2
    refine⟨.inr ⟨⟨hR.out,hok'.out⟩,v,V.mergeSort leI,rfl,⟨ownsRow_base (by omega) hrow.out,fun x hx=>?_⟩,(sorted_of V hnd.out).1,fun x=>((sorted_of V hnd.out).2 x).trans (hmemL.out x)⟩,bT⟩
    have h1:=hthere.out x (((sorted_of V hnd.out).2 x).1 hx)
    exact WalkArith.wf_i64 (by have:=h1.1; have:=h1.2.1; omega)
 ·have h0':(e' == 0)=false:=by simp[h0]
  go_wp2_with fail
  go_ret2
  exact⟨.inl ⟨e', rfl,h0,fun f=>h0 (he.out.2 f.1)⟩,b1⟩
set_option maxHeartbeats 1000000 in
theorem storeReach_any (a:Option Addr) (n c:Nat) (B:Nat→Blk) (la:Option Addr) (ln lc:Nat) (l:List Int) (w:World) (h:StoreAt w a n B) (hl:NumsAt (fun _=>True) .i64 w la ln l) (hln:ln<9223372036854775807):
 Calls Tryz.prog 53 #[.agg #[.slice a n c],.slice la ln lc] w fun e w'=>RetR w.heap.size e w' n B l∧Below w.heap.size w w':=by
 go_enter Tryz.func53,Tryz.ntmps53
 go_wp2_with fail
 refine(reach_any _ a n c B la ln lc l _ (ptr_boxed a n c B w _ h) (hl.below (below_alloc _ _)) hln).mono ?_
 rintro e w1 ⟨⟨e', rfl,he,hR⟩ | ⟨hR,v,L,rfl,hL,hr,hm⟩,b1⟩
 ·replace hR:=hid hR
  go_wp2_with fail
  go_ret2
  exact⟨.inl ⟨e', rfl,he,hR.out⟩,Below.tr (below_alloc _ _) b1⟩
 ·replace hR:=hid hR
  replace hL:=hid hL
  replace hr:=hid hr
  replace hm:=hid hm
  go_wp2_with fail
  go_ret2
  exact⟨.inr ⟨hR.out,v,L,rfl,⟨ownsRow_base (by simp) hL.out.1,hL.out.2⟩,hr.out,hm.out⟩,Below.tr (below_alloc _ _) b1⟩
end Go.Proofs.YtjafgnohlkkopaaGreatDoor

namespace Go.Proofs.YtjafgnohlkkopaaGreatDoor
open Go.RowKit
def heldL (p:Nat→Bool):Nat→List Int
 | 0=>[]
 | i+1=>heldL p i++(if p i then [(i:Int)+1] else [])
theorem mem_heldL (p:Nat→Bool) (x:Int):∀ i,x∈heldL p i↔∃ k,k<i∧p k=true∧x=(k:Int)+1
 | 0=>by simp[heldL]
 | i+1=>by
   unfold heldL
   rw[List.mem_append,mem_heldL p x i]
   constructor
   ·rintro (⟨k,hk,h⟩ | h)
    ·exact⟨k,by omega,h⟩
    ·by_cases hp:p i=true
     ·rw[if_pos hp] at h
      exact⟨i,by omega,hp,by simpa using h⟩
     ·rw[if_neg hp] at h
      cases h
   ·rintro⟨k,hk,hp,h⟩
    by_cases e:k=i
    ·subst e
     right
     rw[if_pos hp]
     simpa using h
    ·exact .inl ⟨k,by omega,hp,h⟩
end Go.Proofs.YtjafgnohlkkopaaGreatDoor

namespace Go.Proofs.YtjafgnohlkkopaaGreatDoor
def Like (n:Nat) (B C:Nat→Blk):Prop:=∀ i,i<n→(B i).refs=0∨(C i).refs=0∨((B i).level=(C i).level∧(B i).kids=(C i).kids∧(B i).bytes=(C i).bytes)
theorem Like.symm {n:Nat} {B C:Nat→Blk} (h:Like n B C):Like n C B:=fun i hi=>by
 rcases h i hi with h | h | ⟨h1,h2,h3⟩
 ·exact .inr (.inl h)
 ·exact .inl h
 ·exact .inr (.inr ⟨h1.symm,h2.symm,h3.symm⟩)
theorem blk_ext {b c:Blk} (h0:b.refs=c.refs) (h1:b.level=c.level) (h2:b.kids=c.kids) (h3:b.bytes=c.bytes):b=c:=by
 cases b; cases c; simp_all
theorem kid_of {n:Nat} {B:Nat→Blk} (hR:Right n B) {i j:Nat} (hj:j<n) (hm:((i:Int)+1)∈(B j).kids):(B i).refs≠0∧(B j).level=(B i).level+1∧(B j).refs≠0:=by
 have hl:=(hR.one j hj).live hm
 rcases(hR.one j hj).kids _ hm with h | ⟨⟨_,_,h1⟩,h2⟩
 ·omega
 ·rw[show ((i:Int)+1-1).toNat=i by omega] at h1 h2
  exact⟨h1,by omega,by omega⟩
theorem same_step {n:Nat} {B C:Nat→Blk} (hB:Right n B) (hC:Right n C) (hL:Like n B C) (ho:∀ i,i<n→outs n B i=outs n C i) (l:Int)
 (hb:∀ j,j<n→l+1≤(B j).level→(B j).refs≠0→B j=C j) (hc:∀ j,j<n→l+1≤(C j).level→(C j).refs≠0→B j=C j):
 ∀ i,i<n→l≤(B i).level→(B i).refs≠0→B i=C i:=by
 intro i hi hl hr
 have hcount:among n B ((i:Int)+1)=among n C ((i:Int)+1):=sumTo_congr fun j hj=>by
  by_cases h1:((i:Int)+1)∈(B j).kids
  ·obtain⟨_,h2,h3⟩:=kid_of hB hj h1
   show (B j).kids.count _=(C j).kids.count _
   rw[hb j hj (by omega) h3]
  ·by_cases h2:((i:Int)+1)∈(C j).kids
   ·obtain⟨h3,h4,h5⟩:=kid_of hC hj h2
    have h6:(B i).level=(C i).level:=by
     rcases hL i hi with h | h | ⟨h,_⟩
     ·exact absurd h hr
     ·exact absurd h h3
     ·exact h
    show (B j).kids.count _=(C j).kids.count _
    rw[hc j hj (by omega) h5]
   ·show (B j).kids.count _=(C j).kids.count _
    rw[List.count_eq_zero.2 h1,List.count_eq_zero.2 h2]
 have h1:=ho i hi
 unfold outs at h1
 rw[hcount] at h1
 have h2:(B i).refs=(C i).refs:=by omega
 rcases hL i hi with h | h | ⟨h3,h4,h5⟩
 ·exact absurd h hr
 ·omega
 ·exact blk_ext h2 h3 h4 h5
theorem same_of {n:Nat} {B C:Nat→Blk} (hB:Right n B) (hC:Right n C) (hL:Like n B C) (ho:∀ i,i<n→outs n B i=outs n C i):∀ i,i<n→B i=C i:=by
 have step:∀ d:Nat,d≤4→(∀ i,i<n→(4:Int)-d≤(B i).level→(B i).refs≠0→B i=C i)∧(∀ i,i<n→(4:Int)-d≤(C i).level→(C i).refs≠0→B i=C i):=by
  intro d
  induction d with
  | zero=>
    intro _
    exact⟨fun i hi hl _=>by have:=(hB.one i hi).bounds; omega,fun i hi hl _=>by have:=(hC.one i hi).bounds; omega⟩
  | succ d ih=>
    intro hd
    obtain⟨h1,h2⟩:=ih (by omega)
    have h1':∀ j,j<n→((4:Int)-(d+1:Nat))+1≤(B j).level→(B j).refs≠0→B j=C j:=fun j hj hl=>h1 j hj (by omega)
    have h2':∀ j,j<n→((4:Int)-(d+1:Nat))+1≤(C j).level→(C j).refs≠0→B j=C j:=fun j hj hl=>h2 j hj (by omega)
    exact⟨same_step hB hC hL ho _ h1' h2', fun i hi hl hr=>(same_step hC hB hL.symm (fun i hi=>(ho i hi).symm) _ (fun j hj a b=>(h2' j hj a b).symm) (fun j hj a b=>(h1' j hj a b).symm) i hi hl hr).symm⟩
 obtain⟨h1,h2⟩:=step 4 (Nat.le_refl _)
 intro i hi
 by_cases hb:(B i).refs=0
 ·by_cases hc:(C i).refs=0
  ·rw[(hB.one i hi).zero hb,(hC.one i hi).zero hc]
  ·have:=(hC.one i hi).bounds
   exact h2 i hi (by omega) hc
 ·have:=(hB.one i hi).bounds
  exact h1 i hi (by omega) hb
theorem fell_like {n:Nat} {B C:Nat→Blk} {T:List Int} (h:Fell n B C T):Like n C B:=fun i hi=>by
 rcases h.same i hi with h | ⟨_,_,h1,h2,h3⟩
 ·exact .inl (by rw[h]; rfl)
 ·exact .inr (.inr ⟨h1,h2,h3⟩)
theorem outs_free {n:Nat} {B:Nat→Blk} (hR:Right n B) {i:Nat} (hi:i<n) (h0:(B i).refs=0):outs n B i=0:=by
 have:=hR.held i hi
 simp at this
 unfold outs
 omega
theorem sumTo_one' {f g:Nat→Nat} {i:Nat}:∀ {n:Nat},i<n→(∀ j,j<n→j≠i→f j=g j)→sumTo f n+g i=sumTo g n+f i
 | n+1,hi,h=>by
   simp only[sumTo]
   by_cases e:i=n
   ·subst e
    rw[sumTo_congr (f:=f) (g:=g) (fun j hj=>h j (by omega) (by omega))]; omega
   ·have:=sumTo_one' (f:=f) (g:=g) (n:=n) (i:=i) (by omega) (fun j hj=>h j (by omega))
    rw[h n (by omega) (by omega)]; omega
theorem used_made {n:Nat} {B:Nat→Blk} {K:Blk} {i:Nat} (hR:Right n B) (hF:Form n B { K with refs:=1 }) (hi:i<n) (h0:(B i).refs=0):usedTo (made B K i) n=usedTo B n+1:=by
 have:=sumTo_one' (f:=fun k=>if 0<(made B K i k).refs then 1 else 0) (g:=fun k=>if 0<(B k).refs then 1 else 0) (i:=i) hi (fun j hj hne=>by
  rw[made_other _ _ hne]
  show (if 0<(B j).refs+(K.kids.count ((j:Int)+1):Int) then 1 else 0)=_
  have hb:=(hR.one j hj).bounds
  by_cases e:(B j).refs=0
  ·rw[kid_free hF e,e]; simp
  ·rw[if_pos (by omega),if_pos (by omega)])
 have e1:(made B K i i).refs=1:=by rw[made_same]
 simp only[e1,h0] at this
 unfold usedTo
 simpa using this
theorem kept_same {B:Nat→Blk} {i:Nat}:keptB B ((i:Int)+1) i={ B i with refs:=(B i).refs+1 }:=by
 unfold keptB
 rw[show ((i:Int)+1-1).toNat=i by omega,upd_same]
theorem kept_other {B:Nat→Blk} {i k:Nat} (h:k≠i):keptB B ((i:Int)+1) k=B k:=by
 unfold keptB
 rw[show ((i:Int)+1-1).toNat=i by omega,upd_other _ _ _ _ h]
theorem among_kept {n:Nat} {B:Nat→Blk} {i:Nat} (x:Int):among n (keptB B ((i:Int)+1)) x=among n B x:=among_congr x fun k _=>by
 by_cases e:k=i
 ·subst e; rw[kept_same]
 ·rw[kept_other e]
theorem outs_kept {n:Nat} {B:Nat→Blk} {i:Nat} (k:Nat):outs n (keptB B ((i:Int)+1)) k=if k=i then outs n B k+1 else outs n B k:=by
 unfold outs
 rw[among_kept]
 by_cases e:k=i
 ·subst e; rw[kept_same,if_pos rfl]; show (B k).refs+1-_=_; omega
 ·rw[kept_other e,if_neg e]
theorem fell_content {n:Nat} {B C:Nat→Blk} {T:List Int} (hD:Fell n B C T) {x:Int} (hx:There n C x):(C (x-1).toNat).level=(B (x-1).toNat).level∧(C (x-1).toNat).kids=(B (x-1).toNat).kids∧(C (x-1).toNat).bytes=(B (x-1).toNat).bytes:=by
 rcases hD.same _ (ix hx.1 hx.2.1).1 with h | ⟨_,_,h⟩
 ·exact absurd (by rw[h]; rfl) hx.2.2
 ·exact h
theorem clo_behind {n:Nat} {B C:Nat→Blk} {T:List Int} {l:List Int} (hC:Right n C) (hD:Fell n B C T) (hl:RootsOk n C l) (x:Int):(Clo B l x↔Clo C l x):=by
 constructor
 ·intro h
  refine(h (fun y=>There n C y∧Clo C l y) (fun r hr h0=>⟨(hl r hr).resolve_left h0,Clo.root hr h0⟩) ?_).2
  rintro y ⟨hy,hc⟩ k hk h0
  rw[←(fell_content hD hy).2.1] at hk
  refine⟨?_,hc.kid hk h0⟩
  rcases(hC.one _ (ix hy.1 hy.2.1).1).kids k hk with h | ⟨h,_⟩
  ·exact absurd h h0
  ·exact h
 ·intro h
  refine(h (fun y=>There n C y∧Clo B l y) (fun r hr h0=>⟨(hl r hr).resolve_left h0,Clo.root hr h0⟩) ?_).2
  rintro y ⟨hy,hc⟩ k hk h0
  refine⟨?_,hc.kid (by rw[←(fell_content hD hy).2.1]; exact hk) h0⟩
  rcases(hC.one _ (ix hy.1 hy.2.1).1).kids k hk with h | ⟨h,_⟩
  ·exact absurd h h0
  ·exact h
theorem rising_eq:∀ {L M:List Int},Rising L→Rising M→(∀ x,x∈L↔x∈M)→L=M
 | [],[],_,_,_=>rfl
 | [],y::M,_,_,h=>absurd ((h y).2 (by simp)) (by simp)
 | x::L,[],_,_,h=>absurd ((h x).1 (by simp)) (by simp)
 | x::L,y::M,hL,hM,h=>by
   unfold Rising at hL hM
   rw[List.pairwise_cons] at hL hM
   have e:x=y:=by
    have h1:=(h x).1 (by simp)
    have h2:=(h y).2 (by simp)
    rcases List.mem_cons.1 h1 with h1 | h1
    ·exact h1
    ·rcases List.mem_cons.1 h2 with h2 | h2
     ·exact h2.symm
     ·have:=hM.1 x h1
      have:=hL.1 y h2
      omega
   subst e
   rw[rising_eq (L:=L) (M:=M) hL.2 hM.2 (fun z=>?_)]
   constructor
   ·intro hz
    rcases List.mem_cons.1 ((h z).1 (List.mem_cons_of_mem _ hz)) with h1 | h1
    ·have:=hL.1 z hz; omega
    ·exact h1
   ·intro hz
    rcases List.mem_cons.1 ((h z).2 (List.mem_cons_of_mem _ hz)) with h1 | h1
    ·have:=hM.1 z hz; omega
    ·exact h1
end Go.Proofs.YtjafgnohlkkopaaGreatDoor

namespace Go.Proofs.YtjafgnohlkkopaaGreatDoor
def pw:Nat→Nat
 | 0=>1
 | l+1=>4*pw l
theorem pw_pos:∀ l,0<pw l
 | 0=>by simp[pw]
 | l+1=>by have:=pw_pos l; simp only[pw]; omega
def kidsL (B:Nat→Blk) (a:Int):List Int:=if a=0 then [0,0,0,0] else (B (a-1).toNat).kids
def bytesL (B:Nat→Blk) (a:Int):List Int:=if a=0 then [] else (B (a-1).toNat).bytes
def leafAt (B:Nat→Blk):Nat→Int→Nat→List Int
 | 0,a,_=>bytesL B a
 | l+1,a,i=>leafAt B l ((kidsL B a).getD (i / pw l) 0) (i%pw l)
def Root (n:Nat) (B:Nat→Blk) (l:Nat) (a:Int):Prop:=a=0∨(There n B a∧(B (a-1).toNat).level=l)
theorem kidsL_zero (B:Nat→Blk):kidsL B 0=[0,0,0,0]:=by simp[kidsL]
theorem Root.len {n:Nat} {B:Nat→Blk} {l:Nat} {a:Int} (hR:Right n B) (h:Root n B (l+1) a):(kidsL B a).length=4:=by
 rcases h with rfl | ⟨⟨h1,h2,h3⟩,h4⟩
 ·simp[kidsL]
 ·unfold kidsL
  rw[if_neg (by omega)]
  rcases hR.one _ (ix h1 h2).1 with⟨h,_⟩ | ⟨_,⟨h,_⟩ | ⟨_,h,_⟩⟩
  ·exact absurd h h3
  ·omega
  ·exact h
theorem Root.kid {n:Nat} {B:Nat→Blk} {l:Nat} {a:Int} (hR:Right n B) (h:Root n B (l+1) a) {x:Int} (hx:x∈kidsL B a):Root n B l x:=by
 rcases h with rfl | ⟨⟨h1,h2,h3⟩,h4⟩
 ·simp[kidsL] at hx; exact .inl hx
 ·unfold kidsL at hx
  rw[if_neg (by omega)] at hx
  rcases(hR.one _ (ix h1 h2).1).kids x hx with h | ⟨ht,hl⟩
  ·exact .inl h
  ·exact .inr ⟨ht,by rw[hl,h4]; omega⟩
theorem getD_mem {l:List Int} {j:Nat} (h:j<l.length):l.getD j 0∈l:=by
 have e:l.getD j 0=l[j]:=by simp[List.getD,h]
 rw[e]
 exact List.getElem_mem h
theorem Root.kidAt {n:Nat} {B:Nat→Blk} {l:Nat} {a:Int} (hR:Right n B) (h:Root n B (l+1) a) {j:Nat} (hj:j<4):Root n B l ((kidsL B a).getD j 0):=
 h.kid hR (getD_mem (by rw[h.len hR]; exact hj))
theorem Root.leaf {n:Nat} {B:Nat→Blk} {a:Int} (hR:Right n B) (h:Root n B 0 a):(bytesL B a).length=if a=0 then 0 else 4:=by
 rcases h with rfl | ⟨⟨h1,h2,h3⟩,h4⟩
 ·simp[bytesL]
 ·unfold bytesL
  rw[if_neg (by omega),if_neg (by omega)]
  rcases hR.one _ (ix h1 h2).1 with⟨h,_⟩ | ⟨_,⟨_,_,h⟩ | ⟨h,_⟩⟩
  ·exact absurd h h3
  ·exact h
  ·omega
theorem Root.level {n:Nat} {B:Nat→Blk} {l:Nat} {a:Int} (hR:Right n B) (h:Root n B l a) (h0:a≠0):l≤3:=by
 rcases h with h | ⟨⟨h1,h2,h3⟩,h4⟩
 ·exact absurd h h0
 ·have:=(hR.one _ (ix h1 h2).1).bounds; omega
structure Ext (n:Nat) (B C:Nat→Blk):Prop where
 keep:∀ i,i<n→(B i).refs≠0→(C i).refs≠0∧(C i).level=(B i).level∧(C i).kids=(B i).kids∧(C i).bytes=(B i).bytes
theorem Ext.refl (n:Nat) (B:Nat→Blk):Ext n B B:=⟨fun i _ h=>⟨h,rfl,rfl,rfl⟩⟩
theorem Ext.trans {n:Nat} {B C D:Nat→Blk} (h:Ext n B C) (k:Ext n C D):Ext n B D:=⟨fun i hi h0=>by
 obtain⟨a1,a2,a3,a4⟩:=h.keep i hi h0
 obtain⟨b1,b2,b3,b4⟩:=k.keep i hi a1
 exact⟨b1,by rw[b2,a2],by rw[b3,a3],by rw[b4,a4]⟩⟩
theorem Ext.there {n:Nat} {B C:Nat→Blk} (h:Ext n B C) {x:Int} (hx:There n B x):There n C x∧(C (x-1).toNat).level=(B (x-1).toNat).level∧kidsL C x=kidsL B x∧bytesL C x=bytesL B x:=by
 obtain⟨h1,h2,h3⟩:=hx
 obtain⟨a1,a2,a3,a4⟩:=h.keep _ (ix h1 h2).1 h3
 refine⟨⟨h1,h2,a1⟩,a2,?_,?_⟩
 ·unfold kidsL; rw[if_neg (by omega),if_neg (by omega),a3]
 ·unfold bytesL; rw[if_neg (by omega),if_neg (by omega),a4]
theorem Ext.root {n:Nat} {B C:Nat→Blk} (h:Ext n B C) {l:Nat} {a:Int} (ha:Root n B l a):Root n C l a∧kidsL C a=kidsL B a∧bytesL C a=bytesL B a:=by
 rcases ha with rfl | ⟨ht,hl⟩
 ·exact⟨.inl rfl,by simp[kidsL],by simp[bytesL]⟩
 ·obtain⟨a1,a2,a3,a4⟩:=h.there ht
  exact⟨.inr ⟨a1,by rw[a2,hl]⟩,a3,a4⟩
theorem Ext.leaf {n:Nat} {B C:Nat→Blk} (h:Ext n B C) (hR:Right n B):∀ (l:Nat) (a:Int),Root n B l a→∀ i,i<pw l→leafAt C l a i=leafAt B l a i
 | 0,a,ha,i,_=>(h.root ha).2.2
 | l+1,a,ha,i,hi=>by
   have hp:=pw_pos l
   have hd:i / pw l<4:=by simp only[pw] at hi; exact Nat.div_lt_of_lt_mul (by rw[Nat.mul_comm]; exact hi)
   simp only[leafAt]
   rw[(h.root ha).2.1]
   exact Ext.leaf h hR l _ (ha.kidAt hR hd) _ (Nat.mod_lt _ hp)
theorem leafAt_zero (B:Nat→Blk):∀ (l i:Nat),i<pw l→leafAt B l 0 i=[]
 | 0,i,_=>by simp[leafAt,bytesL]
 | l+1,i,hi=>by
   have hp:=pw_pos l
   have hd:i / pw l<4:=by simp only[pw] at hi; exact Nat.div_lt_of_lt_mul (by rw[Nat.mul_comm]; exact hi)
   simp only[leafAt,kidsL_zero]
   have e:([0,0,0,0]:List Int).getD (i / pw l) 0=0:=by
    generalize i / pw l=d at *
    match d,hd with
    | 0,_=>rfl
    | 1,_=>rfl
    | 2,_=>rfl
    | 3,_=>rfl
   rw[e]
   exact leafAt_zero B l _ (Nat.mod_lt _ hp)
def lessOne (B:Nat→Blk) (a:Int):Nat→Blk:=if a=0 then B else upd B (a-1).toNat { B (a-1).toNat with refs:=(B (a-1).toNat).refs-1 }
def Lowest (n:Nat) (B:Nat→Blk) (j:Nat):Prop:=j<n∧(B j).refs=0∧∀ k,k<j→(B k).refs≠0
def leafB (b:List Int):Blk:=⟨0,0,[],b⟩
def nodeB (l:Nat) (ks:List Int):Blk:=⟨0,l,ks,[]⟩
def Above (n:Nat) (B:Nat→Blk) (l:Nat) (ks:List Int) (new:Int) (C:Nat→Blk) (a:Int):Prop:=
 (ks=[0,0,0,0]∧C=B∧a=0)∨(ks≠[0,0,0,0]∧∃ j:Nat,Lowest n B j∧Makeable n B (nodeB l ks)∧a=(j:Int)+1∧C=lessOne (made B (nodeB l ks) j) new)
def Leafed (n:Nat) (B:Nat→Blk) (b:List Int) (C:Nat→Blk) (a:Int):Prop:=
 (b=[]∧C=B∧a=0)∨(b≠[]∧∃ j:Nat,Lowest n B j∧Makeable n B (leafB b)∧a=(j:Int)+1∧C=made B (leafB b) j)
def Puts (n:Nat) (b:List Int):Nat→(Nat→Blk)→Int→Nat→(Nat→Blk)→Int→Prop
 | 0,B,_,_,C,a=>Leafed n B b C a
 | l+1,B,root,i,C,a=>∃ D k,Puts n b l B ((kidsL B root).getD (i / pw l) 0) (i%pw l) D k∧Above n D (l+1) ((kidsL B root).set (i / pw l) k) k C a
theorem used_mono {B C:Nat→Blk}:∀ {n:Nat},(∀ k,k<n→(C k).refs≤(B k).refs)→usedTo C n≤usedTo B n
 | 0,_=>Nat.le_refl _
 | n+1,h=>by
   have h1:=used_mono (B:=B) (C:=C) (n:=n) (fun k hk=>h k (by omega))
   have h2:=h n (by omega)
   rw[usedTo_succ,usedTo_succ]
   by_cases e:0<(C n).refs
   ·rw[if_pos e,if_pos (by omega)]; omega
   ·rw[if_neg e]; omega
theorem used_full {n:Nat} {B:Nat→Blk} (hR:Right n B) (h:¬∃ i,i<n∧(B i).refs=0):usedTo B n=n:=by
 have key:∀ m,m≤n→usedTo B m=m:=by
  intro m
  induction m with
  | zero=>intro _; rfl
  | succ m ih=>
    intro hm
    have hb:=(hR.one m (by omega)).bounds
    have h0:(B m).refs≠0:=fun e=>h ⟨m,by omega,e⟩
    rw[usedTo_succ,ih (by omega),if_pos (by omega)]
 exact key n (Nat.le_refl _)
structure Grew (n:Nat) (B C:Nat→Blk) (l:Nat) (a:Int) (c:Int):Prop where
 right:Right n C
 ext:Ext n B C
 root:Root n C l a
 out:∀ k,k<n→outs n C k=outs n B k+if (k:Int)+1=a then 1 else 0
 fresh:a≠0→(B (a-1).toNat).refs=0
 one:a≠0→(C (a-1).toNat).refs=1
 few:∀ k,k<n→(C k).refs≤c
 used:usedTo C n≤usedTo B n+(l+1)
theorem made_ext {n:Nat} {B:Nat→Blk} {K:Blk} {i:Nat} (hR:Right n B) (h0:(B i).refs=0):Ext n B (made B K i):=⟨fun k hk hk0=>by
 have e:k≠i:=fun e=>hk0 (by rw[e]; exact h0)
 have hb:=(hR.one k hk).bounds
 rw[made_other _ _ e]
 exact⟨by show (B k).refs+_≠0; omega,rfl,rfl,rfl⟩⟩
theorem made_le {n:Nat} {B:Nat→Blk} {K:Blk} {i:Nat} {c:Int} (h1:1≤c) (hc:∀ k,k<n→(B k).refs≤c) (hF:Form n B { K with refs:=1 }):∀ k,k<n→(made B K i k).refs≤c+4:=by
 intro k hk
 have:=hc k hk
 by_cases e:k=i
 ·subst e; rw[made_same]; show (1:Int)≤c+4; omega
 ·rw[made_other _ _ e]
  have h2:K.kids.count ((k:Int)+1)≤K.kids.length:=List.count_le_length
  have h3:K.kids.length≤4:=hF.few
  show (B k).refs+_≤_
  omega
theorem less_right {n:Nat} {B:Nat→Blk} (hR:Right n B) {j:Nat} (hj:j<n) (h1:1<(B j).refs) (h2:0<outs n B j):
 Right n (lessOne B ((j:Int)+1))∧(∀ k,k<n→outs n (lessOne B ((j:Int)+1)) k=outs n B k-if k=j then 1 else 0)∧Ext n B (lessOne B ((j:Int)+1))∧(∀ k,k≠j→lessOne B ((j:Int)+1) k=B k)∧(∀ k,(lessOne B ((j:Int)+1) k).refs≤(B k).refs):=by
 have e0:((j:Int)+1-1).toNat=j:=by omega
 have e1:lessOne B ((j:Int)+1)=upd B j { B j with refs:=(B j).refs-1 }:=by
  unfold lessOne; rw[if_neg (by omega),e0]
 rw[e1]
 have hT:RightT n B [(j:Int)+1]:=right_held hR (by omega) (by omega) (by rw[e0]; unfold outs at h2; omega)
 have hr:=step_more hT (by omega) (by omega) (by rw[e0]; exact h1)
 rw[e0] at hr
 have ham:∀ x,among n (upd B j { B j with refs:=(B j).refs-1 }) x=among n B x:=fun x=>among_congr x fun i hi=>by
  by_cases e:i=j
  ·subst e; rw[upd_same]
  ·rw[upd_other _ _ _ _ e]
 refine⟨hr,fun k hk=>?_,⟨fun k hk h0=>?_⟩,fun k hk=>upd_other _ _ _ _ hk,fun k=>?_⟩
 ·unfold outs
  rw[ham]
  by_cases e:k=j
  ·subst e; rw[upd_same,if_pos rfl]; show (B k).refs-1-_=_; omega
  ·rw[upd_other _ _ _ _ e,if_neg e]; omega
 ·by_cases e:k=j
  ·subst e; rw[upd_same]; exact⟨by show (B k).refs-1≠0; omega,rfl,rfl,rfl⟩
  ·rw[upd_other _ _ _ _ e]; exact⟨h0,rfl,rfl,rfl⟩
 ·by_cases e:k=j
  ·subst e; rw[upd_same]; show (B k).refs-1≤_; omega
  ·rw[upd_other _ _ _ _ e]; omega
theorem leafed_grew {n:Nat} {B C:Nat→Blk} {b:List Int} {a c:Int} (hR:Right n B) (h1:1≤c) (hcm:c+4≤1000000) (hc:∀ k,k<n→(B k).refs≤c) (h:Leafed n B b C a):Grew n B C 0 a (c+4)∧bytesL C a=b:=by
 rcases h with⟨rfl,rfl,rfl⟩ | ⟨hb,j,⟨hj,h0,hmin⟩,⟨_,hF,_⟩,rfl,rfl⟩
 ·exact⟨⟨hR,Ext.refl _ _,.inl rfl,fun k hk=>by rw[if_neg (by omega)]; omega,fun h=>absurd rfl h,fun h=>absurd rfl h,fun k hk=>by have:=hc k hk; omega,by omega⟩,by simp[bytesL]⟩
 ·have e0:((j:Int)+1-1).toNat=j:=by omega
  have hle:=made_le (i:=j) h1 hc hF
  refine⟨⟨right_made hR hF hj h0 (fun k hk=>by have:=hle k hk; omega),made_ext hR h0,.inr ⟨⟨by omega,by omega,?_⟩,?_⟩,fun k hk=>?_,fun _=>by rw[e0]; exact h0,fun _=>by rw[e0,made_same],hle,by rw[used_made hR hF hj h0]; omega⟩,?_⟩
  ·rw[e0,made_same]; show (1:Int)≠0; omega
  ·rw[e0,made_same]; rfl
  ·rw[outs_made hR hF hj h0 k hk]
   by_cases e:k=j
   ·subst e; rw[if_pos rfl,if_pos rfl,outs_free hR hk h0]; rfl
   ·rw[if_neg e,if_neg (by omega)]; omega
  ·unfold bytesL; rw[if_neg (by omega),e0,made_same]; rfl
theorem above_grew {n:Nat} {B D C:Nat→Blk} {l:Nat} {ks:List Int} {new a c:Int} (hB:Right n B) (hg:Grew n B D l new c) (h1:1≤c) (hcm:c+4≤1000000) (hin:new≠0→new∈ks) (h:Above n D (l+1) ks new C a):Grew n B C (l+1) a (c+4)∧kidsL C a=ks∧Ext n D C:=by
 have hR:=hg.right
 rcases h with⟨rfl,rfl,rfl⟩ | ⟨hne,j,⟨hj,h0,hmin⟩,⟨_,hF,_⟩,rfl,rfl⟩
 ·have hn0:new=0:=by
   by_cases e:new=0
   ·exact e
   ·have:=hin e
    simp at this; exact this
  subst hn0
  exact⟨⟨hg.right,hg.ext,.inl rfl,hg.out,fun h=>absurd rfl h,fun h=>absurd rfl h,fun k hk=>by have:=hg.few k hk; omega,by have:=hg.used; omega⟩,by simp[kidsL],Ext.refl _ _⟩
 ·have e0:((j:Int)+1-1).toNat=j:=by omega
  have hle:=made_le (i:=j) h1 hg.few hF
  have hM:=right_made hR hF hj h0 (fun k hk=>by have:=hle k hk; omega)
  have hE:=made_ext (K:=nodeB (l+1) ks) hR h0
  have hom:=outs_made hR hF hj h0
  have hBj:(B j).refs=0:=by
   by_cases e:(B j).refs=0
   ·exact e
   ·exact absurd h0 (hg.ext.keep j hj e).1
  have hs:made D (nodeB (l+1) ks) j j={ nodeB (l+1) ks with refs:=1 }:=made_same _ _ _
  have hum:=used_made hR hF hj h0
  by_cases hn0:new=0
  ·subst hn0
   have e1:lessOne (made D (nodeB (l+1) ks) j) 0=made D (nodeB (l+1) ks) j:=by simp[lessOne]
   rw[e1]
   refine⟨⟨hM,hg.ext.trans hE,.inr ⟨⟨by omega,by omega,?_⟩,?_⟩,fun k hk=>?_,fun _=>by rw[e0]; exact hBj,fun _=>by rw[e0,hs],hle,by have:=hg.used; omega⟩,?_,hE⟩
   ·rw[e0,hs]; show (1:Int)≠0; omega
   ·rw[e0,hs]; rfl
   ·rw[hom k hk]
    have:=hg.out k hk
    rw[if_neg (by omega)] at this
    by_cases e:k=j
    ·subst e; rw[if_pos rfl,if_pos rfl]; have:=outs_free hR hk h0; omega
    ·rw[if_neg e,if_neg (by omega)]; exact this
   ·unfold kidsL; rw[if_neg (by omega),e0,hs]; rfl
  ·rcases hg.root with h | ⟨⟨n1,n2,n3⟩,_⟩
   ·exact absurd h hn0
   obtain⟨m,rfl⟩:∃ m:Nat,new=(m:Int)+1:=⟨(new-1).toNat,by omega⟩
   have em:((m:Int)+1-1).toNat=m:=by omega
   have hm:m<n:=by omega
   have hm1:=hg.one hn0
   rw[em] at hm1
   have hmj:m≠j:=fun e=>by rw[e,h0] at hm1; omega
   have hcnt:0<(nodeB (l+1) ks).kids.count ((m:Int)+1):=List.count_pos_iff.2 (hin hn0)
   have hmr:1<(made D (nodeB (l+1) ks) j m).refs:=by
    rw[made_other _ _ hmj]; show 1<(D m).refs+_; omega
   have hmo:outs n (made D (nodeB (l+1) ks) j) m=outs n B m+1:=by
    rw[hom m hm,if_neg hmj,hg.out m hm,if_pos rfl]
   have hBm:=hg.fresh hn0
   rw[em] at hBm
   have hB0:=outs_free hB hm hBm
   obtain⟨q1,q2,q3,q4,q5⟩:=less_right hM hm hmr (by omega)
   have hjs:lessOne (made D (nodeB (l+1) ks) j) ((m:Int)+1) j={ nodeB (l+1) ks with refs:=1 }:=by rw[q4 j (Ne.symm hmj),hs]
   refine⟨⟨q1,(hg.ext.trans hE).trans q3,.inr ⟨⟨by omega,by omega,?_⟩,?_⟩,fun k hk=>?_,fun _=>by rw[e0]; exact hBj,fun _=>by rw[e0,hjs],fun k hk=>Int.le_trans (q5 k) (hle k hk),by have:=hg.used; have:=used_mono (n:=n) (fun k _=>q5 k); omega⟩,?_,hE.trans q3⟩
   ·rw[e0,hjs]; show (1:Int)≠0; omega
   ·rw[e0,hjs]; rfl
   ·rw[q2 k hk,hom k hk]
    have h3:=hg.out k hk
    by_cases e:k=j
    ·subst e
     rw[if_pos rfl,if_neg (Ne.symm hmj),if_pos rfl]
     rw[if_neg (by omega)] at h3
     have:=outs_free hR hk h0; omega
    ·by_cases e':k=m
     ·subst e'
      rw[if_neg e,if_pos rfl,if_neg (by omega)]
      rw[if_pos rfl] at h3
      omega
     ·rw[if_neg e,if_neg e', if_neg (by omega)]
      rw[if_neg (by omega)] at h3
      omega
   ·unfold kidsL; rw[if_neg (by omega),e0,hjs]; rfl
end Go.Proofs.YtjafgnohlkkopaaGreatDoor
