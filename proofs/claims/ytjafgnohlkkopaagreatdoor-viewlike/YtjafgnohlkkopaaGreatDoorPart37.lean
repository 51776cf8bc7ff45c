/-
  Shl, VwA, VwB, OpenA in one text. Nothing here is trusted.
-/
import Derived.Shelf.Strings.OnBuilder
import Derived.Shelf.Strings.BuilderK
import Derived.Shelf.LaysM
import Derived.Shelf.Strconv.Itoa3
import Derived.Test.YtjafgnohlkkopaaGreatDoorRows
import Derived.Test.YtjafgnohlkkopaaGreatDoorPart06
import Derived.Test.YtjafgnohlkkopaaGreatDoorPart10
import Derived.Test.YtjafgnohlkkopaaGreatDoorPart12
import Derived.Lib.SmallJoins
import Derived.Test.YtjafgnohlkkopaaGreatDoorPart11
import Derived.Test.YtjafgnohlkkopaaGreatDoorPart19
import Derived.Deep.RegionHeld3
import Derived.Laws.Concat
import Derived.Test.YtjafgnohlkkopaaGreatDoorPart36
import Derived.Stop.LaidErr
import Derived.LaidLaws
set_option linter.unusedVariables false
namespace Go.Proofs.YtjafgnohlkkopaaGreatDoor
open Go.RowKit Go.Shelf
abbrev tabN : String := Rows.viewLikeRow.named.headD default
def Tryz.lays156_ren : Go.Shelf.Ren := ⟨fun | 156 => 43 | 165 => 75 | 166 => 42 | 169 => 49 | 240 => 74 | 241 => 99 | 276 => 98 | 277 => 127 | n => n, fun | 31 => 39 | 9 => 9 | 3 => 3 | 4 => 4 | 0 => 0 | 20 => 20 | 72 => 95 | 76 => 98 | 70 => 93 | 37 => 28 | 75 => 97 | 127 => 151 | 164 => 172 | 5 => 5 | 80 => 114 | n => n, fun | n => n⟩
theorem Tryz.lays156 : Go.Proofs.Lays.n156 Tryz.prog Tryz.lays156_ren := {
  mixed := by kernel_rfl
  f156 := Tryz.func43.trans (congrArg some (by kernel_rfl))
  f165 := Tryz.func75.trans (congrArg some (by kernel_rfl))
  f166 := Tryz.func42.trans (congrArg some (by kernel_rfl))
  f169 := Tryz.func49.trans (congrArg some (by kernel_rfl))
  f240 := Tryz.func74.trans (congrArg some (by kernel_rfl))
  f241 := Tryz.func99.trans (congrArg some (by kernel_rfl))
  f276 := Tryz.func98.trans (congrArg some (by kernel_rfl))
  f277 := Tryz.func127.trans (congrArg some (by kernel_rfl))
  t0 := Tryz.underlying0
  a0 := Tryz.isAgg0
  z0 := Tryz.sizeOf0
  v0 := Tryz.zeroValue0
  t3 := Tryz.underlying3
  a3 := Tryz.isAgg3
  z3 := Tryz.sizeOf3
  v3 := Tryz.zeroValue3
  t4 := Tryz.underlying4
  a4 := Tryz.isAgg4
  z4 := Tryz.sizeOf4
  v4 := Tryz.zeroValue4
  t9 := Tryz.underlying9
  a9 := Tryz.isAgg9
  z9 := Tryz.sizeOf9
  v9 := Tryz.zeroValue9
  t20 := Tryz.underlying20
  a20 := Tryz.isAgg20
  z20 := Tryz.sizeOf20
  v20 := Tryz.zeroValue20
  t31 := Tryz.underlying39
  a31 := Tryz.isAgg39
  z31 := Tryz.sizeOf39
  v31 := Tryz.zeroValue39
  t37 := Tryz.underlying28
  a37 := Tryz.isAgg28
  z37 := Tryz.sizeOf28
  v37 := Tryz.zeroValue28
  t70 := Tryz.underlying93
  a70 := Tryz.isAgg93
  z70 := Tryz.sizeOf93
  v70 := Tryz.zeroValue93
  t72 := Tryz.underlying95
  a72 := Tryz.isAgg95
  z72 := Tryz.sizeOf95
  v72 := Tryz.zeroValue95
  t75 := Tryz.underlying97
  a75 := Tryz.isAgg97
  z75 := Tryz.sizeOf97
  v75 := Tryz.zeroValue97
  t76 := Tryz.underlying98
  a76 := Tryz.isAgg98
  z76 := Tryz.sizeOf98
  v76 := Tryz.zeroValue98
  t127 := Tryz.underlying151
  a127 := Tryz.isAgg151
  z127 := Tryz.sizeOf151
  v127 := Tryz.zeroValue151
  t164 := Tryz.underlying172
  a164 := Tryz.isAgg172
  z164 := Tryz.sizeOf172
  v164 := Tryz.zeroValue172 }
theorem Tryz.Builder_Extra_156 : Builder.Extra Tryz.prog Tryz.lays156_ren := {
  sizeBuilder := by kernel_rfl
  liesBuilder := by kernel_rfl
  t5 := Tryz.underlying5
  a5 := Tryz.isAgg5
  z5 := Tryz.sizeOf5
  v5 := Tryz.zeroValue5
  infoByte := by kernel_rfl
  cellsByte := by kernel_rfl
  sizeByte := by kernel_rfl
  neB5 := by decide }
open Go.RowKit in
theorem Tryz.strings_Join (bk o c : Nat) (xs : List ByteArray) (sep : ByteArray) (w : World) (hcells : ∀ (j : Nat) x, xs[j]? = some x → w.cell? ⟨bk, o + j, none⟩ = some (.string x)) (hbk : bk < w.heap.size) (hN : xs.length ≤ 140737488355328) (hcap : xs.length ≤ c) (hlen : (Lib.join (xs.map (·.data.toList)) sep.data.toList).length ≤ 140737488355328) :
    Calls Tryz.prog 43 #[.slice (some ⟨bk, o, none⟩) xs.length c, .string sep] w fun e w' => e = .returned (.string ⟨(Lib.join (xs.map (·.data.toList)) sep.data.toList).toArray⟩) ∧ Below w.heap.size w w' := Any.strings_Join Tryz.lays156 Tryz.Builder_Extra_156 bk o c xs sep w hcells hbk hN hcap hlen
def Tryz.lays169_ren : Go.Shelf.Ren := ⟨fun | 169 => 49 | n => n, fun | 70 => 93 | 9 => 9 | 0 => 0 | 72 => 95 | 37 => 28 | 127 => 151 | 3 => 3 | 5 => 5 | n => n, fun | n => n⟩
theorem Tryz.lays169 : Go.Proofs.Lays.n169 Tryz.prog Tryz.lays169_ren := {
  mixed := by kernel_rfl
  f169 := Tryz.func49.trans (congrArg some (by kernel_rfl))
  t0 := Tryz.underlying0
  a0 := Tryz.isAgg0
  z0 := Tryz.sizeOf0
  v0 := Tryz.zeroValue0
  t3 := Tryz.underlying3
  a3 := Tryz.isAgg3
  z3 := Tryz.sizeOf3
  v3 := Tryz.zeroValue3
  t9 := Tryz.underlying9
  a9 := Tryz.isAgg9
  z9 := Tryz.sizeOf9
  v9 := Tryz.zeroValue9
  t37 := Tryz.underlying28
  a37 := Tryz.isAgg28
  z37 := Tryz.sizeOf28
  v37 := Tryz.zeroValue28
  t70 := Tryz.underlying93
  a70 := Tryz.isAgg93
  z70 := Tryz.sizeOf93
  v70 := Tryz.zeroValue93
  t72 := Tryz.underlying95
  a72 := Tryz.isAgg95
  z72 := Tryz.sizeOf95
  v72 := Tryz.zeroValue95
  t127 := Tryz.underlying151
  a127 := Tryz.isAgg151
  z127 := Tryz.sizeOf151
  v127 := Tryz.zeroValue151 }
theorem Tryz.Builder_Extra_169 : Builder.Extra Tryz.prog Tryz.lays169_ren := {
  sizeBuilder := by kernel_rfl
  liesBuilder := by kernel_rfl
  t5 := Tryz.underlying5
  a5 := Tryz.isAgg5
  z5 := Tryz.sizeOf5
  v5 := Tryz.zeroValue5
  infoByte := by kernel_rfl
  cellsByte := by kernel_rfl
  sizeByte := by kernel_rfl
  neB5 := by decide }
open Go.RowKit in
theorem Tryz.Builder_String_any_k (B b : Nat) (l : List UInt8) (w : World) (h : Lib.IsBuilderF 95 5 B b (Lib.byteCells l) w) (hBw : B ≤ w.heap.size) :
    Calls Tryz.prog 49 #[.pointer (some ⟨b, 0, none⟩)] w fun e w' => e = .returned (.string ⟨l.toArray⟩) ∧ (Lib.IsBuilderF 95 5 B b (Lib.byteCells l) w' ∧ Below B w w' ∧ Lib.OthersKept 5 (some b) w w') := Any.Builder_String_any_k Tryz.lays169 Tryz.Builder_Extra_169 B b l w h hBw
def Tryz.laysM171_ren : Go.Shelf.Ren := ⟨fun | 171 => 47 | 243 => 78 | 246 => 103 | 283 => 137 | 284 => 138 | 285 => 139 | 286 => 140 | 129 => 159 | 317 => 158 | 318 => 160 | 319 => 161 | 320 => 162 | 337 => 173 | 338 => 174 | n => n, fun | 3 => 3 | 9 => 9 | 2 => 2 | 4 => 4 | 171 => 207 | 0 => 0 | 53 => 127 | 37 => 28 | 5 => 5 | 173 => 210 | 212 => 228 | 51 => 124 | 20 => 20 | 213 => 229 | 46 => 73 | 232 => 251 | 233 => 252 | n => n, fun | 17 => 1 | 18 => 2 | 19 => 3 | n => n⟩
theorem Tryz.laysM171 : Go.Proofs.LaysM.n171 Tryz.prog Tryz.laysM171_ren := {
  mixed := by kernel_rfl
  f129 := Tryz.func159.trans (congrArg some (by kernel_rfl))
  f171 := Tryz.func47.trans (congrArg some (by kernel_rfl))
  f243 := Tryz.func78.trans (congrArg some (by kernel_rfl))
  f246 := Tryz.func103.trans (congrArg some (by kernel_rfl))
  f283 := Tryz.func137.trans (congrArg some (by kernel_rfl))
  f284 := Tryz.func138.trans (congrArg some (by kernel_rfl))
  f285 := Tryz.func139.trans (congrArg some (by kernel_rfl))
  f286 := Tryz.func140.trans (congrArg some (by kernel_rfl))
  f317 := Tryz.func158.trans (congrArg some (by kernel_rfl))
  f318 := Tryz.func160.trans (congrArg some (by kernel_rfl))
  f319 := Tryz.func161.trans (congrArg some (by kernel_rfl))
  f320 := Tryz.func162.trans (congrArg some (by kernel_rfl))
  f337 := Tryz.func173.trans (congrArg some (by kernel_rfl))
  f338 := Tryz.func174.trans (congrArg some (by kernel_rfl))
  t0 := Tryz.underlying0
  a0 := Tryz.isAgg0
  z0 := Tryz.sizeOf0
  v0 := Tryz.zeroValue0
  t2 := Tryz.underlying2
  a2 := Tryz.isAgg2
  z2 := Tryz.sizeOf2
  v2 := Tryz.zeroValue2
  t3 := Tryz.underlying3
  a3 := Tryz.isAgg3
  z3 := Tryz.sizeOf3
  v3 := Tryz.zeroValue3
  t4 := Tryz.underlying4
  a4 := Tryz.isAgg4
  z4 := Tryz.sizeOf4
  v4 := Tryz.zeroValue4
  t5 := Tryz.underlying5
  a5 := Tryz.isAgg5
  z5 := Tryz.sizeOf5
  v5 := Tryz.zeroValue5
  t9 := Tryz.underlying9
  a9 := Tryz.isAgg9
  z9 := Tryz.sizeOf9
  v9 := Tryz.zeroValue9
  t20 := Tryz.underlying20
  a20 := Tryz.isAgg20
  z20 := Tryz.sizeOf20
  v20 := Tryz.zeroValue20
  t37 := Tryz.underlying28
  a37 := Tryz.isAgg28
  z37 := Tryz.sizeOf28
  v37 := Tryz.zeroValue28
  t46 := Tryz.underlying73
  a46 := Tryz.isAgg73
  z46 := Tryz.sizeOf73
  v46 := Tryz.zeroValue73
  t51 := Tryz.underlying124
  a51 := Tryz.isAgg124
  z51 := Tryz.sizeOf124
  v51 := Tryz.zeroValue124
  t53 := Tryz.underlying127
  a53 := Tryz.isAgg127
  z53 := Tryz.sizeOf127
  v53 := Tryz.zeroValue127
  t171 := Tryz.underlying207
  a171 := Tryz.isAgg207
  z171 := Tryz.sizeOf207
  v171 := Tryz.zeroValue207
  t173 := Tryz.underlying210
  a173 := Tryz.isAgg210
  z173 := Tryz.sizeOf210
  v173 := Tryz.zeroValue210
  t212 := Tryz.underlying228
  a212 := Tryz.isAgg228
  z212 := Tryz.sizeOf228
  v212 := Tryz.zeroValue228
  t213 := Tryz.underlying229
  a213 := Tryz.isAgg229
  z213 := Tryz.sizeOf229
  t232 := Tryz.underlying251
  a232 := Tryz.isAgg251
  z232 := Tryz.sizeOf251
  v232 := Tryz.zeroValue251
  t233 := Tryz.underlying252
  a233 := Tryz.isAgg252
  z233 := Tryz.sizeOf252
  v233 := Tryz.zeroValue252
  g17 := by kernel_rfl
  g18 := by kernel_rfl
  g19 := by kernel_rfl
  i0 := by kernel_rfl
  i2 := by kernel_rfl
  i3 := by kernel_rfl
  i4 := by kernel_rfl
  i5 := by kernel_rfl
  i9 := by kernel_rfl
  i20 := by kernel_rfl
  i37 := by kernel_rfl
  i46 := by kernel_rfl
  i51 := by kernel_rfl
  i53 := by kernel_rfl
  i171 := by kernel_rfl
  i173 := by kernel_rfl
  i212 := by kernel_rfl
  i232 := by kernel_rfl
  i233 := by kernel_rfl
  m17 := by kernel_rfl
  m18 := by kernel_rfl
  m19 := by kernel_rfl }
open Go.RowKit Go.Sort Go.Lib in
theorem Tryz.strconv_Itoa (n : Int) (h0 : -9223372036854775808 ≤ n) (h1 : n ≤ 9223372036854775807) (w : World) (htab : Lib.TabIs Tryz.prog w tabN .u64 Lib.pow10Tab) :
    Calls Tryz.prog 47 #[.int .i64 n] w fun e w' => e = .returned (.string ⟨(Lib.itoa n).toArray⟩) ∧ ∃ k os, w' = grow (w.drewN k) os := Any.strconv_Itoa Tryz.laysM171 n h0 h1 w htab
def Tryz.lays167_ren : Go.Shelf.Ren := ⟨fun | 167 => 44 | 240 => 74 | 276 => 98 | n => n, fun | 31 => 39 | 9 => 9 | 3 => 3 | 4 => 4 | 0 => 0 | 20 => 20 | 72 => 95 | 76 => 98 | 70 => 93 | 37 => 28 | 75 => 97 | 127 => 151 | 164 => 172 | 5 => 5 | 80 => 114 | n => n, fun | n => n⟩
theorem Tryz.lays167 : Go.Proofs.Lays.n167 Tryz.prog Tryz.lays167_ren := {
  mixed := by kernel_rfl
  f167 := Tryz.func44.trans (congrArg some (by kernel_rfl))
  f240 := Tryz.func74.trans (congrArg some (by kernel_rfl))
  f276 := Tryz.func98.trans (congrArg some (by kernel_rfl))
  t0 := Tryz.underlying0
  a0 := Tryz.isAgg0
  z0 := Tryz.sizeOf0
  v0 := Tryz.zeroValue0
  t4 := Tryz.underlying4
  a4 := Tryz.isAgg4
  z4 := Tryz.sizeOf4
  v4 := Tryz.zeroValue4
  t5 := Tryz.underlying5
  a5 := Tryz.isAgg5
  z5 := Tryz.sizeOf5
  v5 := Tryz.zeroValue5
  t9 := Tryz.underlying9
  a9 := Tryz.isAgg9
  z9 := Tryz.sizeOf9
  v9 := Tryz.zeroValue9
  t20 := Tryz.underlying20
  a20 := Tryz.isAgg20
  z20 := Tryz.sizeOf20
  v20 := Tryz.zeroValue20
  t37 := Tryz.underlying28
  a37 := Tryz.isAgg28
  z37 := Tryz.sizeOf28
  v37 := Tryz.zeroValue28
  t70 := Tryz.underlying93
  a70 := Tryz.isAgg93
  z70 := Tryz.sizeOf93
  v70 := Tryz.zeroValue93
  t72 := Tryz.underlying95
  a72 := Tryz.isAgg95
  z72 := Tryz.sizeOf95
  v72 := Tryz.zeroValue95
  t75 := Tryz.underlying97
  a75 := Tryz.isAgg97
  z75 := Tryz.sizeOf97
  v75 := Tryz.zeroValue97
  t164 := Tryz.underlying172
  a164 := Tryz.isAgg172
  z164 := Tryz.sizeOf172
  v164 := Tryz.zeroValue172
}
theorem Tryz.Builder_Extra_167 : Builder.Extra Tryz.prog Tryz.lays167_ren := {
  sizeBuilder := by kernel_rfl
  liesBuilder := by kernel_rfl
  t5 := Tryz.underlying5
  a5 := Tryz.isAgg5
  z5 := Tryz.sizeOf5
  v5 := Tryz.zeroValue5
  infoByte := by kernel_rfl
  cellsByte := by kernel_rfl
  sizeByte := by kernel_rfl
  neB5 := by decide }
theorem Tryz.Builder_WriteByte_k (B b : Nat) (bs : List Value) (c : Int) (w : World) (h : Lib.IsBuilderF 95 5 B b bs w) (hlen : bs.length + 1 ≤ 140737488355328) (hBw : B ≤ w.heap.size) :
    Calls Tryz.prog 44 #[.pointer (some ⟨b, 0, none⟩), .int .u8 c] w fun e w' => e = .returned .nilIface ∧ (Lib.BuilderAtF 95 5 B b (.pointer (some ⟨b, 0, none⟩)) (bs ++ [.int .u8 c]) w' ∧ Below B w w' ∧ Lib.OthersKept 5 (some b) w w') := Any.Builder_WriteByte_k Tryz.lays167 Tryz.Builder_Extra_167 B b bs c w h hlen hBw
theorem Tryz.Builder_WriteString_k (B b : Nat) (bs : List Value) (s : ByteArray) (w : World) (h : Lib.IsBuilderF 95 5 B b bs w) (hlen : bs.length + s.size ≤ 140737488355328) (hBw : B ≤ w.heap.size) :
    Calls Tryz.prog 42 #[.pointer (some ⟨b, 0, none⟩), .string s] w fun e w' => e = .returned (.tuple #[.int .i64 s.size, .nilIface]) ∧ (Lib.BuilderAtF 95 5 B b (.pointer (some ⟨b, 0, none⟩)) (bs ++ Lib.strCells s) w' ∧ Below B w w' ∧ Lib.OthersKept 5 (some b) w w') := Any.Builder_WriteString_k { Tryz.lays156 with } Tryz.Builder_Extra_156 B b bs s w h hlen hBw
end Go.Proofs.YtjafgnohlkkopaaGreatDoor

namespace Go.Proofs.YtjafgnohlkkopaaGreatDoor
open Go.RowKit
theorem heap_lt {w:World} {k:Nat} {o:Obj} (h:w.heap[k]? =some o):k<w.heap.size:=(Array.getElem?_eq_some_iff.1 h).1
def Bld (B b:Nat) (l:List UInt8) (w:World):Prop:=Lib.IsBuilderF 95 5 B b (Lib.byteCells l) w
theorem row_belowF {w w':World} {base:Nat} {e:TypeId} {size:Nat} {v:Value} {n:Nat} {xs:List Value} (h:w.ownsRowF base e size v n xs) (hb:Below w.heap.size w w'):w'.ownsRowF base e size v n xs:=by
 refine⟨h.1,?_⟩
 rcases h.2 with h | ⟨g,cap,cur,fz,h1,h2,h3,h4,h5,h6,h7,h8⟩
 ·exact .inl h
 ·refine .inr ⟨g,cap,cur,fz,h1,h2,?_,h4,h5,h6,h7,h8⟩
  rw[hb.block g (heap_lt h3)]; exact h3
theorem bldAt_below {T e:TypeId} {B b:Nat} {p:Value} {bs:List Value} {w w':World} (h:Lib.BuilderAtF T e B b p bs w) (hb:Below w.heap.size w w'):Lib.BuilderAtF T e B b p bs w':=by
 obtain⟨h1,v,h2,h3,h4⟩:=h
 exact⟨h1,v,by rw[hb.block b (heap_lt h2)]; exact h2,row_belowF h3 hb,h4⟩
theorem Bld.below {B b:Nat} {l:List UInt8} {w w':World} (h:Bld B b l w) (hb:Below w.heap.size w w'):Bld B b l w':=h.imp (bldAt_below · hb) (bldAt_below · hb)
theorem others_below {e:TypeId} {b:Option Nat} {w w':World} (hb:Below w.heap.size w w'):Lib.OthersKept e b w w':=fun k o hk _ _=>by rw[hb.block k (heap_lt hk)]; exact hk
theorem others_cells {e t:TypeId} {b g:Nat} {w w':World} {cs:Array Value} (h:Lib.OthersKept e (some b) w w') (hc:CellsAt w g cs t) (hg:g≠b) (ht:t≠e):CellsAt w' g cs t:=
 h g _ hc (by simpa using hg) (fun c fz h=>by simp at h; exact ht h.2.1)
def hexD (n:Nat):UInt8:=[48,49,50,51,52,53,54,55,56,57,97,98,99,100,101,102].getD n 0
def hexL (l:List Int):List UInt8:=l.flatMap fun x=>[hexD (x.toNat / 16),hexD (x.toNat%16)]
theorem hexL_length (l:List Int):(hexL l).length=2*l.length:=by
 unfold hexL
 induction l with
 | nil=>rfl
 | cons x l ih=>rw[List.flatMap_cons,List.length_append,ih,List.length_cons]; simp; omega
theorem hexL_snoc (l:List Int) (x:Int):hexL (l++[x])=hexL l++[hexD (x.toNat / 16),hexD (x.toNat%16)]:=by simp[hexL]
theorem hex_index (k:Nat) (hk:k<16) (w:World):(Instr.index 9 (.string { data:=#[48,49,50,51,52,53,54,55,56,57,97,98,99,100,101,102] }) (.int .u8 (k:Int))).run Tryz.prog w=.ok (.int .u8 ((hexD k).toNat:Int)) w:=by
 rw[run_index_string (P:=Tryz.prog) (w:=w) 9 _ .u8 (k:Int) Tryz.underlying9,dif_pos ⟨by omega,by show (k:Int)<16; omega⟩]
 have key:∀ k (h:k<16),(#[48,49,50,51,52,53,54,55,56,57,97,98,99,100,101,102]:Array UInt8)[k]'(by simpa using h)=hexD k:=by decide
 have e:=key k hk
 congr 3
 rw[←e]
 simp only[Int.toNat_natCast]
 rfl
theorem make_hex (n:Nat) (hn:n≤256) (w:World):∃ w', (Instr.makeSlice 28 (.int .i64 0) (.int .i64 (2*(n:Int)))).run Tryz.prog w=.ok (.slice (some ⟨w.heap.size,0,none⟩) 0 (2*n)) w'∧w'.ownsRow w.heap.size 5 1 (.slice (some ⟨w.heap.size,0,none⟩) 0 (2*n)) 0 []∧w.grownBy w' none:=by
 obtain⟨i0,hi,hz0,hz1,hz2⟩:=info_parts Tryz.infoByte
 have:=run_makeSlice_owned (P:=Tryz.prog) (w:=w) w.heap.size 28 5 i0 _ 1 Tryz.underlying28 hi hz0 hz1 .i64 .i64 (2*n) (by omega) (by rw[hz2]; omega) (by unfold maxLen; omega) (Nat.le_refl _)
 simpa using this
theorem news_two (w:World) (u v:Value) (t:TypeId):∀ j x,([u,v]:List Value)[j]? =some x→(w.alloc (.cells #[u,v] t)).cell? ((⟨w.heap.size,0,none⟩:Addr).add j)=some x:=by
 intro j x hj
 match j,hj with
 | 0,hj=>simp at hj; subst hj; exact(cellsAt_alloc w #[u,v] t).cell 0
 | 1,hj=>simp at hj; subst hj; exact(cellsAt_alloc w #[u,v] t).cell 1
 | j+2,hj=>simp at hj
set_option maxHeartbeats 4000000 in
set_option maxRecDepth 100000 in
theorem digits_any (Q:Nat→Prop) (a:Option Addr) (n c:Nat) (l:List Int) (w:World) (hn:n≤256) (hN:NumsAt Q .u8 w a n l):
 Calls Tryz.prog 48 #[.slice a n c] w fun e w'=>e=.returned (.string ⟨(hexL l).toArray⟩)∧Below w.heap.size w w':=by
 obtain⟨i0,hi0,hz0,hz1,hz2⟩:=info_parts Tryz.infoByte
 obtain⟨w1,hmk,hrow,hg⟩:=make_hex n hn w
 have hb1:=hid (Below.grown (Below.refl w.heap.size w) hg (Nat.le_refl _) (fun k hk=>by cases hk))
 have hw2:IntKind.i64.wrap (2*(n:Int))=2*(n:Int):=Go.IntWalk.i64_in _ (by omega)
 replace hN:=hid hN
 replace hrow:=hid hrow
 replace hg:=hid hg
 go_enter Tryz.func48,Tryz.ntmps48
 go_wp2_with fail
 clear hmk
 go_loopw [3,12] (fun u v wr=>∃ j:Nat,j≤n∧u=.slice (some ⟨w.heap.size,0,none⟩) (2*j) (2*n)∧v=.int .i64 j∧Below w.heap.size w wr∧wr.ownsRow w.heap.size 5 1 (.slice (some ⟨w.heap.size,0,none⟩) (2*j) (2*n)) (2*j) (Lib.byteCells (hexL (l.take j)))) (fun _ v _=>n-(Go.RowKit.intOf v).toNat)
 case atStart=>exact⟨0,Nat.zero_le _,rfl,rfl,hb1.out,hrow.out⟩
 case round=>
  clear hrow hg hb1
  obtain⟨j,hj,rfl,rfl,hb,hr⟩:=hrel
  by_cases hlt:j<n
  ·obtain⟨kb,ko,rfl,hkb,_,hc⟩:=hN.out.2.2 (by omega)
   have hck:wr.cell? ⟨kb,ko+j,none⟩=some (.int .u8 (l.getD j 0)):=(hb.cell (p:=⟨kb,ko+j,none⟩) hkb).trans (hc j hlt)
   have hjl:j<l.length:=by rw[hN.out.1]; exact hlt
   have hby:=hN.out.bytes (l.getD j 0) (hN.out.getD hlt)
   have htk:Hid (hexL (l.take (j+1))=hexL (l.take j)++[hexD ((l.getD j 0).toNat / 16),hexD ((l.getD j 0).toNat%16)]):=hid (by
    rw[take_snoc hjl,hexL_snoc]
    )
   clear hc hjl
   generalize l.getD j 0=x at *
   obtain⟨k,rfl⟩:∃ k:Nat,x=(k:Int):=⟨x.toNat,by omega⟩
   have hk:k<256:=by omega
   obtain⟨p,hp⟩:∃ p:Nat,p=k / 16:=⟨_,rfl⟩
   obtain⟨q,hq⟩:∃ q:Nat,q=k%16:=⟨_,rfl⟩
   have hq1:IntKind.u8.wrap ((k:Int) / 16)=(p:Int):=by rw[IntKind.wrap_u8]; omega
   have hq2:(k:Int).tmod 16=(q:Int):=by rw[Int.tmod_eq_emod_of_nonneg (by omega)]; omega
   have hi1:=hex_index p (by omega)
   have hi2:=hex_index q (by omega)
   obtain⟨d1,hd1⟩:∃ d:Int,d=((hexD p).toNat:Int):=⟨_,rfl⟩
   obtain⟨d2,hd2⟩:∃ d:Int,d=((hexD q).toNat:Int):=⟨_,rfl⟩
   rw[←hd1] at hi1
   rw[←hd2] at hi2
   have bz:=below_alloc wr (.cells #[.int .u8 d1,.int .u8 d2] 5)
   obtain⟨w3,hrun,hrow3,hg3⟩:=run_append_own_spare (P:=Tryz.prog) (wr.alloc (.cells #[.int .u8 d1,.int .u8 d2] 5)).drew w.heap.size 28 28 5 i0 1 Tryz.underlying28 hi0 hz1 w.heap.size (2*j) (2*n) _ (row_below (row_below hr bz) (below_drew _ _)) ⟨wr.heap.size,0,none⟩ 2 2 [.int .u8 d1,.int .u8 d2] rfl (news_two _ _ _ _) (fun u hu=>by simp at hu; rcases hu with rfl | rfl<;>rfl) (by omega)
   have hfin:Hid (Below w.heap.size w w3∧w3.ownsRow w.heap.size 5 1 (.slice (some ⟨w.heap.size,0,none⟩) (2*(j+1)) (2*n)) (2*(j+1)) (Lib.byteCells (hexL (l.take (j+1))))):=hid (by
    refine⟨(((hb.trans (bz.mono hb.size)).trans (below_drew _ _ |>.mono (by have:=hb.size; have:=bz.size; omega))).grown hg3 (by have:=hb.size; have:=bz.size; show _≤(wr.alloc _).heap.size; omega) (fun k hk=>by cases hk; exact Nat.le_refl _)),?_⟩
    rw[htk.out]
    have e:2*(j+1)=2*j+2:=by omega
    rw[e]
    have:=hrow3
    rw[hd1,hd2] at this
    simp only[Int.toNat_natCast,←hp,←hq]
    simpa [Lib.byteCells] using this)
   replace hb:=hid hb
   replace hr:=hid hr
   replace hd1:=hid hd1
   replace hd2:=hid hd2
   replace hp:=hid hp
   replace hq:=hid hq
   clear hrow3 hg3 bz hk hby
   go_upto_region 5 with fail
   go_region_law (refine step_append_run rfl (.tmp 16) (.tmp 23) 28 rfl _ _ _ w3 rfl rfl hrun ?_)
   all_goals (
    go_wp2_with fail
    go_roundw
    case rel=>exact⟨j+1,by omega,by first | rfl | (congr 1),by go_num,hfin.out.1,hfin.out.2⟩
    case measure=>simp[Go.RowKit.intOf]; omega)
  ·obtain rfl:j=n:=by omega
   have hcv:(convert 28 9 (.slice (some ⟨w.heap.size,0,none⟩) (2*j) (2*j))).run Tryz.prog wr=.ok (.string ⟨(hexL l).toArray⟩) wr:=by
    have hl:(hexL l).length=2*j:=by rw[hexL_length,hN.out.1]
    have ht:l.take j=l:=List.take_of_length_le (by rw[hN.out.1]; omega)
    rw[ht] at hr
    have:=run_convert_bytes_back (P:=Tryz.prog) wr 28 9 5 ⟨w.heap.size,0,none⟩ (2*j) (hexL l) Tryz.underlying28 Tryz.underlying5 Tryz.underlying9 (fun q hq=>by
     have h2:=hr.cellAt q (by omega)
     rw[Lib.add_plain,Nat.zero_add,h2]
     simp[Lib.byteCells,hq])
    rw[hl] at this
    exact this
   replace hr:=hid hr
   go_wp2_with fail
   go_ret
   exact⟨rfl,hb⟩
def lineL (xs:List ByteArray):List UInt8:=Lib.join (xs.map (·.data.toList)) [32]++[10]
theorem strCells_arr (l:List UInt8):Lib.strCells ⟨l.toArray⟩=Lib.byteCells l:=by simp[Lib.strCells,Lib.byteCells]
set_option maxHeartbeats 4000000 in
set_option maxRecDepth 100000 in
theorem line_any (B b:Nat) (l:List UInt8) (bk o c:Nat) (xs:List ByteArray) (w:World) (hb:Bld B b l w) (hBw:B≤w.heap.size) (hcells:∀ (j:Nat) x,xs[j]? =some x→w.cell? ⟨bk,o+j,none⟩=some (.string x)) (hbk:bk<w.heap.size) (hcap:xs.length≤c) (hN:xs.length≤100) (hlen:l.length+(lineL xs).length≤1000000000):
 Calls Tryz.prog 41 #[.slice (some ⟨bk,o,none⟩) xs.length c,.pointer (some ⟨b,0,none⟩)] w fun e w'=>e=.returned (.tuple #[])∧Bld B b (l++lineL xs) w'∧Below B w w'∧Lib.OthersKept 5 (some b) w w':=by
 have hl2:l.length+(Lib.join (xs.map (·.data.toList)) [32]).length+1≤1000000000:=by
  unfold lineL at hlen
  rw[List.length_append,List.length_singleton] at hlen
  omega
 replace hb:=hid hb
 replace hlen:=hid hlen
 replace hcells:=hid hcells
 replace hl2:=hid hl2
 go_enter Tryz.func41,Tryz.ntmps41
 go_wp2_with fail
 refine(Tryz.strings_Join bk o c xs (ByteArray.mk #[32]) w hcells.out hbk (by omega) hcap (by have:=hl2.out; show (Lib.join (xs.map (·.data.toList)) [32]).length≤_; omega)).mono ?_
 rintro e w1 ⟨rfl,b1⟩
 have hb1:=hid (hb.out.below b1)
 replace b1:=hid b1
 go_wp2_with fail
 refine(Tryz.Builder_WriteString_k B b (Lib.byteCells l) _ w1 hb1.out (by have:=hl2.out; rw[Lib.byteCells_length]; show _+(Lib.join (xs.map (·.data.toList)) [32]).toArray.size≤_; rw[List.size_toArray]; omega) (Nat.le_trans hBw b1.out.size)).mono ?_
 rintro e w2 ⟨rfl,h2,b2,o2⟩
 have h2':Hid (Bld B b (l++Lib.join (xs.map (·.data.toList)) [32]) w2):=hid (.inr (by
  rw[strCells_arr,←Lib.byteCells_append] at h2
  exact h2))
 replace b2:=hid b2
 replace o2:=hid o2
 clear h2
 go_wp2_with fail
 refine(Tryz.Builder_WriteByte_k B b _ 10 w2 h2'.out (by have:=hl2.out; rw[Lib.byteCells_length,List.length_append]; omega) (Nat.le_trans (Nat.le_trans hBw b1.out.size) b2.out.size)).mono ?_
 rintro e w3 ⟨rfl,h3,b3,o3⟩
 replace h3:=hid h3
 replace o3:=hid o3
 go_wp2_with fail
 go_end0
 refine⟨rfl,.inr ?_,((b1.out.mono hBw).trans b2.out).trans b3,((others_below b1.out).trans o2.out).trans o3.out⟩
 have e:Lib.byteCells (l++lineL xs)=Lib.byteCells (l++Lib.join (xs.map (·.data.toList)) [32])++[.int .u8 10]:=by
  simp[lineL,Lib.byteCells]
 rw[e]
 exact h3.out
end Go.Proofs.YtjafgnohlkkopaaGreatDoor

namespace Go.Proofs.YtjafgnohlkkopaaGreatDoor
open Go.RowKit
theorem tab_below {w w':World} (h:Lib.TabIs Tryz.prog w tabN .u64 Lib.pow10Tab) (b:Below w.heap.size w w'):Lib.TabIs Tryz.prog w' tabN .u64 Lib.pow10Tab:=by
 have hs:(Tryz.prog.globalNamed tabN).isSome=true:=by kernel_rfl
 obtain⟨g,hg⟩:=Option.isSome_iff_exists.1 hs
 exact Joins.tab_stays (P:=Tryz.prog) hg h b (Nat.le_refl _)
def itoaB (n:Int):ByteArray:=⟨(Lib.itoa n).toArray⟩
theorem itoa_any (n:Int) (h0:0≤n) (h1:n≤1000000) (w:World) (htab:Lib.TabIs Tryz.prog w tabN .u64 Lib.pow10Tab):
 Calls Tryz.prog 47 #[.int .i64 n] w fun e w'=>e=.returned (.string (itoaB n))∧Below w.heap.size w w':=by
 refine(Tryz.strconv_Itoa n (by omega) (by omega) w htab).mono ?_
 rintro e w' ⟨rfl,k,os,rfl⟩
 exact⟨rfl,rfl,rfl,rfl,by simp[Sort.grow],fun i hi=>by
  show (w.heap++os)[i]? =_
  exact Array.getElem?_append_left hi⟩
theorem line3_any (B b:Nat) (l:List UInt8) (s1 s2 s3:ByteArray) (w:World) (hb:Bld B b l w) (hBw:B≤w.heap.size) (hlen:l.length+(lineL [s1,s2,s3]).length≤1000000000):
 Calls Tryz.prog 41 #[.slice (some ⟨w.heap.size,0,none⟩) 3 3,.pointer (some ⟨b,0,none⟩)] (w.alloc (.cells #[.string s1,.string s2,.string s3] 9)) fun e w'=>e=.returned (.tuple #[])∧Bld B b (l++lineL [s1,s2,s3]) w'∧Below B w w'∧Lib.OthersKept 5 (some b) w w':=by
 have bz:=below_alloc w (.cells #[.string s1,.string s2,.string s3] 9)
 refine(line_any B b l w.heap.size 0 3 [s1,s2,s3] _ (hb.below bz) (Nat.le_trans hBw bz.size) (fun j x hj=>?_) (by simp) (by simp) (by simp) hlen).mono ?_
 ·have:=(cellsAt_alloc w #[.string s1,.string s2,.string s3] 9).cell j
  rw[Nat.zero_add,this]
  match j,hj with
  | 0,hj=>simp at hj; subst hj; rfl
  | 1,hj=>simp at hj; subst hj; rfl
  | 2,hj=>simp at hj; subst hj; rfl
  | j+3,hj=>simp at hj
 ·rintro e w' ⟨rfl,h1,h2,h3⟩
  exact⟨rfl,h1,(bz.mono hBw).trans h2,(others_below bz).trans h3⟩
def fileW (ahead:ByteArray) (key:Int) (B:Nat→Blk) (f:Ent):List UInt8:=lineL [ahead++f.name,itoaB f.size,⟨(hexL (readL (fileL key (leafAt B 3 f.root)) f.size.toNat 0 f.size.toNat)).toArray⟩]
def filesW (ahead:ByteArray) (key:Int) (B:Nat→Blk) (l:List Ent):List UInt8:=l.flatMap (fileW ahead key B)
theorem ba_len (x:ByteArray):x.data.toList.length=x.size:=by rw[Array.length_toList]; rfl
theorem lineL3_len (a b c:ByteArray):(lineL [a,b,c]).length=a.size+b.size+c.size+3:=by
 unfold lineL
 rw[List.length_append,List.map_cons,List.map_cons,List.map_cons,List.map_nil,Lib.join_cons]
 simp only[Lib.joinTail,List.map_cons,List.map_nil,List.flatten_cons,List.flatten_nil,List.length_append,List.length_cons,List.length_nil,ba_len]
 omega
theorem itoa_len (n:Int) (h0:0≤n) (h1:n≤1000000):(itoaB n).size≤20:=by
 obtain⟨u,rfl⟩:∃ u:Nat,n=(u:Int):=⟨n.toNat,by omega⟩
 rw[←ba_len]
 show (Lib.itoa (u:Int)).toArray.toList.length≤20
 rw[List.toList_toArray,Lib.itoa_nonneg]
 by_cases hu:u=0
 ·subst hu
  rw[Lib.decDigits_one (by omega)]
  decide
 ·rw[Lib.decDigits_length]
  have:=Lib.numDigits_eq u (by omega) (by omega)
  split at this<;>omega
theorem fileW_len {n:Nat} {B:Nat→Blk} {key:Int} {ahead:ByteArray} {f:Ent} (ha:ahead.size≤8) (hn:f.name.size≤8) (hf:FileOk n B key f.root f.size):(fileW ahead key B f).length≤1000:=by
 have hs:=hf.sb
 unfold fileW
 rw[lineL3_len]
 have h1:=itoa_len f.size hs.1 (by omega)
 have h2:(ahead++f.name).size=ahead.size+f.name.size:=ByteArray.size_append
 have h3:(ByteArray.mk (hexL (readL (fileL key (leafAt B 3 f.root)) f.size.toNat 0 f.size.toNat)).toArray).size≤512:=by
  rw[←ba_len]
  show (hexL _).toArray.toList.length≤512
  rw[List.toList_toArray,hexL_length,readL_length _ _ _ _ (fileL_length _ _) (by omega)]
  omega
 omega
theorem filesW_len {n:Nat} {B:Nat→Blk} {key:Int} {ahead:ByteArray} (ha:ahead.size≤8):∀ l:List Ent,(∀ f∈l,FileOk n B key f.root f.size∧f.name.size≤8)→(filesW ahead key B l).length≤l.length*1000
 | [],_=>by simp[filesW]
 | f::l,h=>by
   have h1:=filesW_len ha l (fun g hg=>h g (List.mem_cons_of_mem _ hg))
   have h2:=fileW_len ha (h f List.mem_cons_self).2 (h f List.mem_cons_self).1
   unfold filesW at h1 ⊢
   rw[List.flatMap_cons,List.length_append,List.length_cons]
   omega
structure VE (W w:World) (tb lb:Nat) (L:List UInt8):Prop where
 bel:Below W.heap.size W w
 bld:Bld W.heap.size tb L w
 fn:CellsAt w lb #[.func (.func 41) #[] #[.pointer (some ⟨tb,0,none⟩)]] 102
 ne:lb≠tb
theorem Bld.lt {B b:Nat} {l:List UInt8} {w:World} (h:Bld B b l w):b<w.heap.size:=by
 rcases h with⟨_,v,h,_⟩ | ⟨_,v,h,_⟩<;>exact heap_lt h
theorem VE.below {W w w':World} {tb lb:Nat} {L:List UInt8} (h:VE W w tb lb L) (b:Below w.heap.size w w'):VE W w' tb lb L:=⟨h.bel.trans (b.mono h.bel.size),h.bld.below b,h.fn.below b,h.ne⟩
theorem VE.wrote {W w w':World} {tb lb:Nat} {L L':List UInt8} (h:VE W w tb lb L) (hb:Bld W.heap.size tb L' w') (b:Below W.heap.size w w') (o:Lib.OthersKept 5 (some tb) w w'):VE W w' tb lb L':=⟨h.bel.trans b,hb,others_cells o h.fn h.ne (by decide),h.ne⟩
set_option maxHeartbeats 8000000 in
set_option maxRecDepth 100000 in
theorem files_any (W:World) (Q:Nat→Prop) (sa:Option Addr) (n sc:Nat) (B:Nat→Blk) (pb ob:Nat) (tv qv sv:Value) (key:Int) (la:Option Addr) (ln lc:Nat) (l:List Ent) (ahead:ByteArray) (tb lb:Nat) (L:List UInt8) (w:World)
 (hS:StoreAt W sa n B) (hP:CellsAt W pb #[.slice sa n sc,tv] 27) (hO:CellsAt W ob #[.int .i64 key,qv,sv] 64) (hE:EntsAt Q W la ln l) (hok:∀ f∈l,FileOk n B key f.root f.size∧f.name.size≤8) (hln:ln≤6) (ha:ahead.size≤8) (htab:Lib.TabIs Tryz.prog W tabN .u64 Lib.pow10Tab) (hV:VE W w tb lb L) (hlen:L.length≤100000000):
 Calls Tryz.prog 45 #[.string ahead,.slice la ln lc,.pointer (some ⟨pb,0,none⟩),.pointer (some ⟨ob,0,none⟩),.pointer (some ⟨lb,0,none⟩)] w fun e w'=>e=.returned (.tuple #[])∧VE W w' tb lb (L++filesW ahead key B l)∧Lib.OthersKept 5 (some tb) w w':=by
 replace hS:=hid hS
 replace hP:=hid hP
 replace hO:=hid hO
 replace hE:=hid hE
 replace hok:=hid hok
 replace htab:=hid htab
 replace hV:=hid hV
 go_enter Tryz.func45,Tryz.ntmps45
 go_wp2_with fail
 go_loopw [13] (fun v wr=>∃ j:Nat,j≤ln∧v=.int .i64 j∧VE W wr tb lb (L++filesW ahead key B (l.take j))∧Lib.OthersKept 5 (some tb) w wr) (fun v _=>ln-(Go.RowKit.intOf v).toNat)
 case atStart=>exact⟨0,Nat.zero_le _,rfl,by simpa [filesW] using hV.out,Lib.OthersKept.refl _ _ _⟩
 case round=>
  clear hV
  obtain⟨j,hj,rfl,hV,hK⟩:=hrel
  replace hV:=hid hV
  replace hK:=hid hK
  by_cases hlt:j<ln
  ·have hEr:=hE.out.below hV.out.bel
   obtain⟨eb,eo,rfl,hel,_⟩:=hEr.2.2 (by omega)
   have hA:=hEr.ent hlt
   have c0:=hA.c0
   have c1:=hA.c1
   have c2:=hA.c2
   have hjl:j<l.length:=by rw[hE.out.1]; exact hlt
   have hgd:l.getD j Ent.zero=l[j]:=by simp[List.getD,hjl]
   have hf:=hid (hok.out _ (List.getElem_mem hjl))
   have htk:Hid (filesW ahead key B (l.take (j+1))=filesW ahead key B (l.take j)++fileW ahead key B l[j]):=hid (by
    unfold filesW
    rw[List.take_add_one,List.getElem?_eq_getElem hjl,List.flatMap_append]
    congr 1
    simp)
   rw[hgd] at c0 c1 c2
   clear hA hEr hgd
   generalize l[j]=f at *
   have bA:=hid (below_alloc wr (.cells #[.string f.name,.int .i64 f.root,.int .i64 f.size] 106))
   have kA:=hid (cellsAt_alloc wr #[.string f.name,.int .i64 f.root,.int .i64 f.size] 106)
   go_upto_region 3 with fail
   clear c0 c1 c2
   generalize hw5:wr.alloc (.cells #[.string f.name,.int .i64 f.root,.int .i64 f.size] 106)=w5 at *
   replace hw5:=hid hw5
   have hV5:=hid (hV.out.below bA.out)
   have p0:=(hP.out.below hV5.out.bel).cell 0
   have o0:=(hO.out.below hV5.out.bel).cell 0
   have e1:=kA.out.cell 1
   have e2:=kA.out.cell 2
   simp at p0 o0 e1 e2
   go_wp2_with fail
   refine(fileRead_full sa n sc B key f.root f.size 0 f.size w5 (hS.out.below hV5.out.bel)).mono ?_
   rintro e w6 ⟨⟨hR,_⟩,b6⟩
   rcases hR with⟨e', _,_,hno⟩ | ⟨y,yn,yc,rfl,_,hlc,hN⟩
   ·exact absurd ⟨hf.out.1,by omega,hf.out.1.sb⟩ hno
   have hV6:=hid (hV5.out.below b6)
   have b6h:=hid b6
   have kA6:=hid (kA.out.below b6)
   have hsz:=hf.out.1.sb
   have hyn:Hid (yn≤256):=hid (by rw[←hN.1,readL_length _ _ _ _ (fileL_length _ _) (by omega)]; omega)
   have hN6:Hid (∀ w', Below w6.heap.size w6 w'→NumsAt (fun _=>True) .u8 w' y yn (readL (fileL key (leafAt B 3 f.root)) f.size.toNat 0 f.size.toNat)):=hid (fun w' b=>(hN.weaken (fun _ _ _=>trivial)).below b)
   have hT6:Hid (∀ w', Below w6.heap.size w6 w'→Lib.TabIs Tryz.prog w' tabN .u64 Lib.pow10Tab):=hid (fun w' b=>tab_below htab.out (hV6.out.bel.trans (b.mono hV6.out.bel.size)))
   clear p0 o0 e1 e2 hN
   have q0:=kA6.out.cell 0
   have q2:=kA6.out.cell 2
   have l0:=hV6.out.fn.cell 0
   simp at q0 q2 l0
   have lq:=hid kA6.out.lt
   have ll:=hid hV6.out.fn.lt
   go_upto_region 4 with fail
   have hLl:Hid ((L++filesW ahead key B (l.take j)).length+(lineL [ahead++f.name,itoaB f.size,⟨(hexL (readL (fileL key (leafAt B 3 f.root)) f.size.toNat 0 f.size.toNat)).toArray⟩]).length≤1000000000):=hid (by
    have h1:=filesW_len (n:=n) (B:=B) (key:=key) ha (l.take j) (fun g hg=>hok.out g (List.mem_of_mem_take hg))
    have h2:=fileW_len ha hf.out.2 hf.out.1
    have h3:(l.take j).length≤j:=by rw[List.length_take]; omega
    unfold fileW at h2
    rw[List.length_append]
    omega)
   have hsz1:f.size≤1000000:=by omega
   have ntb:Hid (wr.heap.size≠tb):=hid (by have:=hV.out.bld.lt; omega)
   have ne5:Hid (102≠5):=hid (by decide)
   have ne6:Hid (106≠5):=hid (by decide)
   have hTd:=hid (hT6.out _ (below_drew _ _))
   have hcat:∀ W', (Op.stringOp .add ahead f.name).run Tryz.prog W'=.ok (.string (ahead++f.name)) W':=fun W'=>run_string_add (P:=Tryz.prog) W' ahead f.name (by omega) (by have:=hf.out.2; omega)
   go_region_held3 (fun w'=>w'.cell? ⟨lb,0,none⟩=some (.func (.func 41) #[] #[.pointer (some ⟨tb,0,none⟩)])∧w'.cell? ⟨wr.heap.size,0,none⟩=some (.string f.name)∧w'.cell? ⟨wr.heap.size,2,none⟩=some (.int .i64 f.size)) (first | go_keep | assumption) (first | (go_at_call 47; refine Calls.mono (itoa_any f.size hsz.1 hsz1 w6.drew hTd.out) ?_; rintro e w7 ⟨rfl,b7⟩; replace b7:Below w6.heap.size w6 w7:=(below_drew _ _).trans b7; have s0:=(b7.cell (p:=⟨lb,0,none⟩) ll.out).trans l0; have s1:=(b7.cell (p:=⟨wr.heap.size,0,none⟩) lq.out).trans q0; have s2:=(b7.cell (p:=⟨wr.heap.size,2,none⟩) lq.out).trans q2; replace b7:=hid b7) | (go_at_call 48; with_reducible refine Calls.mono (digits_any (fun _=>True) y yn yc (readL (fileL key (leafAt B 3 f.root)) f.size.toNat 0 f.size.toNat) _ hyn.out ?_) ?_; exact hN6.out _ b7.out; rintro e w8 ⟨rfl,b8⟩; replace b8:Below w6.heap.size w6 w8:=Below.tr b7.out b8; have s0':=(b8.cell (p:=⟨lb,0,none⟩) ll.out).trans l0; have s1':=(b8.cell (p:=⟨wr.heap.size,0,none⟩) lq.out).trans q0; have s2':=(b8.cell (p:=⟨wr.heap.size,2,none⟩) lq.out).trans q2; have n1:lb≠w8.heap.size:=(by have:=b8.size; have:=ll.out; omega); have n1':=n1.symm; have n2:wr.heap.size≠w8.heap.size:=(by have:=b8.size; have:=lq.out; omega); have n2':=n2.symm; have hB8:=hid (hV6.out.bld.below b8); have hz8:=hid b8.size; replace b8:=hid b8) | (go_at_call 41; with_reducible refine Calls.mono (line3_any W.heap.size tb _ _ _ _ w8 hB8.out ?_ hLl.out) ?_; exact Nat.le_trans hV6.out.bel.size hz8.out; rintro e w9 ⟨rfl,hB9,b9,o9⟩; have K1:=others_cells o9 ((hV6.out.below b8.out).fn) hV6.out.ne ne5.out; have K2:=others_cells o9 (kA6.out.below b8.out) ntb.out ne6.out; have s0q:=K1.cell 0; have s1q:=K2.cell 0; have s2q:=K2.cell 2; simp only[List.getElem?_toArray,List.getElem?_cons_zero,List.getElem?_cons_succ] at s0q s1q s2q; clear K1 K2; replace hB9:=hid hB9; replace b9:=hid b9; replace o9:=hid o9))
   all_goals (
    go_wp2_with fail
    go_roundw
    case rel=>exact⟨j+1,by omega,by go_num,by
     rw[htk.out,←List.append_assoc]
     exact(hV6.out.below b8.out).wrote hB9.out b9.out o9.out,((hK.out.trans (others_below bA.out)).trans (others_below b6h.out)).trans ((others_below b8.out).trans o9.out)⟩
    case measure=>simp[Go.RowKit.intOf]; omega)
  ·obtain rfl:j=ln:=by omega
   have ht:l.take j=l:=List.take_of_length_le (by rw[hE.out.1]; omega)
   go_wp2_with fail
   go_end0
   rw[ht] at hV
   exact⟨rfl,hV.out,hK.out⟩
end Go.Proofs.YtjafgnohlkkopaaGreatDoor

namespace Go.Proofs.YtjafgnohlkkopaaGreatDoor
open Go.ChangeShapes Go.WideShapes Go.RowKit Go.Deep
section
variable {H:Type} {enc:TypeId×Value→H} {W:World}
set_option maxRecDepth 100000 in
theorem ask_one {r:Reach} {b0:Nat} {v:Value} {d:DataW H} {p:List MemPlace} (hv:Value.okWide Tryz.prog W r b0 30 v) (h:DataW.Trod enc Tryz.prog W 0 (fun _=>true) true 30 v d p):
 ∃ (x:AskE) (ba:Option Addr) (bn bc:Nat),v=.agg #[.int .i64 x.kind,.string x.set,.string x.file,.string x.to,.int .i64 x.pos,.int .i64 x.num,.slice ba bn bc]∧x.ok∧NumsAt (fun _=>True) .u8 W ba bn x.bytes:=by
 obtain⟨cs,rfl,hsz⟩:=okWide_struct Tryz.underlying30 hv
 obtain⟨fuel,hf⟩:=h
 have hsz7:cs.size=7:=hsz.trans (by kernel_rfl)
 obtain⟨l⟩:=cs
 simp only[Value.cells] at hf
 obtain⟨x,ba,bn,bc,e,hok,_,hN⟩:=ask_open hf
 refine⟨x,ba,bn,bc,?_,hok,hN⟩
 congr 1
 match l,hsz7 with
 | [c0,c1,c2,c3,c4,c5,c6],_=>
   simp at e
   obtain⟨rfl,rfl,rfl,rfl,rfl,rfl,rfl⟩:=e
   rfl
end
def litCells (d:DataW Unit):Array Value:=match d with | .agg l=>(l.map fun | .lit (.int k z)=>.int k z | _=>Value.int .i64 0).toArray | _=>#[]
def layTab (d:DataW Unit):Obj→Obj
 | .cells _ t frozen=>.cells (litCells d) t frozen
 | o=>o
noncomputable def laidWorld (os:Os):World:=
 { World.holding Tryz.prog os ⟨#[],#[],[]⟩ with heap:=(((World.holding Tryz.prog os ⟨#[],#[],[]⟩).heap.modify 1 (layTab Rows.laid_internal_strconv_uint64pow10)).modify 2 (layTab Rows.laid_math_bits_deBruijn32tab)).modify 3 (layTab Rows.laid_math_bits_deBruijn64tab) }
theorem laid_met (os:Os) (args:Array Value):laidMet Tryz.prog Rows.viewLikeRow.laid ((laidWorld os).forCall (fun _ _=>0) ⟨#[],args,[]⟩).memory:=
 laidMet_of_run' 8 (by kernel_rfl) (by kernel_rfl)
theorem tab_of {W:World} (h:laidMet Tryz.prog Rows.viewLikeRow.laid W):Lib.TabIs Tryz.prog W tabN .u64 Lib.pow10Tab:=by
 have h2:=h.tail.tail
 have e:(Rows.laid_internal_strconv_uint64pow10:DataW Unit)=Lib.tabData .u64 Lib.pow10Tab:=by kernel_rfl
 rw[e] at h2
 exact Lib.tabIs_of_head (P:=Tryz.prog) (g:=1) (by kernel_rfl) (by kernel_rfl) Tryz.underlying228 Tryz.underlying127 (by kernel_rfl) (by kernel_rfl) h2
end Go.Proofs.YtjafgnohlkkopaaGreatDoor
