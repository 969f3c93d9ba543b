import PyProof.Rows.All
import Wide.All
import OpenK.AllK
import Wide.FinOn
import HandS.ForMost
import HandS.IsInst
import HandS.Deep
import HandS.Flow
import HandS.Wide
import HandS.Nested
import HandS.ForExc
import KE.KeyNested
import HandS.TupAny
import HandS.TupMul
import HandS.Style
import HandS.Star
import KE.GoesEnum
import HandS.SetTxt0
import HandS.SetFor
import HandS.Set
import PyProof.Rows.SortStr
import KE.GoesMore
import HandS.Dict
import HandS.List
import HandS.DictComp
import HandS.TupSets
import KE.KDictKeyed
import KE.SortCalls
import PyProof.TupleOfSeq
import HandS.ExcValue
import HandS.ExcInit
import HandS.ExcField
import HandS.ExcIs
import HandS.TryMany
import KE.KExcIs
import HandS.Zip
import HandS.WideBits
import HandS.Sort
import PyProof.SeqIndex
import KE.SortKeyHeap
import HandS.SortKw
import KE.KDictCopyH
import PyProof.DictMoreH
import KE.KDictZip
import HandS.Gcd
import KE.KMathGC
import OpenK.KMeth
import OpenK.KOps
import HandS.Property
import HandS.ClsMeth
import KE.KExcInit
import HandS.EndTab
import PySem.Challenge.RW_tellwords_k61_shelves_edited
set_option Elab.async false
set_option linter.all false
set_option maxRecDepth 100000
namespace VL
open PySem PySem.Spec PyProof.Rows L2
def kD : Key → PyData
  | .inl i => .int i
  | .inr x => .str x
mutual
inductive Dv (K : PySem.W.Frag) (F : Hp) : V → PyData → Prop
  | non : Dv K F .non .none
  | bl (b : Bool) : Dv K F (.bl b) (.bool b)
  | int (i : Int) : Dv K F (.int i) (.int i)
  | str (x : Str) : Dv K F (.str x) (.str x)
  | lst {a : Addr} {xs : List V} {ds : List PyData} : F a = some (.lst xs) → DvAll K F xs ds → Dv K F (.ref a) (.list ds)
  | tup {a : Addr} {xs : List V} {ds : List PyData} : SqT K F a xs → DvAll K F xs ds → Dv K F (.ref a) (.tuple ds)
  | dct {a : Addr} {kvs : List (Key × V)} {ds : List (PyData × PyData)} : F a = some (.dK kvs) → DvKv K F kvs ds → Dv K F (.ref a) (.dict ds)
inductive DvAll (K : PySem.W.Frag) (F : Hp) : List V → List PyData → Prop
  | nil : DvAll K F [] []
  | cons {v : V} {vs : List V} {d : PyData} {ds : List PyData} : Dv K F v d → DvAll K F vs ds → DvAll K F (v :: vs) (d :: ds)
inductive DvKv (K : PySem.W.Frag) (F : Hp) : List (Key × V) → List (PyData × PyData) → Prop
  | nil : DvKv K F [] []
  | cons {k : Key} {v : V} {vs : List (Key × V)} {d : PyData} {ds : List (PyData × PyData)} : Dv K F v d → DvKv K F vs ds → DvKv K F ((k, v) :: vs) ((kD k, d) :: ds)
end
section
variable {K : PySem.W.Frag} {F F' : Hp}
theorem same_seqT {a : Addr} {xs : List V} (e : Same F F') (h : SqT K F a xs) : SqT K F' a xs := by
  rcases h with (h | ⟨o, h⟩) | h
  · exact .inl (.inl (e _ _ h))
  · exact .inl (.inr ⟨o, e _ _ h⟩)
  · exact .inr h
mutual
theorem Dv.mono (e : Same F F') : ∀ {v : V} {d : PyData}, Dv K F v d → Dv K F' v d
  | _, _, .non => .non
  | _, _, .bl b => .bl b
  | _, _, .int i => .int i
  | _, _, .str x => .str x
  | _, _, .lst h r => .lst (e _ _ h) (DvAll.mono e r)
  | _, _, .tup h r => .tup (same_seqT e h) (DvAll.mono e r)
  | _, _, .dct h r => .dct (e _ _ h) (DvKv.mono e r)
theorem DvAll.mono (e : Same F F') : ∀ {vs : List V} {ds : List PyData}, DvAll K F vs ds → DvAll K F' vs ds
  | _, _, .nil => .nil
  | _, _, .cons h t => .cons (Dv.mono e h) (DvAll.mono e t)
theorem DvKv.mono (e : Same F F') : ∀ {vs : List (Key × V)} {ds : List (PyData × PyData)}, DvKv K F vs ds → DvKv K F' vs ds
  | _, _, .nil => .nil
  | _, _, .cons h t => .cons (Dv.mono e h) (DvKv.mono e t)
end
theorem DvAll.length : ∀ {vs : List V} {ds : List PyData}, DvAll K F vs ds → vs.length = ds.length
  | _, _, .nil => rfl
  | _, _, .cons _ t => by simp [DvAll.length t]
theorem DvAll.append : ∀ {vs ws : List V} {ds es : List PyData}, DvAll K F vs ds → DvAll K F ws es → DvAll K F (vs ++ ws) (ds ++ es)
  | _, _, _, _, .nil, s => s
  | _, _, _, _, .cons h t, s => .cons h (DvAll.append t s)
theorem DvAll.take : ∀ {vs : List V} {ds : List PyData} (n : Nat), DvAll K F vs ds → DvAll K F (vs.take n) (ds.take n)
  | _, _, 0, _ => by simpa using .nil
  | _, _, _ + 1, .nil => .nil
  | _, _, n + 1, .cons h t => .cons h (DvAll.take n t)
theorem DvAll.drop : ∀ {vs : List V} {ds : List PyData} (n : Nat), DvAll K F vs ds → DvAll K F (vs.drop n) (ds.drop n)
  | _, _, 0, h => h
  | _, _, _ + 1, .nil => .nil
  | _, _, n + 1, .cons _ t => DvAll.drop n t
theorem DvAll.get : ∀ {vs : List V} {ds : List PyData} {i : Nat} {d : PyData}, DvAll K F vs ds → ds[i]? = some d → ∃ v, vs[i]? = some v ∧ Dv K F v d
  | _, _, _, _, .nil, e => by simp at e
  | _, _, 0, _, .cons h _, e => by simp at e; subst e; exact ⟨_, rfl, h⟩
  | _, _, i + 1, _, .cons _ t, e => by
    obtain ⟨v, h1, h2⟩ := DvAll.get (i := i) t (by simpa using e)
    exact ⟨v, by simpa using h1, h2⟩
theorem DvAll.reverse : ∀ {vs : List V} {ds : List PyData}, DvAll K F vs ds → DvAll K F vs.reverse ds.reverse
  | _, _, .nil => .nil
  | _, _, .cons h t => by
    rw [List.reverse_cons, List.reverse_cons]
    exact (DvAll.reverse t).append (.cons h .nil)
theorem DvAll.rep {vs : List V} {ds : List PyData} (h : DvAll K F vs ds) : ∀ k : Nat, DvAll K F (List.replicate k vs).flatten (List.replicate k ds).flatten
  | 0 => .nil
  | k + 1 => by
    rw [List.replicate_succ, List.replicate_succ, List.flatten_cons, List.flatten_cons]
    exact h.append (DvAll.rep h k)
theorem DvAll.dropLast : ∀ {vs : List V} {ds : List PyData}, DvAll K F vs ds → DvAll K F vs.dropLast ds.dropLast
  | _, _, .nil => .nil
  | _, _, .cons h .nil => .nil
  | _, _, .cons h (.cons h2 t) => .cons h (DvAll.dropLast (.cons h2 t))
theorem DvAll.set : ∀ {vs : List V} {ds : List PyData} {v : V} {d : PyData} (i : Nat), DvAll K F vs ds → Dv K F v d → DvAll K F (vs.set i v) (ds.set i d)
  | _, _, _, _, _, .nil, _ => .nil
  | _, _, _, _, 0, .cons _ t, h => .cons h t
  | _, _, _, _, i + 1, .cons h0 t, h => .cons h0 (DvAll.set i t h)
theorem DvAll.eraseIdx : ∀ {vs : List V} {ds : List PyData} (i : Nat), DvAll K F vs ds → DvAll K F (vs.eraseIdx i) (ds.eraseIdx i)
  | _, _, _, .nil => .nil
  | _, _, 0, .cons _ t => t
  | _, _, i + 1, .cons h t => .cons h (DvAll.eraseIdx i t)
end
end VL
set_option Elab.async false
set_option linter.all false
set_option maxRecDepth 100000
namespace VL
open PySem PySem.Spec L2
structure Dk where
  l : Addr
  g : Addr
  c : Addr
  /-- objects that change -/
  os : List Addr
structure DS where
  great : List Int
  cells : List Int
  n : Int
  obs : List (Str × List (Str × PyData))
def inDk : Option Dk → Addr → Prop
  | none, _ => False
  | some k, a => a = k.l ∨ a = k.g ∨ a = k.c ∨ a ∈ k.os
/-- a thing of which it is known that it has no dict of its own -/
def NoDV (F : Hp) (v : V) : Prop := ∃ a o u, v = .ref a ∧ F a = some (.frz o u) ∧ o.dict = none
theorem NoDV.mono {F F' : Hp} (e : Same F F') {v : V} (h : NoDV F v) : NoDV F' v := let ⟨a, o, u, h1, h2, h3⟩ := h; ⟨a, o, u, h1, e _ _ h2, h3⟩
/-- the fields that hold such things -/
def markF (f : Str) : Bool := f == ("sorts" : Str) || f == ("yeses" : Str)
inductive DFs (K : PySem.W.Frag) (F : Hp) : List (Str × V) → List (Str × PyData) → Prop
  | nil : DFs K F [] []
  | cons {f : Str} {v : V} {d : PyData} {vs : List (Str × V)} {ds : List (Str × PyData)} : Dv K F v d → (markF f = true → NoDV F v) → DFs K F vs ds → DFs K F ((f, v) :: vs) ((f, d) :: ds)
theorem DFs.mono {K : PySem.W.Frag} {F F' : Hp} (e : Same F F') {vs : List (Str × V)} {ds : List (Str × PyData)} (h : DFs K F vs ds) : DFs K F' vs ds := by
  induction h with
  | nil => exact .nil
  | cons h n _ ih => exact .cons (Dv.mono e h) (fun q => (n q).mono e) ih
mutual
/-- no list, no dict within -/
def flatD : PyData → Bool
  | .dict _ => false
  | .list _ => false
  | .tuple ds => flatDs ds
  | _ => true
def flatDs : List PyData → Bool
  | [] => true
  | d :: ds => flatD d && flatDs ds
end
/-- tuples stay -/
def KeepT (F F' : Hp) : Prop := (∀ b xs, F b = some (.tup xs) → F' b = some (.tup xs)) ∧ ∀ b o xs, F b = some (.frz o (.tup xs)) → F' b = some (.frz o (.tup xs))
theorem keepT_of {F F' : Hp} (s : Same F F') : KeepT F F' := ⟨fun b xs e => s b _ e, fun b o xs e => s b _ e⟩
mutual
theorem flat_dvT {K : PySem.W.Frag} {F F' : Hp} (k : KeepT F F') : ∀ {v : V} {d : PyData}, Dv K F v d → flatD d = true → Dv K F' v d
  | _, _, .non, _ => .non
  | _, _, .bl b, _ => .bl b
  | _, _, .int i, _ => .int i
  | _, _, .str x, _ => .str x
  | _, _, .lst _ _, q => by cases q
  | _, _, .tup (a := b) g1 g2, q => .tup (by
      rcases g1 with (g | ⟨o, g⟩) | g
      · exact .inl (.inl (k.1 _ _ g))
      · exact .inl (.inr ⟨o, k.2 _ _ _ g⟩)
      · exact .inr g) (flat_allT k g2 q)
  | _, _, .dct _ _, q => by cases q
theorem flat_allT {K : PySem.W.Frag} {F F' : Hp} (k : KeepT F F') : ∀ {vs : List V} {ds : List PyData}, DvAll K F vs ds → flatDs ds = true → DvAll K F' vs ds
  | _, _, .nil, _ => .nil
  | _, _, .cons g1 g2, q => by
    rw [flatDs, Bool.and_eq_true] at q
    exact .cons (flat_dvT k g1 q.1) (flat_allT k g2 q.2)
end
/-- the fields of an object that changes -/
def okFs (fs : List (Str × PyData)) : Bool := fs.all fun p => flatD p.2 && !markF p.1
theorem DFs.flatT {K : PySem.W.Frag} {F F' : Hp} (k : KeepT F F') {vs : List (Str × V)} {ds : List (Str × PyData)} (h : DFs K F vs ds) : okFs ds = true → DFs K F' vs ds := by
  induction h with
  | nil => exact fun _ => .nil
  | cons h n _ ih =>
    intro q
    unfold okFs at q
    rw [List.all_cons, Bool.and_eq_true, Bool.and_eq_true] at q
    exact .cons (flat_dvT k h q.1.1) (fun z => by rw [z] at q; cases q.1.2) (ih q.2)
theorem codeO_ins {c C dx : Addr} {q : Str} {vs : List (Str × V)} : HO.ins C dx vs ≠ LamX.CodeO c q := fun z => by
  unfold LamX.CodeO at z
  cases z
theorem codeO_own {c a : Addr} {q : Str} : HO.own a ≠ LamX.CodeO c q := fun z => by
  unfold LamX.CodeO at z
  cases z
/-- an object that changes: what it holds now -/
structure OneAt (E : Str → Option Addr) (G : PySem.W.Frag) (F H : Hp) (a : Addr) (c : Str) (fs : List (Str × PyData)) : Prop where
  fa : F a = none
  ex : ∃ C dx vs, E c = some C ∧ H a = some (.ins C dx vs) ∧ F dx = some (.own a) ∧ DFs G F vs fs
  ok : okFs fs = true
inductive ObsAt (E : Str → Option Addr) (G : PySem.W.Frag) (F H : Hp) : List Addr → List (Str × List (Str × PyData)) → Prop
  | nil : ObsAt E G F H [] []
  | cons {a : Addr} {c : Str} {fs : List (Str × PyData)} {os : List Addr} {ps : List (Str × List (Str × PyData))} : OneAt E G F H a c fs → ObsAt E G F H os ps → ObsAt E G F H (a :: os) ((c, fs) :: ps)
section
variable {E : Str → Option Addr} {G : PySem.W.Frag} {F H F' H' : Hp}
theorem OneAt.toG {a : Addr} {c : Str} {fs : List (Str × PyData)} (h : OneAt E G F H a c fs) (t : KeepT F F') (w : ∀ dx, F dx = some (.own a) → F' dx = some (.own a)) (n : F' a = none) (k : ∀ C dx vs, H a = some (.ins C dx vs) → H' a = some (.ins C dx vs)) : OneAt E G F' H' a c fs := by
  obtain ⟨C, dx, vs, e1, e2, e3, e4⟩ := h.ex
  exact ⟨n, ⟨C, dx, vs, e1, k _ _ _ e2, w _ e3, e4.flatT t h.ok⟩, h.ok⟩
theorem ObsAt.toG {os : List Addr} {ps : List (Str × List (Str × PyData))} (h : ObsAt E G F H os ps) (t : KeepT F F') : (∀ a ∈ os, ∀ dx, F dx = some (.own a) → F' dx = some (.own a)) → (∀ a ∈ os, F a = none → F' a = none) → (∀ a ∈ os, ∀ C dx vs, H a = some (.ins C dx vs) → H' a = some (.ins C dx vs)) → ObsAt E G F' H' os ps := by
  induction h with
  | nil => exact fun _ _ _ => .nil
  | cons h _ ih => exact fun w n k => .cons (h.toG t (w _ (List.mem_cons_self ..)) (n _ (List.mem_cons_self ..) h.fa) (k _ (List.mem_cons_self ..))) (ih (fun a m => w a (List.mem_cons_of_mem _ m)) (fun a m => n a (List.mem_cons_of_mem _ m)) (fun a m => k a (List.mem_cons_of_mem _ m)))
theorem ObsAt.to {os : List Addr} {ps : List (Str × List (Str × PyData))} (h : ObsAt E G F H os ps) (s : Same F F') (n : ∀ a ∈ os, F a = none → F' a = none) (k : ∀ a ∈ os, ∀ C dx vs, H a = some (.ins C dx vs) → H' a = some (.ins C dx vs)) : ObsAt E G F' H' os ps :=
  h.toG (keepT_of s) (fun _ _ _ e => s _ _ e) n k
theorem ObsAt.at_ {os : List Addr} {ps : List (Str × List (Str × PyData))} (h : ObsAt E G F H os ps) {a : Addr} : a ∈ os → ∃ c fs, OneAt E G F H a c fs := by
  induction h with
  | nil => exact fun m => nomatch m
  | cons h _ ih =>
    intro m
    rcases List.mem_cons.mp m with rfl | m
    · exact ⟨_, _, h⟩
    · exact ih m
theorem ObsAt.ins {os : List Addr} {ps : List (Str × List (Str × PyData))} (h : ObsAt E G F H os ps) {a : Addr} (m : a ∈ os) : ∃ C dx vs, H a = some (.ins C dx vs) := by
  obtain ⟨c, fs, o⟩ := h.at_ m
  obtain ⟨C, dx, vs, _, e, _⟩ := o.ex
  exact ⟨C, dx, vs, e⟩
end
structure DeckAt (E : Str → Option Addr) (G : PySem.W.Frag) (k : Dk) (δ : DS) (F H : Hp) : Prop where
  hl : H k.l = some (.lst [.ref k.g, .ref k.c, .int δ.n])
  hg : H k.g = some (.lst (δ.great.map V.int))
  hc : H k.c = some (.lst (δ.cells.map V.int))
  fl : F k.l = none
  fg : F k.g = none
  fc : F k.c = none
  lg : k.l ≠ k.g
  lc : k.l ≠ k.c
  gc : k.g ≠ k.c
  ob : ObsAt E G F H k.os δ.obs
  nd : k.os.Nodup
section
variable {E : Str → Option Addr} {G : PySem.W.Frag} {F H F' H' : Hp} {k : Dk} {δ : DS}
theorem DeckAt.toG (d : DeckAt E G k δ F H) (t : KeepT F F') (w : ∀ a, inDk (some k) a → ∀ dx, F dx = some (.own a) → F' dx = some (.own a)) (n : ∀ a, inDk (some k) a → F a = none → F' a = none) (i : ∀ a C dx vs, inDk (some k) a → H a = some (.ins C dx vs) → H' a = some (.ins C dx vs)) (j : ∀ a vs, inDk (some k) a → H a = some (.lst vs) → H' a = some (.lst vs)) : DeckAt E G k δ F' H' :=
  ⟨j _ _ (.inl rfl) d.hl, j _ _ (.inr (.inl rfl)) d.hg, j _ _ (.inr (.inr (.inl rfl))) d.hc, n _ (.inl rfl) d.fl, n _ (.inr (.inl rfl)) d.fg, n _ (.inr (.inr (.inl rfl))) d.fc, d.lg, d.lc, d.gc,
    d.ob.toG t (fun a m => w a (.inr (.inr (.inr m)))) (fun a m => n a (.inr (.inr (.inr m)))) (fun a m C dx vs => i a C dx vs (.inr (.inr (.inr m)))), d.nd⟩
theorem DeckAt.to (d : DeckAt E G k δ F H) (s : Same F F') (n : ∀ a, inDk (some k) a → F a = none → F' a = none) (i : ∀ a o, inDk (some k) a → H a = some o → H' a = some o) : DeckAt E G k δ F' H' :=
  d.toG (keepT_of s) (fun _ _ _ e => s _ _ e) n (fun a C dx vs m e => i a _ m e) (fun a vs m e => i a _ m e)
/-- one of the deck's lists, or an object -/
theorem DeckAt.kind (d : DeckAt E G k δ F H) {b : Addr} (h : inDk (some k) b) : F b = none ∧ ((∃ vs, H b = some (.lst vs)) ∨ ∃ C dx vs, H b = some (.ins C dx vs)) := by
  rcases h with rfl | rfl | rfl | h
  · exact ⟨d.fl, .inl ⟨_, d.hl⟩⟩
  · exact ⟨d.fg, .inl ⟨_, d.hg⟩⟩
  · exact ⟨d.fc, .inl ⟨_, d.hc⟩⟩
  · obtain ⟨c, fs, o⟩ := d.ob.at_ h
    exact ⟨o.fa, .inr (d.ob.ins h)⟩
theorem DeckAt.some_of (d : DeckAt E G k δ F H) {b : Addr} (h : inDk (some k) b) : H b ≠ none ∧ F b = none := by
  obtain ⟨h1, h2⟩ := d.kind h
  refine ⟨?_, h1⟩
  rcases h2 with ⟨vs, e⟩ | ⟨C, dx, vs, e⟩
  · rw [e]; exact fun z => nomatch z
  · rw [e]; exact fun z => nomatch z
/-- a list of the deck is another one -/
theorem DeckAt.updL (d : ObsAt E G F H k.os δ.obs) {p : Addr} {us vs : List V} (h : H p = some (.lst us)) : ObsAt E G F (L2.upd H p (.lst vs)) k.os δ.obs := by
  refine d.to (Same.refl _) (fun _ _ e => e) (fun a m C dx ws e => ?_)
  rw [upd_ne (fun q => by rw [q, h] at e; cases e)]
  exact e
end
/-- no deck yet -/
def noDS : DS := ⟨[], [], 0, []⟩
def DeckP (E : Str → Option Addr) (G : PySem.W.Frag) : Option Dk → DS → Hp → Hp → Prop
  | none, δ, _, _ => δ = noDS
  | some k, δ, F, H => DeckAt E G k δ F H
/-- what a function that is handed over makes of data -/
abbrev FnD := List PyData → DS → Option (PyData × DS)
/-- the tables of code objects that may grow -/
class NTb where
  T : List NdefX.NTab
  C : FnD → Addr → Hp → Prop
  /-- the classes of the program, by their names -/
  E : Str → Option Addr
  /-- the world -/
  W : World
  /-- the code -/
  G : PySem.W.Frag
def TabF (F H : Hp) (P : Addr) (nm : Nat → Nat → Str) : Prop := ∃ ps : Array Value, H P = some (.tbl ps) ∧ TriplesOk ps.toList ∧ ∀ (pos : Pos) (cv : Value), PySem.codeAmong pos ps.toList = some cv → ∃ c, cv = .ref c ∧ F c = some (LamX.CodeO c (nm pos.line pos.col))
def TabsF (T : List NdefX.NTab) (F H : Hp) : Prop := ∀ p ∈ T, TabF F H p.1 p.2
def DeckOk [NTb] (dk : Option Dk) (δ : DS) (F H : Hp) : Prop := DeckP NTb.E NTb.G dk δ F H ∧ TabsF NTb.T F H ∧ ∀ p ∈ NTb.T, F p.1 = none
/-- known, and no code object -/
def nc (H : Hp) (b : Addr) : Prop := ∃ o, H b = some o ∧ ∀ q, o ≠ LamX.CodeO b q
theorem codeO_lst {c : Addr} {q : Str} {vs : List V} : HO.lst vs ≠ LamX.CodeO c q := fun z => by
  unfold LamX.CodeO at z
  cases z
theorem codeO_tbl {c : Addr} {q : Str} {vs : Array Value} : HO.tbl vs ≠ LamX.CodeO c q := fun z => by
  unfold LamX.CodeO at z
  cases z
theorem nc_lst {H : Hp} {b : Addr} {vs : List V} (h : H b = some (.lst vs)) : nc H b := ⟨_, h, fun _ => codeO_lst⟩
/-- what may have become of the heaps: new things, and the deck's turns -/
structure Ext (dk : Option Dk) (F H F' H' : Hp) : Prop where
  ff : Same F F'
  fh : Same F' H'
  hh : ∀ b o, H b = some o → ¬ inDk dk b → (∀ ps, o ≠ .tbl ps) → H' b = some o
  lv : ∀ b, H b ≠ none → H' b ≠ none
  lc : ∀ b, nc H b → nc H' b
  nf : ∀ b, F b = none → nc H b → F' b = none
theorem Ext.refl {dk : Option Dk} {F H : Hp} (h : Same F H) : Ext dk F H F H := ⟨Same.refl _, h, fun _ _ e _ _ => e, fun _ e => e, fun _ e => e, fun _ e _ => e⟩
theorem Ext.trans {dk : Option Dk} {F H F1 H1 F2 H2 : Hp} (a : Ext dk F H F1 H1) (b : Ext dk F1 H1 F2 H2) : Ext dk F H F2 H2 :=
  ⟨a.ff.trans b.ff, b.fh, fun c o e n t => b.hh c o (a.hh c o e n t) n t, fun c e => b.lv c (a.lv c e), fun c e => b.lc c (a.lc c e), fun c e n => b.nf c (a.nf c e n) (a.lc c n)⟩
theorem ne_none {H : Hp} {b : Addr} {o : HO} (e : H b = some o) : H b ≠ none := by rw [e]; exact fun z => nomatch z
/-- a new thing, known at once -/
theorem Ext.new {dk : Option Dk} {F H : Hp} {p : Addr} {o : HO} (h : Same F H) (hp : H p = none) : Ext dk F H (upd F p o) (upd H p o) := by
  have hF : F p = none := h.free hp
  refine ⟨fun b u e => ?_, fun b u e => ?_, fun b u e _ _ => ?_, fun b e => ?_, fun b ⟨u, e, n⟩ => ⟨u, by rw [upd_ne (ne_of_none e hp)]; exact e, n⟩, fun b e n => ?_⟩
  · rw [upd_ne (ne_of_none e hF)]; exact e
  · by_cases q : b = p
    · subst q; rw [upd_same] at e ⊢; exact e
    · rw [upd_ne q] at e ⊢; exact h b u e
  · rw [upd_ne (ne_of_none e hp)]; exact e
  · by_cases q : b = p
    · subst q; exact absurd hp e
    · rw [upd_ne q]; exact e
  · by_cases q : b = p
    · subst q; obtain ⟨u, z, _⟩ := n; rw [hp] at z; cases z
    · rw [upd_ne q]; exact e
/-- a new thing, not known -/
theorem Ext.open {dk : Option Dk} {F H : Hp} {p : Addr} {o : HO} (h : Same F H) (hp : H p = none) : Ext dk F H F (upd H p o) := by
  refine ⟨Same.refl _, fun b u e => ?_, fun b u e _ _ => ?_, fun b e => ?_, fun b ⟨u, e, n⟩ => ⟨u, by rw [upd_ne (ne_of_none e hp)]; exact e, n⟩, fun b e n => e⟩
  · rw [upd_ne (ne_of_none (h b u e) hp)]; exact h b u e
  · rw [upd_ne (ne_of_none e hp)]; exact e
  · by_cases q : b = p
    · subst q; exact absurd hp e
    · rw [upd_ne q]; exact e
theorem DeckP.new {E : Str → Option Addr} {G : PySem.W.Frag} {dk : Option Dk} {δ : DS} {F H : Hp} {p : Addr} {o : HO} (d : DeckP E G dk δ F H) (hp : H p = none) (sm : Same F H) : DeckP E G dk δ (upd F p o) (upd H p o) := by
  cases dk with
  | none => exact d
  | some k =>
    have hF : F p = none := sm.free hp
    refine DeckAt.to d (fun b u e => by rw [upd_ne (ne_of_none e hF)]; exact e) (fun a m e => ?_) (fun a u m e => by rw [upd_ne (ne_of_none e hp)]; exact e)
    rw [upd_ne]
    · exact e
    · exact fun q => (DeckAt.some_of d m).1 (by rw [q]; exact hp)
theorem tab_ne {F H : Hp} {b : Addr} {nm : Nat → Nat → Str} (t : TabF F H b nm) : H b ≠ none := by
  obtain ⟨ps, e, _⟩ := t
  exact ne_none e
theorem DeckOk.new [NTb] {dk : Option Dk} {δ : DS} {F H : Hp} {p : Addr} {o : HO} (d : DeckOk dk δ F H) (hp : H p = none) (sm : Same F H) : DeckOk dk δ (upd F p o) (upd H p o) := by
  refine ⟨d.1.new hp sm, fun q hq => ?_, fun q hq => ?_⟩
  · obtain ⟨ps, h1, h2, h3⟩ := d.2.1 q hq
    refine ⟨ps, by rw [upd_ne (ne_of_none h1 hp)]; exact h1, h2, fun pos cv e => ?_⟩
    obtain ⟨c, e1, e2⟩ := h3 pos cv e
    exact ⟨c, e1, by rw [upd_ne (ne_of_none (sm _ _ e2) hp)]; exact e2⟩
  · have h1 : q.1 ≠ p := fun z => tab_ne (d.2.1 q hq) (by rw [z]; exact hp)
    rw [upd_ne h1]
    exact d.2.2 q hq
theorem DeckP.hp {E : Str → Option Addr} {G : PySem.W.Frag} {dk : Option Dk} {δ : DS} {F H H' : Hp} (d : DeckP E G dk δ F H) (k : ∀ b, inDk dk b → H' b = H b) : DeckP E G dk δ F H' := by
  cases dk with
  | none => exact d
  | some k' => exact DeckAt.to d (Same.refl _) (fun _ _ e => e) (fun a o m e => by rw [k a m]; exact e)
theorem tabs_keep {T : List NdefX.NTab} {F H H' : Hp} (t : TabsF T F H) (k : ∀ b o, H b = some o → (∃ ps, o = .tbl ps) → H' b = some o) : TabsF T F H' := fun p hp => by
  obtain ⟨ps, h1, h2, h3⟩ := t p hp
  exact ⟨ps, k _ _ h1 ⟨_, rfl⟩, h2, h3⟩
theorem DeckOk.hp [NTb] {dk : Option Dk} {δ : DS} {F H H' : Hp} (d : DeckOk dk δ F H) (k : ∀ b, inDk dk b → H' b = H b) (t : ∀ b o, H b = some o → (∃ ps, o = .tbl ps) → H' b = some o) : DeckOk dk δ F H' := ⟨d.1.hp k, tabs_keep d.2.1 t, d.2.2⟩
theorem DeckP.some_of {E : Str → Option Addr} {G : PySem.W.Frag} {dk : Option Dk} {δ : DS} {F H : Hp} (d : DeckP E G dk δ F H) {b : Addr} (h : inDk dk b) : H b ≠ none ∧ F b = none := by
  cases dk with
  | none => exact h.elim
  | some k => exact DeckAt.some_of d h
theorem DeckOk.some_of [NTb] {dk : Option Dk} {δ : DS} {F H : Hp} (d : DeckOk dk δ F H) {b : Addr} (h : inDk dk b) : H b ≠ none ∧ F b = none := d.1.some_of h
/-- other things that are known and stay as they are -/
inductive GX where
  /-- a dict whose keys are tuples, locked -/
  | nt (kvs : List (NestedKey × PyData))
  /-- the object that changes, at this place -/
  | am (i : Nat)
/-- what a slot is known to hold -/
inductive SV where
  | un
  | dat (d : PyData)
  | own (ds : List PyData)
  | deck
  | scr (ns : List Int)
  | fn (g : FnD)
  /-- a dict of one's own -/
  | od (kvs : List (Key × PyData))
  /-- an object that is known and stays as it is -/
  | ob (c : Str) (fs : List (Str × PyData))
  /-- any other thing that is known and stays as it is -/
  | kn (o : HO)
  /-- a dict of one's own, its keys tuples -/
  | ot (kvs : List (NestedKey × PyData))
  | gx (x : GX)
abbrev AS := List SV
inductive DKv (K : PySem.W.Frag) (F : Hp) : List (Key × V) → List (Key × PyData) → Prop
  | nil : DKv K F [] []
  | cons {k : Key} {v : V} {d : PyData} {vs : List (Key × V)} {ds : List (Key × PyData)} : Dv K F v d → DKv K F vs ds → DKv K F ((k, v) :: vs) ((k, d) :: ds)
theorem DKv.mono {K : PySem.W.Frag} {F F' : Hp} (e : Same F F') {vs : List (Key × V)} {ds : List (Key × PyData)} (h : DKv K F vs ds) : DKv K F' vs ds := by
  induction h with
  | nil => exact .nil
  | cons h _ ih => exact .cons (Dv.mono e h) ih
/-- an object of the class named c, known -/
def ObAt [NTb] (K : PySem.W.Frag) (F : Hp) (v : V) (c : Str) (fs : List (Str × PyData)) : Prop := ∃ a C dx vs, v = .ref a ∧ NTb.E c = some C ∧ F a = some (.ins C dx vs) ∧ F dx = some (.own a) ∧ DFs K F vs fs
theorem ObAt.mono [NTb] {K : PySem.W.Frag} {F F' : Hp} (e : Same F F') {v : V} {c : Str} {fs : List (Str × PyData)} (h : ObAt K F v c fs) : ObAt K F' v c fs := by
  obtain ⟨a, C, dx, vs, h1, h2, h3, h4, h5⟩ := h
  exact ⟨a, C, dx, vs, h1, h2, e _ _ h3, e _ _ h4, h5.mono e⟩
theorem codeO_dK {c : Addr} {q : Str} {vs : List (Key × V)} : HO.dK vs ≠ LamX.CodeO c q := fun z => by
  unfold LamX.CodeO at z
  cases z
/-- a dict with tuples as keys: its hashes, its keys' places, its values -/
def NDat (w : World) (h : Heap) (a : Addr) (xs : List (NestedKey × Addr × V)) : Prop := (a == sysModules) = false ∧ (xs.map (·.1)).Nodup ∧ ∃ (o : Obj) (es : Array DictEntry) (ep : Nat) (ys : List (NestedKey × Addr × Value)), h.get? a = some o ∧ o.ExactDict ∧ o.data = .dict es ep ∧
  es.toList = ys.map (fun y => (⟨y.1.hash w, .ref y.2.1, y.2.2⟩ : DictEntry)) ∧ Paired (fun (x : NestedKey × Addr × V) (y : NestedKey × Addr × Value) => x.1 = y.1 ∧ x.2.1 = y.2.1 ∧ RelV x.2.2 y.2.2) xs ys
def NDO (w : World) (a : Addr) (xs : List (NestedKey × Addr × V)) : HO := .ext fun h => NDat w h a xs
inductive NKv (K : PySem.W.Frag) (F : Hp) : List (NestedKey × Addr × V) → List (NestedKey × PyData) → Prop
  | nil : NKv K F [] []
  | cons {k : NestedKey} {a : Addr} {v : V} {e : PyData} {xs : List (NestedKey × Addr × V)} {ds : List (NestedKey × PyData)} : Dv K F (.ref a) k.data → k.depth ≤ 8 → Dv K F v e → NKv K F xs ds → NKv K F ((k, a, v) :: xs) ((k, e) :: ds)
theorem NKv.mono {K : PySem.W.Frag} {F F' : Hp} (e : Same F F') {xs : List (NestedKey × Addr × V)} {ds : List (NestedKey × PyData)} (h : NKv K F xs ds) : NKv K F' xs ds := by
  induction h with
  | nil => exact .nil
  | cons h1 h3 h4 _ ih => exact .cons (Dv.mono e h1) h3 (Dv.mono e h4) ih
theorem NKv.len {K : PySem.W.Frag} {F : Hp} {xs : List (NestedKey × Addr × V)} {ds : List (NestedKey × PyData)} (h : NKv K F xs ds) : xs.length = ds.length := by
  induction h with
  | nil => rfl
  | cons _ _ _ _ ih => simp [ih]
theorem codeO_nd {w : World} {a c : Addr} {q : Str} {xs : List (NestedKey × Addr × V)} : NDO w a xs ≠ LamX.CodeO c q := fun z => by
  unfold NDO LamX.CodeO at z
  injection z with z
  have e := congrFun z ⟨Array.replicate (c + 1) { cls := .none, data := .fields #[.none, .str q 0] }, {}⟩
  have g : ∀ b o, (⟨Array.replicate (c + 1) { cls := .none, data := .fields #[.none, .str q 0] }, {}⟩ : Heap).get? b = some o → o.data = .fields #[.none, .str q 0] := fun b o h => by
    unfold Heap.get? at h
    by_cases l : b < c + 1
    · simp [l] at h
      rw [← h]
    · simp [l] at h
  have t : NDat w ⟨Array.replicate (c + 1) { cls := .none, data := .fields #[.none, .str q 0] }, {}⟩ a xs := by
    rw [e]
    exact ⟨{ cls := .none, data := .fields #[.none, .str q 0] }, #[.none, .str q 0], 0, by simp [Heap.get?], rfl, rfl⟩
  obtain ⟨_, _, o, es, ep, ys, h1, _, h2, _⟩ := t
  rw [g a o h1] at h2
  cases h2
theorem nd_lst {w : World} {a : Addr} {xs : List (NestedKey × Addr × V)} {vs : List V} (h : some (HO.lst vs) = some (NDO w a xs)) : False := by
  unfold NDO at h
  cases h
def KnAt (F : Hp) (v : V) (o : HO) : Prop := ∃ a, v = .ref a ∧ F a = some o
theorem KnAt.mono {F F' : Hp} (e : Same F F') {v : V} {o : HO} (h : KnAt F v o) : KnAt F' v o := let ⟨a, h1, h2⟩ := h; ⟨a, h1, e _ _ h2⟩
/-- the object at place i -/
def AmAt (dk : Option Dk) (v : V) (i : Nat) : Prop := ∃ k a, dk = some k ∧ k.os[i]? = some a ∧ v = .ref a
def GxAt [NTb] (K : PySem.W.Frag) (dk : Option Dk) (F : Hp) (v : V) : GX → Prop
  | .nt kvs => ∃ (a : Addr) (od : Obj) (xs : List (NestedKey × Addr × V)), v = .ref a ∧ F a = some (.frz od (NDO NTb.W a xs)) ∧ NKv K F xs kvs
  | .am i => AmAt dk v i
theorem GxAt.mono [NTb] {K : PySem.W.Frag} {dk : Option Dk} {F F' : Hp} (e : Same F F') {v : V} : ∀ {x : GX}, GxAt K dk F v x → GxAt K dk F' v x
  | .nt _, h => let ⟨a, od, xs, h1, h2, h3⟩ := h; ⟨a, od, xs, h1, e _ _ h2, h3.mono e⟩
  | .am _, h => h
def SlotV [NTb] (K : PySem.W.Frag) (dk : Option Dk) (F H : Hp) (v : V) : SV → Prop
  | .un => True
  | .dat d => Dv K F v d
  | .own ds => ∃ a vs, v = .ref a ∧ F a = none ∧ ¬ inDk dk a ∧ H a = some (.lst vs) ∧ DvAll K F vs ds
  | .deck => ∃ k, dk = some k ∧ v = .ref k.l
  | .scr ns => ∃ a, v = .ref a ∧ SqL K F a (ns.map V.int)
  | .fn g => ∃ a G, v = .ref a ∧ Same G F ∧ NTb.C g a G
  | .od kvs => ∃ a vs, v = .ref a ∧ F a = none ∧ ¬ inDk dk a ∧ H a = some (.dK vs) ∧ DKv K F vs kvs
  | .ob c fs => ObAt K F v c fs
  | .kn o => KnAt F v o
  | .gx x => GxAt K dk F v x
  | .ot kvs => ∃ (a : Addr) (xs : List (NestedKey × Addr × V)), v = .ref a ∧ F a = none ∧ ¬ inDk dk a ∧ H a = some (NDO NTb.W a xs) ∧ NKv K F xs kvs
structure Ok [NTb] (K : PySem.W.Frag) (dk : Option Dk) (z : AS) (δ : DS) (σ : St) (F H : Hp) : Prop where
  fh : Same F H
  deck : DeckOk dk δ F H
  len : z.length = σ.length
  sl : ∀ (i : Nat) (sv : SV), z[i]? = some sv → sv ≠ .un → ∃ v, σ[i]? = some (some v) ∧ SlotV K dk F H v sv
  dis : ∀ (i j : Nat) (a : Addr) (ds es : List PyData), i ≠ j → z[i]? = some (.own ds) → z[j]? = some (.own es) → σ[i]? = some (some (.ref a)) → σ[j]? ≠ some (some (.ref a))
  dit : ∀ (i j : Nat) (a : Addr) (ds es : List (NestedKey × PyData)), i ≠ j → z[i]? = some (.ot ds) → z[j]? = some (.ot es) → σ[i]? = some (some (.ref a)) → σ[j]? ≠ some (some (.ref a))
/-- what is one's own was made behind the entry -/
def SV.mine : SV → Prop
  | .own _ => True
  | .od _ => True
  | .ot _ => True
  | _ => False
def Fresh (z : AS) (σ : St) (H0 : Hp) : Prop := ∀ (i : Nat) (sv : SV) (a : Addr), sv.mine → z[i]? = some sv → σ[i]? = some (some (.ref a)) → H0 a = none
theorem SlotV.ext [NTb] {K : PySem.W.Frag} {dk : Option Dk} {F H F' H' : Hp} (x : Ext dk F H F' H') {v : V} : ∀ {sv : SV}, SlotV K dk F H v sv → SlotV K dk F' H' v sv
  | .un, _ => True.intro
  | .dat _, h => Dv.mono x.ff h
  | .own _, ⟨a, vs, e, hf, hd, hh, hv⟩ => ⟨a, vs, e, x.nf a hf (nc_lst hh), hd, x.hh a _ hh hd (fun _ q => nomatch q), DvAll.mono x.ff hv⟩
  | .deck, h => h
  | .scr _, ⟨a, e, h⟩ => ⟨a, e, Same.seq x.ff h⟩
  | .fn _, ⟨a, G, e, g, h⟩ => ⟨a, G, e, g.trans x.ff, h⟩
  | .od _, ⟨a, vs, e, hf, hd, hh, hv⟩ => ⟨a, vs, e, x.nf a hf ⟨_, hh, fun _ => codeO_dK⟩, hd, x.hh a _ hh hd (fun _ q => nomatch q), hv.mono x.ff⟩
  | .ob _ _, h => h.mono x.ff
  | .kn _, h => h.mono x.ff
  | .gx _, h => h.mono x.ff
  | .ot _, ⟨a, xs, e, hf, hd, hh, hv⟩ => ⟨a, xs, e, x.nf a hf ⟨_, hh, fun _ => codeO_nd⟩, hd, x.hh a _ hh hd (fun _ q => nomatch q), hv.mono x.ff⟩
theorem Ok.ext [NTb] {K : PySem.W.Frag} {dk : Option Dk} {z : AS} {δ δ' : DS} {σ : St} {F H F' H' : Hp} (o : Ok K dk z δ σ F H) (x : Ext dk F H F' H') (d : DeckOk dk δ' F' H') : Ok K dk z δ' σ F' H' :=
  ⟨x.fh, d, o.len, fun i sv e n => let ⟨v, h1, h2⟩ := o.sl i sv e n; ⟨v, h1, h2.ext x⟩, o.dis, o.dit⟩
abbrev M (α : Type) := DS → Option (α × DS)
def M.pur {α : Type} (a : α) : M α := fun δ => some (a, δ)
def M.no {α : Type} : M α := fun _ => none
def M.bnd {α β : Type} (x : M α) (f : α → M β) : M β := fun δ => match x δ with
  | none => none
  | some (a, δ') => f a δ'
def M.opt {α : Type} (o : Option α) : M α := fun δ => o.map fun a => (a, δ)
theorem M.bnd_some {α β : Type} {x : M α} {f : α → M β} {δ δ2 : DS} {b : β} (h : M.bnd x f δ = some (b, δ2)) : ∃ a δ1, x δ = some (a, δ1) ∧ f a δ1 = some (b, δ2) := by
  unfold M.bnd at h
  cases e : x δ with
  | none => rw [e] at h; cases h
  | some p => obtain ⟨a, δ1⟩ := p; rw [e] at h; exact ⟨a, δ1, rfl, h⟩
theorem M.opt_some {α : Type} {o : Option α} {δ δ' : DS} {a : α} (h : M.opt o δ = some (a, δ')) : o = some a ∧ δ' = δ := by
  unfold M.opt at h
  cases o with
  | none => cases h
  | some b => injection h with h; injection h with h1 h2; exact ⟨by rw [h1], h2.symm⟩
theorem M.pur_some {α : Type} {a b : α} {δ δ' : DS} (h : M.pur a δ = some (b, δ')) : b = a ∧ δ' = δ := by
  injection h with h; injection h with h1 h2; exact ⟨h1.symm, h2.symm⟩
/-- read or owned: a list whose items are known -/
def View (K : PySem.W.Frag) (F H : Hp) (v : V) (d : PyData) : Prop := Dv K F v d ∨ ∃ a vs ds, v = .ref a ∧ d = .list ds ∧ H a = some (.lst vs) ∧ DvAll K F vs ds
def tE [NTb] (K : PySem.W.Frag) (f : AS → M PyData) : TE := fun σ H Q => ∃ dk F z δ d δ', f z δ = some (d, δ') ∧ Ok K dk z δ σ F H ∧ ∀ v F' H', Ext dk F H F' H' → DeckOk dk δ' F' H' → Dv K F' v d → Q v H'
def tVw [NTb] (K : PySem.W.Frag) (f : AS → M PyData) : TE := fun σ H Q => ∃ dk F z δ d δ', f z δ = some (d, δ') ∧ Ok K dk z δ σ F H ∧ ∀ v F' H', Ext dk F H F' H' → DeckOk dk δ' F' H' → View K F' H' v d → Q v H'
def tC [NTb] (K : PySem.W.Frag) (f : AS → M Bool) : TT := fun σ H Q => ∃ dk F z δ d δ', f z δ = some (d, δ') ∧ Ok K dk z δ σ F H ∧ ∀ F' H', Ext dk F H F' H' → DeckOk dk δ' F' H' → Q d H'
inductive AV where
  | d (x : PyData)
  | deck
  | fn (g : FnD)
  | ob (c : Str) (fs : List (Str × PyData))
  /-- the object that changes, at this place -/
  | am (i : Nat)
def AVok [NTb] (K : PySem.W.Frag) (dk : Option Dk) (F : Hp) (v : V) : AV → Prop
  | .d x => Dv K F v x
  | .deck => ∃ k, dk = some k ∧ v = .ref k.l
  | .fn g => ∃ a G, v = .ref a ∧ Same G F ∧ NTb.C g a G
  | .ob c fs => ObAt K F v c fs
  | .am i => AmAt dk v i
theorem AVok.ext [NTb] {K : PySem.W.Frag} {dk : Option Dk} {F F' : Hp} (x : Same F F') {v : V} : ∀ {a : AV}, AVok K dk F v a → AVok K dk F' v a
  | .d _, h => Dv.mono x h
  | .deck, h => h
  | .fn _, ⟨a, G, e, g, h⟩ => ⟨a, G, e, g.trans x, h⟩
  | .ob _ _, h => h.mono x
  | .am _, h => h
inductive AVs [NTb] (K : PySem.W.Frag) (dk : Option Dk) (F : Hp) : List V → List AV → Prop
  | nil : AVs K dk F [] []
  | cons {v : V} {vs : List V} {a : AV} {as : List AV} : AVok K dk F v a → AVs K dk F vs as → AVs K dk F (v :: vs) (a :: as)
theorem AVs.ext [NTb] {K : PySem.W.Frag} {dk : Option Dk} {F F' : Hp} (x : Same F F') : ∀ {vs : List V} {as : List AV}, AVs K dk F vs as → AVs K dk F' vs as
  | _, _, .nil => .nil
  | _, _, .cons h t => .cons (h.ext x) (AVs.ext x t)
def tAr [NTb] (K : PySem.W.Frag) (f : AS → M (List AV)) : TA := fun σ H Q => ∃ dk F z δ as δ', f z δ = some (as, δ') ∧ Ok K dk z δ σ F H ∧ ∀ vs F' H', Ext dk F H F' H' → DeckOk dk δ' F' H' → AVs K dk F' vs as → Q vs H'
inductive Fl where
  | nx (z : AS) | rt (d : PyData) | bk (z : AS) | ct (z : AS) | ex (c : Str) (fs : List (Str × PyData)) (z : AS)
/-- what X wishes of an exception that leaves it here -/
def Wx (X : Cx) : WX := fun cls d σ H => ∀ u s', XE X (fun c' d' σ' H' => c' = cls ∧ d' = d ∧ σ' = σ ∧ H' = H) u s' → X.xe u s'
theorem takes_Wx {X : Cx} : Takes X (Wx X) := fun u s' ⟨a, B, sI, pins, σ, H, cls, d, e, I, nb, up, sky, na, os, ag, w⟩ => w u s' ⟨a, B, sI, pins, σ, H, cls, d, e, I, nb, up, sky, na, os, ag, ⟨rfl, rfl, rfl, rfl⟩⟩
/-- what an exception carries: in its own dict -/
def ExOk (K : PySem.W.Frag) (F H : Hp) (d : Option Addr) (fs : List (Str × PyData)) : Prop := (d = none ∧ fs = []) ∨ ∃ dd f v a, d = some dd ∧ fs = [(f, a)] ∧ H dd = some (.xd [(f, v)]) ∧ Dv K F v a
/-- where a statement that began at F ends, seen from (F0, H0) -/
def EndOk [NTb] (X : Cx) (dk : Option Dk) (F0 H0 F : Hp) (δ : DS) (D : Ends) : Fl → Prop
  | .nx z => ∀ σ F' H, Ext dk F0 H0 F' H → Same F F' → Ok X.K dk z δ σ F' H → Fresh z σ H0 → D.nx σ H
  | .bk z => ∀ σ F' H, Ext dk F0 H0 F' H → Same F F' → Ok X.K dk z δ σ F' H → Fresh z σ H0 → D.bk σ H
  | .ct z => ∀ σ F' H, Ext dk F0 H0 F' H → Same F F' → Ok X.K dk z δ σ F' H → Fresh z σ H0 → D.ct σ H
  | .rt d => ∀ v F' H, Ext dk F0 H0 F' H → DeckOk dk δ F' H → Dv X.K F' v d → D.rt v H
  | .ex c fs z => ∀ C σ F' H d, NTb.E c = some C → Ext dk F0 H0 F' H → Same F F' → Ok X.K dk z δ σ F' H → Fresh z σ H0 → ExOk X.K F' H d fs → Wx X (.ref C) d σ H
theorem EndOk.mono [NTb] {X : Cx} {dk : Option Dk} {F0 H0 F F1 : Hp} {δ : DS} {D : Ends} (s : Same F F1) : ∀ {fl : Fl}, EndOk X dk F0 H0 F δ D fl → EndOk X dk F0 H0 F1 δ D fl
  | .nx _, k => fun σ F' H x s' => k σ F' H x (s.trans s')
  | .bk _, k => fun σ F' H x s' => k σ F' H x (s.trans s')
  | .ct _, k => fun σ F' H x s' => k σ F' H x (s.trans s')
  | .rt _, k => k
  | .ex _ _ _, k => fun C σ F' H d e x s' => k C σ F' H d e x (s.trans s')
def tSt [NTb] (X : Cx) (g : AS → M Fl) : TS := fun D σ H => ∃ dk F0 H0 F z δ fl δ', g z δ = some (fl, δ') ∧ Ext dk F0 H0 F H ∧ Ok X.K dk z δ σ F H ∧ Fresh z σ H0 ∧ EndOk X dk F0 H0 F δ' D fl
abbrev JE [NTb] (X : Cx) (f : AS → M PyData) (e : Expr) : Prop := PE X e (tE X.K f)
abbrev JV [NTb] (X : Cx) (f : AS → M PyData) (e : Expr) : Prop := PE X e (tVw X.K f)
abbrev JC [NTb] (X : Cx) (f : AS → M Bool) (e : Expr) : Prop := PT X e (tC X.K f)
abbrev JA [NTb] (X : Cx) (f : AS → M (List AV)) (es : List Expr) : Prop := PA X es (tAr X.K f)
abbrev JS [NTb] (X : Cx) (g : AS → M Fl) (st : Stmt) : Prop := PS X st (tSt X g)
abbrev JSs [NTb] (X : Cx) (g : AS → M Fl) (st : List Stmt) : Prop := PSs X st (tSt X g)
section
variable {X : Cx} {e a b c : Expr} {es : List Expr}
theorem PE_imp {t t' : TE} (h : PE X e t) (i : ∀ σ H Q, t' σ H Q → t σ H Q) : PE X e t' := ⟨fun pins s σ H Q I q => h.run pins s σ H Q I (i σ H Q q)⟩
theorem PT_imp {t t' : TT} (h : PT X e t) (i : ∀ σ H Q, t' σ H Q → t σ H Q) : PT X e t' := ⟨fun pins s σ H Q I q => h.run pins s σ H Q I (i σ H Q q)⟩
theorem PW_imp {t t' : TT} (h : PW X e t) (i : ∀ σ H Q, t' σ H Q → t σ H Q) : PW X e t' := ⟨fun wh pins s σ H Q I q => h.run wh pins s σ H Q I (i σ H Q q)⟩
theorem PA_imp {t t' : TA} (h : PA X es t) (i : ∀ σ H Q, t' σ H Q → t σ H Q) : PA X es t' := ⟨fun pos pins s σ H Q I q => h.run pos pins s σ H Q I (i σ H Q q)⟩
theorem PS_imp {st : Stmt} {t t' : TS} (h : PS X st t) (i : ∀ D σ H, t' D σ H → t D σ H) : PS X st t' := ⟨fun pins s σ H D I q => h.run pins s σ H D I (i D σ H q)⟩
theorem PSs_imp {st : List Stmt} {t t' : TS} (h : PSs X st t) (i : ∀ D σ H, t' D σ H → t D σ H) : PSs X st t' := ⟨fun pins s σ H D I q => h.run pins s σ H D I (i D σ H q)⟩
def eC (d : PyData) : AS → M PyData := fun _ => M.pur d
def eVar (i : Nat) : AS → M PyData := fun z => match z[i]? with
  | some (.dat d) => M.pur d
  | _ => M.no
/-- a name whose list is one's own: to be read at once -/
def eOwn (i : Nat) : AS → M PyData := fun z => match z[i]? with
  | some (.own ds) => M.pur (.list ds)
  | _ => M.no
theorem eVar_some {i : Nat} {z : AS} {δ δ' : DS} {d : PyData} (h : eVar i z δ = some (d, δ')) : z[i]? = some (.dat d) ∧ δ' = δ := by
  unfold eVar at h
  cases hz : z[i]? with
  | none => rw [hz] at h; cases h
  | some sv =>
    rw [hz] at h
    cases sv with
    | dat e => obtain ⟨rfl, rfl⟩ := M.pur_some h; exact ⟨rfl, rfl⟩
    | un => cases h
    | own _ => cases h
    | deck => cases h
    | scr _ => cases h
    | fn _ => cases h
    | od _ => cases h
    | ot _ => cases h
    | ob _ _ => cases h
    | kn _ => cases h
    | gx _ => cases h
theorem eOwn_some {i : Nat} {z : AS} {δ δ' : DS} {d : PyData} (h : eOwn i z δ = some (d, δ')) : ∃ ds, d = .list ds ∧ z[i]? = some (.own ds) ∧ δ' = δ := by
  unfold eOwn at h
  cases hz : z[i]? with
  | none => rw [hz] at h; cases h
  | some sv =>
    rw [hz] at h
    cases sv with
    | own e => obtain ⟨rfl, rfl⟩ := M.pur_some h; exact ⟨_, rfl, rfl, rfl⟩
    | un => cases h
    | dat _ => cases h
    | deck => cases h
    | scr _ => cases h
    | fn _ => cases h
    | od _ => cases h
    | ot _ => cases h
    | ob _ _ => cases h
    | kn _ => cases h
    | gx _ => cases h
theorem je_const [NTb] {v : V} {d : PyData} (h : PE X e (L2.tC v)) (r : ∀ F, Dv X.K F v d) : JE X (eC d) e := PE_imp h fun σ H Q ⟨dk, F, z, δ, d', δ', hf, ok, k⟩ => by
  obtain ⟨rfl, rfl⟩ := M.pur_some hf
  exact k v F H (.refl ok.fh) ok.deck (r F)
theorem je_int [NTb] {i j pos} : JE X (eC (.int i)) (.Constant (.int i) j pos) := je_const pe_int fun _ => .int i
theorem je_bl [NTb] {b j pos} : JE X (eC (.bool b)) (.Constant (.bool b) j pos) := je_const pe_bl fun _ => .bl b
theorem je_non [NTb] {j pos} : JE X (eC .none) (.Constant .none j pos) := je_const pe_non fun _ => .non
theorem je_str [NTb] {x j pos} : JE X (eC (.str x)) (.Constant (.str x) j pos) := je_const pe_str fun _ => .str x
theorem je_var [NTb] {i : Nat} (h : PE X e (tVar i)) : JE X (eVar i) e := PE_imp h fun σ H Q ⟨dk, F, z, δ, d', δ', hf, ok, k⟩ => by
  obtain ⟨hz, rfl⟩ := eVar_some hf
  obtain ⟨v, e1, e2⟩ := ok.sl i _ hz (fun q => nomatch q)
  exact ⟨v, e1, k v F H (.refl ok.fh) ok.deck e2⟩
theorem jv_own [NTb] {i : Nat} (h : PE X e (tVar i)) : JV X (eOwn i) e := PE_imp h fun σ H Q ⟨dk, F, z, δ, d', δ', hf, ok, k⟩ => by
  obtain ⟨ds, rfl, hz, rfl⟩ := eOwn_some hf
  obtain ⟨v, e1, a, vs, rfl, hf, hd, hh, hv⟩ := ok.sl i _ hz (fun q => nomatch q)
  exact ⟨_, e1, k _ F H (.refl ok.fh) ok.deck (.inr ⟨a, vs, ds, rfl, rfl, hh, hv⟩)⟩
theorem JE.view [NTb] {f : AS → M PyData} (h : JE X f e) : JV X f e := PE_imp h fun σ H Q ⟨dk, F, z, δ, d', δ', hf, ok, k⟩ => ⟨dk, F, z, δ, d', δ', hf, ok, fun v F' H' x d r => k v F' H' x d (.inl r)⟩
end
end VL
set_option Elab.async false
set_option linter.all false
set_option maxRecDepth 100000
namespace VL
open PySem PySem.Spec L2
/-- nothing but new things: whatever the deck's state -/
structure Grow [NTb] (dk : Option Dk) (F H F' H' : Hp) : Prop where
  x : Ext dk F H F' H'
  d : ∀ δ, DeckOk dk δ F H → DeckOk dk δ F' H'
theorem Grow.refl [NTb] {dk : Option Dk} {F H : Hp} (h : Same F H) : Grow dk F H F H := ⟨.refl h, fun _ d => d⟩
theorem Grow.new [NTb] {dk : Option Dk} {F H : Hp} {p : Addr} {o : HO} (h : Same F H) (hp : H p = none) : Grow dk F H (upd F p o) (upd H p o) := ⟨.new h hp, fun _ d => d.new hp h⟩
theorem Grow.open [NTb] {dk : Option Dk} {F H : Hp} {p : Addr} {o : HO} (h : Same F H) (hp : H p = none) : Grow dk F H F (upd H p o) := ⟨.open h hp, fun _ d => d.hp (fun b hb => by
  rw [upd_ne]
  intro e
  subst e
  exact (d.some_of hb).1 hp) fun b o e _ => by rw [upd_ne (ne_of_none e hp)]; exact e⟩
theorem Grow.trans [NTb] {dk : Option Dk} {F H F1 H1 F2 H2 : Hp} (a : Grow dk F H F1 H1) (b : Grow dk F1 H1 F2 H2) : Grow dk F H F2 H2 := ⟨a.x.trans b.x, fun δ d => b.d δ (a.d δ d)⟩
theorem View.list {K : PySem.W.Frag} {F H : Hp} {v : V} {ds : List PyData} (s : Same F H) (h : View K F H v (.list ds)) : ∃ a vs, v = .ref a ∧ H a = some (.lst vs) ∧ DvAll K F vs ds := by
  rcases h with h | ⟨a, vs, ds', rfl, e, h1, h2⟩
  · cases h with
    | lst h1 h2 => exact ⟨_, _, rfl, s _ _ h1, h2⟩
  · injection e with e
    subst e
    exact ⟨a, vs, rfl, h1, h2⟩
theorem View.tup {K : PySem.W.Frag} {F H : Hp} {v : V} {ds : List PyData} (s : Same F H) (h : View K F H v (.tuple ds)) : ∃ a vs, v = .ref a ∧ SqT K F a vs ∧ DvAll K F vs ds := by
  rcases h with h | ⟨a, vs, ds', rfl, e, h1, h2⟩
  · cases h with
    | tup h1 h2 => exact ⟨_, _, rfl, h1, h2⟩
  · cases e
theorem View.dv {K : PySem.W.Frag} {F H : Hp} {v : V} {d : PyData} (h : View K F H v d) (n : ∀ ds, d ≠ .list ds) : Dv K F v d := by
  rcases h with h | ⟨a, vs, ds', rfl, e, h1, h2⟩
  · exact h
  · exact absurd e (n _)
def OpD [NTb] (K : PySem.W.Frag) (r : R2) (g : PyData → PyData → Option PyData) : Prop := ∀ (dk : Option Dk) (F H : Hp) (x y : V) (d e w : PyData) (Q : VK), Same F H → Dv K F x d → Dv K F y e → g d e = some w →
  (∀ v F' H', Grow dk F H F' H' → Dv K F' v w → Q v H') → r x y H Q
def eBin (g : PyData → PyData → Option PyData) (fa fb : AS → M PyData) : AS → M PyData := fun z => M.bnd (fa z) fun d => M.bnd (fb z) fun e => M.opt (g d e)
def cBin (g : PyData → PyData → Option Bool) (fa fb : AS → M PyData) : AS → M Bool := fun z => M.bnd (fa z) fun d => M.bnd (fb z) fun e => M.opt (g d e)
def bl (g : PyData → PyData → Option Bool) : PyData → PyData → Option PyData := fun d e => (g d e).map .bool
section
variable {X : Cx} {e a b c : Expr} {es : List Expr} {fa fb fc : AS → M PyData} {pos : Pos}
theorem tOp_of [NTb] {r : R2} {g : PyData → PyData → Option PyData} (hg : OpD X.K r g) {σ : L2.St} {H : Hp} {Q : VK} {dk : Option Dk} {F : Hp} {z : AS} {δ δ' : DS} {w : PyData} (hf : eBin g fa fb z δ = some (w, δ')) (ok : Ok X.K dk z δ σ F H)
    (k : ∀ v F' H', Ext dk F H F' H' → DeckOk dk δ' F' H' → Dv X.K F' v w → Q v H') : tOp r (tE X.K fa) (tE X.K fb) σ H Q := by
  obtain ⟨d, δ1, h1, hf⟩ := M.bnd_some hf
  obtain ⟨e, δ2, h2, hf⟩ := M.bnd_some hf
  obtain ⟨h3, rfl⟩ := M.opt_some hf
  refine ⟨dk, F, z, δ, d, δ1, h1, ok, fun v1 F1 H1 x1 d1 r1 => ⟨dk, F1, z, δ1, e, _, h2, ok.ext x1 d1, fun v2 F2 H2 x2 d2 r2 => ?_⟩⟩
  exact hg dk F2 H2 v1 v2 d e w Q x2.fh (Dv.mono x2.ff r1) r2 h3 fun v F' H' gr r => k v F' H' (x1.trans (x2.trans gr.x)) (gr.d _ d2) r
theorem je_op [NTb] {op : Operator} {r : R2} {g : PyData → PyData → Option PyData} (ho : OpR X (binaryOp op) r) (hg : OpD X.K r g) (ha : JE X fa a) (hb : JE X fb b) : JE X (eBin g fa fb) (.BinOp a op b pos) :=
  PE_imp (pe_op ho ha hb) fun σ H Q ⟨dk, F, z, δ, d, δ', hf, ok, k⟩ => tOp_of hg hf ok k
theorem je_cmp [NTb] {op : CmpOp} {r : R2} {g : PyData → PyData → Option Bool} (ho : OpR X (compareOp op) r) (hg : OpD X.K r (bl g)) (ha : JE X fa a) (hb : JE X fb b) (hm : behindInMarks op b = false) : JE X (eBin (bl g) fa fb) (.Compare a [op] [b] pos) :=
  PE_imp (pe_cmpR ho ha hb hm) fun σ H Q ⟨dk, F, z, δ, d, δ', hf, ok, k⟩ => tOp_of hg hf ok k
theorem jc_cmp [NTb] {op : CmpOp} {r : R2} {g : PyData → PyData → Option Bool} (ho : OpR X (compareOp op) r) (hg : OpD X.K r (bl g)) (ha : JE X fa a) (hb : JE X fb b) (hm : behindInMarks op b = false) : JC X (cBin g fa fb) (.Compare a [op] [b] pos) :=
  PT_imp (pt_cmpR ho ha hb hm) fun σ H Q ⟨dk, F, z, δ, d, δ', hf, ok, k⟩ => by
    obtain ⟨d1, δ1, h1, hf⟩ := M.bnd_some hf
    obtain ⟨e1, δ2, h2, hf⟩ := M.bnd_some hf
    obtain ⟨h3, rfl⟩ := M.opt_some hf
    refine tOp_of (Q := fun x H' => ∃ k, x = .bl k ∧ Q k H') (fa := fa) (fb := fb) (w := .bool d) (δ' := δ') hg ?_ ok fun v F' H' x dd r => ?_
    · show M.bnd (fa z) _ δ = _
      simp only [M.bnd, h1, h2, bl, h3]
      rfl
    · cases r
      exact ⟨d, rfl, k F' H' x dd⟩
def UnD [NTb] (K : PySem.W.Frag) (r : V → Hp → VK → Prop) (g : PyData → Option PyData) : Prop := ∀ (dk : Option Dk) (F H : Hp) (x : V) (d w : PyData) (Q : VK), Same F H → View K F H x d → g d = some w →
  (∀ v F' H', Grow dk F H F' H' → Dv K F' v w → Q v H') → r x H Q
def eUn (g : PyData → Option PyData) (fa : AS → M PyData) : AS → M PyData := fun z => M.bnd (fa z) fun d => M.opt (g d)
theorem tUn_of [NTb] {r : V → Hp → VK → Prop} {g : PyData → Option PyData} (hg : UnD X.K r g) {σ : L2.St} {H : Hp} {Q : VK} {dk : Option Dk} {F : Hp} {z : AS} {δ δ' : DS} {w : PyData} (hf : eUn g fa z δ = some (w, δ')) (ok : Ok X.K dk z δ σ F H)
    (k : ∀ v F' H', Ext dk F H F' H' → DeckOk dk δ' F' H' → Dv X.K F' v w → Q v H') : tVw X.K fa σ H fun x H1 => r x H1 Q := by
  obtain ⟨d, δ1, h1, hf⟩ := M.bnd_some hf
  obtain ⟨h3, rfl⟩ := M.opt_some hf
  exact ⟨dk, F, z, δ, d, _, h1, ok, fun v1 F1 H1 x1 d1 r1 => hg dk F1 H1 v1 d w Q x1.fh r1 h3 fun v F' H' gr r => k v F' H' (x1.trans gr.x) (gr.d _ d1) r⟩
theorem je_un [NTb] {op : UnaryOp} {r : V → Hp → VK → Prop} {g : PyData → Option PyData} (ho : UnR X (unaryOp op) r) (hg : UnD X.K r g) (ha : JE X fa a) : JE X (eUn g fa) (.UnaryOp op a pos) :=
  PE_imp (pe_un ho ha.view) fun σ H Q ⟨dk, F, z, δ, d, δ', hf, ok, k⟩ => tUn_of hg hf ok k
/-- a call of a built-in by its name, of one argument -/
theorem je_b1 [NTb] {x : Str} {id : String} {p : Pos} {r : List V → Hp → VK → Prop} {g : PyData → Option PyData} (hc : CallR X (.builtin id) r) (hg : UnD X.K (fun v H Q => r [v] H Q) g) (hgl : Gl X x) (hm : X.mg x = none) (hv : bootBuiltins x = some (.builtin id)) (ha : JV X fa a)
    (hn : x ≠ "__name__" := by decide) (hdb : (x == ("__debug__" : Str)) = false := by decide) (hs : starEach [a] X.env = (false, eval a X.env) :: starEach [] X.env := by rfl) (hpl : (backTo pos (starEach [] X.env)).any (·.1) = false := by rfl) : JE X (eUn g fa) (.Call (.Name x p) [a] [] pos) :=
  PE_imp (pe_callB hc hgl hm hv (pa_cons ha pa_nil hs) hn hdb hs hpl) fun σ H Q ⟨dk, F, z, δ, d, δ', hf, ok, k⟩ => tUn_of hg hf ok k
theorem je_ty1 [NTb] {x : Str} {T : String} {p : Pos} {r : List V → Hp → VK → Prop} {g : PyData → Option PyData} (hc : CallR X (.type T) r) (hg : UnD X.K (fun v H Q => r [v] H Q) g) (hgl : Gl X x) (hm : X.mg x = none) (hv : bootBuiltins x = some (.type T)) (ha : JV X fa a)
    (hn : x ≠ "__name__" := by decide) (hdb : (x == ("__debug__" : Str)) = false := by decide) (hs : starEach [a] X.env = (false, eval a X.env) :: starEach [] X.env := by rfl) (hpl : (backTo pos (starEach [] X.env)).any (·.1) = false := by rfl) : JE X (eUn g fa) (.Call (.Name x p) [a] [] pos) :=
  PE_imp (pe_callTy hc hgl hm hv (pa_cons ha pa_nil hs) hn hdb hs hpl) fun σ H Q ⟨dk, F, z, δ, d, δ', hf, ok, k⟩ => tUn_of hg hf ok k
def toB (f : AS → M PyData) : AS → M Bool := fun z => M.bnd (f z) fun d => match d with
  | .bool b => M.pur b
  | _ => M.no
theorem toB_some {f : AS → M PyData} {z : AS} {δ δ' : DS} {b : Bool} (h : toB f z δ = some (b, δ')) : f z δ = some (.bool b, δ') := by
  obtain ⟨d, δ1, h1, h⟩ := M.bnd_some h
  cases d with
  | bool c =>
    obtain ⟨rfl, rfl⟩ := M.pur_some h
    exact h1
  | none => cases h
  | int _ => cases h
  | str _ => cases h
  | list _ => cases h
  | tuple _ => cases h
  | dict _ => cases h
def cNot (f : AS → M Bool) : AS → M Bool := fun z => M.bnd (f z) fun b => M.pur (!b)
theorem jc_not [NTb] {f : AS → M Bool} (h : JC X f a) : JC X (cNot f) (.UnaryOp .Not a pos) :=
  PT_imp (pt_not h) fun σ H Q ⟨dk, F, z, δ, d, δ', hf, ok, k⟩ => by
    obtain ⟨b1, δ1, h1, hf⟩ := M.bnd_some hf
    obtain ⟨rfl, rfl⟩ := M.pur_some hf
    exact ⟨dk, F, z, δ, b1, _, h1, ok, fun F' H' x dd => k F' H' x dd⟩
def cAnd (f g : AS → M Bool) : AS → M Bool := fun z => M.bnd (f z) fun b => if b then g z else M.pur false
def cOr (f g : AS → M Bool) : AS → M Bool := fun z => M.bnd (f z) fun b => if b then M.pur true else g z
abbrev JW [NTb] (X : Cx) (f : AS → M Bool) (e : Expr) : Prop := PW X e (tC X.K f)
theorem jw_and1 [NTb] {f : AS → M Bool} (h : JC X f a) : JW X f (.BoolOp .And [a] pos) := pw_and1 h
theorem jw_or1 [NTb] {f : AS → M Bool} (h : JC X f a) : JW X f (.BoolOp .Or [a] pos) := pw_or1 h
theorem jw_and [NTb] {f g : AS → M Bool} {rest : List Expr} (h : JC X f a) (h2 : JW X g (.BoolOp .And (b :: rest) pos)) : JW X (cAnd f g) (.BoolOp .And (a :: b :: rest) pos) :=
  PW_imp (pw_and h h2) fun σ H Q ⟨dk, F, z, δ, d, δ', hf, ok, k⟩ => by
    obtain ⟨b1, δ1, h1, hf⟩ := M.bnd_some hf
    refine ⟨dk, F, z, δ, b1, _, h1, ok, fun F1 H1 x1 d1 => ?_⟩
    cases b1 with
    | true =>
      rw [if_pos rfl] at hf ⊢
      exact ⟨dk, F1, z, δ1, d, _, hf, ok.ext x1 d1, fun F' H' x dd => k F' H' (x1.trans x) dd⟩
    | false =>
      rw [if_neg Bool.false_ne_true] at hf ⊢
      obtain ⟨rfl, rfl⟩ := M.pur_some hf
      exact k F1 H1 x1 d1
theorem jw_or [NTb] {f g : AS → M Bool} {rest : List Expr} (h : JC X f a) (h2 : JW X g (.BoolOp .Or (b :: rest) pos)) : JW X (cOr f g) (.BoolOp .Or (a :: b :: rest) pos) :=
  PW_imp (pw_or h h2) fun σ H Q ⟨dk, F, z, δ, d, δ', hf, ok, k⟩ => by
    obtain ⟨b1, δ1, h1, hf⟩ := M.bnd_some hf
    refine ⟨dk, F, z, δ, b1, _, h1, ok, fun F1 H1 x1 d1 => ?_⟩
    cases b1 with
    | false =>
      rw [if_neg Bool.false_ne_true] at hf ⊢
      exact ⟨dk, F1, z, δ1, d, _, hf, ok.ext x1 d1, fun F' H' x dd => k F' H' (x1.trans x) dd⟩
    | true =>
      rw [if_pos rfl] at hf ⊢
      obtain ⟨rfl, rfl⟩ := M.pur_some hf
      exact k F1 H1 x1 d1
theorem jc_w [NTb] {f : AS → M Bool} (h : JW X f a) : JC X f a := h.pt
/-- and, or as values: all True or False -/
def eAnd (f : AS → M PyData) (g : AS → M PyData) : AS → M PyData := fun z => M.bnd (toB f z) fun b => if b then g z else M.pur (.bool false)
def eOr (f : AS → M PyData) (g : AS → M PyData) : AS → M PyData := fun z => M.bnd (toB f z) fun b => if b then M.pur (.bool true) else g z
theorem je_and [NTb] {rest : List Expr} (h : JE X fa a) (h2 : JE X fb (.BoolOp .And (b :: rest) pos)) : JE X (eAnd fa fb) (.BoolOp .And (a :: b :: rest) pos) :=
  PE_imp (pe_and h h2) fun σ H Q ⟨dk, F, z, δ, d, δ', hf, ok, k⟩ => by
    obtain ⟨b1, δ1, h1, hf⟩ := M.bnd_some hf
    refine ⟨dk, F, z, δ, _, _, toB_some h1, ok, fun v1 F1 H1 x1 d1 r1 => ?_⟩
    cases r1
    refine ⟨b1, rfl, ?_⟩
    cases b1 with
    | true =>
      rw [if_pos rfl] at hf ⊢
      exact ⟨dk, F1, z, δ1, d, _, hf, ok.ext x1 d1, fun v F' H' x dd => k v F' H' (x1.trans x) dd⟩
    | false =>
      rw [if_neg Bool.false_ne_true] at hf ⊢
      obtain ⟨rfl, rfl⟩ := M.pur_some hf
      exact k _ F1 H1 x1 d1 (.bl false)
theorem je_or [NTb] {rest : List Expr} (h : JE X fa a) (h2 : JE X fb (.BoolOp .Or (b :: rest) pos)) : JE X (eOr fa fb) (.BoolOp .Or (a :: b :: rest) pos) :=
  PE_imp (pe_or h h2) fun σ H Q ⟨dk, F, z, δ, d, δ', hf, ok, k⟩ => by
    obtain ⟨b1, δ1, h1, hf⟩ := M.bnd_some hf
    refine ⟨dk, F, z, δ, _, _, toB_some h1, ok, fun v1 F1 H1 x1 d1 r1 => ?_⟩
    cases r1
    refine ⟨b1, rfl, ?_⟩
    cases b1 with
    | false =>
      rw [if_neg Bool.false_ne_true] at hf ⊢
      exact ⟨dk, F1, z, δ1, d, _, hf, ok.ext x1 d1, fun v F' H' x dd => k v F' H' (x1.trans x) dd⟩
    | true =>
      rw [if_pos rfl] at hf ⊢
      obtain ⟨rfl, rfl⟩ := M.pur_some hf
      exact k _ F1 H1 x1 d1 (.bl true)
theorem je_one [NTb] {op : BoolOp} (h : JE X fa a) : JE X fa (.BoolOp op [a] pos) := pe_one h
def eNot (f : AS → M PyData) : AS → M PyData := fun z => M.bnd (toB f z) fun b => M.pur (.bool (!b))
theorem je_not [NTb] (h : JE X fa a) : JE X (eNot fa) (.UnaryOp .Not a pos) :=
  PE_imp (pe_not h) fun σ H Q ⟨dk, F, z, δ, d, δ', hf, ok, k⟩ => by
    obtain ⟨b1, δ1, h1, hf⟩ := M.bnd_some hf
    obtain ⟨rfl, rfl⟩ := M.pur_some hf
    refine ⟨dk, F, z, δ, _, _, toB_some h1, ok, fun v1 F1 H1 x1 d1 r1 => ?_⟩
    cases r1
    exact ⟨b1, rfl, k _ F1 H1 x1 d1 (.bl _)⟩
def eIf (c : AS → M Bool) (f g : AS → M PyData) : AS → M PyData := fun z => M.bnd (c z) fun b => if b then f z else g z
theorem je_ifexp [NTb] {cc : AS → M Bool} (h : JC X cc c) (ha : JE X fa a) (hb : JE X fb b) : JE X (eIf cc fa fb) (.IfExp c a b pos) :=
  PE_imp (pe_ifExp h ha hb) fun σ H Q ⟨dk, F, z, δ, d, δ', hf, ok, k⟩ => by
    obtain ⟨b1, δ1, h1, hf⟩ := M.bnd_some hf
    refine ⟨dk, F, z, δ, b1, _, h1, ok, fun F1 H1 x1 d1 => ?_⟩
    cases b1 with
    | true =>
      rw [if_pos rfl] at hf ⊢
      exact ⟨dk, F1, z, δ1, d, _, hf, ok.ext x1 d1, fun v F' H' x dd => k v F' H' (x1.trans x) dd⟩
    | false =>
      rw [if_neg Bool.false_ne_true] at hf ⊢
      exact ⟨dk, F1, z, δ1, d, _, hf, ok.ext x1 d1, fun v F' H' x dd => k v F' H' (x1.trans x) dd⟩
def aNil : AS → M (List AV) := fun _ => M.pur []
def aCons (f : AS → M PyData) (g : AS → M (List AV)) : AS → M (List AV) := fun z => M.bnd (f z) fun d => M.bnd (g z) fun r => M.pur (.d d :: r)
def aDeck (i : Nat) (g : AS → M (List AV)) : AS → M (List AV) := fun z => match z[i]? with
  | some .deck => M.bnd (g z) fun r => M.pur (.deck :: r)
  | _ => M.no
theorem ja_nil [NTb] : JA X aNil [] := PA_imp pa_nil fun σ H Q ⟨dk, F, z, δ, d, δ', hf, ok, k⟩ => by
  obtain ⟨rfl, rfl⟩ := M.pur_some hf
  exact k [] F H (.refl ok.fh) ok.deck .nil
theorem ja_cons [NTb] {g : AS → M (List AV)} (h : JE X fa a) (hr : JA X g es) (hs : starEach (a :: es) X.env = (false, eval a X.env) :: starEach es X.env := by rfl) : JA X (aCons fa g) (a :: es) :=
  PA_imp (pa_cons h hr hs) fun σ H Q ⟨dk, F, z, δ, d, δ', hf, ok, k⟩ => by
    obtain ⟨d1, δ1, h1, hf⟩ := M.bnd_some hf
    obtain ⟨r1, δ2, h2, hf⟩ := M.bnd_some hf
    obtain ⟨rfl, rfl⟩ := M.pur_some hf
    exact ⟨dk, F, z, δ, _, _, h1, ok, fun v1 F1 H1 x1 dd1 r1 => ⟨dk, F1, z, δ1, _, _, h2, ok.ext x1 dd1, fun vs F2 H2 x2 dd2 r2 => k _ F2 H2 (x1.trans x2) dd2 (.cons (Dv.mono x2.ff r1) r2)⟩⟩
theorem aDeck_some {i : Nat} {g : AS → M (List AV)} {z : AS} {δ δ' : DS} {as : List AV} (h : aDeck i g z δ = some (as, δ')) : ∃ r, z[i]? = some .deck ∧ g z δ = some (r, δ') ∧ as = .deck :: r := by
  unfold aDeck at h
  cases hz : z[i]? with
  | none => rw [hz] at h; cases h
  | some sv =>
    rw [hz] at h
    cases sv with
    | deck =>
      obtain ⟨r, δ1, h1, h⟩ := M.bnd_some h
      obtain ⟨rfl, rfl⟩ := M.pur_some h
      exact ⟨r, rfl, h1, rfl⟩
    | scr _ => cases h
    | fn _ => cases h
    | od _ => cases h
    | ot _ => cases h
    | ob _ _ => cases h
    | kn _ => cases h
    | gx _ => cases h
    | un => cases h
    | dat _ => cases h
    | own _ => cases h
theorem ja_deck [NTb] {i : Nat} {g : AS → M (List AV)} (h : PE X a (tVar i)) (hr : JA X g es) (hs : starEach (a :: es) X.env = (false, eval a X.env) :: starEach es X.env := by rfl) : JA X (aDeck i g) (a :: es) :=
  PA_imp (pa_cons h hr hs) fun σ H Q ⟨dk, F, z, δ, d, δ', hf, ok, k⟩ => by
    obtain ⟨r, hz, h2, rfl⟩ := aDeck_some hf
    obtain ⟨v, e1, k', e2, rfl⟩ := ok.sl i _ hz (fun q => nomatch q)
    exact ⟨_, e1, dk, F, z, δ, _, _, h2, ok, fun vs F2 H2 x2 dd2 r2 => k _ F2 H2 x2 dd2 (.cons ⟨k', e2, rfl⟩ r2)⟩
/-- plain data only -/
def avs : List AV → Option (List PyData)
  | [] => some []
  | .d x :: r => (avs r).map (x :: ·)
  | .deck :: _ => none
  | .fn _ :: _ => none
  | .ob _ _ :: _ => none
  | .am _ :: _ => none
theorem avs_all [NTb] {K : PySem.W.Frag} {dk : Option Dk} {F : Hp} : ∀ {as : List AV} {vs : List V} {ds : List PyData}, avs as = some ds → AVs K dk F vs as → DvAll K F vs ds
  | [], _, _, h, .nil => by cases h; exact .nil
  | .d x :: r, _, ds, h, .cons h1 h2 => by
    unfold avs at h
    cases e : avs r with
    | none => rw [e] at h; cases h
    | some t =>
      rw [e] at h
      cases h
      exact .cons h1 (avs_all e h2)
  | .deck :: _, _, _, h, _ => by cases h
  | .ob _ _ :: _, _, _, h, _ => by cases h
  | .am _ :: _, _, _, h, _ => by cases h
def eTup (g : AS → M (List AV)) : AS → M PyData := fun z => M.bnd (g z) fun as => M.opt ((avs as).bind fun ds => if ds.length ≤ sizeLine then some (.tuple ds) else none)
def eLst (g : AS → M (List AV)) : AS → M PyData := fun z => M.bnd (g z) fun as => M.opt ((avs as).bind fun ds => if ds.length ≤ sizeLine then some (.list ds) else none)
theorem bind_len {o : Option (List PyData)} {k : List PyData → PyData} {d : PyData} (h : (o.bind fun ds => if ds.length ≤ sizeLine then some (k ds) else none) = some d) : ∃ ds, o = some ds ∧ ds.length ≤ sizeLine ∧ d = k ds := by
  cases o with
  | none => cases h
  | some ds =>
    simp only [Option.bind_some] at h
    split at h
    · rename_i hl
      injection h with h
      exact ⟨ds, rfl, hl, h.symm⟩
    · cases h
theorem je_tup [NTb] {g : AS → M (List AV)} {x1} (h : JA X g es) : JE X (eTup g) (.Tuple es x1 pos) :=
  PE_imp (pe_tup h) fun σ H Q ⟨dk, F, z, δ, d, δ', hf, ok, k⟩ => by
    obtain ⟨as, δ1, h1, hf⟩ := M.bnd_some hf
    obtain ⟨hq, rfl⟩ := M.opt_some hf
    obtain ⟨ds, h2, h3, rfl⟩ := bind_len (k := .tuple) hq
    refine ⟨dk, F, z, δ, _, _, h1, ok, fun vs F1 H1 x1 d1 r1 => ?_⟩
    have r2 := avs_all h2 r1
    refine ⟨by rw [r2.length]; exact h3, fun p hp => k _ (upd F1 p _) _ (x1.trans (.new x1.fh hp)) (d1.new hp x1.fh) (.tup (.inl (.inl upd_same)) (DvAll.mono (Grow.new (dk := dk) x1.fh hp).x.ff r2))⟩
theorem je_lst [NTb] {g : AS → M (List AV)} (h : JA X g es) : JE X (eLst g) (.List es pos) :=
  PE_imp (pe_lst h) fun σ H Q ⟨dk, F, z, δ, d, δ', hf, ok, k⟩ => by
    obtain ⟨as, δ1, h1, hf⟩ := M.bnd_some hf
    obtain ⟨hq, rfl⟩ := M.opt_some hf
    obtain ⟨ds, h2, h3, rfl⟩ := bind_len (k := .list) hq
    refine ⟨dk, F, z, δ, _, _, h1, ok, fun vs F1 H1 x1 d1 r1 => ?_⟩
    have r2 := avs_all h2 r1
    refine ⟨by rw [r2.length]; exact h3, fun p hp => k _ (upd F1 p _) _ (x1.trans (.new x1.fh hp)) (d1.new hp x1.fh) (.lst upd_same (DvAll.mono (Grow.new (dk := dk) x1.fh hp).x.ff r2))⟩
end
end VL
set_option Elab.async false
set_option linter.all false
set_option maxRecDepth 100000
namespace VL
open PySem PySem.Spec L2
def tOn [NTb] (K : PySem.W.Frag) (f : AS → M (List PyData)) : TE := fun σ H Q => ∃ dk F z δ ds δ', f z δ = some (ds, δ') ∧ Ok K dk z δ σ F H ∧
  ∀ a vs F' H', Ext dk F H F' H' → DeckOk dk δ' F' H' → H a = none → F' a = none → H' a = some (.lst vs) → DvAll K F' vs ds → Q (.ref a) H'
abbrev JO [NTb] (X : Cx) (f : AS → M (List PyData)) (e : Expr) : Prop := PE X e (tOn X.K f)
def oE (f : AS → M (List PyData)) : AS → M PyData := fun z => M.bnd (f z) fun ds => M.pur (.list ds)
theorem not_dk [NTb] {dk : Option Dk} {δ : DS} {F H : Hp} {a : Addr} (d : DeckOk dk δ F H) (h : H a = none) : ¬ inDk dk a := fun q => (d.some_of q).1 h
theorem same_keep {F H : Hp} {a : Addr} {o : HO} (h : Same F H) (ha : F a = none) (hH : H a = some o) : Same (upd F a o) H := fun b u e => by
  by_cases q : b = a
  · subst q; rw [upd_same] at e; rw [hH]; exact e
  · rw [upd_ne q] at e; exact h b u e
theorem same_upd' {F : Hp} {a : Addr} {o : HO} (ha : F a = none) : Same F (upd F a o) := fun b u e => by
  rw [upd_ne (ne_of_none e ha)]; exact e
/-- what is one's own becomes known: from now on it stays -/
theorem Ext.known {dk : Option Dk} {F H F' H' : Hp} {a : Addr} {o : HO} (x : Ext dk F H F' H') (h0 : H a = none) (hF : F' a = none) (hH : H' a = some o) : Ext dk F H (upd F' a o) H' :=
  ⟨x.ff.trans (same_upd' hF), same_keep x.fh hF hH, x.hh, x.lv, x.lc, fun b e n => by
    rw [upd_ne (fun q => by obtain ⟨u, z, _⟩ := n; rw [q, h0] at z; cases z)]
    exact x.nf b e n⟩
theorem DeckP.known {E : Str → Option Addr} {G : PySem.W.Frag} {dk : Option Dk} {δ : DS} {F H : Hp} {a : Addr} {o : HO} (d : DeckP E G dk δ F H) (n : ¬ inDk dk a) (hF : F a = none) : DeckP E G dk δ (upd F a o) H := by
  cases dk with
  | none => exact d
  | some k => exact DeckAt.to d (same_upd' hF) (fun b m e => by rw [upd_ne (fun q => n (by rw [← q]; exact m))]; exact e) (fun _ _ _ e => e)
theorem DeckOk.known [NTb] {dk : Option Dk} {δ : DS} {F H : Hp} {a : Addr} {o : HO} (d : DeckOk dk δ F H) (n : ¬ inDk dk a) (hl : ∃ vs, H a = some (.lst vs)) (hF : F a = none) : DeckOk dk δ (upd F a o) H := ⟨d.1.known n hF, fun p hp => (by
  obtain ⟨ps, h1, h2, h3⟩ := d.2.1 p hp
  refine ⟨ps, h1, h2, fun pos cv e => ?_⟩
  obtain ⟨c, e1, e2⟩ := h3 pos cv e
  refine ⟨c, e1, ?_⟩
  rw [upd_ne]
  · exact e2
  · intro z
    subst z
    rw [e2] at hF
    cases hF), fun p hp => by
  rw [upd_ne]
  · exact d.2.2 p hp
  · intro z
    obtain ⟨vs, hl⟩ := hl
    obtain ⟨ps, e, _⟩ := d.2.1 p hp
    rw [z, hl] at e
    cases e⟩
section
variable {X : Cx} {e a b c : Expr} {es : List Expr} {fa fb fc : AS → M PyData} {pos : Pos}
theorem JO.je [NTb] {f : AS → M (List PyData)} (h : JO X f e) : JE X (oE f) e := PE_imp h fun σ H Q ⟨dk, F, z, δ, d, δ', hf, ok, k⟩ => by
  obtain ⟨ds, δ1, h1, hf⟩ := M.bnd_some hf
  obtain ⟨rfl, rfl⟩ := M.pur_some hf
  exact ⟨dk, F, z, δ, ds, _, h1, ok, fun a vs F' H' x dd ha hF hH r => k _ (upd F' a (.lst vs)) H' (x.known ha hF hH) (dd.known (not_dk ok.deck ha) ⟨_, hH⟩ hF) (.lst upd_same (DvAll.mono (same_upd' hF) r))⟩
def oLst (g : AS → M (List AV)) : AS → M (List PyData) := fun z => M.bnd (g z) fun as => M.opt ((avs as).bind fun ds => if ds.length ≤ sizeLine then some ds else none)
theorem jo_lst [NTb] {g : AS → M (List AV)} (h : JA X g es) : JO X (oLst g) (.List es pos) :=
  PE_imp (pe_lst h) fun σ H Q ⟨dk, F, z, δ, d, δ', hf, ok, k⟩ => by
    obtain ⟨as, δ1, h1, hf⟩ := M.bnd_some hf
    obtain ⟨hq, rfl⟩ := M.opt_some hf
    cases hav : avs as with
    | none => rw [hav] at hq; cases hq
    | some ds =>
      rw [hav] at hq
      simp only [Option.bind_some] at hq
      split at hq
      · rename_i hl
        injection hq with hq
        subst hq
        refine ⟨dk, F, z, δ, _, _, h1, ok, fun vs F1 H1 x1 d1 r1 => ?_⟩
        have r2 := avs_all hav r1
        refine ⟨by rw [r2.length]; exact hl, fun p hp => ?_⟩
        have gr : Grow dk F1 H1 F1 (upd H1 p (.lst vs)) := .open x1.fh hp
        have hp0 : H p = none := by
          cases q : H p with
          | none => rfl
          | some o => exact absurd hp (x1.lv p (by rw [q]; exact fun z => nomatch z))
        exact k p vs F1 _ (x1.trans gr.x) (gr.d _ d1) hp0 (x1.fh.free hp) upd_same r2
      · cases hq
def sSeq (g1 g2 : AS → M Fl) : AS → M Fl := fun z => M.bnd (g1 z) fun fl => match fl with
  | .nx z' => g2 z'
  | f => M.pur f
def sNil : AS → M Fl := fun z => M.pur (.nx z)
theorem jss_nil [NTb] : JSs X sNil [] := PSs_imp pss_nil fun D σ H ⟨dk, F0, H0, F, z, δ, fl, δ', hf, x, ok, fr, k⟩ => by
  obtain ⟨rfl, rfl⟩ := M.pur_some hf
  exact k σ F H x (Same.refl _) ok fr
theorem jss_cons [NTb] {st : Stmt} {rest : List Stmt} {g1 g2 : AS → M Fl} (h1 : JS X g1 st) (h2 : JSs X g2 rest) : JSs X (sSeq g1 g2) (st :: rest) :=
  PSs_imp (pss_cons h1 h2) fun D σ H ⟨dk, F0, H0, F, z, δ, fl, δ', hf, x, ok, fr, k⟩ => by
    obtain ⟨f1, δ1, e1, hf⟩ := M.bnd_some hf
    refine ⟨dk, F0, H0, F, z, δ, f1, δ1, e1, x, ok, fr, ?_⟩
    cases f1 with
    | nx z' => exact fun σ' F' H' x' s' ok' fr' => ⟨dk, F0, H0, F', z', δ1, fl, δ', hf, x', ok', fr', k.mono s'⟩
    | rt d => obtain ⟨rfl, rfl⟩ := M.pur_some hf; exact k
    | bk z' => obtain ⟨rfl, rfl⟩ := M.pur_some hf; exact k
    | ct z' => obtain ⟨rfl, rfl⟩ := M.pur_some hf; exact k
    | ex _ _ _ => obtain ⟨rfl, rfl⟩ := M.pur_some hf; exact k
theorem jss_one [NTb] {st : Stmt} {g : AS → M Fl} (h : JS X g st) : JSs X g [st] := pss_one h
def sRet (f : AS → M PyData) : AS → M Fl := fun z => M.bnd (f z) fun d => M.pur (.rt d)
theorem js_ret [NTb] (h : JE X fa a) : JS X (sRet fa) (.Return (some a) pos) := PS_imp (ps_ret h) fun D σ H ⟨dk, F0, H0, F, z, δ, fl, δ', hf, x, ok, fr, k⟩ => by
  obtain ⟨d, δ1, h1, hf⟩ := M.bnd_some hf
  obtain ⟨rfl, rfl⟩ := M.pur_some hf
  exact ⟨dk, F, z, δ, d, _, h1, ok, fun v F' H' x1 d1 r1 => k v F' H' (x.trans x1) d1 r1⟩
def sIf (c : AS → M Bool) (g1 g2 : AS → M Fl) : AS → M Fl := fun z => M.bnd (c z) fun b => if b then g1 z else g2 z
theorem js_if [NTb] {cc : AS → M Bool} {s1 s2 : List Stmt} {g1 g2 : AS → M Fl} (hc : JC X cc c) (h1 : JSs X g1 s1) (h2 : JSs X g2 s2) : JS X (sIf cc g1 g2) (.If c s1 s2 pos) :=
  PS_imp (ps_if hc h1 h2) fun D σ H ⟨dk, F0, H0, F, z, δ, fl, δ', hf, x, ok, fr, k⟩ => by
    obtain ⟨b1, δ1, e1, hf⟩ := M.bnd_some hf
    refine ⟨dk, F, z, δ, b1, δ1, e1, ok, fun F1 H1 x1 d1 => ?_⟩
    cases b1 with
    | true =>
      rw [if_pos rfl] at hf ⊢
      exact ⟨dk, F0, H0, F1, z, δ1, fl, δ', hf, x.trans x1, ok.ext x1 d1, fr, k.mono x1.ff⟩
    | false =>
      rw [if_neg Bool.false_ne_true] at hf ⊢
      exact ⟨dk, F0, H0, F1, z, δ1, fl, δ', hf, x.trans x1, ok.ext x1 d1, fr, k.mono x1.ff⟩
def sBrk : AS → M Fl := fun z => M.pur (.bk z)
def sCont : AS → M Fl := fun z => M.pur (.ct z)
def sDrop (f : AS → M PyData) : AS → M Fl := fun z => M.bnd (f z) fun _ => M.pur (.nx z)
theorem get_set {α : Type} {l : List α} {i j : Nat} {x y : α} (h : (l.set i x)[j]? = some y) : (j = i ∧ y = x ∧ i < l.length) ∨ (j ≠ i ∧ l[j]? = some y) := by
  by_cases q : j = i
  · subst q
    rw [List.getElem?_set_self'] at h
    cases e : l[j]? with
    | none => rw [e] at h; cases h
    | some w =>
      rw [e] at h
      exact .inl ⟨rfl, (Option.some.inj h).symm, (List.getElem?_eq_some_iff.mp e).1⟩
  · rw [List.getElem?_set_ne (fun e => q e.symm)] at h
    exact .inr ⟨q, h⟩
theorem Ok.setDat [NTb] {K : PySem.W.Frag} {dk : Option Dk} {z : AS} {δ : DS} {σ : L2.St} {F H : Hp} (ok : Ok K dk z δ σ F H) (i : Nat) {v : V} {sv : SV} (h : SlotV K dk F H v sv) (n : ∀ ds, sv ≠ .own ds) (n3 : ∀ kvs, sv ≠ .ot kvs := by intro _ q; cases q) : Ok K dk (z.set i sv) δ (σ.set i (some v)) F H := by
  refine ⟨ok.fh, ok.deck, by simp [ok.len], fun j s1 e ne => ?_, fun j l a ds es hjl e1 e2 e3 => ?_, fun j l a ds es hjl e1 e2 e3 => ?_⟩
  · rcases get_set e with ⟨rfl, rfl, hl⟩ | ⟨hj, e⟩
    · exact ⟨v, by rw [List.getElem?_set_self (by rw [← ok.len]; exact hl)], h⟩
    · obtain ⟨u, h1, h2⟩ := ok.sl j s1 e ne
      exact ⟨u, by rw [List.getElem?_set_ne (fun q => hj q.symm)]; exact h1, h2⟩
  · rcases get_set e1 with ⟨rfl, q, _⟩ | ⟨hj, e1⟩
    · exact absurd q.symm (n _)
    · rcases get_set e2 with ⟨rfl, q, _⟩ | ⟨hl, e2⟩
      · exact absurd q.symm (n _)
      · rw [List.getElem?_set_ne (fun q => hj q.symm)] at e3
        rw [List.getElem?_set_ne (fun q => hl q.symm)]
        exact ok.dis j l a ds es hjl e1 e2 e3
  · rcases get_set e1 with ⟨rfl, q, _⟩ | ⟨hj, e1⟩
    · exact absurd q.symm (n3 _)
    · rcases get_set e2 with ⟨rfl, q, _⟩ | ⟨hl, e2⟩
      · exact absurd q.symm (n3 _)
      · rw [List.getElem?_set_ne (fun q => hj q.symm)] at e3
        rw [List.getElem?_set_ne (fun q => hl q.symm)]
        exact ok.dit j l a ds es hjl e1 e2 e3
theorem Fresh.setDat {z : AS} {σ : L2.St} {H0 : Hp} (fr : Fresh z σ H0) (i : Nat) {v : V} {sv : SV} (n : ∀ ds, sv ≠ .own ds) (n2 : ∀ kvs, sv ≠ .od kvs := by intro _ q; cases q) (n3 : ∀ kvs, sv ≠ .ot kvs := by intro _ q; cases q) : Fresh (z.set i sv) (σ.set i (some v)) H0 := fun j s a m e1 e2 => by
  rcases get_set e1 with ⟨rfl, q, _⟩ | ⟨hj, e1⟩
  · subst q
    cases s with
    | own ds => exact absurd rfl (n ds)
    | od kvs => exact absurd rfl (n2 kvs)
    | ot kvs => exact absurd rfl (n3 kvs)
    | un => exact m.elim
    | dat _ => exact m.elim
    | deck => exact m.elim
    | scr _ => exact m.elim
    | fn _ => exact m.elim
    | ob _ _ => exact m.elim
    | kn _ => exact m.elim
    | gx _ => exact m.elim
  · rw [List.getElem?_set_ne (fun q => hj q.symm)] at e2
    exact fr j s a m e1 e2
theorem Ok.setOwn [NTb] {K : PySem.W.Frag} {dk : Option Dk} {z : AS} {δ : DS} {σ : L2.St} {F H : Hp} (ok : Ok K dk z δ σ F H) (i : Nat) {a : Addr} {vs : List V} {ds : List PyData} (hF : F a = none) (hd : ¬ inDk dk a) (hH : H a = some (.lst vs)) (r : DvAll K F vs ds)
    (na : ∀ (j : Nat) (es : List PyData), z[j]? = some (.own es) → σ[j]? ≠ some (some (.ref a))) : Ok K dk (z.set i (.own ds)) δ (σ.set i (some (.ref a))) F H := by
  refine ⟨ok.fh, ok.deck, by simp [ok.len], fun j s1 e ne => ?_, fun j l b es fs hjl e1 e2 e3 => ?_, fun j l b es fs hjl e1 e2 e3 => ?_⟩
  · rcases get_set e with ⟨rfl, rfl, hl⟩ | ⟨hj, e⟩
    · exact ⟨_, by rw [List.getElem?_set_self (by rw [← ok.len]; exact hl)], a, vs, rfl, hF, hd, hH, r⟩
    · obtain ⟨u, h1, h2⟩ := ok.sl j s1 e ne
      exact ⟨u, by rw [List.getElem?_set_ne (fun q => hj q.symm)]; exact h1, h2⟩
  · rcases get_set e1 with ⟨rfl, q, hl⟩ | ⟨hj, e1'⟩
    · rcases get_set e2 with ⟨rfl, _, _⟩ | ⟨hl', e2⟩
      · exact absurd rfl hjl
      · rw [List.getElem?_set_self (by rw [← ok.len]; exact hl)] at e3
        have e3' : a = b := by injection e3 with e3; injection e3 with e3; injection e3
        subst e3'
        rw [List.getElem?_set_ne (fun q => hl' q.symm)]
        exact na l fs e2
    · rcases get_set e2 with ⟨rfl, _, hl⟩ | ⟨hl', e2⟩
      · rw [List.getElem?_set_ne (fun q => hj q.symm)] at e3
        rw [List.getElem?_set_self (by rw [← ok.len]; exact hl)]
        intro q
        have q' : a = b := by injection q with q; injection q with q; injection q
        subst q'
        exact na j es e1' e3
      · rw [List.getElem?_set_ne (fun q => hj q.symm)] at e3
        rw [List.getElem?_set_ne (fun q => hl' q.symm)]
        exact ok.dis j l b es fs hjl e1' e2 e3
  · rcases get_set e1 with ⟨rfl, q, _⟩ | ⟨hj, e1⟩
    · cases q
    · rcases get_set e2 with ⟨rfl, q, _⟩ | ⟨hl, e2⟩
      · cases q
      · rw [List.getElem?_set_ne (fun q => hj q.symm)] at e3
        rw [List.getElem?_set_ne (fun q => hl q.symm)]
        exact ok.dit j l b es fs hjl e1 e2 e3
theorem Fresh.setOwn {z : AS} {σ : L2.St} {H0 : Hp} (fr : Fresh z σ H0) (i : Nat) {a : Addr} {sv : SV} (h : H0 a = none) : Fresh (z.set i sv) (σ.set i (some (.ref a))) H0 := fun j es b m e1 e2 => by
  rcases get_set e1 with ⟨rfl, q, hl⟩ | ⟨hj, e1⟩
  · rcases get_set e2 with ⟨_, q, _⟩ | ⟨q, _⟩
    · injection q with q; injection q with q; rw [q]; exact h
    · exact absurd rfl q
  · rw [List.getElem?_set_ne (fun q => hj q.symm)] at e2
    exact fr j es b m e1 e2
def sSet (i : Nat) (f : AS → M PyData) : AS → M Fl := fun z => M.bnd (f z) fun d => M.pur (.nx (z.set i (.dat d)))
theorem js_set [NTb] {i : Nat} {x : Str} {p' : Pos} (hN : X.N.Nodup) (hi : X.N[i]? = some x) (hx : Loc X.env.scope x) (h : JE X fa a) (hs : swapsWith a (some (.Name x p')) pos.line X.env = pure false := by rfl)
    (hf : X.fn x = true ∨ X.env.scope.names.lookup x = some .local := by first | exact .inl rfl | exact .inr rfl | assumption) : JS X (sSet i fa) (.Assign [.Name x p'] a pos) :=
  PS_imp (ps_set hN hi hx h hs hf) fun D σ H ⟨dk, F0, H0, F, z, δ, fl, δ', hf, x, ok, fr, k⟩ => by
    obtain ⟨d, δ1, h1, hf⟩ := M.bnd_some hf
    obtain ⟨rfl, rfl⟩ := M.pur_some hf
    exact ⟨dk, F, z, δ, d, _, h1, ok, fun v F' H' x1 d1 r1 => k _ F' H' (x.trans x1) x1.ff ((ok.ext x1 d1).setDat i (sv := .dat d) r1 (fun _ q => nomatch q)) (fr.setDat i (fun _ q => nomatch q))⟩
def sSetO (i : Nat) (f : AS → M (List PyData)) : AS → M Fl := fun z => M.bnd (f z) fun d => M.pur (.nx (z.set i (.own d)))
theorem back_none {dk : Option Dk} {F H F' H' : Hp} (x : Ext dk F H F' H') {a : Addr} (h : H' a = none) : H a = none := by
  cases q : H a with
  | none => rfl
  | some o => exact absurd h (x.lv a (by rw [q]; exact fun z => nomatch z))
theorem own_ne [NTb] {K : PySem.W.Frag} {dk : Option Dk} {z : AS} {δ : DS} {σ : L2.St} {F H : Hp} (ok : Ok K dk z δ σ F H) {a : Addr} (h : H a = none) : ∀ (j : Nat) (es : List PyData), z[j]? = some (.own es) → σ[j]? ≠ some (some (.ref a)) := fun j es e1 e2 => by
  obtain ⟨v, h1, b, vs, rfl, _, _, h2, _⟩ := ok.sl j _ e1 (fun q => nomatch q)
  rw [e2] at h1
  injection h1 with h1; injection h1 with h1; injection h1 with h1
  subst h1
  rw [h] at h2
  cases h2
theorem js_setO [NTb] {i : Nat} {x : Str} {p' : Pos} {fo : AS → M (List PyData)} (hN : X.N.Nodup) (hi : X.N[i]? = some x) (hx : Loc X.env.scope x) (h : JO X fo a) (hs : swapsWith a (some (.Name x p')) pos.line X.env = pure false := by rfl)
    (hf : X.fn x = true ∨ X.env.scope.names.lookup x = some .local := by first | exact .inl rfl | exact .inr rfl | assumption) : JS X (sSetO i fo) (.Assign [.Name x p'] a pos) :=
  PS_imp (ps_set hN hi hx h hs hf) fun D σ H ⟨dk, F0, H0, F, z, δ, fl, δ', hf, x, ok, fr, k⟩ => by
    obtain ⟨d, δ1, h1, hf⟩ := M.bnd_some hf
    obtain ⟨rfl, rfl⟩ := M.pur_some hf
    refine ⟨dk, F, z, δ, d, _, h1, ok, fun a vs F' H' x1 d1 ha hF hH r1 => ?_⟩
    exact k _ F' H' (x.trans x1) x1.ff ((ok.ext x1 d1).setOwn i hF (not_dk ok.deck ha) hH r1 (own_ne ok ha)) (fr.setOwn i (back_none x ha))
def sFrz (i : Nat) (g : AS → M Fl) : AS → M Fl := fun z => match z[i]? with
  | some (.own ds) => g (z.set i (.dat (.list ds)))
  | _ => M.no
end
end VL
set_option Elab.async false
set_option linter.all false
set_option maxRecDepth 100000
namespace VL
open PySem PySem.Spec L2
open PyProof.Rows hiding St
/-- from the i-th turn on, wherever F still stands, J hands out the items ds -/
def ItOk [NTb] (K : PySem.W.Frag) (F : Hp) (J : It) (ds : List PyData) : Prop := ∀ (i : Nat) (dk : Option Dk) (F2 H2 : Hp), Same F F2 → Same F2 H2 →
  (∀ d, ds[i]? = some d → J.go i H2 ∧ ∀ x H3, J.yld i H2 x H3 → ∃ F3, Grow dk F2 H2 F3 H3 ∧ Dv K F3 x d) ∧ (ds.length ≤ i → J.stop i H2)
def tI [NTb] (K : PySem.W.Frag) (f : AS → M (List PyData)) : TI := fun σ H R => ∃ dk F z δ ds δ', f z δ = some (ds, δ') ∧ Ok K dk z δ σ F H ∧ ∀ J F' H', Ext dk F H F' H' → DeckOk dk δ' F' H' → ItOk K F' J ds → R J H'
abbrev JI [NTb] (X : Cx) (f : AS → M (List PyData)) (tg e : Expr) : Prop := PI X tg e (tI X.K f)
section
variable {X : Cx} {e a b c tg : Expr} {es : List Expr} {fa fb fc : AS → M PyData} {pos : Pos}
theorem PI_imp {t t' : TI} (h : PI X tg e t) (i : ∀ σ H R, t' σ H R → t σ H R) : PI X tg e t' := ⟨fun pins s σ H R I q => h.run pins s σ H R I (i σ H R q)⟩
def iSeq (K : PySem.W.Frag) (tl : TE) : TI := fun σ H R => tl σ H fun x H1 => (∃ a xs, x = .ref a ∧ SqL K H1 a xs ∧ R (Itl K a) H1) ∨ (∃ a xs, x = .ref a ∧ SqT K H1 a xs ∧ R (Itt K a) H1) ∨ ∃ y, x = .str y ∧ R (Its y) H1
theorem pi_seq {tl : TE} (hl : PE X e tl) : PI X tg e (iSeq X.K tl) := by
  refine ⟨fun pins s σ H R I h => ?_⟩
  refine thn (hl.run pins s σ H _ I h) fun v s1 ⟨x, H1, I1, r1, q1⟩ => ?_
  rcases q1 with ⟨a, xs, rfl, hq, q⟩ | ⟨a, xs, rfl, hq, q⟩ | ⟨y, rfl, q⟩
  · cases r1
    obtain ⟨its, rv, p, hz⟩ := I1.list hq
    refine wpAny_pyIter_list p.isList ?_
    refine ⟨s1.heap.objs.size, [s1.heap.objs.size], _, _, H1, rfl, I1.kept (t' := s1.toks) fun b o e => Heap.get?_push_of_some _ e, turn_list a _, ⟨_, Heap.get?_push_size _ rfl, rfl, rfl⟩, fun b hb => ?_, q⟩
    have e : b = s1.heap.objs.size := by simpa using hb
    subst e
    exact I1.fpOk (Nat.le_refl _) (I1.hok.fresh (Nat.le_refl _))
  · cases r1
    obtain ⟨its, rv, p, hz⟩ := I1.tuple hq
    refine wpAny_pyIter_tuple (show s1.heap.IsTuple a its.toArray from p) ?_
    refine ⟨s1.heap.objs.size, [s1.heap.objs.size], _, _, H1, rfl, I1.kept (t' := s1.toks) fun b o e => Heap.get?_push_of_some _ e, turn_tuple a _, ⟨_, Heap.get?_push_size _ rfl, rfl, rfl⟩, fun b hb => ?_, q⟩
    have e : b = s1.heap.objs.size := by simpa using hb
    subst e
    exact I1.fpOk (Nat.le_refl _) (I1.hok.fresh (Nat.le_refl _))
  · obtain ⟨t, rfl⟩ := r1
    cases ha : y.cps.all (· < 128)
    · exact wpAny_pyIter_wide ha (pi_one (tk := s1.toks) I1 _ (turn_str _ y t "str_iterator" (.inr rfl)) ⟨_, Heap.get?_push_size _ rfl, rfl, rfl⟩ q)
    · exact wpAny_pyIter_ascii ha (pi_one (tk := s1.toks) I1 _ (turn_str _ y t "str_ascii_iterator" (.inl rfl)) ⟨_, Heap.get?_push_size _ rfl, rfl, rfl⟩ q)
/-- the signs of a text, each a text -/
def strItems (x : Str) : List PyData := x.cps.toList.map fun c => .str ⟨#[c]⟩
def itemsD : PyData → Option (List PyData)
  | .list ds => some ds
  | .tuple ds => some ds
  | .str x => some (strItems x)
  | _ => none
def iOf (f : AS → M PyData) : AS → M (List PyData) := fun z => M.bnd (f z) fun d => M.opt (itemsD d)
theorem itOk_list [NTb] {K : PySem.W.Frag} {F : Hp} {a : Addr} {vs : List V} {ds : List PyData} (h : F a = some (.lst vs)) (r : DvAll K F vs ds) : ItOk K F (Itl K a) ds := fun i dk F2 H2 s1 s2 => by
  have q : SqL K H2 a vs := .inl (.inl (s2 _ _ (s1 _ _ h)))
  refine ⟨fun d e => ?_, fun hl => ⟨vs, q, by rw [r.length]; exact hl⟩⟩
  obtain ⟨v, h1, h2⟩ := r.get e
  exact ⟨⟨vs, v, q, h1⟩, fun x H3 ⟨e3, y⟩ => ⟨F2, by rw [e3]; exact .refl s2, by
    have := y vs q
    rw [h1] at this
    injection this with this
    subst this
    exact Dv.mono s1 h2⟩⟩
theorem itOk_tup [NTb] {K : PySem.W.Frag} {F : Hp} {a : Addr} {vs : List V} {ds : List PyData} (h : SqT K F a vs) (r : DvAll K F vs ds) : ItOk K F (Itt K a) ds := fun i dk F2 H2 s1 s2 => by
  have q : SqT K H2 a vs := same_seqT (s1.trans s2) h
  refine ⟨fun d e => ?_, fun hl => ⟨vs, q, by rw [r.length]; exact hl⟩⟩
  obtain ⟨v, h1, h2⟩ := r.get e
  exact ⟨⟨vs, v, q, h1⟩, fun x H3 ⟨e3, y⟩ => ⟨F2, by rw [e3]; exact .refl s2, by
    have := y vs q
    rw [h1] at this
    injection this with this
    subst this
    exact Dv.mono s1 h2⟩⟩
theorem itOk_str [NTb] {K : PySem.W.Frag} {F : Hp} {x : Str} : ItOk K F (Its x) (strItems x) := fun i dk F2 H2 s1 s2 => by
  refine ⟨fun d e => ?_, fun hl => show x.cps.size ≤ i by unfold strItems at hl; simpa using hl⟩
  unfold strItems at e
  rw [List.getElem?_map] at e
  cases q : x.cps.toList[i]? with
  | none => rw [q] at e; cases e
  | some c =>
    rw [q] at e
    injection e with e
    subst e
    have q' : x.cps[i]? = some c := by rw [← q]; simp
    refine ⟨(Array.getElem?_eq_some_iff.mp q').1, fun v H3 ⟨e3, c', e4, e5⟩ => ⟨F2, by rw [e3]; exact .refl s2, ?_⟩⟩
    rw [q'] at e4
    injection e4 with e4
    subst e4 e5
    exact .str _
theorem ji_of [NTb] (h : JE X fa e) : JI X (iOf fa) tg e := PI_imp (pi_seq h) fun σ H R ⟨dk, F, z, δ, ds, δ', hf, ok, k⟩ => by
  obtain ⟨d, δ1, h1, hf⟩ := M.bnd_some hf
  obtain ⟨hq, rfl⟩ := M.opt_some hf
  refine ⟨dk, F, z, δ, d, _, h1, ok, fun v F' H' x dd r => ?_⟩
  cases r with
  | lst e1 e2 =>
    injection hq with hq
    subst hq
    exact .inl ⟨_, _, rfl, .inl (.inl (x.fh _ _ e1)), k _ F' H' x dd (itOk_list e1 e2)⟩
  | tup e1 e2 =>
    injection hq with hq
    subst hq
    exact .inr (.inl ⟨_, _, rfl, same_seqT x.fh e1, k _ F' H' x dd (itOk_tup e1 e2)⟩)
  | str y =>
    injection hq with hq
    subst hq
    exact .inr (.inr ⟨_, rfl, k _ F' H' x dd itOk_str⟩)
  | non => cases hq
  | bl _ => cases hq
  | int _ => cases hq
  | dct _ _ => cases hq
/-- range(n) -/
def rangeD (lo : Int) (n : Nat) : List PyData := (List.range n).map fun (i : Nat) => .int (lo + i)
theorem itOk_range [NTb] {K : PySem.W.Frag} {F : Hp} {lo : Int} {n : Nat} : ItOk K F (Itr lo n) (rangeD lo n) := fun i dk F2 H2 s1 s2 => by
  refine ⟨fun d e => ?_, fun hl => show n ≤ i by unfold rangeD at hl; simpa using hl⟩
  unfold rangeD at e
  rw [List.getElem?_map] at e
  cases q : (List.range n)[i]? with
  | none => rw [q] at e; cases e
  | some c =>
    rw [q] at e
    injection e with e
    subst e
    obtain ⟨q1, q2⟩ := List.getElem?_eq_some_iff.mp q
    rw [List.getElem_range] at q2
    subst q2
    rw [List.length_range] at q1
    exact ⟨q1, fun v H3 ⟨e3, e4⟩ => ⟨F2, by rw [e3]; exact .refl s2, by rw [e4]; exact .int _⟩⟩
def iRange1 (f : AS → M PyData) : AS → M (List PyData) := fun z => M.bnd (f z) fun d => match d with
  | .int n => if n < 2 ^ 62 ∧ -(2 ^ 62) ≤ n then M.pur (rangeD 0 n.toNat) else M.no
  | _ => M.no
theorem iRange1_some {z : AS} {δ δ' : DS} {ds : List PyData} (h : iRange1 fa z δ = some (ds, δ')) : ∃ n : Int, fa z δ = some (.int n, δ') ∧ -(2 ^ 62) ≤ n ∧ n < 2 ^ 62 ∧ ds = rangeD 0 n.toNat := by
  obtain ⟨d, δ1, h1, h⟩ := M.bnd_some h
  cases d with
  | int n =>
    simp only at h
    split at h
    · rename_i hn
      obtain ⟨rfl, rfl⟩ := M.pur_some h
      exact ⟨n, h1, hn.2, hn.1, rfl⟩
    · cases h
  | none => cases h
  | bool _ => cases h
  | str _ => cases h
  | list _ => cases h
  | tuple _ => cases h
  | dict _ => cases h
theorem ji_range1 [NTb] {p : Pos} (hg : Gl X "range") (hm : X.mg "range" = none) (h : JE X fa a) (hs : starEach [a] X.env = [(false, eval a X.env)] := by rfl) : JI X (iRange1 fa) tg (.Call (.Name "range" p) [a] [] pos) :=
  PI_imp (pi_range1 hg hm (pa_cons h pa_nil hs) hs) fun σ H R ⟨dk, F, z, δ, ds, δ', hf, ok, k⟩ => by
    obtain ⟨n, h1, b1, b2, rfl⟩ := iRange1_some hf
    refine ⟨dk, F, z, δ, _, _, h1, ok, fun v F' H' x dd r => ?_⟩
    cases r
    exact ⟨n, rfl, b1, b2, k _ F' H' x dd itOk_range⟩
/-- v, told as d, is stored: the slots sl alone are changed -/
def tG [NTb] (K : PySem.W.Frag) (sl : List Nat) (t : PyData → AS → Option AS) : TG := fun v σ H Q => ∃ dk F z δ d z', t d z = some z' ∧ Ok K dk z δ σ F H ∧ Dv K F v d ∧
  ∀ σ', (∀ j, j ∉ sl → σ'[j]? = σ[j]?) → σ'.length = σ.length → Ok K dk z' δ σ' F H → (∀ H0, Fresh z σ H0 → Fresh z' σ' H0) → Q σ' H
abbrev JG [NTb] (X : Cx) (sl : List Nat) (t : PyData → AS → Option AS) (tg : Expr) : Prop := PG X tg (tG X.K sl t)
def tGs [NTb] (K : PySem.W.Frag) (sl : List Nat) (t : List PyData → AS → Option AS) : TGs := fun vs σ H Q => ∃ dk F z δ ds z', t ds z = some z' ∧ Ok K dk z δ σ F H ∧ DvAll K F vs ds ∧
  ∀ σ', (∀ j, j ∉ sl → σ'[j]? = σ[j]?) → σ'.length = σ.length → Ok K dk z' δ σ' F H → (∀ H0, Fresh z σ H0 → Fresh z' σ' H0) → Q σ' H
abbrev JGs [NTb] (X : Cx) (sl : List Nat) (t : List PyData → AS → Option AS) (tgs : List Expr) : Prop := PGs X tgs (tGs X.K sl t)
theorem PG_imp {t t' : TG} (h : PG X tg t) (i : ∀ v σ H Q, t' v σ H Q → t v σ H Q) : PG X tg t' := ⟨fun pins s σ H v u Q I r q => h.run pins s σ H v u Q I r (i v σ H Q q)⟩
theorem PGs_imp {tgs : List Expr} {t t' : TGs} (h : PGs X tgs t) (i : ∀ v σ H Q, t' v σ H Q → t v σ H Q) : PGs X tgs t' := ⟨fun pins s σ H v u Q I r q => h.run pins s σ H v u Q I r (i v σ H Q q)⟩
def gN (i : Nat) : PyData → AS → Option AS := fun d z => some (z.set i (.dat d))
theorem jg_name [NTb] {i : Nat} {x : Str} {p' : Pos} (hN : X.N.Nodup) (hi : X.N[i]? = some x) (hx : Loc X.env.scope x) (hf : X.fn x = true ∨ X.env.scope.names.lookup x = some .local := by first | exact .inl rfl | exact .inr rfl | assumption) : JG X [i] (gN i) (.Name x p') :=
  PG_imp (pg_name hN hi hx hf) fun v σ H Q ⟨dk, F, z, δ, d, z', e, ok, r, k⟩ => by
    injection e with e
    subst e
    exact k _ (fun j hj => by rw [List.getElem?_set_ne (fun q => hj (by rw [q]; exact List.mem_singleton.mpr rfl))]) (by simp) (ok.setDat i (sv := .dat d) r (fun _ q => nomatch q)) fun H0 fr => fr.setDat i (fun _ q => nomatch q)
def gsNil : List PyData → AS → Option AS
  | [], z => some z
  | _, _ => none
def gsCons (t : PyData → AS → Option AS) (u : List PyData → AS → Option AS) : List PyData → AS → Option AS
  | d :: ds, z => (t d z).bind (u ds)
  | [], _ => none
theorem jgs_nil [NTb] : JGs X [] gsNil [] := PGs_imp pgs_nil fun vs σ H Q ⟨dk, F, z, δ, ds, z', e, ok, r, k⟩ => by
  cases r with
  | nil =>
    injection e with e
    subst e
    exact ⟨rfl, k σ (fun _ _ => rfl) rfl ok fun _ h => h⟩
  | cons _ _ => cases e
theorem jgs_cons [NTb] {t : PyData → AS → Option AS} {u : List PyData → AS → Option AS} {sl sm : List Nat} (h1 : JG X sl t a) (h2 : JGs X sm u es)
    (hs : (assignEach (a :: es) X.env).map (·.2) = assign a X.env :: (assignEach es X.env).map (·.2) := by rfl) : JGs X (sl ++ sm) (gsCons t u) (a :: es) :=
  PGs_imp (pgs_cons h1 h2 hs) fun vs σ H Q ⟨dk, F, z, δ, ds, z', e, ok, r, k⟩ => by
    cases r with
    | nil => cases e
    | cons r1 r2 =>
      unfold gsCons at e
      obtain ⟨z1, e1, e2⟩ := Option.bind_eq_some_iff.mp e
      refine ⟨_, _, rfl, dk, F, z, δ, _, z1, e1, ok, r1, fun σ1 s1 l1 ok1 fr1 => ⟨dk, F, z1, δ, _, z', e2, ok1, r2, fun σ2 s2 l2 ok2 fr2 => ?_⟩⟩
      exact k σ2 (fun j hj => (s2 j fun q => hj (List.mem_append_right _ q)).trans (s1 j fun q => hj (List.mem_append_left _ q))) (l2.trans l1) ok2 fun H0 f => fr2 H0 (fr1 H0 f)
def gT (n : Nat) (u : List PyData → AS → Option AS) : PyData → AS → Option AS
  | .tuple ds, z => if ds.length = n then u ds z else none
  | _, _ => none
theorem gT_some {n : Nat} {u : List PyData → AS → Option AS} {d : PyData} {z z' : AS} (h : gT n u d z = some z') : ∃ ds, d = .tuple ds ∧ ds.length = n ∧ u ds z = some z' := by
  cases d with
  | tuple ds =>
    by_cases hl : ds.length = n
    · exact ⟨ds, rfl, hl, by
        have e : gT n u (.tuple ds) z = if ds.length = n then u ds z else none := rfl
        rw [e, if_pos hl] at h
        exact h⟩
    · have e : gT n u (.tuple ds) z = if ds.length = n then u ds z else none := rfl
      rw [e, if_neg hl] at h
      cases h
  | none => cases h
  | bool _ => cases h
  | str _ => cases h
  | list _ => cases h
  | int _ => cases h
  | dict _ => cases h
theorem jg_tup [NTb] {u : List PyData → AS → Option AS} {sl : List Nat} {k n : Nat} (hc : X.calm = true) (h : JGs X sl u es) (hn : (assignEach es X.env).length = n := by rfl) (hst : (assignEach es X.env).findIdx? (·.1) = none := by rfl) : JG X sl (gT n u) (.Tuple es k pos) :=
  PG_imp (pg_tup hc h hn hst) fun v σ H Q ⟨dk, F, z, δ, d, z', e, ok, r, kk⟩ => by
    obtain ⟨ds, e0, hl, e1⟩ := gT_some e
    clear e
    subst e0
    cases r with
    | tup r1 r2 => exact ⟨_, _, rfl, same_seqT ok.fh r1, by rw [r2.length]; exact hl, dk, F, z, δ, ds, z', e1, ok, r2, kk⟩
/-- target = value -/
def sAsg (t : PyData → AS → Option AS) (f : AS → M PyData) : AS → M Fl := fun z => M.bnd (f z) fun d => M.bnd (M.opt (t d z)) fun z' => M.pur (.nx z')
theorem js_asg [NTb] {t : PyData → AS → Option AS} {sl : List Nat} (h : JE X fa e) (hg : JG X sl t tg) (hs : swapsWithSole [tg] e pos.line X.env = pure false := by rfl) (hw : swappedStores [tg] e X.env = pure none := by rfl)
    (h1 : (assignEach [tg] X.env).map (·.2) = [assign tg X.env] := by rfl) : JS X (sAsg t fa) (.Assign [tg] e pos) :=
  PS_imp (ps_asg h hg hs hw h1) fun D σ H ⟨dk, F0, H0, F, z, δ, fl, δ', hf, x, ok, fr, k⟩ => by
    obtain ⟨d, δ1, e1, hf⟩ := M.bnd_some hf
    obtain ⟨z', δ2, e2, hf2⟩ := M.bnd_some hf
    obtain ⟨e3, rfl⟩ := M.opt_some e2
    obtain ⟨rfl, rfl⟩ := M.pur_some hf2
    exact ⟨dk, F, z, δ, d, _, e1, ok, fun v F' H' x1 d1 r1 => ⟨dk, F', z, _, d, z', e3, ok.ext x1 d1, r1, fun σ' _ _ ok' fr' => k σ' F' H' (x.trans x1) x1.ff ok' (fr' H0 fr)⟩⟩
def forL (t : PyData → AS → Option AS) (g : AS → M Fl) : List PyData → AS → M Fl
  | [], z => M.pur (.nx z)
  | d :: ds, z => M.bnd (M.opt (t d z)) fun z1 => M.bnd (g z1) fun fl => match fl with
    | .nx z2 => forL t g ds z2
    | .ct z2 => forL t g ds z2
    | .bk z2 => M.pur (.nx z2)
    | .rt r => M.pur (.rt r)
    | .ex c fs z2 => M.pur (.ex c fs z2)
def sFor (f : AS → M (List PyData)) (t : PyData → AS → Option AS) (g : AS → M Fl) : AS → M Fl := fun z => M.bnd (f z) fun ds => forL t g ds z
theorem js_for [NTb] {f : AS → M (List PyData)} {t : PyData → AS → Option AS} {sl : List Nat} {g : AS → M Fl} {body : List Stmt} (hp : PassesOwn (model X.prog X.w) X.A X.env X.xe) (hc : X.calm = true) (hi : JI X f tg e) (hg : JG X sl t tg) (hb : JSs X g body)
    (hs : ∀ x, foldedSetIterable e X.env x = pure x := by intro _; rfl) : JS X (sFor f t g) (.For tg e body [] pos) :=
  PS_imp (ps_for hp hc hi hg hb hs) fun D σ H ⟨dk, F0, H0, F, z, δ, fl, δ', hf, x, ok, fr, k⟩ => by
    obtain ⟨ds, δ1, h1, hf⟩ := M.bnd_some hf
    refine ⟨dk, F, z, δ, ds, δ1, h1, ok, fun J F1 H1 x1 d1 it => ?_⟩
    refine ⟨fun i m σ2 H2 => m = ds.length - i ∧ i ≤ ds.length ∧ ∃ F2 z2 δ2, forL t g (ds.drop i) z2 δ2 = some (fl, δ') ∧ Same F1 F2 ∧ Ext dk F0 H0 F2 H2 ∧ Ok X.K dk z2 δ2 σ2 F2 H2 ∧ Fresh z2 σ2 H0,
      ⟨ds.length, by simp, Nat.zero_le _, F1, z, δ1, by rw [List.drop_zero]; exact hf, Same.refl _, x.trans x1, ok.ext x1 d1, fr⟩, ?_⟩
    rintro i m σ2 H2 ⟨rfl, hi, F2, z2, δ2, hl, s2, x2, ok2, fr2⟩
    obtain ⟨go, stop⟩ := it i dk F2 H2 s2 x2.fh
    by_cases hlt : i < ds.length
    · have hd : ds[i]? = some ds[i] := List.getElem?_eq_getElem hlt
      obtain ⟨go, yl⟩ := go _ hd
      rw [List.drop_eq_getElem_cons hlt] at hl
      unfold forL at hl
      obtain ⟨z3, δ3, e3, hl3⟩ := M.bnd_some hl
      obtain ⟨e3', ed⟩ := M.opt_some e3
      subst ed
      obtain ⟨f4, δ4, e4, hl4⟩ := M.bnd_some hl3
      refine .inr ⟨go, fun σ' H' => ∃ F5 z5 δ5, forL t g (ds.drop (i + 1)) z5 δ5 = some (fl, δ') ∧ Same F1 F5 ∧ Ext dk F0 H0 F5 H' ∧ Ok X.K dk z5 δ5 σ' F5 H' ∧ Fresh z5 σ' H0,
        fun σ' H' h => ⟨ds.length - (i + 1), by omega, rfl, hlt, h⟩, fun v H3 y => ?_⟩
      obtain ⟨F3, gr, r3⟩ := yl v H3 y
      refine ⟨dk, F3, z2, _, _, z3, e3', ok2.ext gr.x (gr.d _ ok2.deck), r3, fun σ3 _ _ ok3 fr3 => ?_⟩
      refine ⟨dk, F0, H0, F3, z3, _, f4, δ4, e4, x2.trans gr.x, ok3, fr3 H0 fr2, ?_⟩
      have s3 : Same F1 F3 := s2.trans gr.x.ff
      cases f4 with
      | nx z5 => exact fun σ5 F5 H5 x5 s5 ok5 fr5 => ⟨F5, z5, δ4, hl4, s3.trans s5, x5, ok5, fr5⟩
      | ct z5 => exact fun σ5 F5 H5 x5 s5 ok5 fr5 => ⟨F5, z5, δ4, hl4, s3.trans s5, x5, ok5, fr5⟩
      | bk z5 => obtain ⟨rfl, rfl⟩ := M.pur_some hl4; exact fun σ5 F5 H5 x5 s5 ok5 fr5 => k σ5 F5 H5 x5 ((x1.ff.trans s3).trans s5) ok5 fr5
      | rt d5 => obtain ⟨rfl, rfl⟩ := M.pur_some hl4; exact k
      | ex _ _ _ => obtain ⟨rfl, rfl⟩ := M.pur_some hl4; exact fun C σ5 F5 H5 d e x5 s5 => k C σ5 F5 H5 d e x5 ((x1.ff.trans s3).trans s5)
    · have e0 : i = ds.length := by omega
      subst e0
      rw [List.drop_length] at hl
      obtain ⟨rfl, rfl⟩ := M.pur_some hl
      exact .inl ⟨stop (Nat.le_refl _), k σ2 F2 H2 x2 (x1.ff.trans s2) ok2 fr2⟩
def whileL (c : AS → M Bool) (g : AS → M Fl) : Nat → AS → M Fl
  | 0, _ => M.no
  | n + 1, z => M.bnd (c z) fun b => if b then M.bnd (g z) fun fl => match fl with
    | .nx z2 => whileL c g n z2
    | .ct z2 => whileL c g n z2
    | .bk z2 => M.pur (.nx z2)
    | .rt r => M.pur (.rt r)
    | .ex c fs z2 => M.pur (.ex c fs z2)
    else M.pur (.nx z)
theorem js_while [NTb] {cc : AS → M Bool} {g : AS → M Fl} {body : List Stmt} (n : Nat) (hp : PassesOwn (model X.prog X.w) X.A X.env X.xe) (hc : JC X cc c) (hb : JSs X g body) : JS X (whileL cc g n) (.While c body [] pos) :=
  PS_imp (ps_while hp hc hb) fun D σ H ⟨dk, F0, H0, F, z, δ, fl, δ', hf, x, ok, fr, k⟩ => by
    refine ⟨fun m σ2 H2 => ∃ F2 z2 δ2, whileL cc g m z2 δ2 = some (fl, δ') ∧ Same F F2 ∧ Ext dk F0 H0 F2 H2 ∧ Ok X.K dk z2 δ2 σ2 F2 H2 ∧ Fresh z2 σ2 H0, ⟨n, F, z, δ, hf, Same.refl _, x, ok, fr⟩, ?_⟩
    rintro m σ2 H2 ⟨F2, z2, δ2, hl, s2, x2, ok2, fr2⟩
    cases m with
    | zero => cases hl
    | succ m =>
      unfold whileL at hl
      obtain ⟨b, δ3, e3, hl⟩ := M.bnd_some hl
      refine ⟨dk, F2, z2, δ2, b, δ3, e3, ok2, fun F3 H3 x3 d3 => ?_⟩
      have s3 : Same F F3 := s2.trans x3.ff
      cases b with
      | false =>
        rw [if_neg Bool.false_ne_true] at hl
        obtain ⟨rfl, rfl⟩ := M.pur_some hl
        refine iteF ?_
        exact k σ2 F3 H3 (x2.trans x3) s3 (ok2.ext x3 d3) fr2
      | true =>
        rw [if_pos rfl] at hl
        obtain ⟨f4, δ4, e4, hl4⟩ := M.bnd_some hl
        refine iteT ?_
        refine ⟨fun σ' H' => ∃ F5 z5 δ5, whileL cc g m z5 δ5 = some (fl, δ') ∧ Same F F5 ∧ Ext dk F0 H0 F5 H' ∧ Ok X.K dk z5 δ5 σ' F5 H' ∧ Fresh z5 σ' H0, fun σ' H' h => ⟨m, Nat.lt_succ_self _, h⟩, ?_⟩
        refine ⟨dk, F0, H0, F3, z2, _, f4, δ4, e4, x2.trans x3, ok2.ext x3 d3, fr2, ?_⟩
        cases f4 with
        | nx z5 => exact fun σ5 F5 H5 x5 s5 ok5 fr5 => ⟨F5, z5, δ4, hl4, s3.trans s5, x5, ok5, fr5⟩
        | ct z5 => exact fun σ5 F5 H5 x5 s5 ok5 fr5 => ⟨F5, z5, δ4, hl4, s3.trans s5, x5, ok5, fr5⟩
        | bk z5 => obtain ⟨rfl, rfl⟩ := M.pur_some hl4; exact fun σ5 F5 H5 x5 s5 ok5 fr5 => k σ5 F5 H5 x5 (s3.trans s5) ok5 fr5
        | rt d5 => obtain ⟨rfl, rfl⟩ := M.pur_some hl4; exact k
        | ex _ _ _ => obtain ⟨rfl, rfl⟩ := M.pur_some hl4; exact fun C σ5 F5 H5 d e x5 s5 => k C σ5 F5 H5 d e x5 (s3.trans s5)
end
end VL
set_option Elab.async false
set_option linter.all false
set_option maxRecDepth 100000
namespace VL
open PySem PySem.Spec L2
open PyProof.Rows hiding St
def wipeA (z : AS) : List Nat → AS
  | [] => z
  | v :: vs => (wipeA z vs).set v .un
theorem wipeA_length (z : AS) : ∀ vs : List Nat, (wipeA z vs).length = z.length
  | [] => rfl
  | v :: vs => by unfold wipeA; rw [List.length_set, wipeA_length z vs]
theorem wipeA_get {z : AS} {i : Nat} {sv : SV} : ∀ {vs : List Nat}, (wipeA z vs)[i]? = some sv → sv ≠ .un → i ∉ vs ∧ z[i]? = some sv
  | [], h, _ => ⟨by simp, h⟩
  | v :: vs, h, n => by
    unfold wipeA at h
    rcases get_set h with ⟨_, q, _⟩ | ⟨hj, h⟩
    · exact absurd q n
    · obtain ⟨h1, h2⟩ := wipeA_get h n
      exact ⟨by simp only [List.mem_cons, not_or]; exact ⟨hj, h1⟩, h2⟩
theorem Ok.wipe [NTb] {K : PySem.W.Frag} {dk : Option Dk} {z : AS} {δ : DS} {σ : L2.St} {F H : Hp} (ok : Ok K dk z δ σ F H) (vs : List Nat) : Ok K dk (wipeA z vs) δ (L2.wipe σ vs) F H := by
  refine ⟨ok.fh, ok.deck, by rw [wipeA_length, wipe_length, ok.len], fun i sv e n => ?_, fun i j a ds es hij e1 e2 e3 => ?_, fun i j a ds es hij e1 e2 e3 => ?_⟩
  · obtain ⟨h1, h2⟩ := wipeA_get e n
    obtain ⟨v, q1, q2⟩ := ok.sl i sv h2 n
    exact ⟨v, by rw [wipe_out h1]; exact q1, q2⟩
  · obtain ⟨h1, h2⟩ := wipeA_get e1 (fun q => nomatch q)
    obtain ⟨h3, h4⟩ := wipeA_get e2 (fun q => nomatch q)
    rw [wipe_out h1] at e3
    rw [wipe_out h3]
    exact ok.dis i j a ds es hij h2 h4 e3
  · obtain ⟨h1, h2⟩ := wipeA_get e1 (fun q => nomatch q)
    obtain ⟨h3, h4⟩ := wipeA_get e2 (fun q => nomatch q)
    rw [wipe_out h1] at e3
    rw [wipe_out h3]
    exact ok.dit i j a ds es hij h2 h4 e3
theorem wipe_in {σ : L2.St} {i : Nat} : ∀ {vs : List Nat}, i ∈ vs → (L2.wipe σ vs)[i]? = (σ[i]?).map fun _ => none
  | [], h => by cases h
  | v :: vs, h => by
    unfold L2.wipe
    by_cases e : i = v
    · subst e
      rw [List.getElem?_set_self', ]
      have hl := wipe_length σ vs
      cases q : σ[i]? with
      | none =>
        have : (L2.wipe σ vs)[i]? = none := by
          rw [List.getElem?_eq_none_iff] at q ⊢
          omega
        rw [this]
        rfl
      | some w =>
        have : ∃ u, (L2.wipe σ vs)[i]? = some u := by
          have h1 := (List.getElem?_eq_some_iff.mp q).1
          exact ⟨_, List.getElem?_eq_getElem (by rw [hl]; exact h1)⟩
        obtain ⟨u, hu⟩ := this
        rw [hu]
        rfl
    · rw [List.getElem?_set_ne (fun q => e q.symm)]
      exact wipe_in ((List.mem_cons.mp h).resolve_left e)
theorem wipe_same {σ σ2 : L2.St} {vs sl : List Nat} (hs : ∀ j ∈ sl, j ∈ vs) (h : ∀ j, j ∉ sl → σ2[j]? = (L2.wipe σ vs)[j]?) (hl : σ2.length = (L2.wipe σ vs).length) : L2.wipe σ2 vs = L2.wipe σ vs := by
  apply List.ext_getElem?
  intro j
  by_cases q : j ∈ vs
  · rw [wipe_in q, wipe_in q]
    rw [wipe_length] at hl
    cases e : σ[j]? with
    | none =>
      have : σ2[j]? = none := by
        rw [List.getElem?_eq_none_iff] at e ⊢
        omega
      rw [this]
    | some w =>
      have h1 := (List.getElem?_eq_some_iff.mp e).1
      rw [List.getElem?_eq_getElem (show j < σ2.length by omega)]
      rfl
  · rw [wipe_out q, wipe_out q, h j fun z => q (hs j z), wipe_out q]
def cYes : AS → M Bool := fun _ => M.pur true
def compL (t : PyData → AS → Option AS) (c : AS → M Bool) (f : AS → M PyData) : List PyData → AS → M (List PyData)
  | [], _ => M.pur []
  | d :: ds, z => M.bnd (M.opt (t d z)) fun z1 => M.bnd (c z1) fun b => if b then M.bnd (f z1) fun y => M.bnd (compL t c f ds z) fun r => M.pur (y :: r) else compL t c f ds z
def oComp (fi : AS → M (List PyData)) (t : PyData → AS → Option AS) (c : AS → M Bool) (f : AS → M PyData) (vs : List Nat) : AS → M (List PyData) := fun z => M.bnd (fi z) fun ds => if ds.length ≤ sizeLine then compL t c f ds (wipeA z vs) else M.no
theorem Ext.upd {dk : Option Dk} {F H F' H' : Hp} {a : Addr} {o : HO} (x : Ext dk F H F' H') (h0 : H a = none) (hF : F' a = none) : Ext dk F H F' (upd H' a o) :=
  ⟨x.ff, fun b u e => by rw [upd_ne (ne_of_none e hF)]; exact x.fh b u e, fun b u e n t => by rw [upd_ne (ne_of_none e h0)]; exact x.hh b u e n t, fun b e => by
    by_cases q : b = a
    · subst q; exact absurd h0 e
    · rw [upd_ne q]; exact x.lv b e, fun b ⟨u, e, n⟩ => (by
    obtain ⟨u', e', n'⟩ := x.lc b ⟨u, e, n⟩
    refine ⟨u', ?_, n'⟩
    rw [upd_ne (ne_of_none e h0)]
    exact e'), x.nf⟩
theorem DeckOk.upd [NTb] {dk : Option Dk} {δ : DS} {F H : Hp} {a : Addr} {o : HO} (d : DeckOk dk δ F H) (n : ¬ inDk dk a) (hl : ∃ vs, H a = some (.lst vs)) : DeckOk dk δ F (upd H a o) := d.hp (fun b hb => by
  rw [upd_ne]
  intro e
  subst e
  exact n hb) fun b u e q => by
  rw [upd_ne]
  · exact e
  · intro z
    subst z
    obtain ⟨vs, hl⟩ := hl
    rw [e] at hl
    injection hl with hl
    obtain ⟨ps, q⟩ := q
    rw [q] at hl
    cases hl
section
variable {X : Cx} {e a b c tg : Expr} {es : List Expr} {fa fb fc : AS → M PyData} {pos : Pos}
abbrev JTs [NTb] (X : Cx) (f : AS → M Bool) (ifs : List Expr) : Prop := PTs X ifs (tC X.K f)
theorem jts_nil [NTb] : JTs X cYes [] := ⟨fun pins s σ H Q I ⟨dk, F, z, δ, d, δ', hf, ok, k⟩ => pts_nil.run pins s σ H Q I (by
  obtain ⟨rfl, rfl⟩ := M.pur_some hf
  exact k F H (.refl ok.fh) ok.deck)⟩
theorem jts_one [NTb] {f : AS → M Bool} (h : JC X f c) : JTs X f [c] := pts_one h
theorem lc_of [NTb] {fi : AS → M (List PyData)} {t : PyData → AS → Option AS} {sl : List Nat} {cc : AS → M Bool} {fe : AS → M PyData} {vs : List Nat} {K : PySem.W.Frag} (hsl : ∀ j ∈ sl, j ∈ vs) {σ : L2.St} {H : Hp} {Q : VK} (h : tOn K (oComp fi t cc fe vs) σ H Q) :
    tLc (tI K fi) (tG K sl t) (tC K cc) (tE K fe) vs σ H Q := by
  obtain ⟨dk, F, z, δ, ds, δ', hf, ok, k⟩ := h
  obtain ⟨its, δ1, h1, hf⟩ := M.bnd_some hf
  have hlen : its.length ≤ sizeLine := by
    by_cases q : its.length ≤ sizeLine
    · exact q
    · rw [if_neg q] at hf; cases hf
  rw [if_pos hlen] at hf
  refine ⟨dk, F, z, δ, its, δ1, h1, ok, fun J F1 H1 x1 d1 it => fun D hD => ?_⟩
  have nd : ¬ inDk dk D := not_dk d1 hD
  refine ⟨fun i m H2 => m = its.length - i ∧ i ≤ its.length ∧ ∃ F2 δ2 acc accd rest, compL t cc fe (its.drop i) (wipeA z vs) δ2 = some (rest, δ') ∧ accd ++ rest = ds ∧ Ext dk F1 H1 F2 H2 ∧ DeckOk dk δ2 F2 H2 ∧ H2 D = some (.lst acc) ∧ F2 D = none ∧ DvAll K F2 acc accd ∧ acc.length ≤ i,
    ⟨its.length, by simp, Nat.zero_le _, F1, δ1, [], [], ds, by rw [List.drop_zero]; exact hf, rfl, .open x1.fh hD, (Grow.open (dk := dk) x1.fh hD).d _ d1, upd_same, x1.fh.free hD, .nil, Nat.le_refl _⟩, ?_⟩
  rintro i m H2 ⟨rfl, hi, F2, δ2, acc, accd, rest, hl, ed, x2, d2, hD2, hF2, rv, hac⟩
  obtain ⟨go, stop⟩ := it i dk F2 H2 x2.ff x2.fh
  by_cases hlt : i < its.length
  · obtain ⟨go, yl⟩ := go _ (List.getElem?_eq_getElem hlt)
    rw [List.drop_eq_getElem_cons hlt] at hl
    unfold compL at hl
    obtain ⟨z3, δ3, e3, hl3⟩ := M.bnd_some hl
    obtain ⟨e3', ed3⟩ := M.opt_some e3
    subst ed3
    obtain ⟨b, δ4, e4, hl4⟩ := M.bnd_some hl3
    refine .inr ⟨go, fun H' => ∃ F2 δ2 acc accd rest, compL t cc fe (its.drop (i + 1)) (wipeA z vs) δ2 = some (rest, δ') ∧ accd ++ rest = ds ∧ Ext dk F1 H1 F2 H' ∧ DeckOk dk δ2 F2 H' ∧ H' D = some (.lst acc) ∧ F2 D = none ∧ DvAll K F2 acc accd ∧ acc.length ≤ i + 1,
      fun H' h => ⟨its.length - (i + 1), by omega, rfl, hlt, h⟩, fun x H3 y => ?_⟩
    obtain ⟨F3, gr, r3⟩ := yl x H3 y
    have x3 : Ext dk F1 H1 F3 H3 := x2.trans gr.x
    have d3 := gr.d _ d2
    have okw : Ok K dk (wipeA z vs) δ3 (L2.wipe σ vs) F3 H3 := (ok.ext (x1.trans x3) d3).wipe vs
    refine ⟨dk, F3, wipeA z vs, _, _, z3, e3', okw, r3, fun σ3 s3 l3 ok3 _ => ⟨wipe_same hsl s3 l3, ?_⟩⟩
    refine ⟨dk, F3, z3, _, b, δ4, e4, ok3, fun F4 H4 x4 d4 => ?_⟩
    have hD4 : H4 D = some (.lst acc) := x4.hh D _ (gr.x.hh D _ hD2 nd (fun _ q => nomatch q)) nd (fun _ q => nomatch q)
    have hF3 : F3 D = none := gr.x.nf D hF2 (nc_lst hD2)
    have hF4 : F4 D = none := x4.nf D hF3 (nc_lst (gr.x.hh D _ hD2 nd (fun _ q => nomatch q)))
    cases b with
    | false =>
      rw [if_neg Bool.false_ne_true] at hl4
      refine iteF ?_
      exact ⟨F4, δ4, acc, accd, rest, hl4, ed, x3.trans x4, d4, hD4, hF4, DvAll.mono (gr.x.ff.trans x4.ff) rv, by omega⟩
    | true =>
      rw [if_pos rfl] at hl4
      refine iteT ?_
      obtain ⟨y, δ5, e5, hl5⟩ := M.bnd_some hl4
      obtain ⟨r, δ6, e6, hl6⟩ := M.bnd_some hl5
      obtain ⟨q1, q2⟩ := M.pur_some hl6
      subst q1 q2
      refine ⟨dk, F4, z3, δ4, y, δ5, e5, ok3.ext x4 d4, fun v F5 H5 x5 d5 r5 => ⟨acc, x5.hh D _ hD4 nd (fun _ q => nomatch q), by omega, ?_⟩⟩
      have hF5 : F5 D = none := x5.nf D hF4 (nc_lst hD4)
      exact ⟨F5, δ5, acc ++ [v], accd ++ [y], r, e6, by rw [List.append_assoc]; exact ed, ((x3.trans x4).trans x5).upd hD hF5, d5.upd nd ⟨_, x5.hh D _ hD4 nd (fun _ q => nomatch q)⟩, upd_same, hF5,
        (DvAll.mono ((gr.x.ff.trans x4.ff).trans x5.ff) rv).append (.cons r5 .nil), by rw [List.length_append, List.length_singleton]; omega⟩
  · have e0 : i = its.length := by omega
    subst e0
    rw [List.drop_length] at hl
    obtain ⟨q1, q2⟩ := M.pur_some hl
    subst q1 q2
    rw [List.append_nil] at ed
    subst ed
    exact .inl ⟨stop (Nat.le_refl _), k D acc F2 H2 (x1.trans x2) d2 (back_none x1 hD) hF2 hD2 rv⟩
theorem jo_comp [NTb] {elt iter : Expr} {ifs : List Expr} {scope : Scope} {own : List (Str × Nat)} {fi : AS → M (List PyData)} {t : PyData → AS → Option AS} {sl : List Nat} {cc : AS → M Bool} {fe : AS → M PyData} (hc : X.calm = true) (hN : X.N.Nodup) (hi : JI X fi tg iter) (ok : BlkOk X.N X.env.scope scope own)
    (hsl : ∀ j ∈ sl, j ∈ own.map (·.2))
    (hg : ∀ (s : Shared) (H : Hp) (C : Addr) (cl : List (Str × Addr)) (fp : List Addr), JG (X.blk s H scope (compEnvC scope cl C X.env) fp) sl t tg) (ht : ∀ (s : Shared) (H : Hp) (C : Addr) (cl : List (Str × Addr)) (fp : List Addr), JTs (X.blk s H scope (compEnvC scope cl C X.env) fp) cc ifs)
    (he : ∀ (s : Shared) (H : Hp) (C : Addr) (cl : List (Str × Addr)) (fp : List Addr), JE (X.blk s H scope (compEnvC scope cl C X.env) fp) fe elt) (hs : ∀ x, foldedSetIterable iter X.env x = pure x := by intro _; rfl) :
    JO X (oComp fi t cc fe (own.map (·.2))) (.ListComp elt [⟨tg, iter, ifs, 0⟩] scope pos) :=
  PE_imp (pe_lc (g := tG X.K sl t) (tt := tC X.K cc) (te := tE X.K fe) hc hN hi ok hg ht he hs) fun σ H Q h => lc_of hsl h
theorem js_setLc [NTb] {i : Nat} {y : Str} {py spos : Pos} {elt iter : Expr} {ifs : List Expr} {scope : Scope} {own : List (Str × Nat)} {fi : AS → M (List PyData)} {t : PyData → AS → Option AS} {sl : List Nat} {cc : AS → M Bool} {fe : AS → M PyData} (hc : X.calm = true) (hN : X.N.Nodup)
    (hy : X.N[i]? = some y) (hyl : X.env.scope.names.lookup y = some .local) (hsw : swapsWith (.ListComp elt [⟨tg, iter, ifs, 0⟩] scope pos) (some (.Name y py)) spos.line X.env = pure true) (hi : JI X fi tg iter) (ok : BlkOk X.N X.env.scope scope own)
    (hsl : ∀ j ∈ sl, j ∈ own.map (·.2))
    (hg : ∀ (s : Shared) (H : Hp) (C : Addr) (cl : List (Str × Addr)) (fp : List Addr), JG (X.blk s H scope (compEnvC scope cl C X.env) fp) sl t tg) (ht : ∀ (s : Shared) (H : Hp) (C : Addr) (cl : List (Str × Addr)) (fp : List Addr), JTs (X.blk s H scope (compEnvC scope cl C X.env) fp) cc ifs)
    (he : ∀ (s : Shared) (H : Hp) (C : Addr) (cl : List (Str × Addr)) (fp : List Addr), JE (X.blk s H scope (compEnvC scope cl C X.env) fp) fe elt) (hs : ∀ x, foldedSetIterable iter X.env x = pure x := by intro _; rfl) :
    JS X (sSet i (oE (oComp fi t cc fe (own.map (·.2))))) (.Assign [.Name y py] (.ListComp elt [⟨tg, iter, ifs, 0⟩] scope pos) spos) :=
  PS_imp (ps_setLc (g := tG X.K sl t) (tt := tC X.K cc) (te := tE X.K fe) hc hN hy hyl hsw hi ok hg ht he hs) fun D σ H ⟨dk, F0, H0, F, z, δ, fl, δ', hf, x, ok, fr, k⟩ => by
    obtain ⟨d, δ1, h1, hf⟩ := M.bnd_some hf
    obtain ⟨rfl, rfl⟩ := M.pur_some hf
    obtain ⟨ds, δ2, h2, hf2⟩ := M.bnd_some h1
    obtain ⟨rfl, rfl⟩ := M.pur_some hf2
    exact lc_of hsl ⟨dk, F, z, δ, ds, _, h2, ok, fun a vs F' H' x1 d1 ha hF hH r => k _ (L2.upd F' a (.lst vs)) H' (x.trans (x1.known ha hF hH)) (x1.ff.trans (same_upd' hF))
      ((ok.ext (x1.known ha hF hH) (d1.known (not_dk ok.deck ha) ⟨_, hH⟩ hF)).setDat i (sv := .dat (.list ds)) (.lst upd_same (DvAll.mono (same_upd' hF) r)) (fun _ q => nomatch q)) (fr.setDat i (fun _ q => nomatch q))⟩
end
end VL
set_option Elab.async false
set_option linter.all false
set_option maxRecDepth 100000
namespace VL
open PySem PySem.Spec L2
open PyProof.Rows hiding St
theorem Ok.mut [NTb] {K : PySem.W.Frag} {dk : Option Dk} {z : AS} {δ : DS} {σ : L2.St} {F H : Hp} {i : Nat} {ds es : List PyData} {a : Addr} {vs ws : List V} (ok : Ok K dk z δ σ F H) (hz : z[i]? = some (.own ds)) (h1 : σ[i]? = some (some (.ref a)))
    (hF : F a = none) (hd : ¬ inDk dk a) (hH : H a = some (.lst vs)) (r : DvAll K F ws es) : Ok K dk (z.set i (.own es)) δ σ F (upd H a (.lst ws)) := by
  have sm : Same F (L2.upd H a (.lst ws)) := fun b u e => by rw [upd_ne (ne_of_none e hF)]; exact ok.fh b u e
  refine ⟨sm, ok.deck.upd hd ⟨_, hH⟩, by simp [ok.len], fun j s e ne => ?_, fun j l b es' fs hjl e1 e2 e3 => ?_, fun j l b es' fs hjl e1 e2 e3 => ?_⟩
  · rcases get_set e with ⟨rfl, rfl, hl⟩ | ⟨hj, e⟩
    · exact ⟨_, h1, a, ws, rfl, hF, hd, upd_same, r⟩
    · obtain ⟨u, q1, q2⟩ := ok.sl j s e ne
      refine ⟨u, q1, ?_⟩
      cases s with
      | un => exact True.intro
      | dat _ => exact q2
      | deck => exact q2
      | scr _ => exact q2
      | fn _ => exact q2
      | ob _ _ => exact q2
      | kn _ => exact q2
      | gx _ => exact q2
      | od _ =>
        obtain ⟨b, us, rfl, t1, t2, t3, t4⟩ := q2
        refine ⟨b, us, rfl, t1, t2, ?_, t4⟩
        rw [upd_ne]
        · exact t3
        · intro q
          rw [q, hH] at t3
          cases t3
      | ot _ =>
        obtain ⟨b, us, rfl, t1, t2, t3, t4⟩ := q2
        refine ⟨b, us, rfl, t1, t2, ?_, t4⟩
        rw [upd_ne]
        · exact t3
        · intro q
          rw [q, hH] at t3
          exact nd_lst t3
      | own es' =>
        obtain ⟨b, us, rfl, t1, t2, t3, t4⟩ := q2
        refine ⟨b, us, rfl, t1, t2, ?_, t4⟩
        rw [upd_ne]
        · exact t3
        · intro q
          subst q
          exact ok.dis i j b ds es' (fun q => hj q.symm) hz e h1 q1
  · rcases get_set e1 with ⟨rfl, q, _⟩ | ⟨hj, e1'⟩
    · rcases get_set e2 with ⟨rfl, _, _⟩ | ⟨hl, e2'⟩
      · exact absurd rfl hjl
      · exact ok.dis j l b ds fs hjl hz e2' e3
    · rcases get_set e2 with ⟨rfl, _, _⟩ | ⟨hl, e2'⟩
      · exact ok.dis j l b es' ds hjl e1' hz e3
      · exact ok.dis j l b es' fs hjl e1' e2' e3
  · rcases get_set e1 with ⟨rfl, q, _⟩ | ⟨hj, e1'⟩
    · cases q
    · rcases get_set e2 with ⟨rfl, q, _⟩ | ⟨hl, e2'⟩
      · cases q
      · exact ok.dit j l b es' fs hjl e1' e2' e3
theorem Fresh.mut {z : AS} {σ : L2.St} {H0 : Hp} {i : Nat} {ds es : List PyData} (fr : Fresh z σ H0) (hz : z[i]? = some (.own ds)) : Fresh (z.set i (.own es)) σ H0 := fun j fs b m e1 e2 => by
  rcases get_set e1 with ⟨rfl, q, _⟩ | ⟨hj, e1⟩
  · exact fr j (.own ds) b True.intro hz e2
  · exact fr j fs b m e1 e2
theorem Ok.own_at [NTb] {K : PySem.W.Frag} {dk : Option Dk} {z : AS} {δ : DS} {σ : L2.St} {F H : Hp} {i : Nat} {ds : List PyData} (ok : Ok K dk z δ σ F H) (hz : z[i]? = some (.own ds)) :
    ∃ a vs, σ[i]? = some (some (.ref a)) ∧ F a = none ∧ ¬ inDk dk a ∧ H a = some (.lst vs) ∧ DvAll K F vs ds := by
  obtain ⟨v, h1, a, vs, rfl, hF, hd, hH, r⟩ := ok.sl i _ hz (fun q => nomatch q)
  exact ⟨a, vs, h1, hF, hd, hH, r⟩
/-- reading an own list at a slot -/
def ownAt (z : AS) (i : Nat) : Option (List PyData) := match z[i]? with
  | some (.own ds) => some ds
  | _ => none
theorem ownAt_some {z : AS} {i : Nat} {ds : List PyData} (h : ownAt z i = some ds) : z[i]? = some (.own ds) := by
  unfold ownAt at h
  cases hz : z[i]? with
  | none => rw [hz] at h; cases h
  | some sv =>
    rw [hz] at h
    cases sv with
    | own es => injection h with h; rw [h]
    | un => cases h
    | dat _ => cases h
    | deck => cases h
    | scr _ => cases h
    | fn _ => cases h
    | od _ => cases h
    | ot _ => cases h
    | ob _ _ => cases h
    | kn _ => cases h
    | gx _ => cases h
/-- x.append(e) -/
def sApp (i : Nat) (f : AS → M PyData) : AS → M Fl := fun z => M.bnd (f z) fun d => M.bnd (M.opt (ownAt z i)) fun ds => if ds.length < sizeLine then M.pur (.nx (z.set i (.own (ds ++ [d])))) else M.no
/-- x.extend(e) -/
def seqD : PyData → Option (List PyData)
  | .list ds => some ds
  | .tuple ds => some ds
  | _ => none
def sExt (i : Nat) (f : AS → M PyData) : AS → M Fl := fun z => M.bnd (f z) fun d => M.bnd (M.opt (seqD d)) fun es => M.bnd (M.opt (ownAt z i)) fun ds => if ds.length + es.length ≤ sizeLine then M.pur (.nx (z.set i (.own (ds ++ es)))) else M.no
/-- y = x.pop() -/
def sPopTo (j i : Nat) : AS → M Fl := fun z => M.bnd (M.opt (ownAt z i)) fun ds => M.bnd (M.opt ds.getLast?) fun d => M.pur (.nx ((z.set i (.own ds.dropLast)).set j (.dat d)))
def sPop (i : Nat) : AS → M Fl := fun z => M.bnd (M.opt (ownAt z i)) fun ds => M.bnd (M.opt ds.getLast?) fun d => M.pur (.nx (z.set i (.own ds.dropLast)))
section
set_option maxRecDepth 8000
open PySem.AutoSeq1 PySem.MeetsSeq in
theorem list_extend_tup (l : Addr) (items : Array Value) (n : Nat) (b : Addr) (items2 : Array Value) (n2 : Nat) (dd : Option Addr) (sl : Array (Option Value)) (hs0 : ¬(!items.isEmpty && Builtin.List.listTooLong (items.size + items2.size)) = true) (hs1 : items.size ≤ sizeLine) (hs2 : items.size + items2.size ≤ sizeLine + 1) :
    Meets (Builtin.«list.extend» ⟨[.ref l, .ref b], []⟩) (fun _ R s => s.heap.get? l = some { cls := .type "list", dict := none, data := .seq items n, slots := #[] } ∧ s.heap.get? b = some { cls := .type "tuple", dict := dd, data := .seq items2 n2, slots := sl } ∧ R (.ok (.ret Value.none)) { s with heap := s.heap.update l (Obj.mapSeq fun x => x ++ items2), toks := s.toks }) :=
  .of_wp fun prog w A R s h => by
    obtain ⟨hp, g, d, tk, os⟩ := s; obtain ⟨hl, hb, h⟩ := h; have f1 := AutoSeq1.idx_int; have f2 := AutoSeq1.sub_tuple_tuple; have f3 := AutoSeq1.sub_list_list; have f4 := AutoSeq1.sub_tuple_list; have f5 := AutoSeq1.sub_list_tuple;
    have hz' : (items ++ items2).size ≤ sizeLine + 1 := by rw [Array.size_append]; exact hs2
    wp_walk using (wpAny_updateSeq hl rfl (hz := hs1) (_hz' := hz')), wpAny_loadPart' hl, wpAny_loadPart' hb; exact ⟨_, rfl, h⟩
end
section
variable {X : Cx} {e o a b c tg : Expr} {es : List Expr} {fa fb fc : AS → M PyData} {pos : Pos}
def rExtT (K : PySem.W.Frag) : V → List V → Hp → VK → Prop := fun x vs H Q => ∃ l b xs zs, x = .ref l ∧ vs = [.ref b] ∧ H l = some (.lst xs) ∧ SqT K H b zs ∧ xs.length + zs.length ≤ sizeLine ∧ Q .non (upd H l (.lst (xs ++ zs)))
theorem mt_extT : MtM X "list.extend" (rExtT X.K) := by
  intro pins s σ H x vs v us Q I rx rv h
  obtain ⟨l, b, xs, zs, rfl, rfl, hH, hB, hz, q⟩ := h
  cases rx
  obtain ⟨u, rfl, ru⟩ := rv.one
  cases ru
  obtain ⟨z, its, n, r, hl, e⟩ := I.lstM hH
  obtain ⟨its2, r2, ⟨⟨cls, dd, data, sl⟩, e2, hc, n2, hd⟩, z2⟩ := I.tuple hB
  simp only at hc hd
  subst hc hd
  have hl2 := r2.length
  have hsz : its.toArray.size + its2.toArray.size ≤ sizeLine := by rw [List.size_toArray, List.size_toArray]; omega
  have hlong : ¬ (!its.toArray.isEmpty && Builtin.List.listTooLong (its.toArray.size + its2.toArray.size)) = true := by
    rw [notLongL hsz, Bool.and_false]
    exact Bool.false_ne_true
  refine call_meets PySem.F.slot_list_extend ⟨_, e, rfl⟩ PySem.F.entry_list_extend (PySem.F.args_list_extend_2 _ _)
    (list_extend_tup l its.toArray n b its2.toArray n2 dd sl hlong (by rw [List.size_toArray]; omega) (by omega)) ⟨e, e2, ?_⟩
  refine ⟨.non, _, I.lset (its' := its ++ its2) hH e (by simp) (r.append r2) ?_, rfl, q⟩
  rw [List.length_append]
  omega
def rExtA (K : PySem.W.Frag) : V → List V → Hp → VK → Prop := fun x vs H Q => rExtend x vs H Q ∨ rExtT K x vs H Q
theorem mt_extA : MtM X "list.extend" (rExtA X.K) := fun pins s σ H x vs v us Q I rx rv h => h.elim (mt_extend pins s σ H x vs v us Q I rx rv) (mt_extT pins s σ H x vs v us Q I rx rv)
theorem js_ext [NTb] {i : Nat} {apos cpos : Pos} (ho : PE X o (tVar i)) (h : JE X fa a)
    (hbase : attributeBase o "extend" X.env (eval o X.env) = eval o X.env := by rfl)
    (hfew : ((backTo cpos (starEach [a] X.env)).all (fun x => !x.1) && (backToKw cpos (keywordEach [] X.env)).all (fun x => x.1.isSome)
      && decide (([a] : List Expr).length + ([] : List Keyword).length + (if ([] : List Keyword).isEmpty then 0 else 1) < 30)) = true := by rfl)
    (hline : (apos.endLine == cpos.line) = true := by rfl) (hs : starEach [a] X.env = (false, eval a X.env) :: starEach [] X.env := by rfl) (hplain : (backTo cpos (starEach [] X.env)).any (·.1) = false := by rfl)
    (hsw : swapsWith (.Call (.Attribute o "extend" apos) [a] [] cpos) none pos.line X.env = pure false := by rfl) : JS X (sExt i fa) (.Expr (.Call (.Attribute o "extend" apos) [a] [] cpos) pos) :=
  PS_imp (ps_expr (pe_bm PySem.F.plainAttrs_list PySem.F.slot_list_extend PySem.F.type_list_extend mt_extA ho (pa_cons h pa_nil hs) hbase hfew hline hs hplain) hsw) fun D σ H ⟨dk, F0, H0, F, z, δ, fl, δ', hf, x, ok, fr, k⟩ => by
    obtain ⟨d, δ1, h1, hf1⟩ := M.bnd_some hf
    obtain ⟨es, δ3, h4, hf3⟩ := M.bnd_some hf1
    obtain ⟨h5, rfl⟩ := M.opt_some h4
    obtain ⟨ds, δ2, h2, hf2⟩ := M.bnd_some hf3
    obtain ⟨h3, rfl⟩ := M.opt_some h2
    have hz := ownAt_some h3
    have hl : ds.length + es.length ≤ sizeLine := by
      by_cases q : ds.length + es.length ≤ sizeLine
      · exact q
      · rw [if_neg q] at hf2; cases hf2
    rw [if_pos hl] at hf2
    obtain ⟨rfl, rfl⟩ := M.pur_some hf2
    obtain ⟨l, vs, e1, hF, hd, hH, r⟩ := ok.own_at hz
    refine ⟨_, e1, .inl ⟨rfl, _, SqL.of hH⟩, dk, F, z, δ, d, _, h1, ok, fun v F1 H1 x1 d1 r1 => ?_⟩
    have hH1 : H1 l = some (.lst vs) := x1.hh l _ hH hd (fun _ q => nomatch q)
    have hF1 : F1 l = none := x1.nf l hF (nc_lst hH)
    cases r1 with
    | lst q1 q2 =>
      injection h5 with h5
      subst h5
      refine .inl ⟨l, _, vs, _, rfl, rfl, hH1, x1.fh _ _ q1, by rw [r.length, q2.length]; exact hl, ?_⟩
      exact k σ F1 _ ((x.trans x1).upd (fr i (.own ds) l True.intro hz e1) hF1) x1.ff ((ok.ext x1 d1).mut hz e1 hF1 hd hH1 ((DvAll.mono x1.ff r).append q2)) (fr.mut hz)
    | tup q1 q2 =>
      injection h5 with h5
      subst h5
      refine .inr ⟨l, _, vs, _, rfl, rfl, hH1, same_seqT x1.fh q1, by rw [r.length, q2.length]; exact hl, ?_⟩
      exact k σ F1 _ ((x.trans x1).upd (fr i (.own ds) l True.intro hz e1) hF1) x1.ff ((ok.ext x1 d1).mut hz e1 hF1 hd hH1 ((DvAll.mono x1.ff r).append q2)) (fr.mut hz)
    | non => cases h5
    | bl _ => cases h5
    | int _ => cases h5
    | str _ => cases h5
    | dct _ _ => cases h5
theorem last_get {α : Type} {l : List α} : l[l.length - 1]? = l.getLast? := (List.getLast?_eq_getElem? ..).symm
theorem pop_at [NTb] {K : PySem.W.Frag} {i : Nat} {σ : L2.St} {H : Hp} {Q : VK} {dk : Option Dk} {F : Hp} {z : AS} {δ : DS} {ds : List PyData} {d : PyData} (ok : Ok K dk z δ σ F H) (hz : z[i]? = some (.own ds)) (hd : ds.getLast? = some d)
    (k : ∀ (v : V) (l : Addr) (vs : List V), σ[i]? = some (some (.ref l)) → F l = none → ¬ inDk dk l → H l = some (.lst vs) → Dv K F v d → DvAll K F vs.dropLast ds.dropLast → Q v (upd H l (.lst vs.dropLast))) : tBM0 K "list" rPop (tVar i) σ H Q := by
  obtain ⟨l, vs, e1, hF, nd, hH, r⟩ := ok.own_at hz
  rw [← last_get] at hd
  obtain ⟨v, q1, q2⟩ := r.get hd
  refine ⟨_, e1, .inl ⟨rfl, _, SqL.of hH⟩, l, vs, v, rfl, rfl, hH, by rw [r.length]; exact q1, ?_⟩
  exact k v l vs e1 hF nd hH q2 r.dropLast
theorem js_popTo [NTb] {i j : Nat} {x : Str} {p' apos cpos : Pos} (hN : X.N.Nodup) (hj : X.N[j]? = some x) (hx : Loc X.env.scope x) (ho : PE X o (tVar i))
    (hs : swapsWith (.Call (.Attribute o "pop" apos) [] [] cpos) (some (.Name x p')) pos.line X.env = pure false := by rfl) (hbase : attributeBase o "pop" X.env (eval o X.env) = eval o X.env := by rfl) (hline : (apos.endLine == cpos.line) = true := by rfl)
    (hf : X.fn x = true ∨ X.env.scope.names.lookup x = some .local := by first | exact .inl rfl | exact .inr rfl | assumption) : JS X (sPopTo j i) (.Assign [.Name x p'] (.Call (.Attribute o "pop" apos) [] [] cpos) pos) :=
  PS_imp (ps_set hN hj hx (pe_bm0 PySem.F.plainAttrs_list PySem.F.slot_list_pop PySem.F.type_list_pop mt_pop ho hbase hline) hs hf) fun D σ H ⟨dk, F0, H0, F, z, δ, fl, δ', hf, x, ok, fr, k⟩ => by
    obtain ⟨ds, δ2, h2, hf1⟩ := M.bnd_some hf
    obtain ⟨h3, rfl⟩ := M.opt_some h2
    obtain ⟨d, δ3, h4, hf2⟩ := M.bnd_some hf1
    obtain ⟨h5, rfl⟩ := M.opt_some h4
    obtain ⟨rfl, rfl⟩ := M.pur_some hf2
    have hz := ownAt_some h3
    refine pop_at (Q := fun x H1 => gName j x σ H1 D.nx) ok hz h5 fun v l vs e1 hF nd hH r1 r2 => ?_
    have ok1 := ok.mut hz e1 hF nd hH r2
    exact k _ F _ (x.upd (fr i (.own ds) l True.intro hz e1) hF) (Same.refl _) (ok1.setDat j (sv := .dat d) r1 (fun _ q => nomatch q)) ((fr.mut hz).setDat j (fun _ q => nomatch q))
def sPar (i j : Nat) (f g : AS → M PyData) : AS → M Fl := fun z => M.bnd (f z) fun d => M.bnd (g z) fun e => M.pur (.nx ((z.set i (.dat d)).set j (.dat e)))
def sParO (i j : Nat) (f : AS → M (List PyData)) (g : AS → M PyData) : AS → M Fl := fun z => M.bnd (f z) fun d => M.bnd (g z) fun e => M.pur (.nx ((z.set i (.own d)).set j (.dat e)))
def sParDO (i j : Nat) (f : AS → M PyData) (g : AS → M (List PyData)) : AS → M Fl := fun z => M.bnd (f z) fun d => M.bnd (g z) fun e => M.pur (.nx ((z.set i (.dat d)).set j (.own e)))
theorem js_par [NTb] {i j : Nat} {x y : Str} {px py pt : Pos} {kt k2 pt2} (hc : X.calm = true) (hN : X.N.Nodup) (hi : X.N[i]? = some x) (hj : X.N[j]? = some y) (hij : i ≠ j)
    (hx : X.env.scope.names.lookup x = some .local) (hy : X.env.scope.names.lookup y = some .local) (ha : JE X fa a) (hb : JE X fb b) (h1 : starEach [a, b] X.env = (false, eval a X.env) :: starEach [b] X.env) (h2 : starEach [b] X.env = (false, eval b X.env) :: starEach [] X.env)
    (hw : swappedStores [.Tuple [.Name x px, .Name y py] kt pt] (.Tuple [a, b] k2 pt2) X.env = pure (some [x, y]))
    (hs : swapsWithSole [.Tuple [.Name x px, .Name y py] kt pt] (.Tuple [a, b] k2 pt2) pos.line X.env = pure false) : JS X (sPar i j fa fb) (.Assign [.Tuple [.Name x px, .Name y py] kt pt] (.Tuple [a, b] k2 pt2) pos) :=
  PS_imp (ps_par hc hN hi hj hij hx hy (pa_cons ha (pa_cons hb pa_nil h2) h1) hw hs) fun D σ H ⟨dk, F0, H0, F, z, δ, fl, δ', hf, x, ok, fr, k⟩ => by
    obtain ⟨d, δ1, e1, hf1⟩ := M.bnd_some hf
    obtain ⟨e, δ2, e2, hf2⟩ := M.bnd_some hf1
    obtain ⟨rfl, rfl⟩ := M.pur_some hf2
    refine ⟨dk, F, z, δ, d, δ1, e1, ok, fun v1 F1 H1 x1 d1 r1 => ⟨dk, F1, z, δ1, e, _, e2, ok.ext x1 d1, fun v2 F2 H2 x2 d2 r2 => ⟨v1, v2, rfl, ?_⟩⟩⟩
    have x12 := x1.trans x2
    exact k _ F2 H2 (x.trans x12) x12.ff (((ok.ext x12 d2).setDat i (sv := .dat d) (Dv.mono x2.ff r1) (fun _ q => nomatch q)).setDat j (sv := .dat e) r2 (fun _ q => nomatch q)) ((fr.setDat i (sv := .dat d) (fun _ q => nomatch q)).setDat j (sv := .dat e) (fun _ q => nomatch q))
end
end VL
set_option Elab.async false
set_option linter.all false
set_option maxRecDepth 100000
namespace VL
open PySem PySem.Spec L2
open PyProof.Rows hiding St
def spF [NTb] (K : PySem.W.Frag) (fn : List AV → M PyData) : Sp := fun vs H Q _ => ∃ dk F as δ d δ', fn as δ = some (d, δ') ∧ Same F H ∧ DeckOk dk δ F H ∧ AVs K dk F vs as ∧ ∀ v F' H', Ext dk F H F' H' → DeckOk dk δ' F' H' → Dv K F' v d → Q v H'
def avSV : AV → SV
  | .d x => .dat x
  | .deck => .deck
  | .fn g => .fn g
  | .ob c fs => .ob c fs
  | .am i => .gx (.am i)
def startA (N : Nat) (as : List AV) : AS := as.map avSV ++ List.replicate (N - as.length) .un
def flD (fl : Fl) : M PyData := match fl with
  | .rt d => M.pur d
  | .nx _ => M.pur .none
  | _ => M.no
def runB (n N : Nat) (g : AS → M Fl) : List AV → M PyData := fun as => if as.length = n then M.bnd (g (startA N as)) flD else M.no
theorem AVs.length [NTb] {K : PySem.W.Frag} {dk : Option Dk} {F : Hp} : ∀ {vs : List V} {as : List AV}, AVs K dk F vs as → vs.length = as.length
  | _, _, .nil => rfl
  | _, _, .cons _ t => by simp [AVs.length t]
theorem AVs.get [NTb] {K : PySem.W.Frag} {dk : Option Dk} {F : Hp} : ∀ {vs : List V} {as : List AV} {i : Nat} {a : AV}, AVs K dk F vs as → as[i]? = some a → ∃ v, vs[i]? = some v ∧ AVok K dk F v a
  | _, _, _, _, .nil, e => by simp at e
  | _, _, 0, _, .cons h _, e => by simp at e; subst e; exact ⟨_, rfl, h⟩
  | _, _, i + 1, _, .cons _ t, e => by
    obtain ⟨v, h1, h2⟩ := AVs.get (i := i) t (by simpa using e)
    exact ⟨v, by simpa using h1, h2⟩
theorem startA_get {N : Nat} {as : List AV} {i : Nat} {sv : SV} (h : (startA N as)[i]? = some sv) (n : sv ≠ .un) : ∃ a, as[i]? = some a ∧ sv = avSV a := by
  unfold startA at h
  rw [List.getElem?_append] at h
  split at h
  · rw [List.getElem?_map] at h
    cases q : as[i]? with
    | none => rw [q] at h; cases h
    | some a => rw [q] at h; injection h with h; exact ⟨a, rfl, h.symm⟩
  · rw [List.getElem?_replicate] at h
    split at h
    · injection h with h
      exact absurd h.symm n
    · cases h
theorem Ok.start [NTb] {K : PySem.W.Frag} {dk : Option Dk} {δ : DS} {F H : Hp} {N : List Str} {vs : List V} {as : List AV} (sm : Same F H) (d : DeckOk dk δ F H) (r : AVs K dk F vs as) : Ok K dk (startA N.length as) δ (L2.start N vs) F H := by
  have hl := r.length
  refine ⟨sm, d, ?_, fun i sv e n => ?_, fun i j a ds es hij e1 e2 e3 => ?_, fun i j a ds es hij e1 e2 e3 => ?_⟩
  · simp [startA, L2.start, hl]
  · obtain ⟨a, e1, rfl⟩ := startA_get e n
    obtain ⟨v, e2, e3⟩ := r.get e1
    refine ⟨v, ?_, ?_⟩
    · unfold L2.start
      rw [List.getElem?_append_left (by rw [List.length_map]; exact (List.getElem?_eq_some_iff.mp e2).1), List.getElem?_map, e2]
      rfl
    · cases a with
      | d x => exact e3
      | deck => exact e3
      | fn _ => exact e3
      | ob _ _ => exact e3
      | am _ => exact e3
  · obtain ⟨b, e4, e5⟩ := startA_get e1 (fun q => nomatch q)
    cases b <;> cases e5
  · obtain ⟨b, e4, e5⟩ := startA_get e1 (fun q => nomatch q)
    cases b <;> cases e5
theorem Fresh.start {σ : L2.St} {H0 : Hp} {N : Nat} {as : List AV} : Fresh (startA N as) σ H0 := fun i ds a m e1 _ => by
  obtain ⟨b, _, e5⟩ := startA_get e1 (fun q => by subst q; exact m.elim)
  subst e5
  cases b <;> exact m.elim
/-- what a def promises where no repr is under way -/
structure FnG (P : Program) (w : World) (K : PySem.W.Frag) (mg : Str → Option Value) (base : Heap) (k : Nat) (f : Addr) (fd : FuncData) (ps : List Str) (sp : Sp) : Prop where
  len : ∀ vs H Q E, sp vs H Q E → vs.length = ps.length
  run : ∀ (A : Around) (outer : List Env) (s : Shared) (H : Hp) (args : Args) (us : List Value) (vs : List V) (Q : VK), A.guards = some [] → Room k A → Env0 P w K mg base A outer s H → BindsTo s fd args (ps.zip us) → Vals vs us → sp vs H Q E0 →
    codeAny (model P w) A (.call (.ref f) args) (CR CX0 outer P w H s Q E0) s
theorem FnG.mono {P : Program} {w : World} {K : PySem.W.Frag} {mg : Str → Option Value} {base : Heap} {j k : Nat} {f : Addr} {fd : FuncData} {ps : List Str} {sp : Sp} (G : FnG P w K mg base j f fd ps sp) (h : j ≤ k) : FnG P w K mg base k f fd ps sp :=
  ⟨G.len, fun A o s H a us vs Q g r => G.run A o s H a us vs Q g (r.mono h)⟩
section
variable {P : Program} {w : World} {K : PySem.W.Frag} {mg : Str → Option Value} {base : Heap}
/-- a def keeps what its body keeps -/
theorem fnG_of {x qual : Str} {st : Stmt} {f : Addr} {fd : FuncData} {N ps : List Str} {k : Nat} {sp : Sp} (F : Fun K x qual st f fd) (S : FnScope N ps (defScope st)) (len : ∀ vs H Q E, sp vs H Q E → vs.length = ps.length)
    (body : ∀ (cdv : Value) (A : Around) (outer : List Env) (s : Shared) (H : Hp) (vs : List V) (Q : VK), A.guards = some [] → Room k (A.deeper (envOfC qual (defScope st) s.heap.objs.size f cdv)) → sp vs H Q E0 →
      ∃ t, PSs (cxOf CX0 P w K mg base N qual (defScope st) f cdv A outer s H E0) (defBody st) t ∧ t { nx := fun _ H' => Q .non H', rt := Q } (L2.start N vs) H) : FnG P w K mg base (k + 1) f fd ps sp := by
  obtain ⟨oc, od, kV, doc, pm, an, cdv, ct, osl, efd, at_f, cdOk⟩ := F.ex
  subst efd
  constructor
  · exact len
  intro A outer s H args us vs Q hg room env bind vals want
  have inK : K.In s.heap := env.mod.kin.keeps fun b o q => (env.bs b o q).1
  refine codeAny_call_function room.depth (inK _ _ at_f) rfl S.co S.gen rfl (PySem.W.codeRec_of inK cdOk) (bind _ _ _ _ ?_)
  refine wpAny_newFunctionEnv_cells S.kind (fun y hy => ?_) fun e2 he s1 new => ?_
  · rcases S.par y.1 (List.of_mem_zip (a := y.1) (b := y.2) hy).1 with q | q
    · exact Or.inl q
    · exact Or.inr ⟨q, PySem.W.cellsFrom_some _ _ _ (Or.inl q)⟩
  · subst he
    have noLim : s.heap.NoLimit := env.mod.nolimit.keeps fun b o q => (env.bs b o q).1
    refine ⟨noLim.keeps new.toInCall.keep, codeAny_func ?_⟩
    obtain ⟨t, ht, hq⟩ := body cdv A outer s H vs Q hg (room.deeper _) want
    have I := inv_start (CX := CX0) (E := E0) (qual := qual) (f := f) (cd := cdv) S room.hd env (len _ _ _ _ want) vals new
    refine wpAny_mono (ht.run [] s1 _ H _ I hq) (fun fl s2 ends => ?_) (fun _ _ z => z)
    cases fl with
    | ret u =>
      obtain ⟨v, _, H2, J, rv, q⟩ := ends
      exact ⟨v, H2, J.os, J.bare, J.base, J.hok, rv, q⟩
    | next =>
      obtain ⟨_, H2, J, q⟩ := ends
      exact ⟨.non, H2, J.os, J.bare, J.base, J.hok, rfl, q⟩
    | brk =>
      obtain ⟨_, _, _, q⟩ := ends
      exact q.elim
    | cont =>
      obtain ⟨_, _, _, q⟩ := ends
      exact q.elim
theorem ok_def [NTb] {x qual : Str} {st : Stmt} {f : Addr} {fd : FuncData} {N ps : List Str} {k : Nat} {g : AS → M Fl} (F : Fun K x qual st f fd) (S : FnScope N ps (defScope st))
    (hb : ∀ (cdv : Value) (A : Around) (outer : List Env) (s : Shared) (H : Hp), A.guards = some [] → Room k (A.deeper (envOfC qual (defScope st) s.heap.objs.size f cdv)) → JSs (cxOf CX0 P w K mg base N qual (defScope st) f cdv A outer s H E0).nox g (defBody st)) :
    FnG P w K mg base (k + 1) f fd ps (spF K (runB ps.length N.length g)) := by
  have hlen : ∀ {as δ r}, runB ps.length N.length g as δ = some r → as.length = ps.length := fun {as δ r} h => by
    unfold runB at h
    by_cases q : as.length = ps.length
    · exact q
    · rw [if_neg q] at h; cases h
  refine fnG_of F S (fun vs H Q E h => ?_) (fun cdv A outer s H vs Q hg hr h => ⟨_, (hb cdv A outer s H hg hr).nox, ?_⟩)
  · obtain ⟨dk, F, as, δ, d, δ', hf, sm, dd, r, q⟩ := h
    rw [r.length]
    exact hlen hf
  · obtain ⟨dk, F, as, δ, d, δ', hf, sm, dd, r, q⟩ := h
    have hl := hlen hf
    unfold runB at hf
    rw [if_pos hl] at hf
    obtain ⟨fl, δ1, h1, h2⟩ := M.bnd_some hf
    refine ⟨dk, F, H, F, startA N.length as, δ, fl, δ1, h1, .refl sm, .start sm dd r, .start, ?_⟩
    cases fl with
    | nx z =>
      obtain ⟨rfl, rfl⟩ := M.pur_some h2
      exact fun σ F' H' x s ok fr => q .non F' H' x ok.deck .non
    | rt d' =>
      obtain ⟨rfl, rfl⟩ := M.pur_some h2
      exact fun v F' H' x dd' r' => q v F' H' x dd' r'
    | bk _ => cases h2
    | ex _ _ _ => cases h2
    | ct _ => cases h2
/-- a promise that asks for what can't be -/
theorem ok_never [NTb] {f : Addr} {fd : FuncData} {ps : List Str} {k : Nat} {fn : List AV → M PyData} (h : ∀ as δ, fn as δ = none) : FnG P w K mg base k f fd ps (spF K fn) := by
  refine ⟨fun vs H Q E hh => ?_, fun A outer s H args us vs Q _ _ _ _ _ hh => ?_⟩
  · obtain ⟨dk, F, as, δ, d, δ', hf, _⟩ := hh
    rw [h] at hf
    cases hf
  · obtain ⟨dk, F, as, δ, d, δ', hf, _⟩ := hh
    rw [h] at hf
    cases hf
end
def eCall (fn : List AV → M PyData) (g : AS → M (List AV)) : AS → M PyData := fun z => M.bnd (g z) fn
section
variable {X : Cx} {e a b c tg : Expr} {es : List Expr} {fa fb fc : AS → M PyData} {pos : Pos}
/-- a call from where no repr is under way -/
theorem runG {k : Nat} {f : Addr} {fd : FuncData} {ps : List Str} {sp : Sp} {pins : List (Addr × Obj)} {σ : L2.St} {H : Hp} {s : Shared} {Q : VK} {us : List Value} {vs : List V} (G : FnG X.prog X.w X.K X.mg X.base k f fd ps sp) (hg : X.A.guards = some []) (hr : Room k X.A) (hb : Binds X.K fd ps [])
    (I : Inv X pins σ H s) (r : Vals vs us) (h : sp vs H Q E0) : wpAny (model X.prog X.w) X.A (call (.ref f) us) (EP X pins σ Q) X.xe s := by
  have el : (us ++ []).length = ps.length := by
    rw [List.append_nil, ← r.length]
    exact G.len vs H Q E0 h
  have bd := hb s us I.kIn el
  rw [List.append_nil] at bd
  refine wpAny_call (codeAny_mono (G.run X.A X.stack s H ⟨us, []⟩ us vs Q hg hr I.env0 bd r h) fun res s2 hres => ?_)
  cases res with
  | error _ => exact hres.elim
  | ok fl =>
    cases fl with
    | ret u => exact I.after hres
    | next => exact hres.elim
    | brk => exact hres.elim
    | cont => exact hres.elim
theorem peG {k : Nat} {f : Addr} {fd : FuncData} {ps : List Str} {sp : Sp} {t : TA} {x : Str} {p : Pos} (G : FnG X.prog X.w X.K X.mg X.base k f fd ps sp) (hu : X.A.guards = some []) (hr : Room k X.A) (hg : Gl X x) (hm : X.mg x = some (.ref f)) (hk : PySem.W.keepIn X.K (.ref f) = true) (hb : Binds X.K fd ps [])
    (ha : PA X (a :: es) t) (hdb : (x == ("__debug__" : Str)) = false) (he : starEach (a :: es) X.env = (false, eval a X.env) :: starEach es X.env) (hpl : (backTo pos (starEach es X.env)).any (·.1) = false) :
    PE X (.Call (.Name x p) (a :: es) [] pos) (fun σ H Q => t σ H fun vs H1 => sp vs H1 Q E0) := by
  constructor
  intro pins s σ H Q I h
  refine wpAny_Call_Name_kw (ld_glob I hg hm (PySem.W.callWith_K (h₀ := X.base) I.ok.mod.kin hk ?_ he hpl) hdb)
  refine thn (ha.run pos pins s σ H _ I h) fun us s1 hq => ?_
  obtain ⟨vs, H1, I1, r, q⟩ := hq
  exact ⟨I1.kIn, runG G hu hr hb I1 r q⟩
theorem call_imp [NTb] {fn : List AV → M PyData} {g : AS → M (List AV)} {K : PySem.W.Frag} {σ : L2.St} {H : Hp} {Q : VK} (h : tE K (eCall fn g) σ H Q) : tAr K g σ H fun vs H1 => spF K fn vs H1 Q E0 := by
  obtain ⟨dk, F, z, δ, d, δ', hf, ok, k⟩ := h
  obtain ⟨as, δ1, h1, h2⟩ := M.bnd_some hf
  exact ⟨dk, F, z, δ, as, δ1, h1, ok, fun vs F1 H1 x1 d1 r1 => ⟨dk, F1, as, δ1, d, δ', h2, x1.fh, d1, r1, fun v F' H' x dd r => k v F' H' (x1.trans x) dd r⟩⟩
theorem je_call [NTb] {j k : Nat} {f : Addr} {fd : FuncData} {ps : List Str} {x : Str} {p : Pos} {fn : List AV → M PyData} {g : AS → M (List AV)} (F : FnG X.prog X.w X.K X.mg X.base k f fd ps (spF X.K fn)) (hu : X.A.guards = some []) (hr : Room j X.A) (hk : k ≤ j) (hg : Gl X x) (hm : X.mg x = some (.ref f))
    (hkp : PySem.W.keepIn X.K (.ref f) = true) (hb : Binds X.K fd ps []) (ha : JA X g (a :: es)) (hdb : (x == ("__debug__" : Str)) = false := by decide) (he : starEach (a :: es) X.env = (false, eval a X.env) :: starEach es X.env := by rfl) (hpl : (backTo pos (starEach es X.env)).any (·.1) = false := by rfl) : JE X (eCall fn g) (.Call (.Name x p) (a :: es) [] pos) :=
  PE_imp (peG F hu (hr.mono hk) hg hm hkp hb ha hdb he hpl) fun σ H Q h => call_imp h
end
end VL
set_option Elab.async false
set_option linter.all false
set_option maxRecDepth 100000
namespace VL
open PySem PySem.Spec L2
open PyProof.Rows hiding St
section
open PySem.SeqAt PySem.MeetsSeq
open AutoSeq1 (wpAny_loadPart')
theorem dict_eq_declines_str (l : Addr) (es : Array DictEntry) (n : Nat) (b : Str) (u : Tok) :
    Meets (Builtin.«dict.__eq__» ⟨[.ref l, .str b u], []⟩) (fun _ R s => s.heap.get? l = some { cls := .type "dict", dict := none, data := .dict es n, slots := #[] } ∧ R (.ok (.ret .notImplemented)) s) :=
  .of_wp fun prog w A R s h => by obtain ⟨hp, g, d, tk, os⟩ := s; obtain ⟨hl, h⟩ := h; have f1 := PySem.F.sub_str_dict; wp_walk using wpAny_loadPart' hl; exact ⟨_, rfl, h⟩
theorem str_eq_declines_dict (b : Str) (u : Tok) (l : Addr) (es : Array DictEntry) (n : Nat) :
    Meets (Builtin.«str.__eq__» ⟨[.str b u, .ref l], []⟩) (fun _ R s => s.heap.get? l = some { cls := .type "dict", dict := none, data := .dict es n, slots := #[] } ∧ R (.ok (.ret .notImplemented)) s) :=
  .of_wp fun prog w A R s h => by obtain ⟨hp, g, d, tk, os⟩ := s; obtain ⟨hl, h⟩ := h; wp_walk using wpAny_loadPart' hl, wpAny_load hl; exact ⟨_, rfl, h⟩
variable {A : Around} {s : Shared}
theorem RcAt_dict_str {l : Addr} {o : Obj} {es : Array DictEntry} {n : Nat} (b : Str) (u : Tok) (ho : s.heap.get? l = some o) (hx : o.ExactDict) (hd : o.data = .dict es n) (hu : A.units < cLine) : RcAt A s (.ref l) (.str b u) false := fun prog w E Q h => by
  obtain ⟨cls, dd, data, sl⟩ := o
  obtain ⟨rfl, rfl, rfl⟩ := hx
  simp only at hd
  subst hd
  exact rc_eq_decline_or (k := false) ⟨_, ho, rfl⟩ (typeIs_str s b u) (by decide) F.sub_str_dict F.slot_dict_eq F.slot_str_eq_refl
    (fun _ hq => call_meets F.slot_dict_eq ⟨_, ho, rfl⟩ F.entry_dict_eq (F.args_dict_eq_2 _ _) (dict_eq_declines_str l es n b u) ⟨ho, hq⟩)
    (fun _ hq => call_meets F.slot_str_eq_refl (typeIs_str s b u) F.entry_str_eq (F.args_str_eq_2 _ _) (str_eq_declines_dict b u l es n) ⟨ho, hq⟩)
    (fun _ hq => wpAny_of_eq (rfl : isSame (.ref l) (.str b u) = pure false) hq) (.inr hu) h
theorem RcAt_str_dict {l : Addr} {o : Obj} {es : Array DictEntry} {n : Nat} (b : Str) (u : Tok) (ho : s.heap.get? l = some o) (hx : o.ExactDict) (hd : o.data = .dict es n) (hu : A.units < cLine) : RcAt A s (.str b u) (.ref l) false := fun prog w E Q h => by
  obtain ⟨cls, dd, data, sl⟩ := o
  obtain ⟨rfl, rfl, rfl⟩ := hx
  simp only at hd
  subst hd
  exact rc_eq_decline_or (k := false) (typeIs_str s b u) ⟨_, ho, rfl⟩ (by decide) F.sub_dict_str F.slot_str_eq F.slot_dict_eq_refl
    (fun _ hq => call_meets F.slot_str_eq (typeIs_str s b u) F.entry_str_eq (F.args_str_eq_2 _ _) (str_eq_declines_dict b u l es n) ⟨ho, hq⟩)
    (fun _ hq => call_meets F.slot_dict_eq_refl ⟨_, ho, rfl⟩ F.entry_dict_eq (F.args_dict_eq_2 _ _) (dict_eq_declines_str l es n b u) ⟨ho, hq⟩)
    (fun _ hq => wpAny_of_eq (rfl : isSame (.str b u) (.ref l) = pure false) hq) (.inr hu) h
theorem EqAt_dict_str {l : Addr} {o : Obj} {es : Array DictEntry} {n : Nat} (b : Str) (u : Tok) (ho : s.heap.get? l = some o) (hx : o.ExactDict) (hd : o.data = .dict es n) (hu : A.units < cLine) : EqAt A s (.ref l) (.str b u) false := fun prog w E Q h => by
  unfold eqBool
  refine wpAny_holding ?_
  refine wpAny_ite_split (fun hab => absurd (eq_of_beq hab) nofun) (fun _ => ?_)
  exact wpAny_bind (RcAt_dict_str b u ho hx hd hu prog w E _ (wpAny_truthy_bool h))
theorem EqAt_str_dict {l : Addr} {o : Obj} {es : Array DictEntry} {n : Nat} (b : Str) (u : Tok) (ho : s.heap.get? l = some o) (hx : o.ExactDict) (hd : o.data = .dict es n) (hu : A.units < cLine) : EqAt A s (.str b u) (.ref l) false := fun prog w E Q h => by
  unfold eqBool
  refine wpAny_holding ?_
  refine wpAny_ite_split (fun hab => absurd (eq_of_beq hab) nofun) (fun _ => ?_)
  exact wpAny_bind (RcAt_str_dict b u ho hx hd hu prog w E _ (wpAny_truthy_bool h))
end
mutual
/-- a comparison that has a rule: a dict stands beside a text at most -/
def okEq : PyData → PyData → Bool
  | .dict _, .str _ => true
  | .str _, .dict _ => true
  | .dict _, _ => false
  | _, .dict _ => false
  | .list xs, .list ys => okEqAll xs ys
  | .tuple xs, .tuple ys => okEqAll xs ys
  | _, _ => true
def okEqAll : List PyData → List PyData → Bool
  | [], _ => true
  | _ :: _, [] => true
  | x :: xs, y :: ys => okEq x y && okEqAll xs ys
end
mutual
theorem eqv_self : ∀ d : PyData, okEq d d = true → PyData.eqv d d = true
  | .none, _ => rfl
  | .bool b, _ => by simp [PyData.eqv]
  | .int i, _ => by simp [PyData.eqv]
  | .str x, _ => by simp [PyData.eqv]
  | .list xs, h => by rw [PyData.eqv]; exact eqvAll_self xs (by simpa [okEq] using h)
  | .tuple xs, h => by rw [PyData.eqv]; exact eqvAll_self xs (by simpa [okEq] using h)
  | .dict _, h => by simp [okEq] at h
theorem eqvAll_self : ∀ xs : List PyData, okEqAll xs xs = true → PyData.eqvAll xs xs = true
  | [], _ => rfl
  | x :: xs, h => by
    have h' : okEq x x = true ∧ okEqAll xs xs = true := by simpa [okEqAll] using h
    rw [PyData.eqvAll, eqv_self x h'.1, eqvAll_self xs h'.2]; rfl
end
section
variable {X : Cx} {pins : List (Addr × Obj)} {σ : L2.St} {H F : Hp} {s : Shared}
mutual
theorem Dv.uniq (I : Inv X pins σ H s) (sm : Same F H) : ∀ {v : V} {d e : PyData}, okEq d e = true → Dv X.K F v d → Dv X.K F v e → d = e
  | _, _, _, _, .non, .non => rfl
  | _, _, _, _, .bl _, .bl _ => rfl
  | _, _, _, _, .int _, .int _ => rfl
  | _, _, _, _, .str _, .str _ => rfl
  | _, _, _, ok, .lst h1 r1, .lst h2 r2 => by
    rw [h1] at h2
    injection h2 with h2
    injection h2 with h2
    subst h2
    rw [DvAll.uniq I sm (by simpa [okEq] using ok) r1 r2]
  | _, _, _, ok, .tup h1 r1, .tup h2 r2 => by
    have e := I.tuple_inj (same_seqT sm h1) (same_seqT sm h2)
    subst e
    rw [DvAll.uniq I sm (by simpa [okEq] using ok) r1 r2]
  | _, _, _, _, .lst h1 r1, .tup h2 r2 => by
    exfalso
    obtain ⟨its, _, ⟨o, n, e, c, _⟩, _⟩ := I.list (.inl (.inl (sm _ _ h1)))
    obtain ⟨its2, _, ⟨o2, e2, c2, _⟩, _⟩ := I.tuple (same_seqT sm h2)
    rw [e] at e2
    injection e2 with e2
    subst e2
    rw [c] at c2
    simp at c2
  | _, _, _, _, .tup h1 r1, .lst h2 r2 => by
    exfalso
    obtain ⟨its, _, ⟨o, n, e, c, _⟩, _⟩ := I.list (.inl (.inl (sm _ _ h2)))
    obtain ⟨its2, _, ⟨o2, e2, c2, _⟩, _⟩ := I.tuple (same_seqT sm h1)
    rw [e] at e2
    injection e2 with e2
    subst e2
    rw [c] at c2
    simp at c2
  | _, .dict _, .dict _, ok, _, _ => by simp [okEq] at ok
  | _, .dict _, .list _, ok, _, _ => by simp [okEq] at ok
  | _, .dict _, .tuple _, ok, _, _ => by simp [okEq] at ok
  | _, .list _, .dict _, ok, _, _ => by simp [okEq] at ok
  | _, .tuple _, .dict _, ok, _, _ => by simp [okEq] at ok
theorem DvAll.uniq (I : Inv X pins σ H s) (sm : Same F H) : ∀ {vs : List V} {ds es : List PyData}, okEqAll ds es = true → DvAll X.K F vs ds → DvAll X.K F vs es → ds = es
  | _, _, _, _, .nil, .nil => rfl
  | _, _, _, ok, .cons h1 t1, .cons h2 t2 => by
    simp only [okEqAll, Bool.and_eq_true] at ok
    rw [Dv.uniq I sm ok.1 h1 h2, DvAll.uniq I sm ok.2 t1 t2]
end
end
end VL
set_option Elab.async false
set_option linter.all false
set_option maxRecDepth 100000
namespace VL
open PySem PySem.Spec L2
open PyProof.Rows hiding St
open PySem.SeqAt (EqAt RcAt RcNeAt pairEq eqvAll_eq eqvAll_same_length eqvAll_other_length room_here room_in room_head room_tail)
section
variable {X : Cx} {pins : List (Addr × Obj)} {σ : L2.St} {H F : Hp} {s : Shared}
theorem lst_at (I : Inv X pins σ H s) {a : Addr} {vs : List V} (h : H a = some (.lst vs)) : ∃ its : List Value, Vals vs its ∧ s.heap.IsList a its.toArray ∧ its.toArray.size = vs.length := by
  obtain ⟨its, r, p, _⟩ := I.list (SqL.of h)
  exact ⟨its, r, p.isList, by rw [List.size_toArray]; exact r.length.symm⟩
theorem tup_at (I : Inv X pins σ H s) {a : Addr} {vs : List V} (h : SqT X.K H a vs) : ∃ its : List Value, Vals vs its ∧ s.heap.IsTuple a its.toArray ∧ its.toArray.size = vs.length := by
  obtain ⟨its, r, p, _⟩ := I.tuple h
  exact ⟨its, r, p, by rw [List.size_toArray]; exact r.length.symm⟩
theorem dct_at (I : Inv X pins σ H s) {a : Addr} {kvs : List (Key × V)} (h : H a = some (.dK kvs)) : ∃ o es ep, s.heap.get? a = some o ∧ o.ExactDict ∧ o.data = .dict es ep := by
  obtain ⟨_, _, vs, _, o, es, ep, e, hx, hd, _⟩ := I.hok a _ h
  exact ⟨o, es, ep, e, hx, hd⟩
mutual
theorem eqAt_dv (I : Inv X pins σ H s) (sm : Same F H) : ∀ (d e : PyData) (x y : V) (u v : Value) (A : Around), okEq d e = true → Dv X.K F x d → Dv X.K F y e → RelV x u → RelV y v → A.units + min d.depth e.depth < cLine → EqAt A s u v (PyData.eqv d e)
  | .none, e, _, _, _, _, A, ok, .non, r2, rx, ry, hu => by
    cases rx
    cases r2 with
    | non => cases ry; exact EqAt.same _
    | bl y => cases ry; exact EqAt.none_bool y
    | int y => obtain ⟨t, rfl⟩ := ry; exact EqAt.none_int y t
    | str y => obtain ⟨t, rfl⟩ := ry; exact EqAt.none_str y t
    | lst h1 h2 => cases ry; obtain ⟨its, _, p, _⟩ := lst_at I (sm _ _ h1); exact EqAt.none_list p (room_here hu)
    | tup h1 h2 => cases ry; obtain ⟨its, _, p, _⟩ := tup_at I (same_seqT sm h1); exact EqAt.none_tuple p (room_here hu)
    | dct h1 h2 => simp [okEq] at ok
  | .bool b, e, _, _, _, _, A, ok, .bl _, r2, rx, ry, hu => by
    cases rx
    cases r2 with
    | non => cases ry; exact EqAt.bool_none b
    | bl y => cases ry; exact EqAt.bool_bool b y
    | int y => obtain ⟨t, rfl⟩ := ry; exact EqAt.bool_int b y t
    | str y => obtain ⟨t, rfl⟩ := ry; exact EqAt.bool_str b y t
    | lst h1 h2 => cases ry; obtain ⟨its, _, p, _⟩ := lst_at I (sm _ _ h1); exact EqAt.bool_list b p (room_here hu)
    | tup h1 h2 => cases ry; obtain ⟨its, _, p, _⟩ := tup_at I (same_seqT sm h1); exact EqAt.bool_tuple b p (room_here hu)
    | dct h1 h2 => simp [okEq] at ok
  | .int i, e, _, _, _, _, A, ok, .int _, r2, rx, ry, hu => by
    obtain ⟨t0, rfl⟩ := rx
    cases r2 with
    | non => cases ry; exact EqAt.int_none i t0
    | bl y => cases ry; exact EqAt.int_bool i t0 y
    | int y => obtain ⟨t, rfl⟩ := ry; exact EqAt.int_int i t0 y t
    | str y => obtain ⟨t, rfl⟩ := ry; exact EqAt.int_str i t0 y t
    | lst h1 h2 => cases ry; obtain ⟨its, _, p, _⟩ := lst_at I (sm _ _ h1); exact EqAt.int_list i t0 p (room_here hu)
    | tup h1 h2 => cases ry; obtain ⟨its, _, p, _⟩ := tup_at I (same_seqT sm h1); exact EqAt.int_tuple i t0 p (room_here hu)
    | dct h1 h2 => simp [okEq] at ok
  | .str i, e, _, _, _, _, A, ok, .str _, r2, rx, ry, hu => by
    obtain ⟨t0, rfl⟩ := rx
    cases r2 with
    | non => cases ry; exact EqAt.str_none i t0
    | bl y => cases ry; exact EqAt.str_bool i t0 y
    | int y => obtain ⟨t, rfl⟩ := ry; exact EqAt.str_int i t0 y t
    | str y => obtain ⟨t, rfl⟩ := ry; exact EqAt.str_str i t0 y t
    | lst h1 h2 => cases ry; obtain ⟨its, _, p, _⟩ := lst_at I (sm _ _ h1); exact EqAt.str_list i t0 p (room_here hu)
    | tup h1 h2 => cases ry; obtain ⟨its, _, p, _⟩ := tup_at I (same_seqT sm h1); exact EqAt.str_tuple i t0 p (room_here hu)
    | dct h1 h2 => cases ry; obtain ⟨o, es, ep, e1, e2, e3⟩ := dct_at I (sm _ _ h1); exact EqAt_str_dict i t0 e1 e2 e3 (room_here hu)
  | .list xs, e, _, _, _, _, A, ok, .lst g1 g2, r2, rx, ry, hu => by
    cases rx
    obtain ⟨is1, w1, p1, n1⟩ := lst_at I (sm _ _ g1)
    cases r2 with
    | non => cases ry; exact EqAt.list_none p1 (room_here hu)
    | bl y => cases ry; exact EqAt.list_bool y p1 (room_here hu)
    | int y => obtain ⟨t, rfl⟩ := ry; exact EqAt.list_int y t p1 (room_here hu)
    | str y => obtain ⟨t, rfl⟩ := ry; exact EqAt.list_str y t p1 (room_here hu)
    | tup h1 h2 => cases ry; obtain ⟨its, _, p, _⟩ := tup_at I (same_seqT sm h1); exact EqAt.list_tuple p1 p (room_here hu)
    | dct h1 h2 => simp [okEq] at ok
    | @lst b ws ys h1 h2 =>
      cases ry
      obtain ⟨is2, w2, p2, n2⟩ := lst_at I (sm _ _ h1)
      have l1 := g2.length
      have l2 := h2.length
      have ok' : okEqAll xs ys = true := by simpa [okEq] using ok
      show EqAt A s _ _ (PyData.eqvAll xs ys)
      rename_i a vs
      by_cases hab : a = b
      · subst hab
        have q : PyData.list xs = PyData.list ys := Dv.uniq I sm ok (.lst g1 g2) (.lst h1 h2)
        injection q with q
        subst q
        rw [eqvAll_self xs ok']
        exact EqAt.same _
      · by_cases hsz : is1.toArray.size = is2.toArray.size
        · rw [← eqvAll_same_length (by omega : xs.length = ys.length), show xs.length = is1.toArray.size by omega]
          refine EqAt.of_refs hab (RcAt.lists p1 p2 hsz (room_here hu) fun j j1 j2 => ?_)
          have := eqAt_dvs I sm xs ys vs ws is1 is2 A.in1 ok' g2 h2 w1 w2 (room_in hu) j (by simpa using j1) (by simpa using j2)
          simpa using this
        · rw [eqvAll_other_length (by omega : xs.length ≠ ys.length)]
          exact EqAt.of_refs hab (RcAt.lists_lengths p1 p2 (by simpa using hsz) (room_here hu))
  | .tuple xs, e, _, _, _, _, A, ok, .tup g1 g2, r2, rx, ry, hu => by
    cases rx
    obtain ⟨is1, w1, p1, n1⟩ := tup_at I (same_seqT sm g1)
    cases r2 with
    | non => cases ry; exact EqAt.tuple_none p1 (room_here hu)
    | bl y => cases ry; exact EqAt.tuple_bool y p1 (room_here hu)
    | int y => obtain ⟨t, rfl⟩ := ry; exact EqAt.tuple_int y t p1 (room_here hu)
    | str y => obtain ⟨t, rfl⟩ := ry; exact EqAt.tuple_str y t p1 (room_here hu)
    | lst h1 h2 => cases ry; obtain ⟨its, _, p, _⟩ := lst_at I (sm _ _ h1); exact EqAt.tuple_list p1 p (room_here hu)
    | dct h1 h2 => simp [okEq] at ok
    | @tup b ws ys h1 h2 =>
      cases ry
      obtain ⟨is2, w2, p2, n2⟩ := tup_at I (same_seqT sm h1)
      have l1 := g2.length
      have l2 := h2.length
      have ok' : okEqAll xs ys = true := by simpa [okEq] using ok
      show EqAt A s _ _ (PyData.eqvAll xs ys)
      rename_i a vs
      by_cases hab : a = b
      · subst hab
        have q : PyData.tuple xs = PyData.tuple ys := Dv.uniq I sm ok (.tup g1 g2) (.tup h1 h2)
        injection q with q
        subst q
        rw [eqvAll_self xs ok']
        exact EqAt.same _
      · rw [← eqvAll_eq xs ys, show xs.length = is1.toArray.size by omega, show ys.length = is2.toArray.size by omega]
        refine EqAt.of_refs hab (RcAt.tuples p1 p2 (room_here hu) fun j j1 j2 => ?_)
        have := eqAt_dvs I sm xs ys vs ws is1 is2 A.in1 ok' g2 h2 w1 w2 (room_in hu) j (by simpa using j1) (by simpa using j2)
        simpa using this
  | .dict kvs, e, _, _, _, _, A, ok, .dct g1 g2, r2, rx, ry, hu => by
    cases rx
    cases r2 with
    | str y => obtain ⟨t, rfl⟩ := ry; obtain ⟨o, es, ep, e1, e2, e3⟩ := dct_at I (sm _ _ g1); exact EqAt_dict_str y t e1 e2 e3 (room_here hu)
    | non => simp [okEq] at ok
    | bl y => simp [okEq] at ok
    | int y => simp [okEq] at ok
    | lst h1 h2 => simp [okEq] at ok
    | tup h1 h2 => simp [okEq] at ok
    | dct h1 h2 => simp [okEq] at ok
theorem eqAt_dvs (I : Inv X pins σ H s) (sm : Same F H) : ∀ (ds es : List PyData) (vs ws : List V) (us ts : List Value) (A : Around), okEqAll ds es = true → DvAll X.K F vs ds → DvAll X.K F ws es → Vals vs us → Vals ws ts → A.units + min (PyData.depthAll ds) (PyData.depthAll es) < cLine →
    ∀ j (h1 : j < us.length) (h2 : j < ts.length), EqAt A s us[j] ts[j] (pairEq ds es j)
  | [], _, _, _, _, _, _, _, .nil, _, .nil, _, _, j, h1, _ => absurd h1 (Nat.not_lt_zero _)
  | _ :: _, [], _, _, _, _, _, _, _, .nil, _, .nil, _, j, _, h2 => absurd h2 (Nat.not_lt_zero _)
  | d :: ds, e :: es, _, _, _, _, A, ok, .cons q1 q2, .cons q3 q4, .cons r1 r2, .cons r3 r4, hu, j, h1, h2 => by
    have ok' : okEq d e = true ∧ okEqAll ds es = true := by simpa [okEqAll] using ok
    cases j with
    | zero => exact eqAt_dv I sm d e _ _ _ _ A ok'.1 q1 q3 r1 r3 (room_head hu)
    | succ j => exact eqAt_dvs I sm ds es _ _ _ _ A ok'.2 q2 q4 r2 r4 (room_tail hu) j (Nat.lt_of_succ_lt_succ h1) (Nat.lt_of_succ_lt_succ h2)
end
/-- a comparison at the top: not of a dict -/
def flatTop : PyData → Bool
  | .dict _ => false
  | _ => true
theorem rc_dv (I : Inv X pins σ H s) (sm : Same F H) {d e : PyData} {x y : V} {u v : Value} {A : Around} (ok : okEq d e = true) (fd : flatTop d = true) (fe : flatTop e = true) (r1 : Dv X.K F x d) (r2 : Dv X.K F y e) (rx : RelV x u) (ry : RelV y v)
    (hu : A.units + min d.depth e.depth < cLine) : RcAt A s u v (PyData.eqv d e) ∧ RcNeAt A s u v (!PyData.eqv d e) := by
  cases r1 with
  | dct _ _ => simp [flatTop] at fd
  | non =>
    cases rx
    cases r2 with
    | non => cases ry; exact ⟨RcAt.none_none, RcNeAt.none_none⟩
    | bl y => cases ry; exact ⟨RcAt.none_bool y, RcNeAt.none_bool y⟩
    | int y => obtain ⟨t, rfl⟩ := ry; exact ⟨RcAt.none_int y t, RcNeAt.none_int y t⟩
    | str y => obtain ⟨t, rfl⟩ := ry; exact ⟨RcAt.none_str y t, RcNeAt.none_str y t⟩
    | lst h1 h2 => cases ry; obtain ⟨its, _, p, _⟩ := lst_at I (sm _ _ h1); exact ⟨RcAt.none_list p (room_here hu), RcNeAt.none_list p (room_here hu)⟩
    | tup h1 h2 => cases ry; obtain ⟨its, _, p, _⟩ := tup_at I (same_seqT sm h1); exact ⟨RcAt.none_tuple p (room_here hu), RcNeAt.none_tuple p (room_here hu)⟩
    | dct h1 h2 => simp [okEq] at ok
  | bl b =>
    cases rx
    cases r2 with
    | non => cases ry; exact ⟨RcAt.bool_none b, RcNeAt.bool_none b⟩
    | bl y => cases ry; exact ⟨RcAt.bool_bool b y, RcNeAt.bool_bool b y⟩
    | int y => obtain ⟨t, rfl⟩ := ry; exact ⟨RcAt.bool_int b y t, RcNeAt.bool_int b y t⟩
    | str y => obtain ⟨t, rfl⟩ := ry; exact ⟨RcAt.bool_str b y t, RcNeAt.bool_str b y t⟩
    | lst h1 h2 => cases ry; obtain ⟨its, _, p, _⟩ := lst_at I (sm _ _ h1); exact ⟨RcAt.bool_list b p (room_here hu), RcNeAt.bool_list b p (room_here hu)⟩
    | tup h1 h2 => cases ry; obtain ⟨its, _, p, _⟩ := tup_at I (same_seqT sm h1); exact ⟨RcAt.bool_tuple b p (room_here hu), RcNeAt.bool_tuple b p (room_here hu)⟩
    | dct h1 h2 => simp [okEq] at ok
  | int i =>
    obtain ⟨t0, rfl⟩ := rx
    cases r2 with
    | non => cases ry; exact ⟨RcAt.int_none i t0, RcNeAt.int_none i t0⟩
    | bl y => cases ry; exact ⟨RcAt.int_bool i t0 y, RcNeAt.int_bool i t0 y⟩
    | int y => obtain ⟨t, rfl⟩ := ry; exact ⟨RcAt.int_int i t0 y t, RcNeAt.int_int i t0 y t⟩
    | str y => obtain ⟨t, rfl⟩ := ry; exact ⟨RcAt.int_str i t0 y t, RcNeAt.int_str i t0 y t⟩
    | lst h1 h2 => cases ry; obtain ⟨its, _, p, _⟩ := lst_at I (sm _ _ h1); exact ⟨RcAt.int_list i t0 p (room_here hu), RcNeAt.int_list i t0 p (room_here hu)⟩
    | tup h1 h2 => cases ry; obtain ⟨its, _, p, _⟩ := tup_at I (same_seqT sm h1); exact ⟨RcAt.int_tuple i t0 p (room_here hu), RcNeAt.int_tuple i t0 p (room_here hu)⟩
    | dct h1 h2 => simp [okEq] at ok
  | str i =>
    obtain ⟨t0, rfl⟩ := rx
    cases r2 with
    | non => cases ry; exact ⟨RcAt.str_none i t0, RcNeAt.str_none i t0⟩
    | bl y => cases ry; exact ⟨RcAt.str_bool i t0 y, RcNeAt.str_bool i t0 y⟩
    | int y => obtain ⟨t, rfl⟩ := ry; exact ⟨RcAt.str_int i t0 y t, RcNeAt.str_int i t0 y t⟩
    | str y => obtain ⟨t, rfl⟩ := ry; exact ⟨RcAt.str_str i t0 y t, RcNeAt.str_str i t0 y t⟩
    | lst h1 h2 => cases ry; obtain ⟨its, _, p, _⟩ := lst_at I (sm _ _ h1); exact ⟨RcAt.str_list i t0 p (room_here hu), RcNeAt.str_list i t0 p (room_here hu)⟩
    | tup h1 h2 => cases ry; obtain ⟨its, _, p, _⟩ := tup_at I (same_seqT sm h1); exact ⟨RcAt.str_tuple i t0 p (room_here hu), RcNeAt.str_tuple i t0 p (room_here hu)⟩
    | dct h1 h2 => simp [flatTop] at fe
  | @lst a vs xs g1 g2 =>
    cases rx
    obtain ⟨is1, w1, p1, n1⟩ := lst_at I (sm _ _ g1)
    cases r2 with
    | non => cases ry; exact ⟨RcAt.list_none p1 (room_here hu), RcNeAt.list_none p1 (room_here hu)⟩
    | bl y => cases ry; exact ⟨RcAt.list_bool y p1 (room_here hu), RcNeAt.list_bool y p1 (room_here hu)⟩
    | int y => obtain ⟨t, rfl⟩ := ry; exact ⟨RcAt.list_int y t p1 (room_here hu), RcNeAt.list_int y t p1 (room_here hu)⟩
    | str y => obtain ⟨t, rfl⟩ := ry; exact ⟨RcAt.list_str y t p1 (room_here hu), RcNeAt.list_str y t p1 (room_here hu)⟩
    | tup h1 h2 => cases ry; obtain ⟨its, _, p, _⟩ := tup_at I (same_seqT sm h1); exact ⟨RcAt.list_tuple p1 p (room_here hu), RcNeAt.list_tuple p1 p (room_here hu)⟩
    | dct h1 h2 => simp [okEq] at ok
    | @lst b ws ys h1 h2 =>
      cases ry
      obtain ⟨is2, w2, p2, n2⟩ := lst_at I (sm _ _ h1)
      have l1 := g2.length
      have l2 := h2.length
      have ok' : okEqAll xs ys = true := by simpa [okEq] using ok
      have he : ∀ j (j1 : j < is1.toArray.size) (j2 : j < is2.toArray.size), EqAt A.in1 s is1.toArray[j] is2.toArray[j] (pairEq xs ys j) := fun j j1 j2 => by
        have := eqAt_dvs I sm xs ys vs ws is1 is2 A.in1 ok' g2 h2 w1 w2 (room_in hu) j (by simpa using j1) (by simpa using j2)
        simpa using this
      show RcAt A s _ _ (PyData.eqvAll xs ys) ∧ RcNeAt A s _ _ (!PyData.eqvAll xs ys)
      by_cases hsz : is1.toArray.size = is2.toArray.size
      · rw [← eqvAll_same_length (by omega : xs.length = ys.length), show xs.length = is1.toArray.size by omega]
        exact ⟨RcAt.lists p1 p2 hsz (room_here hu) he, RcNeAt.lists p1 p2 hsz (room_here hu) he⟩
      · rw [eqvAll_other_length (by omega : xs.length ≠ ys.length)]
        exact ⟨RcAt.lists_lengths p1 p2 (by simpa using hsz) (room_here hu), RcNeAt.lists_lengths p1 p2 (by simpa using hsz) (room_here hu)⟩
  | @tup a vs xs g1 g2 =>
    cases rx
    obtain ⟨is1, w1, p1, n1⟩ := tup_at I (same_seqT sm g1)
    cases r2 with
    | non => cases ry; exact ⟨RcAt.tuple_none p1 (room_here hu), RcNeAt.tuple_none p1 (room_here hu)⟩
    | bl y => cases ry; exact ⟨RcAt.tuple_bool y p1 (room_here hu), RcNeAt.tuple_bool y p1 (room_here hu)⟩
    | int y => obtain ⟨t, rfl⟩ := ry; exact ⟨RcAt.tuple_int y t p1 (room_here hu), RcNeAt.tuple_int y t p1 (room_here hu)⟩
    | str y => obtain ⟨t, rfl⟩ := ry; exact ⟨RcAt.tuple_str y t p1 (room_here hu), RcNeAt.tuple_str y t p1 (room_here hu)⟩
    | lst h1 h2 => cases ry; obtain ⟨its, _, p, _⟩ := lst_at I (sm _ _ h1); exact ⟨RcAt.tuple_list p1 p (room_here hu), RcNeAt.tuple_list p1 p (room_here hu)⟩
    | dct h1 h2 => simp [okEq] at ok
    | @tup b ws ys h1 h2 =>
      cases ry
      obtain ⟨is2, w2, p2, n2⟩ := tup_at I (same_seqT sm h1)
      have l1 := g2.length
      have l2 := h2.length
      have ok' : okEqAll xs ys = true := by simpa [okEq] using ok
      have he : ∀ j (j1 : j < is1.toArray.size) (j2 : j < is2.toArray.size), EqAt A.in1 s is1.toArray[j] is2.toArray[j] (pairEq xs ys j) := fun j j1 j2 => by
        have := eqAt_dvs I sm xs ys vs ws is1 is2 A.in1 ok' g2 h2 w1 w2 (room_in hu) j (by simpa using j1) (by simpa using j2)
        simpa using this
      show RcAt A s _ _ (PyData.eqvAll xs ys) ∧ RcNeAt A s _ _ (!PyData.eqvAll xs ys)
      rw [← eqvAll_eq xs ys, show xs.length = is1.toArray.size by omega, show ys.length = is2.toArray.size by omega]
      exact ⟨RcAt.tuples p1 p2 (room_here hu) he, RcNeAt.tuples p1 p2 (room_here hu) he⟩
end
end VL
set_option Elab.async false
set_option linter.all false
set_option maxRecDepth 100000
namespace VL
open PySem PySem.Spec L2
open PyProof.Rows hiding St
open PySem.SeqAt (EqAt RcAt RcNeAt)
section
variable {X : Cx} {pins : List (Addr × Obj)} {σ : L2.St} {H F : Hp} {s : Shared}
mutual
theorem Dv.uniq2 (I : Inv X pins σ H s) (sm : Same F H) : ∀ {v : V} {d e : PyData}, Dv X.K F v d → Dv X.K F v e → d = e
  | _, _, _, .non, .non => rfl
  | _, _, _, .bl _, .bl _ => rfl
  | _, _, _, .int _, .int _ => rfl
  | _, _, _, .str _, .str _ => rfl
  | _, _, _, .lst h1 r1, .lst h2 r2 => by
    rw [h1] at h2
    injection h2 with h2
    injection h2 with h2
    subst h2
    rw [DvAll.uniq2 I sm r1 r2]
  | _, _, _, .tup h1 r1, .tup h2 r2 => by
    have e := I.tuple_inj (same_seqT sm h1) (same_seqT sm h2)
    subst e
    rw [DvAll.uniq2 I sm r1 r2]
  | _, _, _, .lst h1 r1, .tup h2 r2 => by
    exfalso
    obtain ⟨its, _, ⟨o, n, e, c, _⟩, _⟩ := I.list (.inl (.inl (sm _ _ h1)))
    obtain ⟨its2, _, ⟨o2, e2, c2, _⟩, _⟩ := I.tuple (same_seqT sm h2)
    rw [e] at e2
    injection e2 with e2
    subst e2
    rw [c] at c2
    simp at c2
  | _, _, _, .tup h1 r1, .lst h2 r2 => by
    exfalso
    obtain ⟨its, _, ⟨o, n, e, c, _⟩, _⟩ := I.list (.inl (.inl (sm _ _ h2)))
    obtain ⟨its2, _, ⟨o2, e2, c2, _⟩, _⟩ := I.tuple (same_seqT sm h1)
    rw [e] at e2
    injection e2 with e2
    subst e2
    rw [c] at c2
    simp at c2
  | _, _, _, .lst h1 r1, .dct h2 r2 => by rw [h1] at h2; cases h2
  | _, _, _, .dct h1 r1, .lst h2 r2 => by rw [h1] at h2; cases h2
  | _, _, _, .tup h1 r1, .dct h2 r2 => by
    exfalso
    obtain ⟨o, es, ep, e, hx, _⟩ := dct_at I (sm _ _ h2)
    obtain ⟨its2, _, ⟨o2, e2, c2, _⟩, _⟩ := I.tuple (same_seqT sm h1)
    rw [e] at e2
    injection e2 with e2
    subst e2
    rw [hx.1] at c2
    simp at c2
  | _, _, _, .dct h2 r2, .tup h1 r1 => by
    exfalso
    obtain ⟨o, es, ep, e, hx, _⟩ := dct_at I (sm _ _ h2)
    obtain ⟨its2, _, ⟨o2, e2, c2, _⟩, _⟩ := I.tuple (same_seqT sm h1)
    rw [e] at e2
    injection e2 with e2
    subst e2
    rw [hx.1] at c2
    simp at c2
  | _, _, _, .dct h1 r1, .dct h2 r2 => by
    rw [h1] at h2
    injection h2 with h2
    injection h2 with h2
    subst h2
    rw [DvKv.uniq2 I sm r1 r2]
theorem DvAll.uniq2 (I : Inv X pins σ H s) (sm : Same F H) : ∀ {vs : List V} {ds es : List PyData}, DvAll X.K F vs ds → DvAll X.K F vs es → ds = es
  | _, _, _, .nil, .nil => rfl
  | _, _, _, .cons h1 t1, .cons h2 t2 => by rw [Dv.uniq2 I sm h1 h2, DvAll.uniq2 I sm t1 t2]
theorem DvKv.uniq2 (I : Inv X pins σ H s) (sm : Same F H) : ∀ {vs : List (Key × V)} {ds es : List (PyData × PyData)}, DvKv X.K F vs ds → DvKv X.K F vs es → ds = es
  | _, _, _, .nil, .nil => rfl
  | _, _, _, .cons h1 t1, .cons h2 t2 => by rw [Dv.uniq2 I sm h1 h2, DvKv.uniq2 I sm t1 t2]
end
end
def okC (d e : PyData) : Bool := okEq d e && flatTop d && flatTop e && decide (min d.depth e.depth ≤ 60)
def eqC (d e : PyData) : Option Bool := if okC d e = true then some (PyData.eqv d e) else none
def neC (d e : PyData) : Option Bool := if okC d e = true then some (!PyData.eqv d e) else none
def rEqC (K : PySem.W.Frag) (b : Bool) : R2 := fun x y H Q => ∃ F d e, Same F H ∧ Dv K F x d ∧ Dv K F y e ∧ okC d e = true ∧ Q (.bl (if b then PyData.eqv d e else !PyData.eqv d e)) H
section
variable {X : Cx}
theorem okC_of {d e : PyData} (h : okC d e = true) : okEq d e = true ∧ flatTop d = true ∧ flatTop e = true ∧ min d.depth e.depth ≤ 60 := by
  unfold okC at h
  simp only [Bool.and_eq_true, decide_eq_true_eq] at h
  exact ⟨h.1.1.1, h.1.1.2, h.1.2, h.2⟩
theorem or_eqC (hu : X.A.units + 64 < cLine) : OpR X (compareOp .Eq) (rEqC X.K true) := by
  intro pins s σ H x y v u Q I rx ry h
  obtain ⟨F, d, e, sm, r1, r2, ok, q⟩ := h
  obtain ⟨o1, o2, o3, o4⟩ := okC_of ok
  exact (rc_dv I sm o1 o2 o3 r1 r2 rx ry (by omega)).1 _ _ _ _ ⟨.bl _, H, I, rfl, q⟩
theorem or_neC (hu : X.A.units + 64 < cLine) : OpR X (compareOp .NotEq) (rEqC X.K false) := by
  intro pins s σ H x y v u Q I rx ry h
  obtain ⟨F, d, e, sm, r1, r2, ok, q⟩ := h
  obtain ⟨o1, o2, o3, o4⟩ := okC_of ok
  exact (rc_dv I sm o1 o2 o3 r1 r2 rx ry (by omega)).2 _ _ _ _ ⟨.bl _, H, I, rfl, q⟩
theorem bl_some {g : PyData → PyData → Option Bool} {d e w : PyData} (h : bl g d e = some w) : ∃ b, g d e = some b ∧ w = .bool b := by
  unfold bl at h
  cases q : g d e with
  | none => rw [q] at h; cases h
  | some b => rw [q] at h; injection h with h; exact ⟨b, rfl, h.symm⟩
theorem od_eq [NTb] : OpD X.K (rEqC X.K true) (bl eqC) := fun dk F H x y d e w Q sm r1 r2 h k => by
  obtain ⟨b, hb, rfl⟩ := bl_some h
  unfold eqC at hb
  by_cases q : okC d e = true
  · rw [if_pos q] at hb
    injection hb with hb
    exact ⟨F, d, e, sm, r1, r2, q, k _ F H (.refl sm) (by rw [if_pos rfl, hb]; exact .bl b)⟩
  · rw [if_neg q] at hb; cases hb
theorem od_ne [NTb] : OpD X.K (rEqC X.K false) (bl neC) := fun dk F H x y d e w Q sm r1 r2 h k => by
  obtain ⟨b, hb, rfl⟩ := bl_some h
  unfold neC at hb
  by_cases q : okC d e = true
  · rw [if_pos q] at hb
    injection hb with hb
    exact ⟨F, d, e, sm, r1, r2, q, k _ F H (.refl sm) (by rw [if_neg Bool.false_ne_true, hb]; exact .bl b)⟩
  · rw [if_neg q] at hb; cases hb
def okIn (d : PyData) (es : List PyData) : Bool := es.all fun y => okEq y d && decide (min y.depth d.depth ≤ 60)
def inC (d e : PyData) : Option Bool := match seqD e with
  | some es => if okIn d es = true then some (es.any fun y => PyData.eqv y d) else none
  | none => none
def notInC (d e : PyData) : Option Bool := (inC d e).map not
def rInC (K : PySem.W.Frag) (b : Bool) : R2 := fun x y H Q => ∃ F d es, Same F H ∧ Dv K F x d ∧ (Dv K F y (.list es) ∨ Dv K F y (.tuple es)) ∧ okIn d es = true ∧ Q (.bl (if b then es.any (fun y => PyData.eqv y d) else !es.any (fun y => PyData.eqv y d))) H
open Classical in
/-- whether a value is told as something equal to d -/
noncomputable def eqU' (K : PySem.W.Frag) (F : Hp) (d : PyData) (u : Value) : Bool := decide (∃ v d', RelV v u ∧ Dv K F v d' ∧ PyData.eqv d' d = true)
theorem eqU_is {pins : List (Addr × Obj)} {σ : L2.St} {H F : Hp} {s : Shared} (I : Inv X pins σ H s) (sm : Same F H) {y : V} {u : Value} {e d : PyData} (r : RelV y u) (h : Dv X.K F y e) : eqU' X.K F d u = PyData.eqv e d := by
  classical
  unfold eqU'
  by_cases q : PyData.eqv e d = true
  · rw [q]
    exact decide_eq_true ⟨y, e, r, h, q⟩
  · have q' : PyData.eqv e d = false := by simpa using q
    rw [q']
    refine decide_eq_false ?_
    rintro ⟨v, d', r', h', e'⟩
    have ev : y = v := r.inj r'
    subst ev
    have := Dv.uniq2 I sm h h'
    subst this
    exact q e'
theorem any_eqU {pins : List (Addr × Obj)} {σ : L2.St} {H F : Hp} {s : Shared} (I : Inv X pins σ H s) (sm : Same F H) {d : PyData} : ∀ {ys : List V} {us : List Value} {es : List PyData}, Vals ys us → DvAll X.K F ys es → okIn d es = true → us.any (eqU' X.K F d) = es.any fun y => PyData.eqv y d
  | _, _, _, .nil, .nil, _ => rfl
  | _, _, _, .cons r t, .cons h t', ok => by
    simp only [okIn, List.all_cons, Bool.and_eq_true] at ok
    rw [List.any_cons, List.any_cons, eqU_is I sm r h, any_eqU I sm t t' (by simpa [okIn] using ok.2)]
theorem mem_eqU {pins : List (Addr × Obj)} {σ : L2.St} {H F : Hp} {s : Shared} (I : Inv X pins σ H s) (sm : Same F H) {d : PyData} {x : V} {v : Value} {A : Around} (rx : RelV x v) (hx : Dv X.K F x d) (hu : A.units + 60 < cLine) : ∀ {ys : List V} {us : List Value} {es : List PyData}, Vals ys us → DvAll X.K F ys es → okIn d es = true →
    ∀ u ∈ us, EqAt A s u v (eqU' X.K F d u)
  | _, _, _, .nil, .nil, _, u, m => by cases m
  | _, _, _, .cons r t, .cons h t', ok, u, m => by
    simp only [okIn, List.all_cons, Bool.and_eq_true, decide_eq_true_eq] at ok
    rcases List.mem_cons.mp m with rfl | m
    · rw [eqU_is I sm r h]
      exact eqAt_dv I sm _ _ _ _ _ _ A ok.1.1 h hx r rx (by omega)
    · exact mem_eqU I sm rx hx hu t t' (by simpa [okIn] using ok.2) u m
theorem or_inC (hu : X.A.units + 64 < cLine) : OpR X (compareOp .In) (rInC X.K true) := by
  intro pins s σ H x y v u Q I rx ry h
  obtain ⟨F, d, es, sm, r1, r2, ok, q⟩ := h
  have hu1 : X.A.in1.units + 60 < cLine := by show X.A.units + 1 + 60 < cLine; omega
  rcases r2 with r2 | r2
  · cases r2 with
    | lst h1 h2 =>
      cases ry
      obtain ⟨its, w, p, n⟩ := lst_at I (sm _ _ h1)
      refine PySem.SeqAt.in_listAt (eqU' X.K F d) p (fun u hu' => mem_eqU I sm rx r1 hu1 w h2 ok u (by simpa using hu')) ?_
      rw [List.any_toArray, any_eqU I sm w h2 ok]
      exact ⟨.bl _, H, I, rfl, q⟩
  · cases r2 with
    | tup h1 h2 =>
      cases ry
      obtain ⟨its, w, p, n⟩ := tup_at I (same_seqT sm h1)
      refine PySem.SeqAt.in_tupleAt (eqU' X.K F d) p (fun u hu' => mem_eqU I sm rx r1 hu1 w h2 ok u (by simpa using hu')) ?_
      rw [List.any_toArray, any_eqU I sm w h2 ok]
      exact ⟨.bl _, H, I, rfl, q⟩
theorem or_notInC (hu : X.A.units + 64 < cLine) : OpR X (compareOp .NotIn) (rInC X.K false) := by
  intro pins s σ H x y v u Q I rx ry h
  obtain ⟨F, d, es, sm, r1, r2, ok, q⟩ := h
  have hu1 : X.A.in1.units + 60 < cLine := by show X.A.units + 1 + 60 < cLine; omega
  rcases r2 with r2 | r2
  · cases r2 with
    | lst h1 h2 =>
      cases ry
      obtain ⟨its, w, p, n⟩ := lst_at I (sm _ _ h1)
      refine PySem.SeqAt.notIn_listAt (eqU' X.K F d) p (fun u hu' => mem_eqU I sm rx r1 hu1 w h2 ok u (by simpa using hu')) ?_
      rw [List.any_toArray, any_eqU I sm w h2 ok]
      exact ⟨.bl _, H, I, rfl, q⟩
  · cases r2 with
    | tup h1 h2 =>
      cases ry
      obtain ⟨its, w, p, n⟩ := tup_at I (same_seqT sm h1)
      refine PySem.SeqAt.notIn_tupleAt (eqU' X.K F d) p (fun u hu' => mem_eqU I sm rx r1 hu1 w h2 ok u (by simpa using hu')) ?_
      rw [List.any_toArray, any_eqU I sm w h2 ok]
      exact ⟨.bl _, H, I, rfl, q⟩
theorem inC_some {d e : PyData} {b : Bool} (h : inC d e = some b) : ∃ es, (e = .list es ∨ e = .tuple es) ∧ okIn d es = true ∧ b = es.any fun y => PyData.eqv y d := by
  unfold inC at h
  have key : ∀ es, (if okIn d es = true then some (es.any fun y => PyData.eqv y d) else none) = some b → okIn d es = true ∧ b = es.any fun y => PyData.eqv y d := fun es h => by
    by_cases q : okIn d es = true
    · rw [if_pos q] at h
      injection h with h
      exact ⟨q, h.symm⟩
    · rw [if_neg q] at h; cases h
  cases e with
  | list es => exact ⟨es, .inl rfl, key es h⟩
  | tuple es => exact ⟨es, .inr rfl, key es h⟩
  | none => cases h
  | bool _ => cases h
  | int _ => cases h
  | str _ => cases h
  | dict _ => cases h
theorem od_in [NTb] : OpD X.K (rInC X.K true) (bl inC) := fun dk F H x y d e w Q sm r1 r2 h k => by
  obtain ⟨b, hb, rfl⟩ := bl_some h
  obtain ⟨es, he, ok, rfl⟩ := inC_some hb
  refine ⟨F, d, es, sm, r1, ?_, ok, k _ F H (.refl sm) (by rw [if_pos rfl]; exact .bl _)⟩
  rcases he with rfl | rfl
  · exact .inl r2
  · exact .inr r2
theorem od_notIn [NTb] : OpD X.K (rInC X.K false) (bl notInC) := fun dk F H x y d e w Q sm r1 r2 h k => by
  obtain ⟨b, hb, rfl⟩ := bl_some h
  unfold notInC at hb
  cases q : inC d e with
  | none => rw [q] at hb; cases hb
  | some c =>
    rw [q] at hb
    injection hb with hb
    obtain ⟨es, he, ok, rfl⟩ := inC_some q
    refine ⟨F, d, es, sm, r1, ?_, ok, k _ F H (.refl sm) (by rw [if_neg Bool.false_ne_true, hb]; exact .bl _)⟩
    rcases he with rfl | rfl
    · exact .inl r2
    · exact .inr r2
def iiB (g : Int → Int → Bool) (d e : PyData) : Option Bool := match d, e with
  | .int i, .int j => some (g i j)
  | _, _ => none
theorem iiB_some {g : Int → Int → Bool} {d e : PyData} {b : Bool} (h : iiB g d e = some b) : ∃ i j, d = .int i ∧ e = .int j ∧ b = g i j := by
  cases d with
  | int i =>
    cases e with
    | int j =>
      injection h with h
      exact ⟨i, j, rfl, rfl, h.symm⟩
    | _ => cases h
  | _ => cases h
theorem od_ii [NTb] {g : Int → Int → Bool} : OpD X.K (rI0 fun i j => .bl (g i j)) (bl (iiB g)) := fun dk F H x y d e w Q sm r1 r2 h k => by
  obtain ⟨b, hb, rfl⟩ := bl_some h
  obtain ⟨i, j, rfl, rfl, rfl⟩ := iiB_some hb
  cases r1
  cases r2
  exact ⟨i, j, rfl, rfl, k _ F H (.refl sm) (.bl _)⟩
abbrev ltC := iiB fun i j => decide (i < j)
abbrev leC := iiB fun i j => decide (i ≤ j)
abbrev gtC := iiB fun i j => decide (j < i)
abbrev geC := iiB fun i j => decide (j ≤ i)
def iiD (C : Int → Int → Bool) (g : Int → Int → Int) (d e : PyData) : Option PyData := match d, e with
  | .int i, .int j => if C i j = true then some (.int (g i j)) else none
  | _, _ => none
theorem iiD_some {C : Int → Int → Bool} {g : Int → Int → Int} {d e w : PyData} (h : iiD C g d e = some w) : ∃ i j, d = .int i ∧ e = .int j ∧ C i j = true ∧ w = .int (g i j) := by
  cases d with
  | int i =>
    cases e with
    | int j =>
      have h' : (if C i j = true then some (PyData.int (g i j)) else none) = some w := h
      by_cases q : C i j = true
      · rw [if_pos q] at h'
        injection h' with h'
        exact ⟨i, j, rfl, rfl, q, h'.symm⟩
      · rw [if_neg q] at h'; cases h'
    | _ => cases h
  | _ => cases h
theorem od_iiD [NTb] {C : Int → Int → Prop} {B : Int → Int → Bool} {g : Int → Int → Int} (hc : ∀ i j, B i j = true → C i j) : OpD X.K (rI C fun i j => .int (g i j)) (iiD B g) := fun dk F H x y d e w Q sm r1 r2 h k => by
  obtain ⟨i, j, rfl, rfl, q, rfl⟩ := iiD_some h
  cases r1
  cases r2
  exact ⟨i, j, rfl, rfl, hc i j q, k _ F H (.refl sm) (.int _)⟩
def subC : PyData → PyData → Option PyData := iiD (fun _ _ => true) fun i j => i - j
theorem od_sub [NTb] : OpD X.K (rI0 fun i j => .int (i - j)) subC := fun dk F H x y d e w Q sm r1 r2 h k => by
  obtain ⟨i, j, rfl, rfl, q, rfl⟩ := iiD_some h
  cases r1
  cases r2
  exact ⟨i, j, rfl, rfl, k _ F H (.refl sm) (.int _)⟩
def fdivC : PyData → PyData → Option PyData := iiD (fun _ j => decide (0 < j ∧ j < 1073741824)) fun i j => i / j
theorem od_fdiv [NTb] : OpD X.K (rI CDiv fun i j => .int (i / j)) fdivC := od_iiD fun i j h => (of_decide_eq_true h : 0 < j ∧ j < 1073741824)
def modC : PyData → PyData → Option PyData := iiD (fun _ j => decide (0 < j)) fun i j => i % j
theorem od_mod [NTb] : OpD X.K (rI (fun _ j => 0 < j) fun i j => .int (i % j)) modC := od_iiD fun i j h => of_decide_eq_true h
def powC : PyData → PyData → Option PyData := iiD (fun i j => decide (0 ≤ j ∧ j ≤ 1000000 ∧ i.natAbs < 2 ^ 64)) fun i j => i ^ j.toNat
theorem od_pow [NTb] : OpD X.K (rI CPow fun i j => .int (i ^ j.toNat)) powC := od_iiD fun i j h => (of_decide_eq_true h : 0 ≤ j ∧ j ≤ 1000000 ∧ i.natAbs < 2 ^ 64)
def addC (d e : PyData) : Option PyData := match d, e with
  | .int i, .int j => some (.int (i + j))
  | .str x, .str y => if x.length + y.length ≤ sizeLine then some (.str (x ++ y)) else none
  | .tuple xs, .tuple ys => if xs.length + ys.length ≤ sizeLine then some (.tuple (xs ++ ys)) else none
  | .list xs, .list ys => if xs.length + ys.length ≤ sizeLine then some (.list (xs ++ ys)) else none
  | _, _ => none
def rAddC (K : PySem.W.Frag) : R2 := fun x y H Q => (∃ i j, x = .int i ∧ y = .int j ∧ Q (.int (i + j)) H) ∨ (∃ i j, x = .str i ∧ y = .str j ∧ i.length + j.length ≤ sizeLine ∧ Q (.str (i ++ j)) H) ∨ rCatA K x y H Q ∨ rCat x y H Q
theorem or_add : OpR X (binaryOp .Add) (rAddC X.K) := op_add.or (op_add_str.or (op_catA.or op_cat))
theorem if_some {α : Type} {c : Prop} [Decidable c] {a b : α} (h : (if c then some a else none) = some b) : c ∧ b = a := by
  by_cases q : c
  · rw [if_pos q] at h
    injection h with h
    exact ⟨q, h.symm⟩
  · rw [if_neg q] at h; cases h
theorem od_add [NTb] : OpD X.K (rAddC X.K) addC := fun dk F H x y d e w Q sm r1 r2 h k => by
  cases r1 with
  | int i =>
    cases r2 with
    | int j => injection h with h; subst h; exact .inl ⟨i, j, rfl, rfl, k _ F H (.refl sm) (.int _)⟩
    | non => cases h
    | bl _ => cases h
    | str _ => cases h
    | lst _ _ => cases h
    | tup _ _ => cases h
    | dct _ _ => cases h
  | str i =>
    cases r2 with
    | str j => obtain ⟨q, rfl⟩ := if_some h; exact .inr (.inl ⟨i, j, rfl, rfl, q, k _ F H (.refl sm) (.str _)⟩)
    | non => cases h
    | bl _ => cases h
    | int _ => cases h
    | lst _ _ => cases h
    | tup _ _ => cases h
    | dct _ _ => cases h
  | tup g1 g2 =>
    cases r2 with
    | tup h1 h2 =>
      obtain ⟨q, rfl⟩ := if_some h
      have l1 := g2.length
      have l2 := h2.length
      refine .inr (.inr (.inl ⟨_, _, _, _, rfl, rfl, same_seqT sm g1, same_seqT sm h1, by rw [l1, l2]; exact q, fun e0 => ?_, fun n0 e0 => ?_, fun n0 n1 p hp => ?_⟩))
      · subst e0
        cases g2
        exact k _ F H (.refl sm) (.tup h1 h2)
      · subst e0
        cases h2
        exact k _ F H (.refl sm) (.tup g1 (by rw [List.append_nil]; exact g2))
      · exact k _ _ _ (.new sm hp) (.tup (SqT.of upd_same) (DvAll.mono (Grow.new (dk := dk) sm hp).x.ff (g2.append h2)))
    | non => cases h
    | bl _ => cases h
    | int _ => cases h
    | str _ => cases h
    | lst _ _ => cases h
    | dct _ _ => cases h
  | lst g1 g2 =>
    cases r2 with
    | lst h1 h2 =>
      obtain ⟨q, rfl⟩ := if_some h
      have l1 := g2.length
      have l2 := h2.length
      exact .inr (.inr (.inr ⟨_, _, _, _, rfl, rfl, sm _ _ g1, sm _ _ h1, by rw [l1, l2]; exact q, fun p hp => k _ _ _ (.new sm hp) (.lst upd_same (DvAll.mono (Grow.new (dk := dk) sm hp).x.ff (g2.append h2)))⟩))
    | non => cases h
    | bl _ => cases h
    | int _ => cases h
    | str _ => cases h
    | tup _ _ => cases h
    | dct _ _ => cases h
  | non => cases h
  | bl _ => cases h
  | dct _ _ => cases h
end
end VL
set_option Elab.async false
set_option linter.all false
set_option maxRecDepth 100000
namespace VL
open PySem PySem.Spec L2
open PyProof.Rows hiding St
section
variable {X : Cx} {e a b c tg : Expr} {es : List Expr} {fa fb fc : AS → M PyData} {pos : Pos}
theorem dvAll_atI {K : PySem.W.Frag} {F : Hp} {vs : List V} {ds : List PyData} (r : DvAll K F vs ds) {i : Int} {d : PyData} (h : atI ds i = some d) : ∃ v, atI vs i = some v ∧ Dv K F v d := by
  unfold atI at h ⊢
  rw [r.length]
  obtain ⟨j, h1, h2⟩ := Option.bind_eq_some_iff.mp h
  obtain ⟨v, h3, h4⟩ := r.get h2
  exact ⟨v, by rw [h1]; exact h3, h4⟩
def ixC (d e : PyData) : Option PyData := match e with
  | .int i => (match d with
    | .list ds => atI ds i
    | .tuple ds => atI ds i
    | .str x => if x.length ≤ sizeLine then (atI x.cps.toList i).map fun c => .str ⟨#[c]⟩ else none
    | _ => none)
  | _ => none
theorem od_ix [NTb] : OpD X.K (rIx X.K) ixC := fun dk F H x y d e w Q sm r1 r2 h k => by
  cases r2 with
  | int i =>
    cases r1 with
    | lst g1 g2 =>
      obtain ⟨v, h1, h2⟩ := dvAll_atI g2 h
      exact .inl ⟨_, _, i, v, rfl, rfl, SqL.of (sm _ _ g1), h1, k _ F H (.refl sm) h2⟩
    | tup g1 g2 =>
      obtain ⟨v, h1, h2⟩ := dvAll_atI g2 h
      exact .inr (.inl ⟨_, _, i, v, rfl, rfl, same_seqT sm g1, h1, k _ F H (.refl sm) h2⟩)
    | str z =>
      have h' : (if z.length ≤ sizeLine then (atI z.cps.toList i).map fun c => PyData.str ⟨#[c]⟩ else none) = some w := h
      by_cases q : z.length ≤ sizeLine
      · rw [if_pos q] at h'
        obtain ⟨c, h1, rfl⟩ := Option.map_eq_some_iff.mp h'
        exact .inr (.inr ⟨z, i, c, rfl, rfl, q, h1, k _ F H (.refl sm) (.str _)⟩)
      · rw [if_neg q] at h'; cases h'
    | non => cases h
    | bl _ => cases h
    | int _ => cases h
    | dct _ _ => cases h
  | non => cases h
  | bl _ => cases h
  | str _ => cases h
  | lst _ _ => cases h
  | tup _ _ => cases h
  | dct _ _ => cases h
theorem je_ix [NTb] (ha : JE X fa a) (hb : JE X fb b) (hs : PlainIx b) : JE X (eBin ixC fa fb) (.Subscript a b pos) :=
  PE_imp (pe_ix ix_seq ha hb hs) fun σ H Q ⟨dk, F, z, δ, d, δ', hf, ok, k⟩ => tOp_of od_ix hf ok k
def tPo [NTb] (K : PySem.W.Frag) (f : AS → M (Option Int)) : TO := fun σ H Q => ∃ dk F z δ o δ', f z δ = some (o, δ') ∧ Ok K dk z δ σ F H ∧ ∀ F' H', Ext dk F H F' H' → DeckOk dk δ' F' H' → Q o H'
abbrev JP [NTb] (X : Cx) (f : AS → M (Option Int)) (e : Option Expr) : Prop := PO X e (tPo X.K f)
theorem PO_imp {o : Option Expr} {t t' : TO} (h : PO X o t) (i : ∀ σ H Q, t' σ H Q → t σ H Q) : PO X o t' := ⟨fun pins s σ H Q I q => h.run pins s σ H Q I (i σ H Q q)⟩
def pNo : AS → M (Option Int) := fun _ => M.pur none
def pSo (f : AS → M PyData) : AS → M (Option Int) := fun z => M.bnd (f z) fun d => match d with
  | .int i => M.pur (some i)
  | _ => M.no
theorem jp_no [NTb] : JP X pNo none := PO_imp po_none fun σ H Q ⟨dk, F, z, δ, o, δ', hf, ok, k⟩ => by
  obtain ⟨rfl, rfl⟩ := M.pur_some hf
  exact k F H (.refl ok.fh) ok.deck
theorem jp_so [NTb] (h : JE X fa a) : JP X (pSo fa) (some a) := PO_imp (po_some h) fun σ H Q ⟨dk, F, z, δ, o, δ', hf, ok, k⟩ => by
  obtain ⟨d, δ1, h1, h2⟩ := M.bnd_some hf
  cases d with
  | int i =>
    obtain ⟨rfl, rfl⟩ := M.pur_some h2
    refine ⟨dk, F, z, δ, _, _, h1, ok, fun v F' H' x dd r => ?_⟩
    cases r
    exact ⟨i, rfl, k F' H' x dd⟩
  | _ => cases h2
def cutD {α : Type} (xs : List α) (lo hi : Option Int) : List α := (xs.drop (HT.sIx xs.length 0 lo)).take (HT.sIx xs.length xs.length hi - HT.sIx xs.length 0 lo)
theorem DvAll.cut {K : PySem.W.Frag} {F : Hp} {vs : List V} {ds : List PyData} (r : DvAll K F vs ds) (lo hi : Option Int) : DvAll K F (cutV vs lo hi) (cutD ds lo hi) := by
  unfold cutV cutD
  rw [r.length]
  exact (r.drop _).take _
theorem cutD_whole {α : Type} {xs : List α} {lo hi : Option Int} (h : HT.sIx xs.length 0 lo = 0 ∧ HT.sIx xs.length xs.length hi = xs.length) : cutD xs lo hi = xs := by
  unfold cutD
  rw [h.1, h.2]
  simp
def slC (d : PyData) (lo hi : Option Int) : Option PyData := match d with
  | .list ds => some (.list (cutD ds lo hi))
  | .tuple ds => some (.tuple (cutD ds lo hi))
  | .str x => if x.length ≤ sizeLine then some (.str (cutS x lo hi)) else none
  | _ => none
def eSl (f : AS → M PyData) (l h : AS → M (Option Int)) : AS → M PyData := fun z => M.bnd (f z) fun d => M.bnd (l z) fun lo => M.bnd (h z) fun hi => M.opt (slC d lo hi)
def rSl3 (K : PySem.W.Frag) : V → Option Int → Option Int → Hp → VK → Prop := fun x lo hi H Q => rSlL K x lo hi H Q ∨ rSlA K x lo hi H Q ∨ rSlS x lo hi H Q
theorem sl_3 : SlR X (rSl3 X.K) := sl_list.or (sl_tupA.or sl_str)
theorem je_sl [NTb] {l h : Option Expr} {p2 : Pos} {fl fh : AS → M (Option Int)} (ha : JE X fa a) (hl : JP X fl l) (hh : JP X fh h) : JE X (eSl fa fl fh) (.Subscript a (.Slice l h none p2) pos) :=
  PE_imp (pe_slice sl_3 ha hl hh) fun σ H Q ⟨dk, F, z, δ, w, δ', hf, ok, k⟩ => by
    obtain ⟨d, δ1, h1, hf1⟩ := M.bnd_some hf
    obtain ⟨lo, δ2, h2, hf2⟩ := M.bnd_some hf1
    obtain ⟨hi, δ3, h3, hf3⟩ := M.bnd_some hf2
    obtain ⟨h4, rfl⟩ := M.opt_some hf3
    refine ⟨dk, F, z, δ, d, δ1, h1, ok, fun v F1 H1 x1 d1 r1 => ⟨dk, F1, z, δ1, lo, δ2, h2, ok.ext x1 d1, fun F2 H2 x2 d2 => ⟨dk, F2, z, δ2, hi, _, h3, ok.ext (x1.trans x2) d2, fun F3 H3 x3 d3 => ?_⟩⟩⟩
    have x23 := x2.trans x3
    have x13 := x1.trans x23
    have r3 := Dv.mono x23.ff r1
    cases r3 with
    | lst g1 g2 =>
      injection h4 with h4
      subst h4
      exact .inl ⟨_, _, rfl, SqL.of (x3.fh _ _ g1), fun p hp => k _ _ _ (x13.trans (Grow.new x3.fh hp).x) (d3.new hp x3.fh) (.lst upd_same (DvAll.mono (Grow.new (dk := dk) x3.fh hp).x.ff (g2.cut lo hi)))⟩
    | tup g1 g2 =>
      injection h4 with h4
      subst h4
      refine .inr (.inl ⟨_, _, rfl, same_seqT x3.fh g1, fun hw => ?_, fun hw p hp => ?_⟩)
      · rw [g2.length] at hw
        rw [cutD_whole hw] at k
        exact k _ F3 H3 x13 d3 (.tup g1 g2)
      · exact k _ _ _ (x13.trans (Grow.new x3.fh hp).x) (d3.new hp x3.fh) (.tup (SqT.of upd_same) (DvAll.mono (Grow.new (dk := dk) x3.fh hp).x.ff (g2.cut lo hi)))
    | str y =>
      obtain ⟨q, rfl⟩ := if_some h4
      exact .inr (.inr ⟨y, rfl, q, k _ F3 H3 x13 d3 (.str _)⟩)
    | non => cases h4
    | bl _ => cases h4
    | int _ => cases h4
    | dct _ _ => cases h4
def lenC (d : PyData) : Option PyData := match d with
  | .list ds => some (.int ds.length)
  | .tuple ds => some (.int ds.length)
  | .str x => if x.length ≤ sizeLine then some (.int x.length) else none
  | _ => none
def rLen3 (K : PySem.W.Frag) : List V → Hp → VK → Prop := fun xs H Q => (∃ p ys, xs = [.ref p] ∧ (SqL K H p ys ∨ SqT K H p ys) ∧ Q (.int ys.length) H) ∨ ∃ z, xs = [.str z] ∧ z.length ≤ sizeLine ∧ Q (.int z.length) H
theorem cr_len3 : CallR X (.builtin "len") (rLen3 X.K) := call_len_seq.or call_len_str
theorem ud_len [NTb] : UnD X.K (fun v H Q => rLen3 X.K [v] H Q) lenC := fun dk F H x d w Q sm r h k => by
  cases d with
  | list ds =>
    injection h with h
    subst h
    obtain ⟨p, vs, rfl, h1, h2⟩ := View.list sm r
    refine .inl ⟨p, vs, rfl, .inl (SqL.of h1), ?_⟩
    rw [h2.length]
    exact k _ F H (.refl sm) (.int _)
  | tuple ds =>
    injection h with h
    subst h
    obtain ⟨p, vs, rfl, h1, h2⟩ := View.tup sm r
    refine .inl ⟨p, vs, rfl, .inr (same_seqT sm h1), ?_⟩
    rw [h2.length]
    exact k _ F H (.refl sm) (.int _)
  | str y =>
    obtain ⟨q, rfl⟩ := if_some h
    have r' := r.dv (fun ds q => nomatch q)
    cases r'
    exact .inr ⟨y, rfl, q, k _ F H (.refl sm) (.int _)⟩
  | none => cases h
  | bool _ => cases h
  | int _ => cases h
  | dict _ => cases h
def tupC (d : PyData) : Option PyData := (seqD d).map .tuple
theorem ud_tup [NTb] : UnD X.K (fun v H Q => (fun xs H Q => ∃ p ys, xs = [.ref p] ∧ ((SqL X.K H p ys ∧ ∀ l, H l = none → Q (.ref l) (upd H l (.tup ys))) ∨ (SqT X.K H p ys ∧ Q (.ref p) H))) [v] H Q) tupC := fun dk F H x d w Q sm r h k => by
  cases d with
  | list ds =>
    injection h with h
    subst h
    obtain ⟨p, vs, rfl, h1, h2⟩ := View.list sm r
    exact ⟨p, vs, rfl, .inl ⟨SqL.of h1, fun l hl => k _ _ _ (.new sm hl) (.tup (SqT.of upd_same) (DvAll.mono (Grow.new (dk := dk) sm hl).x.ff h2))⟩⟩
  | tuple ds =>
    injection h with h
    subst h
    obtain ⟨p, vs, rfl, h1, h2⟩ := View.tup sm r
    exact ⟨p, vs, rfl, .inr ⟨same_seqT sm h1, k _ F H (.refl sm) (.tup h1 h2)⟩⟩
  | none => cases h
  | bool _ => cases h
  | int _ => cases h
  | str _ => cases h
  | dict _ => cases h
theorem vals_sign' (x : Str) : ∀ (n k : Nat) (acc : List Value), acc.length = n → k + n = x.cps.size → (∀ j v, acc[j]? = some v → PySem.SignAt x (k + j) v) → Vals ((x.cps.toList.drop k).map fun c => V.str ⟨#[c]⟩) acc
  | 0, k, acc, hl, hk, h => by
    have e : acc = [] := List.length_eq_zero_iff.mp hl
    subst e
    rw [List.drop_eq_nil_of_le (by rw [Array.length_toList]; omega)]
    exact .nil
  | n + 1, k, acc, hl, hk, h => by
    cases acc with
    | nil => cases hl
    | cons v acc =>
      have hlt : k < x.cps.toList.length := by rw [Array.length_toList]; omega
      rw [List.drop_eq_getElem_cons hlt, List.map_cons]
      obtain ⟨c, u, h1, rfl⟩ := h 0 v rfl
      refine .cons ⟨u, ?_⟩ (vals_sign' x n (k + 1) acc (by simpa using hl) (by omega) fun j v e => ?_)
      · have h2 : x.cps.toList[k]? = some c := by simpa using h1
        rw [List.getElem?_eq_getElem hlt] at h2
        injection h2 with h2
        rw [h2]
      · have := h (j + 1) v (by simpa using e)
        rwa [show k + (j + 1) = k + 1 + j by omega] at this
theorem vals_sign {x : Str} {acc : Array Value} (h : PySem.ItemsOf (PySem.SignAt x) acc x.cps.size) : Vals (x.cps.toList.map fun c => V.str ⟨#[c]⟩) acc.toList := by
  have := vals_sign' x x.cps.size 0 acc.toList (by rw [Array.length_toList]; exact h.1) (by omega) fun j v e => by
    rw [Nat.zero_add]
    exact h.2 j v (by simpa using e)
  simpa using this
def rListS : List V → Hp → VK → Prop := fun xs H Q => ∃ z : Str, xs = [.str z] ∧ z.length ≤ sizeLine ∧ ∀ l, H l = none → Q (.ref l) (upd H l (.lst (z.cps.toList.map fun c => V.str ⟨#[c]⟩)))
theorem call_listS (hc : X.calm = true) : CallR X (.type "list") rListS := by
  intro pins s σ H xs us Q I r h
  obtain ⟨z, rfl, hz, q⟩ := h
  obtain ⟨u, rfl, ru⟩ := vals1 r
  obtain ⟨t, rfl⟩ := ru
  refine PySem.call_list_str (I.ok.hd hc) z t (fun h' tk acc' c' hk hS hacc => ?_) (hn := hz)
  refine ⟨.ref s.heap.objs.size, _, I.laid (t' := tk) (o := .lst (z.cps.toList.map fun c => V.str ⟨#[c]⟩)) hk (Nat.le_refl _) ?_, rfl, q _ (I.hok.fresh (Nat.le_refl _))⟩
  exact ⟨by rw [List.length_map, Array.length_toList]; exact hz, acc'.toList, c', vals_sign hacc, hS⟩
def rList3 (K : PySem.W.Frag) : List V → Hp → VK → Prop := fun xs H Q => (∃ p ys, xs = [.ref p] ∧ (SqL K H p ys ∨ SqT K H p ys) ∧ ∀ l, H l = none → Q (.ref l) (upd H l (.lst ys))) ∨ rListS xs H Q
theorem cr_list3 (hc : X.calm = true) : CallR X (.type "list") (rList3 X.K) := call_list_of.or (call_listS hc)
def listC (d : PyData) : Option (List PyData) := match d with
  | .list ds => some ds
  | .tuple ds => some ds
  | .str x => if x.length ≤ sizeLine then some (strItems x) else none
  | _ => none
def oList (f : AS → M PyData) : AS → M (List PyData) := fun z => M.bnd (f z) fun d => M.opt (listC d)
theorem dvAll_signs {K : PySem.W.Frag} {F : Hp} (x : Str) : DvAll K F (x.cps.toList.map fun c => V.str ⟨#[c]⟩) (strItems x) := by
  unfold strItems
  induction x.cps.toList with
  | nil => exact .nil
  | cons c r ih => exact .cons (.str _) ih
theorem jo_list [NTb] {p : Pos} (hc : X.calm = true) (hgl : Gl X "list") (hm : X.mg "list" = none) (ha : JV X fa a)
    (hs : starEach [a] X.env = (false, eval a X.env) :: starEach [] X.env := by rfl) (hpl : (backTo pos (starEach [] X.env)).any (·.1) = false := by rfl) : JO X (oList fa) (.Call (.Name "list" p) [a] [] pos) :=
  PE_imp (pe_callTy (cr_list3 hc) hgl hm (by decide +kernel) (pa_cons ha pa_nil hs) (by decide) (by decide) hs hpl) fun σ H Q ⟨dk, F, z, δ, ds, δ', hf, ok, k⟩ => by
    obtain ⟨d, δ1, h1, hf1⟩ := M.bnd_some hf
    obtain ⟨h2, rfl⟩ := M.opt_some hf1
    refine ⟨dk, F, z, δ, d, _, h1, ok, fun v F1 H1 x1 d1 r1 => ?_⟩
    have fin : ∀ (l : Addr) (vs : List V), H1 l = none → DvAll X.K F1 vs ds → Q (.ref l) (upd H1 l (.lst vs)) := fun l vs hl r => k l vs F1 _ (x1.trans (Ext.open x1.fh hl)) ((Grow.open (dk := dk) x1.fh hl).d _ d1) (back_none x1 hl) (x1.fh.free hl) upd_same r
    cases d with
    | list es =>
      injection h2 with h2
      subst h2
      obtain ⟨p, vs, rfl, e1, e2⟩ := View.list x1.fh r1
      exact .inl ⟨p, vs, rfl, .inl (SqL.of e1), fun l hl => fin l vs hl e2⟩
    | tuple es =>
      injection h2 with h2
      subst h2
      obtain ⟨p, vs, rfl, e1, e2⟩ := View.tup x1.fh r1
      exact .inl ⟨p, vs, rfl, .inr (same_seqT x1.fh e1), fun l hl => fin l vs hl e2⟩
    | str y =>
      obtain ⟨q, rfl⟩ := if_some h2
      have r' := r1.dv (fun ds q => nomatch q)
      cases r'
      exact .inr ⟨y, rfl, q, fun l hl => fin l _ hl (dvAll_signs y)⟩
    | none => cases h2
    | bool _ => cases h2
    | int _ => cases h2
    | dict _ => cases h2
def tyN : PyData → String
  | .none => "NoneType"
  | .bool _ => "bool"
  | .int _ => "int"
  | .str _ => "str"
  | .list _ => "list"
  | .tuple _ => "tuple"
  | .dict _ => "dict"
def isiC (T : String) (d : PyData) : Option PyData := some (.bool (tyN d == T))
theorem tyX_of {K : PySem.W.Frag} {F H : Hp} (sm : Same F H) {v : V} {d : PyData} (r : Dv K F v d) : TyX K H v (.type (tyN d)) := by
  cases r with
  | non => exact .base .non
  | bl b => exact .base (.bl b)
  | int i => exact .base (.int i)
  | str x => exact .base (.str x)
  | lst h1 h2 => exact .base (.lst (sm _ _ h1))
  | tup h1 h2 =>
    rcases h1 with (h1 | ⟨o, h1⟩) | ⟨o, its, n, e, c, _⟩
    · exact .base (.tup (sm _ _ h1))
    · exact .fTuple (sm _ _ h1)
    · exact .kTuple e c
  | dct h1 h2 => exact .base (.dK (sm _ _ h1))
def tyNames : List String := ["NoneType", "bool", "int", "str", "list", "tuple", "dict"]
theorem tyN_mem (d : PyData) : tyN d ∈ tyNames := by cases d <;> simp [tyN, tyNames]
theorem je_isi [NTb] {T : Str} {n : String} {p q : Pos} (hgl : Gl X "isinstance") (hm : X.mg "isinstance" = none) (hglT : Gl X T) (hmT : X.mg T = none) (hv : bootBuiltins T = some (.type n)) (ha : JE X fa a) (ht : ∀ m ∈ tyNames, kitB m n = some (m == n))
    (hn : T ≠ "__name__" := by decide) (hd : (T == ("__debug__" : Str)) = false := by decide)
    (hs : starEach [a, .Name T q] X.env = (false, eval a X.env) :: starEach [.Name T q] X.env := by rfl) (hs2 : starEach [.Name T q] X.env = (false, eval (.Name T q) X.env) :: starEach [] X.env := by rfl) (hpl : (backTo pos (starEach [.Name T q] X.env)).any (·.1) = false := by rfl) :
    JE X (eUn (isiC n) fa) (.Call (.Name "isinstance" p) [a, .Name T q] [] pos) :=
  PE_imp (pe_callB call_isi hgl hm (by decide +kernel) (pa_cons ha (pa_cons (pe_bltn (v := .ty n) hglT hmT hv rfl hn hd) pa_nil hs2) hs) (by decide) (by decide) hs hpl) fun σ H Q ⟨dk, F, z, δ, w, δ', hf, ok, k⟩ => by
    obtain ⟨d, δ1, h1, hf1⟩ := M.bnd_some hf
    obtain ⟨h2, rfl⟩ := M.opt_some hf1
    injection h2 with h2
    subst h2
    refine ⟨dk, F, z, δ, d, _, h1, ok, fun v F1 H1 x1 d1 r1 => ?_⟩
    exact ⟨v, .ty n, _, _, _, rfl, .ty n, tyX_of x1.fh r1, kit_ty (ht _ (tyN_mem d)), k _ F1 H1 x1 d1 (.bl _)⟩
def mxC : PyData → PyData → Option PyData := iiD (fun _ _ => true) fun i j => if j > i then j else i
theorem je_b2 [NTb] {x : Str} {id : String} {p : Pos} {r : List V → Hp → VK → Prop} {g : PyData → PyData → Option PyData} (hcr : CallR X (.builtin id) r) (hg : OpD X.K (fun v w H Q => r [v, w] H Q) g) (hgl : Gl X x) (hm : X.mg x = none) (hv : bootBuiltins x = some (.builtin id)) (ha : JE X fa a) (hb : JE X fb b)
    (hn : x ≠ "__name__" := by decide) (hdb : (x == ("__debug__" : Str)) = false := by decide) (hs : starEach [a, b] X.env = (false, eval a X.env) :: starEach [b] X.env := by rfl) (hs2 : starEach [b] X.env = (false, eval b X.env) :: starEach [] X.env := by rfl) (hpl : (backTo pos (starEach [b] X.env)).any (·.1) = false := by rfl) :
    JE X (eBin g fa fb) (.Call (.Name x p) [a, b] [] pos) :=
  PE_imp (pe_callB hcr hgl hm hv (pa_cons ha (pa_cons hb pa_nil hs2) hs) hn hdb hs hpl) fun σ H Q ⟨dk, F, z, δ, d, δ', hf, ok, k⟩ => tOp_of hg hf ok k
theorem od_mx [NTb] (hc : X.calm = true) : OpD X.K (fun v w H Q => (fun xs H (Q : VK) => ∃ i j, xs = [V.int i, V.int j] ∧ Q (.int (if j > i then j else i)) H) [v, w] H Q) mxC := fun dk F H x y d e w Q sm r1 r2 h k => by
  obtain ⟨i, j, rfl, rfl, q, rfl⟩ := iiD_some h
  cases r1
  cases r2
  exact ⟨i, j, rfl, k _ F H (.refl sm) (.int _)⟩
def iD (g : Int → Int) (d : PyData) : Option PyData := match d with
  | .int i => some (.int (g i))
  | _ => none
theorem iD_some {g : Int → Int} {d w : PyData} (h : iD g d = some w) : ∃ i, d = .int i ∧ w = .int (g i) := by
  cases d with
  | int i => injection h with h; exact ⟨i, rfl, h.symm⟩
  | _ => cases h
theorem View.int {K : PySem.W.Frag} {F H : Hp} {v : V} {i : Int} (h : View K F H v (.int i)) : v = .int i := by
  have r := h.dv (fun ds q => nomatch q)
  cases r
  rfl
theorem ud_neg [NTb] : UnD X.K (rU fun i => .int (-i)) (iD fun i => -i) := fun dk F H x d w Q sm r h k => by
  obtain ⟨i, rfl, rfl⟩ := iD_some h
  exact ⟨i, r.int, k _ F H (.refl sm) (.int _)⟩
theorem ud_abs [NTb] : UnD X.K (fun v H Q => (fun xs H (Q : VK) => ∃ i, xs = [V.int i] ∧ Q (.int (if i < 0 then -i else i)) H) [v] H Q) (iD fun i => if i < 0 then -i else i) := fun dk F H x d w Q sm r h k => by
  obtain ⟨i, rfl, rfl⟩ := iD_some h
  exact ⟨i, by rw [r.int], k _ F H (.refl sm) (.int _)⟩
def intsOf : List PyData → Option (List Int)
  | [] => some []
  | .int i :: r => (intsOf r).map (i :: ·)
  | _ :: _ => none
theorem intsOf_all {K : PySem.W.Frag} {F : Hp} : ∀ {ds : List PyData} {vs : List V} {is : List Int}, intsOf ds = some is → DvAll K F vs ds → vs = is.map V.int
  | [], _, _, h, .nil => by cases h; rfl
  | .int i :: r, _, is, h, .cons h1 h2 => by
    obtain ⟨js, e, rfl⟩ := Option.map_eq_some_iff.mp h
    cases h1
    rw [intsOf_all e h2]
    rfl
  | .none :: _, _, _, h, _ => by cases h
  | .bool _ :: _, _, _, h, _ => by cases h
  | .str _ :: _, _, _, h, _ => by cases h
  | .list _ :: _, _, _, h, _ => by cases h
  | .tuple _ :: _, _, _, h, _ => by cases h
  | .dict _ :: _, _, _, h, _ => by cases h
def sumC (d : PyData) : Option PyData := match d with
  | .list ds => (intsOf ds).map fun is => .int is.sum
  | _ => none
theorem ud_sum [NTb] : UnD X.K (fun v H Q => rSum X.K [v] H Q) sumC := fun dk F H x d w Q sm r h k => by
  cases d with
  | list ds =>
    obtain ⟨is, e, rfl⟩ := Option.map_eq_some_iff.mp h
    obtain ⟨p, vs, rfl, h1, h2⟩ := View.list sm r
    have := intsOf_all e h2
    subst this
    exact ⟨p, is, rfl, SqL.of h1, k _ F H (.refl sm) (.int _)⟩
  | _ => cases h
def truC (d : PyData) : Option Bool := match d with
  | .none => some false
  | .bool b => some b
  | .int i => some (i != 0)
  | .str x => if x.length ≤ sizeLine then some ((x.length : Int) != 0) else none
  | .list ds => some (!ds.isEmpty)
  | .tuple ds => some (!ds.isEmpty)
  | .dict _ => none
def cTru (f : AS → M PyData) : AS → M Bool := fun z => M.bnd (f z) fun d => M.opt (truC d)
theorem jc_tru [NTb] (ha : JV X fa a) (he : ∀ whole, isTrue a X.env whole = (do let v ← whole; standAt a.pos; holding [v] (truthy v)) := by intro _; rfl) : JC X (cTru fa) a :=
  PT_imp (pt_truth ha he) fun σ H Q ⟨dk, F, z, δ, b, δ', hf, ok, k⟩ => by
    obtain ⟨d, δ1, h1, hf1⟩ := M.bnd_some hf
    obtain ⟨h2, rfl⟩ := M.opt_some hf1
    refine ⟨dk, F, z, δ, d, _, h1, ok, fun v F1 H1 x1 d1 r1 => ?_⟩
    cases d with
    | list es =>
      injection h2 with h2
      obtain ⟨p, vs, rfl, e1, e2⟩ := View.list x1.fh r1
      exact ⟨b, .inl ⟨vs, SqL.of e1, by
        rw [← h2]
        cases e2 <;> rfl⟩, k F1 H1 x1 d1⟩
    | tuple es =>
      injection h2 with h2
      obtain ⟨p, vs, rfl, e1, e2⟩ := View.tup x1.fh r1
      exact ⟨b, .inr (.inl ⟨vs, same_seqT x1.fh e1, by
        rw [← h2]
        cases e2 <;> rfl⟩), k F1 H1 x1 d1⟩
    | none =>
      injection h2 with h2
      have r' := r1.dv (fun ds q => nomatch q)
      cases r'
      exact ⟨b, h2.symm, k F1 H1 x1 d1⟩
    | bool c =>
      injection h2 with h2
      have r' := r1.dv (fun ds q => nomatch q)
      cases r'
      exact ⟨b, h2.symm, k F1 H1 x1 d1⟩
    | int c =>
      injection h2 with h2
      have r' := r1.dv (fun ds q => nomatch q)
      cases r'
      exact ⟨b, h2.symm, k F1 H1 x1 d1⟩
    | str c =>
      obtain ⟨q, e⟩ := if_some h2
      have r' := r1.dv (fun ds q => nomatch q)
      cases r'
      exact ⟨b, ⟨q, e⟩, k F1 H1 x1 d1⟩
    | dict _ => cases h2
theorem je_glob [NTb] {x : Str} {v : V} {u : Value} {d : PyData} {p : Pos} (hg : Gl X x) (hm : X.mg x = some u) (r : RelV v u) (h : ∀ F, Dv X.K F v d) (hd : (x == ("__debug__" : Str)) = false := by decide) : JE X (eC d) (.Name x p) := je_const (pe_glob hg hm r hd) h
end
end VL
set_option Elab.async false
set_option linter.all false
set_option maxRecDepth 100000
namespace VL
open PySem PySem.Spec L2
open PyProof.Rows hiding St
section
variable {X : Cx} {pins : List (Addr × Obj)} {σ : L2.St} {H F : Hp} {s : Shared}
theorem kD_reads {h : Heap} {k : Key} {u : Value} (e : keyIs k u = true) : Reads h u (kD k) [] := by
  rcases keyIs_shape e with ⟨i, t, rfl, rfl⟩ | ⟨x, t, rfl, rfl⟩
  · exact .int i t
  · exact .str x t
theorem keys_reads {P : Program} {w : World} {h : Heap} : ∀ {es : List DictEntry} {vs : List (Key × Value)} {kvs : List (Key × V)} {K : PySem.W.Frag} {F : Hp} {ds : List (PyData × PyData)}, Pairs (mixKind P w) es vs → KV kvs vs → DvKv K F kvs ds → ReadsAll h (es.map (·.key)) (ds.map (·.1)) []
  | _, _, _, _, _, _, .nil, .nil, .nil => .nil
  | _, _, _, _, _, _, .cons h1 h2 h3, .cons r1 r2, .cons d1 d2 => by
    have h4 := h1
    rw [← r1.1] at h4
    exact ReadsAll.cons (as := []) (bs := []) (kD_reads h4) (keys_reads h3 r2 d2)
mutual
theorem reads_dv (I : Inv X pins σ H s) (sm : Same F H) : ∀ {v : V} {d : PyData} {u : Value}, Dv X.K F v d → RelV v u → ∃ as, Reads s.heap u d as
  | _, _, _, .non, r => by cases r; exact ⟨_, .none⟩
  | _, _, _, .bl b, r => by cases r; exact ⟨_, .bool b⟩
  | _, _, _, .int i, r => by obtain ⟨t, rfl⟩ := r; exact ⟨_, .int i t⟩
  | _, _, _, .str x, r => by obtain ⟨t, rfl⟩ := r; exact ⟨_, .str x t⟩
  | _, _, _, .lst h1 h2, r => by
    cases r
    obtain ⟨its, rv, ⟨o, n, ho, hc, _, hd⟩, _⟩ := I.list (.inl (.inl (sm _ _ h1)))
    obtain ⟨as, q⟩ := readsAll_dv I sm h2 rv
    exact ⟨_, .list ho hc hd q⟩
  | _, _, _, .tup h1 h2, r => by
    cases r
    obtain ⟨its, rv, ⟨o, ho, hc, n, hd⟩, _⟩ := I.tuple (same_seqT sm h1)
    obtain ⟨as, q⟩ := readsAll_dv I sm h2 rv
    exact ⟨_, .tuple ho hc hd q⟩
  | _, _, _, .dct h1 h2, r => by
    cases r
    obtain ⟨_, _, vs, kv, o, es, ep, e, hx, hd, _, hp, _⟩ := I.hok _ _ (sm _ _ h1)
    obtain ⟨bs, q⟩ := readsKv_dv I sm h2 kv hp
    exact ⟨_, .dict e hx.1 hd (keys_reads hp kv h2) q⟩
theorem readsAll_dv (I : Inv X pins σ H s) (sm : Same F H) : ∀ {vs : List V} {ds : List PyData} {us : List Value}, DvAll X.K F vs ds → Vals vs us → ∃ as, ReadsAll s.heap us ds as
  | _, _, _, .nil, .nil => ⟨_, .nil⟩
  | _, _, _, .cons h t, .cons r rs => by
    obtain ⟨as, q1⟩ := reads_dv I sm h r
    obtain ⟨bs, q2⟩ := readsAll_dv I sm t rs
    exact ⟨_, .cons q1 q2⟩
theorem readsKv_dv (I : Inv X pins σ H s) (sm : Same F H) : ∀ {kvs : List (Key × V)} {ds : List (PyData × PyData)} {vs : List (Key × Value)} {es : List DictEntry}, DvKv X.K F kvs ds → KV kvs vs → Pairs (mixKind X.prog X.w) es vs → ∃ as, ReadsAll s.heap (es.map (·.val)) (ds.map (·.2)) as
  | _, _, _, _, .nil, .nil, .nil => ⟨_, .nil⟩
  | _, _, _, _, .cons h t, .cons r rs, .cons h1 h2 h3 => by
    rename_i e es
    rw [← h2] at r
    obtain ⟨as, q1⟩ := reads_dv I sm h r.2
    obtain ⟨bs, q2⟩ := readsKv_dv I sm t rs h3
    exact ⟨_, .cons q1 q2⟩
end
theorem keys_repr {P : Program} {w : World} {h : Heap} {as : List Addr} {n : Nat} : ∀ {es : List DictEntry} {vs : List (Key × Value)} {kvs : List (Key × V)} {K : PySem.W.Frag} {F : Hp} {ds : List (PyData × PyData)}, Pairs (mixKind P w) es vs → KV kvs vs → DvKv K F kvs ds →
    PyData.showableAll (ds.map (·.1)) = true → (∀ t ∈ PyData.shownAll (ds.map (·.1)), t.length ≤ sizeLine) → ReprAllK P w as h n (es.map (·.key)) (PyData.shownAll (ds.map (·.1)))
  | _, _, _, _, _, _, .nil, .nil, .nil, _, _ => .nil
  | _, _, _, _, _, _, .cons h1 h2 h3, .cons r1 r2, .cons d1 d2, hs, hz => by
    have h4 := h1
    rw [← r1.1] at h4
    simp only [List.map_cons, PyData.showableAll, Bool.and_eq_true] at hs
    simp only [List.map_cons, PyData.shownAll, List.mem_cons, forall_eq_or_imp] at hz ⊢
    refine .cons ?_ (keys_repr h3 r2 d2 hs.2 hz.2)
    rcases keyIs_shape h4 with ⟨i, t, e1, e2⟩ | ⟨x, t, e1, e2⟩
    · have e1' : kD _ = PyData.int i := congrArg kD e1
      rw [e2, e1']
      rw [e1'] at hs
      simp only [PyData.shown]
      exact .of_is (ReprIs.int t (by simpa [PyData.showable] using hs.1)) _ _ _
    · have e1' : kD _ = PyData.str x := congrArg kD e1
      rw [e2, e1']
      rw [e1'] at hz
      simp only [PyData.shown] at hz ⊢
      exact .of_is (ReprIs.str x t hz.1) _ _ _
mutual
theorem reprK_dv (I : Inv X pins σ H s) (sm : Same F H) : ∀ {v : V} {d : PyData} {u : Value}, Dv X.K F v d → RelV v u → d.showable = true → d.shown.length ≤ sizeLine → ∃ bs, ReadAtMost s.heap d.depth bs ∧ ReprK X.prog X.w bs s.heap d.depth u d.shown
  | _, _, _, .non, r, _, _ => by
    cases r
    exact ⟨[], (fun _ h => nomatch h), by simp only [PyData.shown]; exact .of_is ReprIs.none _ _ _⟩
  | _, _, _, .bl b, r, _, _ => by
    cases r
    exact ⟨[], (fun _ h => nomatch h), by simp only [PyData.shown]; exact .of_is (ReprIs.bool b) _ _ _⟩
  | _, _, _, .int i, r, hs, _ => by
    obtain ⟨t, rfl⟩ := r
    exact ⟨[], (fun _ h => nomatch h), by simp only [PyData.shown]; exact .of_is (ReprIs.int t (by simpa [PyData.showable] using hs)) _ _ _⟩
  | _, _, _, .str x, r, _, hz => by
    obtain ⟨t, rfl⟩ := r
    exact ⟨[], (fun _ h => nomatch h), by simp only [PyData.shown] at hz ⊢; exact .of_is (ReprIs.str x t hz) _ _ _⟩
  | _, .list ds, _, .lst h1 h2, r, hs, hz => by
    obtain ⟨as, rd⟩ := reads_dv I sm (.lst h1 h2) r
    cases r
    simp only [PyData.shown] at hz ⊢
    obtain ⟨its, rv, ⟨o, n, ho, hc, _, hd⟩, _⟩ := I.list (.inl (.inl (sm _ _ h1)))
    obtain ⟨bs, hb, hk⟩ := reprAll_dv I sm h2 rv (by simpa [PyData.showable] using hs) (fun t ht => Nat.le_trans (listText_mem_le ht) hz)
    have out : _ ∉ bs := not_mem_of_deeper rd (by simp only [PyData.depth]; omega) hb
    refine ⟨_ :: bs, ReadAtMost.cons rd (by simp only [PyData.depth]; omega) hb, ?_⟩
    simp only [PyData.depth]
    cases its with
    | nil =>
      cases rv
      cases h2
      simp only [PyData.shownAll, listText_nil]
      exact ReprK.listEmpty ho hc hd
    | cons y l => exact ReprK.list ho hc hd out (by simpa using hk.length_eq) (fun i y e => hk.item i y (by simpa using e))
  | _, .tuple ds, _, .tup h1 h2, r, hs, hz => by
    obtain ⟨as, rd⟩ := reads_dv I sm (.tup h1 h2) r
    cases r
    simp only [PyData.shown] at hz ⊢
    obtain ⟨its, rv, ⟨o, ho, hc, n, hd⟩, _⟩ := I.tuple (same_seqT sm h1)
    obtain ⟨bs, hb, hk⟩ := reprAll_dv I sm h2 rv (by simpa [PyData.showable] using hs) (fun t ht => Nat.le_trans (tupleText_mem_le ht) hz)
    have out : _ ∉ bs := not_mem_of_deeper rd (by simp only [PyData.depth]; omega) hb
    refine ⟨_ :: bs, ReadAtMost.cons rd (by simp only [PyData.depth]; omega) hb, ?_⟩
    simp only [PyData.depth]
    exact ReprK.tuple ho hc hd out hk
  | _, .dict kvs, _, .dct h1 h2, r, hs, hz => by
    obtain ⟨as, rd⟩ := reads_dv I sm (.dct h1 h2) r
    cases r
    simp only [PyData.shown] at hz ⊢
    obtain ⟨_, nsys, vs, kv, o, es, ep, ho, hx, hd, _, hp, _⟩ := I.hok _ _ (sm _ _ h1)
    obtain ⟨s1, s2⟩ := PyData.showableKv_split kvs (by simpa [PyData.showable] using hs)
    obtain ⟨bs, hb, hk⟩ := readsKvR I sm h2 kv hp s2 (fun t ht => let ⟨p, hp, hl⟩ := PyData.shownKv_val_le kvs t ht; Nat.le_trans hl (Nat.le_trans (dictText_mem_le hp) hz))
    have kk : ReprAllK X.prog X.w bs s.heap (PyData.depthKv kvs) (es.toList.map (·.key)) (PyData.shownAll (kvs.map (·.1))) := keys_repr hp kv h2 s1 fun t ht => let ⟨p, hp, hl⟩ := PyData.shownKv_key_le kvs t ht; Nat.le_trans hl (Nat.le_trans (dictText_mem_le hp) hz)
    have hb' : ReadAtMost s.heap (PyData.depthKv kvs) bs := hb.mono (PyData.depthAll_vals_le kvs)
    have out : _ ∉ bs := not_mem_of_deeper rd (by simp only [PyData.depth]; omega) hb'
    refine ⟨_ :: bs, ReadAtMost.cons rd (by simp only [PyData.depth]; omega) hb', ?_⟩
    simp only [PyData.depth, PyData.shownKv_eq]
    exact ReprK.dict ho hx.1 hd nsys out (ReprEntriesK.of_two es.toList _ _ kk (hk.more_le (fun _ hb => hb) (PyData.depthAll_vals_le kvs)))
theorem reprAll_dv (I : Inv X pins σ H s) (sm : Same F H) : ∀ {vs : List V} {ds : List PyData} {us : List Value}, DvAll X.K F vs ds → Vals vs us → PyData.showableAll ds = true → (∀ t ∈ PyData.shownAll ds, t.length ≤ sizeLine) →
    ∃ bs, ReadAtMost s.heap (PyData.depthAll ds) bs ∧ ReprAllK X.prog X.w bs s.heap (PyData.depthAll ds) us (PyData.shownAll ds)
  | _, _, _, .nil, .nil, _, _ => ⟨[], (fun _ h => nomatch h), .nil⟩
  | _, _, _, .cons h t, .cons r rs, hs, hz => by
    simp only [PyData.showableAll, Bool.and_eq_true] at hs
    simp only [PyData.shownAll, List.mem_cons, forall_eq_or_imp] at hz ⊢
    obtain ⟨b1, q1, k1⟩ := reprK_dv I sm h r hs.1 hz.1
    obtain ⟨b2, q2, k2⟩ := reprAll_dv I sm t rs hs.2 hz.2
    refine ⟨b1 ++ b2, (q1.mono (Nat.le_max_left _ _)).append (q2.mono (Nat.le_max_right _ _)), ?_⟩
    simp only [PyData.depthAll]
    exact .cons ((k1.more fun b hb => List.mem_append_left _ hb).level_le (Nat.le_max_left _ _)) (k2.more_le (fun b hb => List.mem_append_right _ hb) (Nat.le_max_right _ _))
theorem readsKvR (I : Inv X pins σ H s) (sm : Same F H) : ∀ {kvs : List (Key × V)} {ds : List (PyData × PyData)} {vs : List (Key × Value)} {es : List DictEntry}, DvKv X.K F kvs ds → KV kvs vs → Pairs (mixKind X.prog X.w) es vs → PyData.showableAll (ds.map (·.2)) = true →
    (∀ t ∈ PyData.shownAll (ds.map (·.2)), t.length ≤ sizeLine) → ∃ bs, ReadAtMost s.heap (PyData.depthAll (ds.map (·.2))) bs ∧ ReprAllK X.prog X.w bs s.heap (PyData.depthAll (ds.map (·.2))) (es.map (·.val)) (PyData.shownAll (ds.map (·.2)))
  | _, _, _, _, .nil, .nil, .nil, _, _ => ⟨[], (fun _ h => nomatch h), .nil⟩
  | _, _, _, _, .cons h t, .cons r rs, .cons h1 h2 h3, hs, hz => by
    rw [← h2] at r
    simp only [List.map_cons, PyData.showableAll, Bool.and_eq_true] at hs
    simp only [List.map_cons, PyData.shownAll, List.mem_cons, forall_eq_or_imp] at hz ⊢
    obtain ⟨b1, q1, k1⟩ := reprK_dv I sm h r.2 hs.1 hz.1
    obtain ⟨b2, q2, k2⟩ := readsKvR I sm t rs h3 hs.2 hz.2
    refine ⟨b1 ++ b2, (q1.mono (Nat.le_max_left _ _)).append (q2.mono (Nat.le_max_right _ _)), ?_⟩
    simp only [PyData.depthAll]
    exact .cons ((k1.more fun b hb => List.mem_append_left _ hb).level_le (Nat.le_max_left _ _)) (k2.more_le (fun b hb => List.mem_append_right _ hb) (Nat.le_max_right _ _))
end
/-- repr(x) -/
theorem repr_dv (I : Inv X pins σ H s) (sm : Same F H) {v : V} {d : PyData} {u : Value} {A : Around} {E : Value → Shared → Prop} {Q : Value → Shared → Prop} (h : Dv X.K F v d) (r : RelV v u) (hs : d.showable = true) (hz : d.shown.length ≤ sizeLine) (hg : A.guards = some []) (hu : A.units + (d.depth + 1) < cLine)
    (k : ∀ h' t tk, (∀ b o, s.heap.get? b = some o → h'.get? b = some o) → Q (.str d.shown t) { s with heap := h', toks := tk }) : wpAny (model X.prog X.w) A (call (.builtin "repr") [u]) Q E s := by
  have h0 := h
  cases h with
  | non => cases r; simp only [PyData.shown] at k; exact P.repr_of_none (k s.heap _ _ fun _ _ e => e)
  | bl b => cases r; simp only [PyData.shown] at k; exact P.repr_of_bool (k s.heap _ _ fun _ _ e => e)
  | int i => obtain ⟨t, rfl⟩ := r; simp only [PyData.shown] at k; exact P.repr_of_int (by simpa [PyData.showable] using hs) (k s.heap _ _ fun _ _ e => e)
  | str x => obtain ⟨t, rfl⟩ := r; simp only [PyData.shown] at k hz; exact P.repr_of_str (k s.heap _ _ fun _ _ e => e) hz
  | @lst a vs ds h1 h2 =>
    obtain ⟨as, rd⟩ := reads_dv I sm h0 r
    cases r
    simp only [PyData.shown] at hz k
    simp only [PyData.depth] at hu
    obtain ⟨its, rv, ⟨o, n, ho, hc, _, hd⟩, _⟩ := I.list (.inl (.inl (sm _ _ h1)))
    obtain ⟨bs, hb, hk⟩ := reprAll_dv I sm h2 rv (by simpa [PyData.showable] using hs) (fun t ht => Nat.le_trans (listText_mem_le ht) hz)
    have out : _ ∉ bs := not_mem_of_deeper rd (by simp only [PyData.depth]; omega) hb
    refine call_repr_slot (by omega) ⟨o, ho, hc⟩ PySem.F.slot_list_repr.toG ?_
    cases its with
    | nil =>
      cases rv
      cases h2
      simp only [PyData.shownAll, listText_nil] at k
      exact call_list_repr_empty ⟨o, ho, hc⟩ ho hd ⟨_, _, rfl, k s.heap _ _ fun _ _ e => e⟩
    | cons y l =>
      exact call_list_reprK ho hc hd out (by simpa using hk.length_eq) (fun i y e => hk.item i y (by simpa using e)) hg (fun b _ => Clear.nil b) (by show A.units + 1 + _ < cLine; omega) (fun _ _ e => e) (fun h' t tk hkk => ⟨_, _, rfl, k h' t tk hkk⟩) hz
  | @tup a vs ds h1 h2 =>
    obtain ⟨as, rd⟩ := reads_dv I sm h0 r
    cases r
    simp only [PyData.shown] at hz k
    simp only [PyData.depth] at hu
    obtain ⟨its, rv, ⟨o, ho, hc, n, hd⟩, _⟩ := I.tuple (same_seqT sm h1)
    obtain ⟨bs, hb, hk⟩ := reprAll_dv I sm h2 rv (by simpa [PyData.showable] using hs) (fun t ht => Nat.le_trans (tupleText_mem_le ht) hz)
    have out : _ ∉ bs := not_mem_of_deeper rd (by simp only [PyData.depth]; omega) hb
    refine call_repr_slot (by omega) ⟨o, ho, hc⟩ PySem.F.slot_tuple_repr ?_
    exact call_tuple_reprK ho hc hd out hk hg (fun b _ => Clear.nil b) (by show A.units + 1 + _ < cLine; omega) (fun _ _ e => e) (fun h' t tk hkk => ⟨_, _, rfl, k h' t tk hkk⟩) hz
  | @dct a kvs ds h1 h2 =>
    obtain ⟨as, rd⟩ := reads_dv I sm h0 r
    cases r
    simp only [PyData.shown] at hz
    simp only [PyData.depth] at hu
    obtain ⟨_, nsys, vs, kv, o, es, ep, ho, hx, hd, _, hp, _⟩ := I.hok _ _ (sm _ _ h1)
    obtain ⟨s1, s2⟩ := PyData.showableKv_split ds (by simpa [PyData.showable] using hs)
    obtain ⟨bs, hb, hk⟩ := readsKvR I sm h2 kv hp s2 (fun t ht => let ⟨p, hp, hl⟩ := PyData.shownKv_val_le ds t ht; Nat.le_trans hl (Nat.le_trans (dictText_mem_le hp) hz))
    have kk : ReprAllK X.prog X.w bs s.heap (PyData.depthKv ds) (es.toList.map (·.key)) (PyData.shownAll (ds.map (·.1))) := keys_repr hp kv h2 s1 fun t ht => let ⟨p, hp, hl⟩ := PyData.shownKv_key_le ds t ht; Nat.le_trans hl (Nat.le_trans (dictText_mem_le hp) hz)
    have hb' : ReadAtMost s.heap (PyData.depthKv ds) bs := hb.mono (PyData.depthAll_vals_le ds)
    have out : _ ∉ bs := not_mem_of_deeper rd (by simp only [PyData.depth]; omega) hb'
    refine call_repr_slot (by omega) ⟨o, ho, hx.1⟩ PySem.F.slot_dict_repr ?_
    rw [PyData.shownKv_eq] at hz
    simp only [PyData.shown, PyData.shownKv_eq] at k
    exact call_dict_reprK ho hx.1 hd nsys out (ReprEntriesK.of_two es.toList _ _ kk (hk.more_le (fun _ hb => hb) (PyData.depthAll_vals_le ds))) hg (fun b _ => Clear.nil b) (by show A.units + 1 + _ < cLine; omega) (fun _ _ e => e) (fun h' t tk hkk => ⟨_, _, rfl, k h' t tk hkk⟩) hz
def reprOk (d : PyData) : Bool := d.showable && decide (d.depth ≤ 100) && decide (d.shown.length ≤ sizeLine)
def reprC (d : PyData) : Option PyData := if reprOk d = true then some (.str d.shown) else none
def rRepr (K : PySem.W.Frag) : List V → Hp → VK → Prop := fun xs H Q => ∃ F v d, xs = [v] ∧ Same F H ∧ Dv K F v d ∧ reprOk d = true ∧ Q (.str d.shown) H
end
theorem cr_repr {X : Cx} (hg : X.A.guards = some []) (hu : X.A.units + 110 < cLine) : CallR X (.builtin "repr") (rRepr X.K) := by
  intro pins s σ H xs us Q I r h
  obtain ⟨F, v, d, rfl, sm, hv, ok, q⟩ := h
  obtain ⟨u, rfl, ru⟩ := vals1 r
  unfold reprOk at ok
  simp only [Bool.and_eq_true, decide_eq_true_eq] at ok
  exact repr_dv I sm hv ru ok.1.1 ok.2 hg (by omega) fun h' t tk kk => ⟨.str d.shown, H, I.kept kk, ⟨_, rfl⟩, q⟩
section
variable {X : Cx} {e a b c tg : Expr} {es : List Expr} {fa fb fc : AS → M PyData} {pos : Pos}
theorem je_repr [NTb] {p : Pos} (hu : X.A.guards = some []) (hr : X.A.units + 110 < cLine) (hgl : Gl X "repr") (hm : X.mg "repr" = none) (ha : JE X fa a)
    (hs : starEach [a] X.env = (false, eval a X.env) :: starEach [] X.env := by rfl) (hpl : (backTo pos (starEach [] X.env)).any (·.1) = false := by rfl) : JE X (eUn reprC fa) (.Call (.Name "repr" p) [a] [] pos) :=
  PE_imp (pe_callB (cr_repr hu hr) hgl hm (by decide +kernel) (pa_cons ha pa_nil hs) (by decide) (by decide) hs hpl) fun σ H Q ⟨dk, F, z, δ, w, δ', hf, ok, k⟩ => by
    obtain ⟨d, δ1, h1, hf1⟩ := M.bnd_some hf
    obtain ⟨h2, rfl⟩ := M.opt_some hf1
    obtain ⟨h3, rfl⟩ := if_some h2
    exact ⟨dk, F, z, δ, d, _, h1, ok, fun v F1 H1 x1 d1 r1 => ⟨F1, v, d, rfl, x1.fh, r1, h3, k _ F1 H1 x1 d1 (.str _)⟩⟩
def mulC (d e : PyData) : Option PyData := match d, e with
  | .int i, .int j => if decide ((-(2 ^ 64) < i ∧ i < 2 ^ 64) ∨ (-(2 ^ 64) < j ∧ j < 2 ^ 64)) = true then some (.int (i * j)) else none
  | .tuple ds, .int k => if decide (0 ≤ k ∧ k ≤ 1000 ∧ ds.length ≤ 1000) = true then some (.tuple (List.replicate k.toNat ds).flatten) else none
  | .list ds, .int k => if decide (0 ≤ k ∧ k ≤ 1000 ∧ ds.length ≤ 1000) = true then some (.list (List.replicate k.toNat ds).flatten) else none
  | _, _ => none
end
end VL
set_option Elab.async false
set_option linter.all false
set_option maxRecDepth 100000
namespace VL
open PySem PySem.Spec L2
open PyProof.Rows hiding St
section
variable {X : Cx} {e a b c tg : Expr} {es : List Expr} {fa fb fc : AS → M PyData} {pos : Pos}
open AutoSeq1 (wpAny_loadPart') in
set_option maxHeartbeats 4000000 in
theorem tuple_mulS (l : Addr) (items : Array Value) (n : Nat) (dd : Option Addr) (sl : Array (Option Value)) (x : Int) (u : Tok) (c0 : (decide (x < -(2 ^ 63)) || decide (x ≥ 2 ^ 63)) = false) (c1 : (items.isEmpty || x == 1) = true) :
    Meets (Builtin.«tuple.__mul__» ⟨[.ref l, .int x u], []⟩) (fun _ R s => s.heap.get? l = some { cls := .type "tuple", dict := dd, data := .seq items n, slots := sl } ∧
      R (.ok (.ret (Value.ref l))) s) :=
  .of_wp fun prog w A R s h => by
    obtain ⟨hp, g, d, tk, os⟩ := s
    obtain ⟨hl, h⟩ := h
    have f1 := AutoSeq1.idx_int
    wp_walk using wpAny_loadPart' hl
    repeat (first
      | (refine wpAny_ite_false (decide_eq_false (by rw [c0]; exact Bool.false_ne_true)) ?_; wp_walk using wpAny_loadPart' hl)
      | (refine wpAny_ite_true (decide_eq_true c1) ?_; wp_walk using wpAny_loadPart' hl))
    exact ⟨_, rfl, h⟩
def rRepS (K : PySem.W.Frag) : R2 := fun x y H Q => ∃ l k xs, x = .ref l ∧ y = .int k ∧ SqT K H l xs ∧ (xs = [] ∨ k = 1) ∧ 0 ≤ k ∧ k ≤ 1000 ∧ Q (.ref l) H
theorem op_repS : OpR X (binaryOp .Mult) (rRepS X.K) := by
  intro pins s σ H x y v u Q I rx ry h
  obtain ⟨l, k, xs, rfl, rfl, hT, hne, h1, h2, q⟩ := h
  cases rx
  obtain ⟨t, rfl⟩ := ry
  obtain ⟨its, r, ⟨⟨cls, dd, data, sl⟩, ho, hc, n, hd⟩, hs⟩ := I.tuple hT
  simp only at hc hd
  subst hc hd
  have hle : its.length = xs.length := r.length.symm
  have c0 : (decide (k < -(2 ^ 63)) || decide (k ≥ 2 ^ 63)) = false := by
    rw [decide_eq_false (by omega), decide_eq_false (by omega)] <;> rfl
  have c1 : (its.toArray.isEmpty || k == 1) = true := by
    rcases hne with rfl | rfl
    · have : its = [] := List.eq_nil_of_length_eq_zero hle
      subst this
      rfl
    · simp
  refine wpAny_binaryOp_repeat_ref (T := "tuple") (U := "int") (by decide) ⟨_, ho, rfl⟩ (fun s' => typeIs_int s' k t) noFill_tuple_mul F.fills_int_mul F.slot_int_rmul repeat_tuple F.slot_int_index.lookup
    (call_meets F.slot_int_rmul (typeIs_int s k t) F.entry_int_rmul (F.args_int_rmul_2 _ _) (int_rmul_tuple k t l its.toArray n dd sl)
      ⟨ho, rfl, ⟨_, ho, rfl⟩, call_meets F.slot_tuple_mul ⟨_, ho, rfl⟩ F.entry_tuple_mul (F.args_tuple_mul_2 _ _) (tuple_mulS l its.toArray n dd sl k t c0 c1) ⟨ho, ?_⟩⟩)
  exact ⟨.ref l, H, I, rfl, q⟩
open AutoSeq1 (wpAny_loadPart') in
set_option maxHeartbeats 4000000 in
theorem tuple_mulZ (l : Addr) (items : Array Value) (n : Nat) (dd : Option Addr) (sl : Array (Option Value)) (u : Tok) (c1 : (items.isEmpty || (0 : Int) == 1) = false) :
    Meets (Builtin.«tuple.__mul__» ⟨[.ref l, .int 0 u], []⟩) (fun _ R s => s.heap.get? l = some { cls := .type "tuple", dict := dd, data := .seq items n, slots := sl } ∧
      R (.ok (.ret (Value.ref s.heap.objs.size))) { s with heap := s.heap.push { cls := Value.type "tuple", data := Data.seq #[] }, toks := s.toks }) :=
  .of_wp fun prog w A R s h => by
    obtain ⟨hp, g, d, tk, os⟩ := s
    obtain ⟨hl, h⟩ := h
    have f1 := AutoSeq1.idx_int
    have c0 : (decide ((0 : Int) < -(2 ^ 63)) || decide ((0 : Int) ≥ 2 ^ 63)) = false := by decide
    have c2 : (decide ((0 : Int) ≤ 0) || items.isEmpty) = true := by simp
    wp_walk using wpAny_loadPart' hl
    repeat (first
      | (refine wpAny_ite_false (decide_eq_false (by rw [c0]; exact Bool.false_ne_true)) ?_; wp_walk using wpAny_loadPart' hl)
      | (refine wpAny_ite_false (decide_eq_false (by rw [c1]; exact Bool.false_ne_true)) ?_; wp_walk using wpAny_loadPart' hl)
      | (refine wpAny_ite_true (decide_eq_true c2) ?_; wp_walk using wpAny_loadPart' hl))
    exact ⟨_, rfl, h⟩
def rRepZ (K : PySem.W.Frag) : R2 := fun x y H Q => ∃ l xs, x = .ref l ∧ y = .int 0 ∧ SqT K H l xs ∧ xs ≠ [] ∧ ∀ p, H p = none → Q (.ref p) (upd H p (.tup []))
theorem op_repZ : OpR X (binaryOp .Mult) (rRepZ X.K) := by
  intro pins s σ H x y v u Q I rx ry h
  obtain ⟨l, xs, rfl, rfl, hT, hne, q⟩ := h
  cases rx
  obtain ⟨t, rfl⟩ := ry
  obtain ⟨its, r, ⟨⟨cls, dd, data, sl⟩, ho, hc, n, hd⟩, hs⟩ := I.tuple hT
  simp only at hc hd
  subst hc hd
  have hle : its.length = xs.length := r.length.symm
  have c1 : (its.toArray.isEmpty || (0 : Int) == 1) = false := by
    cases its with
    | nil => exact absurd (List.eq_nil_of_length_eq_zero hle.symm) hne
    | cons a b => rfl
  refine wpAny_binaryOp_repeat_ref (T := "tuple") (U := "int") (by decide) ⟨_, ho, rfl⟩ (fun s' => typeIs_int s' 0 t) noFill_tuple_mul F.fills_int_mul F.slot_int_rmul repeat_tuple F.slot_int_index.lookup
    (call_meets F.slot_int_rmul (typeIs_int s 0 t) F.entry_int_rmul (F.args_int_rmul_2 _ _) (int_rmul_tuple 0 t l its.toArray n dd sl)
      ⟨ho, rfl, ⟨_, ho, rfl⟩, call_meets F.slot_tuple_mul ⟨_, ho, rfl⟩ F.entry_tuple_mul (F.args_tuple_mul_2 _ _) (tuple_mulZ l its.toArray n dd sl t c1) ⟨ho, ?_⟩⟩)
  refine ⟨.ref s.heap.objs.size, _, I.laid (t' := s.toks) (o := .tup []) (fun b ob q => Heap.get?_push_of_some _ q) (Nat.le_refl _) ?_, rfl, q _ (I.hok.fresh (Nat.le_refl _))⟩
  exact ⟨Nat.zero_le _, [], .nil, IsTup.new _ _⟩
def rMulC (K : PySem.W.Frag) : R2 := fun x y H Q => rI CMul (fun i j => .int (i * j)) x y H Q ∨ rRepT K x y H Q ∨ rRep x y H Q ∨ rRepS K x y H Q ∨ rRepZ K x y H Q
theorem or_mul : OpR X (binaryOp .Mult) (rMulC X.K) := op_mul.or (op_repT.or (op_rep.or (op_repS.or op_repZ)))
theorem od_mul [NTb] : OpD X.K (rMulC X.K) mulC := fun dk F H x y d e w Q sm r1 r2 h k => by
  cases r1 with
  | int i =>
    cases r2 with
    | int j =>
      obtain ⟨q, rfl⟩ := if_some h
      exact .inl ⟨i, j, rfl, rfl, (of_decide_eq_true q : (-(2 ^ 64) < i ∧ i < 2 ^ 64) ∨ (-(2 ^ 64) < j ∧ j < 2 ^ 64)), k _ F H (.refl sm) (.int _)⟩
    | non => cases h
    | bl _ => cases h
    | str _ => cases h
    | lst _ _ => cases h
    | tup _ _ => cases h
    | dct _ _ => cases h
  | @tup _ _ ds0 g1 g2 =>
    cases r2 with
    | int j =>
      obtain ⟨q, rfl⟩ := if_some h
      obtain ⟨q2, q3, q4⟩ := of_decide_eq_true q
      have l1 := g2.length
      by_cases q1 : ds0 ≠ ([] : List PyData) ∧ 2 ≤ j
      · refine .inr (.inl ⟨_, j, _, rfl, rfl, same_seqT sm g1, fun e0 => q1.1 (by subst e0; cases g2; rfl), q1.2, q3, by rw [l1]; exact q4, fun p hp => ?_⟩)
        exact k _ _ _ (.new sm hp) (.tup (SqT.of upd_same) (DvAll.mono (Grow.new (dk := dk) sm hp).x.ff (g2.rep _)))
      · by_cases q0 : ds0 ≠ ([] : List PyData) ∧ j = 0
        · obtain ⟨q5, q6⟩ := q0
          subst q6
          refine .inr (.inr (.inr (.inr ⟨_, _, rfl, rfl, same_seqT sm g1, fun e0 => q5 (by subst e0; cases g2; rfl), fun p hp => ?_⟩)))
          refine k _ _ _ (.new sm hp) (.tup (SqT.of upd_same) ?_)
          simpa using DvAll.nil
        · refine .inr (.inr (.inr (.inl ⟨_, j, _, rfl, rfl, same_seqT sm g1, ?_, q2, q3, k _ _ _ (.refl sm) (.tup g1 ?_)⟩)))
          · by_cases z : j = 1
            · exact .inr z
            · refine .inl (List.eq_nil_of_length_eq_zero ?_)
              rw [l1]
              exact List.length_eq_zero_iff.mpr (Decidable.byContradiction fun n => by
                by_cases z0 : j = 0
                · exact q0 ⟨n, z0⟩
                · exact q1 ⟨n, by omega⟩)
          · by_cases z : j = 1
            · subst z
              simpa using g2
            · have e0 : ds0 = ([] : List PyData) := Decidable.byContradiction fun n => by
                by_cases z0 : j = 0
                · exact q0 ⟨n, z0⟩
                · exact q1 ⟨n, by omega⟩
              subst e0
              simpa using g2
    | non => cases h
    | bl _ => cases h
    | str _ => cases h
    | lst _ _ => cases h
    | tup _ _ => cases h
    | dct _ _ => cases h
  | lst g1 g2 =>
    cases r2 with
    | int j =>
      obtain ⟨q, rfl⟩ := if_some h
      obtain ⟨q2, q3, q4⟩ := of_decide_eq_true q
      have l1 := g2.length
      refine .inr (.inr (.inl ⟨_, j, _, rfl, rfl, sm _ _ g1, by omega, by omega, ?_, fun p hp => ?_⟩))
      · rw [l1]
        exact Nat.le_trans (Nat.mul_le_mul q4 (show j.toNat ≤ 1000 by omega)) (by decide)
      · exact k _ _ _ (.new sm hp) (.lst upd_same (DvAll.mono (Grow.new (dk := dk) sm hp).x.ff (g2.rep _)))
    | non => cases h
    | bl _ => cases h
    | str _ => cases h
    | lst _ _ => cases h
    | tup _ _ => cases h
    | dct _ _ => cases h
  | non => cases h
  | bl _ => cases h
  | str _ => cases h
  | dct _ _ => cases h
theorem je_dict0 [NTb] : JE X (eC (.dict [])) (.Dict [] [] pos) := PE_imp pe_dnewK fun σ H Q ⟨dk, F, z, δ, d', δ', hf, ok, k⟩ => by
  obtain ⟨rfl, rfl⟩ := M.pur_some hf
  exact fun p hp => k _ _ _ (Grow.new (dk := dk) ok.fh hp).x (ok.deck.new hp ok.fh) (.dct upd_same .nil)
def augC (d e : PyData) : Option PyData := match d, e with
  | .int i, .int j => some (.int (i + j))
  | _, _ => none
theorem augC_some {d e w : PyData} (h : augC d e = some w) : ∃ i j, d = .int i ∧ e = .int j ∧ w = .int (i + j) := by
  cases d with
  | int i =>
    cases e with
    | int j => injection h with h; exact ⟨i, j, rfl, rfl, h.symm⟩
    | _ => cases h
  | _ => cases h
def sAug (i : Nat) (f : AS → M PyData) : AS → M Fl := fun z => M.bnd (eVar i z) fun d => M.bnd (f z) fun e => M.bnd (M.opt (augC d e)) fun w => M.pur (.nx (z.set i (.dat w)))
theorem js_aug [NTb] {i : Nat} {x : Str} {p' : Pos} (hN : X.N.Nodup) (hi : X.N[i]? = some x) (hx : Loc X.env.scope x) (h : JE X fa a)
    (hf : X.fn x = true ∨ X.env.scope.names.lookup x = some .local := by first | exact .inl rfl | exact .inr rfl | assumption) : JS X (sAug i fa) (.AugAssign (.Name x p') .Add a pos) :=
  PS_imp (ps_aug hN hi hx h iop_add hf) fun D σ H ⟨dk, F0, H0, F, z, δ, fl, δ', hf, x, ok, fr, k⟩ => by
    obtain ⟨d, δ1, h1, hf1⟩ := M.bnd_some hf
    obtain ⟨e, δ2, h2, hf2⟩ := M.bnd_some hf1
    obtain ⟨w, δ3, h3, hf3⟩ := M.bnd_some hf2
    obtain ⟨h4, rfl⟩ := M.opt_some h3
    obtain ⟨rfl, rfl⟩ := M.pur_some hf3
    obtain ⟨hz, rfl⟩ := eVar_some h1
    obtain ⟨i1, j1, rfl, rfl, rfl⟩ := augC_some h4
    obtain ⟨v, e1, e2⟩ := ok.sl i _ hz (fun q => nomatch q)
    cases e2
    refine ⟨_, e1, dk, F, z, _, _, _, h2, ok, fun v F' H' x1 d1 r1 => ?_⟩
    cases r1
    exact ⟨i1, j1, rfl, rfl, k _ F' H' (x.trans x1) x1.ff ((ok.ext x1 d1).setDat i (sv := .dat (.int (i1 + j1))) (.int _) (fun _ q => nomatch q)) (fr.setDat i (fun _ q => nomatch q))⟩
theorem adjust_rev (n : Nat) : Builtin.Slice.sliceAdjust none none (-1) (n : Int) = ((n : Int) - 1, -1) := by
  unfold Builtin.Slice.sliceAdjust
  rfl
theorem places_rev (n : Nat) : Builtin.Slice.slicePlaces ((n : Int) - 1) (-1) (-1) = n := by
  unfold Builtin.Slice.slicePlaces
  rw [if_neg (by decide)]
  by_cases h : (n : Int) - 1 > -1
  · rw [if_pos h]
    rw [show (-(-1) : Int) = 1 by decide, Int.ediv_one]
    omega
  · rw [if_neg h]
    omega
theorem filterMap_eq {α β : Type} {f g : α → Option β} : ∀ {l : List α}, (∀ x ∈ l, f x = g x) → l.filterMap f = l.filterMap g
  | [], _ => rfl
  | x :: l, h => by
    rw [List.filterMap_cons, List.filterMap_cons, h x (List.mem_cons_self ..), filterMap_eq fun y hy => h y (List.mem_cons_of_mem _ hy)]
theorem pick_rev (xs : Array Value) : ((List.range xs.size).filterMap fun (m : Nat) => xs[((xs.size : Int) - 1 + (m : Int) * -1).toNat]?).toArray = xs.toList.reverse.toArray := by
  have h := PySem.W.krv_pick xs
  unfold slicePick at h
  rw [PySem.W.krv_bounds] at h
  replace h : ((sliceRange ((xs.size : Int) - 1) (-1) (-1)).filterMap (xs[·]?)).toArray = xs.toList.reverse.toArray := h
  rw [PySem.W.krv_sliceRange, List.filterMap_map] at h
  rw [← h]
  congr 1
  refine filterMap_eq fun m hm => ?_
  have := List.mem_range.mp hm
  show xs[((xs.size : Int) - 1 + (m : Int) * -1).toNat]? = xs[xs.size - 1 - m]?
  rw [show ((xs.size : Int) - 1 + (m : Int) * -1).toNat = xs.size - 1 - m by omega]
theorem sliceApplied_rev {prog : Program} {w : World} {A : Around} {E : Value → Shared → Prop} {s : Shared} {sl : Addr} {vl vu vs : Value} {n : Nat} {Q : Int × Int × Nat → Shared → Prop} (hs : s.heap.IsSliceOf sl vl vu vs) (pl : IsPart vl none) (pu : IsPart vu none) (ps : IsPart vs (some (-1)))
    (h : Q ((n : Int) - 1, -1, n) s) : wpAny (model prog w) A (Builtin.Slice.sliceApplied (.ref sl) (pure (n : Int))) Q E s := by
  obtain ⟨os, hos, hcs, hds⟩ := id hs
  unfold Builtin.Slice.sliceApplied Builtin.Slice.sliceFields
  refine wpAny_bind (wpAny_bind (wpAny_field hos hds (x := vl) rfl (wpAny_bind (wpAny_field hos hds (x := vu) rfl (wpAny_bind (wpAny_field hos hds (x := vs) rfl (wpAny_pure ?_)))))))
  refine wpAny_bind (HT.slicePart_ ps ?_)
  show wpAny _ _ (if ((-1 : Int) == 0) = true then _ else _) _ _ s
  rw [if_neg (by decide)]
  refine wpAny_bind (HT.slicePart_ pl (wpAny_bind (HT.slicePart_ pu (wpAny_bind (wpAny_pure ?_)))))
  show wpAny _ _ (match Builtin.Slice.sliceAdjust none none (-1) (n : Int) with | (lo, hi) => pure (lo, (-1 : Int), Builtin.Slice.slicePlaces lo hi (-1))) _ _ s
  rw [adjust_rev]
  show wpAny _ _ (pure ((n : Int) - 1, (-1 : Int), Builtin.Slice.slicePlaces ((n : Int) - 1) (-1) (-1))) _ _ s
  rw [places_rev]
  exact wpAny_pure h
theorem getItem_tuple_rev {prog : Program} {w : World} {A : Around} {E : Value → Shared → Prop} {s : Shared} {t sl : Addr} {items : Array Value} {vl vu vs : Value} {Q : Value → Shared → Prop} (ht : IsTup s.heap t items) (hs : s.heap.IsSliceOf sl vl vu vs) (pl : IsPart vl none) (pu : IsPart vu none) (ps : IsPart vs (some (-1)))
    (h : Q (.ref s.heap.objs.size) { s with heap := s.heap.push { cls := .type "tuple", data := .seq items.toList.reverse.toArray } })
    (hsz : items.size ≤ sizeLine) : wpAny (model prog w) A (getItem (.ref t) (.ref sl)) Q E s := by
  have htake : sizeOk (.seq items.toList.reverse.toArray) := by
    show items.toList.reverse.toArray.size ≤ sizeLine
    rw [List.size_toArray, List.length_reverse, Array.length_toList]
    exact hsz
  obtain ⟨os, hos, hcs, hds⟩ := id hs
  have hTs : s.TypeIs (.ref sl) "slice" := ⟨os, hos, hcs⟩
  unfold getItem
  try with_reducible refine wpAny_holding ?_
  first | refine wpAny_bind (wpAny_pure ?_) | skip
  refine wpAny_bind (wpAny_sequenceKey ht.typeIs (by decide) ?_)
  refine wpAny_bind (wpAny_callSpecial?_slot (name := Str.ofString "__getitem__") ht.typeIs PyProof.Rows.slot_tuple_getitem
    (wpAny_call_entry PyProof.Rows.slot_tuple_getitem ht.typeIs entry_tuple_getitem ?_ (args_tuple_getitem _ _)))
  show wpAny _ _ (Builtin.Tuple.tupleItemsOf (.ref t) >>= _) _ _ s
  refine wpAny_bind (tupleItemsOf_ ht ?_)
  refine wpAny_bind (wpAny_typeOf hTs ?_)
  rw [if_pos (by decide)]
  refine wpAny_bind (sliceApplied_rev hs pl pu ps ?_)
  have hno : ¬ ((((items.size : Int) - 1) == 0 && (-1 : Int) == 1 && items.size == items.size) = true) := by
    intro q
    rw [Bool.and_eq_true, Bool.and_eq_true] at q
    exact absurd q.1.2 (by decide)
  show wpAny _ _ (if ((((items.size : Int) - 1) == 0 && (-1 : Int) == 1 && items.size == items.size) = true) then _ else _) _ _ s
  rw [if_neg hno, pick_rev]
  first
    | exact wpAny_bind (m := Builtin.Tuple.tupleExact _) (wpAny_newObj_type (wpAny_pure ⟨_, rfl, wpAny_pure h⟩) htake)
    | exact wpAny_bind (m := Builtin.Tuple.tupleExact _) (wpAny_newObj_type (wpAny_bind (wpAny_pure (wpAny_pure ⟨_, rfl, wpAny_pure h⟩))) htake)
    | exact wpAny_bind (wpAny_bind (m := Builtin.Tuple.tupleExact _) (wpAny_newObj_type (wpAny_pure (wpAny_pure ⟨_, rfl, wpAny_pure h⟩)) htake))
    | exact wpAny_bind (wpAny_bind (m := Builtin.Tuple.tupleExact _) (wpAny_newObj_type (wpAny_pure ⟨_, rfl, wpAny_pure h⟩) htake))
def tRev3 (K : PySem.W.Frag) (te : TE) : TE := fun σ H Q => te σ H fun x H1 => (∃ a xs, x = .ref a ∧ SqL K H1 a xs ∧ ∀ p, H1 p = none → Q (.ref p) (upd H1 p (.lst xs.reverse))) ∨ (∃ a xs, x = .ref a ∧ SqT K H1 a xs ∧ ∀ p, H1 p = none → Q (.ref p) (upd H1 p (.tup xs.reverse)))
theorem pe_rev3 {te : TE} {k : Nat} {p1 p2 p3 : Pos} (he : PE X e te) : PE X (.Subscript e (.Slice none none (some (.UnaryOp .USub (.Constant (.int 1) k p1) p2)) p3) pos) (tRev3 X.K te) := by
  refine ⟨fun pins s σ H Q I h => ?_⟩
  refine Subscript_ (thn (he.run pins s σ H _ I h) fun v s1 ⟨x, H1, I1, r1, q1⟩ => ?_)
  have hst : PO X (some (.UnaryOp .USub (.Constant (.int 1) k p1) p2)) (tPart (tUn (rU fun i => .int (-i)) (L2.tC (.int 1)))) := po_some (pe_un un_neg pe_int)
  refine wpAny_Slice (thn (po_none.run pins s1 σ H1 (fun o H2 => o = none ∧ H2 = H1) I1 ⟨rfl, rfl⟩) fun vl s2 ⟨l, H2, I2, pl, el, e2⟩ => ?_)
  subst el e2
  refine thn (po_none.run pins s2 σ H2 (fun o H3 => o = none ∧ H3 = H2) I2 ⟨rfl, rfl⟩) fun vu s3 ⟨u, H3, I3, pu, eu, e3⟩ => ?_
  subst eu e3
  refine thn (hst.run pins s3 σ H3 (fun o H4 => o = some (-1) ∧ H4 = H3) I3 ⟨1, rfl, -1, rfl, rfl, rfl⟩) fun vs s4 ⟨o, H4, I4, ps, eo, e4⟩ => ?_
  subst eo e4
  have I5 : Inv X pins σ H4 { s4 with heap := s4.heap.push { cls := .type "slice", data := .fields #[vl, vu, vs] } } := I4.kept (t' := s4.toks) fun b ob q => Heap.get?_push_of_some _ q
  rcases q1 with ⟨a, xs, ex, hx, q⟩ | ⟨a, xs, ex, hx, q⟩
  · subst ex
    cases r1
    obtain ⟨its, r, ht, hz⟩ := I5.list hx
    have hlen := r.length
    show wpAny (model X.prog X.w) X.A (subscriptTail e (.Slice none none (some (.UnaryOp .USub (.Constant (.int 1) k p1) p2)) p3) (.ref a) (.ref s4.heap.objs.size)) (EP X pins σ Q) X.xe { s4 with heap := s4.heap.push { cls := .type "slice", data := .fields #[vl, vu, vs] } }
    refine tail_any (ops := [.ref a, .ref s4.heap.objs.size]) ht.isList.typeIs (PySem.slot_list_getitem.lookup) ?_ (by with_unfolding_all rfl)
    refine wpAny_getItem_list_slice ht.isList (Heap.IsSliceOf.new _ vl vu vs) pl pu ps (by decide) ?_ (by rw [List.size_toArray]; omega)
    rw [PySem.W.krv_pick]
    refine ⟨.ref _, _, I5.laid (t' := s4.toks) (o := .lst xs.reverse) (fun b ob q => Heap.get?_push_of_some _ q) (Nat.le_refl _) ?_, rfl, q _ (I5.hok.fresh (Nat.le_refl _))⟩
    exact ⟨by rw [List.length_reverse]; exact hz, _, 0, r.reverse, Heap.get?_push_size _ rfl⟩
  · subst ex
    cases r1
    obtain ⟨its, r, ht, hz⟩ := I5.tuple hx
    have hlen := r.length
    show wpAny (model X.prog X.w) X.A (subscriptTail e (.Slice none none (some (.UnaryOp .USub (.Constant (.int 1) k p1) p2)) p3) (.ref a) (.ref s4.heap.objs.size)) (EP X pins σ Q) X.xe { s4 with heap := s4.heap.push { cls := .type "slice", data := .fields #[vl, vu, vs] } }
    refine tail_any (ops := [.ref a, .ref s4.heap.objs.size]) ht.typeIs (PyProof.Rows.slot_tuple_getitem.lookup) ?_ (by with_unfolding_all rfl)
    refine getItem_tuple_rev ht (Heap.IsSliceOf.new _ vl vu vs) pl pu ps ?_ (by rw [List.size_toArray]; omega)
    refine ⟨.ref _, _, I5.laid (t' := s4.toks) (o := .tup xs.reverse) (fun b ob q => Heap.get?_push_of_some _ q) (Nat.le_refl _) ?_, rfl, q _ (I5.hok.fresh (Nat.le_refl _))⟩
    exact ⟨by rw [List.length_reverse]; exact hz, its.reverse, r.reverse, ⟨_, Heap.get?_push_size _ rfl, rfl, 0, by simp⟩⟩
def revC : PyData → Option PyData
  | .list ds => some (.list ds.reverse)
  | .tuple ds => some (.tuple ds.reverse)
  | _ => none
theorem je_rev [NTb] {k : Nat} {p1 p2 p3 : Pos} (ha : JE X fa a) : JE X (eUn revC fa) (.Subscript a (.Slice none none (some (.UnaryOp .USub (.Constant (.int 1) k p1) p2)) p3) pos) :=
  PE_imp (pe_rev3 ha) fun σ H Q ⟨dk, F, z, δ, w, δ', hf, ok, k⟩ => by
    obtain ⟨d, δ1, h1, hf1⟩ := M.bnd_some hf
    obtain ⟨h2, rfl⟩ := M.opt_some hf1
    refine ⟨dk, F, z, δ, d, _, h1, ok, fun v F1 H1 x1 d1 r1 => ?_⟩
    cases r1 with
    | lst e1 e2 =>
      injection h2 with h2
      subst h2
      exact .inl ⟨_, _, rfl, SqL.of (x1.fh _ _ e1), fun p hp => k _ _ _ (x1.trans (.new x1.fh hp)) (d1.new hp x1.fh) (.lst upd_same (DvAll.mono (Grow.new (dk := dk) x1.fh hp).x.ff e2.reverse))⟩
    | tup e1 e2 =>
      injection h2 with h2
      subst h2
      exact .inr ⟨_, _, rfl, same_seqT x1.fh e1, fun p hp => k _ _ _ (x1.trans (.new x1.fh hp)) (d1.new hp x1.fh) (.tup (SqT.of upd_same) (DvAll.mono (Grow.new (dk := dk) x1.fh hp).x.ff e2.reverse))⟩
    | non => cases h2
    | bl _ => cases h2
    | int _ => cases h2
    | str _ => cases h2
    | dct _ _ => cases h2
theorem star_of {pins : List (Addr × Obj)} {σ : L2.St} {H : Hp} {s : Shared} {p : Addr} {xs : List V} {Q : List Value → Shared → Prop} (I : Inv X pins σ H s) (h : SqL X.K H p xs ∨ SqT X.K H p xs)
    (k : ∀ us s', Inv X pins σ H s' → Vals xs us → Q us s') : PySem.W.StarOf (model X.prog X.w) X.A X.xe (.ref p) Q s := by
  unfold PySem.W.StarOf notIterableAtAll
  rcases h with h | h
  · obtain ⟨its, r, ⟨o, n, ho, hc, _, hd⟩, hz⟩ := I.list h
    have hl := r.length
    refine wpAny_bind (wpAny_specialOf ⟨o, ho, hc⟩ PySem.F.slot_list_iter.lookup (wpAny_pure ⟨rfl, ?_⟩))
    refine wpAny_collect_seq p (.inl rfl) ho hc hd (fun h' hk => ?_) (by rw [List.size_toArray]; omega)
    exact k _ _ (I.kept (t' := s.toks) fun b o e => hk b o e) (by simpa using r)
  · obtain ⟨its, r, ⟨o, ho, hc, n, hd⟩, hz⟩ := I.tuple h
    have hl := r.length
    refine wpAny_bind (wpAny_specialOf ⟨o, ho, hc⟩ PySem.F.slot_tuple_iter.lookup (wpAny_pure ⟨rfl, ?_⟩))
    refine wpAny_collect_seq p (.inr rfl) ho hc hd (fun h' hk => ?_) (by rw [List.size_toArray]; omega)
    exact k _ _ (I.kept (t' := s.toks) fun b o e => hk b o e) (by simpa using r)
def tStar (K : PySem.W.Frag) (te : TE) (t : TA) : TA := fun σ H Q => te σ H fun x H1 => ∃ p xs, x = .ref p ∧ (SqL K H1 p xs ∨ SqT K H1 p xs) ∧ t σ H1 fun ys H2 => Q (xs ++ ys) H2
theorem Vals.app : ∀ {xs ys : List V} {us vs : List Value}, Vals xs us → Vals ys vs → Vals (xs ++ ys) (us ++ vs)
  | _, _, _, _, .nil, r => r
  | _, _, _, _, .cons h t, r => .cons h (Vals.app t r)
theorem pa_star {te : TE} {t : TA} {p : Pos} (ha : PE X a te) (hr : PA X es t) (hs : starEach (.Starred a p :: es) X.env = (true, eval a X.env) :: starEach es X.env := by rfl) : PA X (.Starred a p :: es) (tStar X.K te t) := by
  refine ⟨fun pos pins s σ H Q I h => ?_⟩
  refine PySem.W.items_star (thn (ha.run pins s σ H _ I h) fun v s1 ⟨x, H1, I1, r1, q1⟩ => ?_) hs
  obtain ⟨p, xs, rfl, hx, q⟩ := q1
  cases r1
  refine star_of I1 hx fun us s2 I2 r2 => ?_
  exact thn (hr.run pos pins s2 σ H1 _ I2 q) fun vs s3 ⟨ys, H3, I3, r3, q3⟩ => ⟨_, H3, I3, Vals.app r2 r3, q3⟩
def aStar (f : AS → M PyData) (g : AS → M (List AV)) : AS → M (List AV) := fun z => M.bnd (f z) fun d => M.bnd (M.opt (seqD d)) fun ds => M.bnd (g z) fun as => M.pur (ds.map AV.d ++ as)
theorem avs_app [NTb] {K : PySem.W.Frag} {dk : Option Dk} {F : Hp} : ∀ {vs ws : List V} {ds : List PyData} {as : List AV}, DvAll K F vs ds → AVs K dk F ws as → AVs K dk F (vs ++ ws) (ds.map AV.d ++ as)
  | _, _, _, _, .nil, r => r
  | _, _, _, _, .cons h t, r => .cons h (avs_app t r)
theorem ja_star [NTb] {g : AS → M (List AV)} {p : Pos} (h : JE X fa a) (hr : JA X g es) (hs : starEach (.Starred a p :: es) X.env = (true, eval a X.env) :: starEach es X.env := by rfl) : JA X (aStar fa g) (.Starred a p :: es) :=
  PA_imp (pa_star h hr hs) fun σ H Q ⟨dk, F, z, δ, d, δ', hf, ok, k⟩ => by
    obtain ⟨d1, δ1, h1, hf1⟩ := M.bnd_some hf
    obtain ⟨ds, δ2, h2', hf2⟩ := M.bnd_some hf1
    obtain ⟨h2, e2⟩ := M.opt_some h2'
    obtain ⟨as, δ3, h3, hf3⟩ := M.bnd_some hf2
    obtain ⟨e3, e4⟩ := M.pur_some hf3
    subst e2 e3 e4
    refine ⟨dk, F, z, δ, _, _, h1, ok, fun v1 F1 H1 x1 dd1 r1 => ?_⟩
    have go : ∀ p xs, v1 = .ref p → (SqL X.K H1 p xs ∨ SqT X.K H1 p xs) → DvAll X.K F1 xs ds → ∃ p xs, v1 = .ref p ∧ (SqL X.K H1 p xs ∨ SqT X.K H1 p xs) ∧ tAr X.K g σ H1 fun ys H2 => Q (xs ++ ys) H2 := fun p xs ev hx r => ⟨p, xs, ev, hx, dk, F1, z, _, _, _, h3, ok.ext x1 dd1, fun vs F2 H2 x2 dd2 r2 => k _ F2 H2 (x1.trans x2) dd2 (avs_app (DvAll.mono x2.ff r) r2)⟩
    cases r1 with
    | lst e1 e2 => injection h2 with h2; subst h2; exact go _ _ rfl (.inl (SqL.of (x1.fh _ _ e1))) e2
    | tup e1 e2 => injection h2 with h2; subst h2; exact go _ _ rfl (.inr (same_seqT x1.fh e1)) e2
    | non => cases h2
    | bl _ => cases h2
    | int _ => cases h2
    | str _ => cases h2
    | dct _ _ => cases h2
end
end VL
set_option Elab.async false
set_option linter.all false
set_option maxRecDepth 100000
namespace VL
open PySem PySem.Spec L2
open PyProof.Rows hiding St
section
def IteT (K : PySem.W.Frag) (a : Addr) : It :=
  ⟨fun i H => ∃ (xs : List V) (x : V), SqT K H a xs ∧ xs[i]? = some x, fun i H v H' => ∃ T x, v = .ref T ∧ H T = none ∧ H' = upd H T (.tup [.int (i : Nat), x]) ∧ ∀ xs : List V, SqT K H a xs → xs[i]? = some x, fun i H => ∃ xs : List V, SqT K H a xs ∧ xs.length ≤ i⟩
theorem turn_enumT {P : Program} {w : World} {K : PySem.W.Frag} {elts : List Expr} {kk : Nat} {tpos : Pos} (a e it : Addr) :
    Turn P w K (.Tuple elts kk tpos) (IteT K a) [e, it] e (fun i h => (∃ old, IsEnum h e it ((i : Nat) : Int) old) ∧ h.IsTupleIter it a i ∧ e ≠ it) where
  mem := List.mem_cons_self ..
  obj := fun i h st b hb => by
    obtain ⟨⟨old, he⟩, ⟨o, ho, hc, hd⟩, _⟩ := st
    rcases List.mem_cons.mp hb with z | z
    · subst z; exact ⟨_, he, fun v q => nomatch q⟩
    · have z := List.mem_singleton.mp z
      subst z
      exact ⟨o, ho, fun v q => by rw [hd] at q; cases q⟩
  keep := fun i h h' st k => ⟨let ⟨old, he⟩ := st.1; ⟨old, k e (List.mem_cons_self ..) _ he⟩, st.2.1.at fun o q => k it (List.mem_cons_of_mem _ (List.mem_cons_self ..)) o q, st.2.2⟩
  item := by
    intro X hP hw hK hc i pins s σ H E I hf st hg
    subst hP hw hK
    obtain ⟨⟨old, he⟩, hit, hne⟩ := st
    obtain ⟨xs, x, hq, hx⟩ := hg
    obtain ⟨its, rv, p, hz⟩ := I.tuple hq
    have pt : s.heap.IsTuple a its.toArray := p
    obtain ⟨u, hu, ru⟩ := rv.get hx
    have hlt : i < its.toArray.size := by
      rw [List.size_toArray]
      exact (List.getElem?_eq_some_iff.mp hu).1
    have ta : a ≠ it := fun q => by
      obtain ⟨o1, h1, c1, _⟩ := pt
      obtain ⟨o2, h2, c2, _⟩ := hit
      rw [q, h2] at h1
      injection h1 with h1
      rw [h1, c1] at c2
      exact absurd c2 (by decide)
    have ea : e ≠ a := fun q => by
      obtain ⟨o1, h1, c1, _⟩ := pt
      rw [← q, he] at h1
      injection h1 with h1
      rw [← h1] at c1
      have c1' : Value.type "enumerate" = Value.type "tuple" := c1
      exact absurd c1' (by decide)
    have hel : e < s.heap.objs.size := Heap.lt_size he
    have hil : it < s.heap.objs.size := by obtain ⟨_, q, _⟩ := hit; exact Heap.lt_size q
    have hef : e ∉ [it, a] := fun q => by
      rcases List.mem_cons.mp q with z | z
      · exact hne z
      · exact ea (List.mem_singleton.mp z)
    refine wpAny_pyNext_enum_itemD (Draws.tuple (prog := X.prog) (w := X.w) (A := X.A.in1) (show X.A.in1.handled = none from I.ok.hd hc) it a ta its.toArray) he ⟨hit, pt⟩ hlt hne hef fun y h' tk hy ho st' hT hsz hk => ?_
    obtain ⟨hit', pt'⟩ := st'
    have ey : y = u := by
      have hy' : its.toArray[i]? = some y := hy
      rw [List.getElem?_toArray, hu] at hy'
      injection hy' with hy'
      exact hy'.symm
    subst ey
    refine ⟨_, rfl, wpAny_letOwnedTupleGo_enum (s := { s with heap := h', toks := tk + 1 }) ho fun h'' he' sb => ?_⟩
    have hT2 : h''.get? s.heap.objs.size = some { cls := .type "tuple", data := .seq #[.int i tk, y] } := (sb.2 _ (Nat.ne_of_gt hel)).trans hT
    have new : ObjOk X.prog X.w (upd H s.heap.objs.size (.tup [.int (i : Nat), x])) h'' s.heap.objs.size (.tup [.int (i : Nat), x]) :=
      ⟨show 2 ≤ sizeLine by decide, [.int i tk, y], .cons ⟨_, rfl⟩ (.cons ru .nil), ⟨_, hT2, rfl, _, rfl⟩⟩
    have I1 : Inv X pins σ (upd H s.heap.objs.size (.tup [.int (i : Nat), x])) { s with heap := h'', toks := tk + 1 } :=
      I.turnedNew (ch := [e, it]) (fun b ob hb q => (sb.2 b (fun z => hb (z ▸ List.mem_cons_self ..))).trans (hk b ob (fun z => hb (z ▸ List.mem_cons_self ..)) (fun z => hb (z ▸ List.mem_cons_of_mem _ (List.mem_cons_self ..))) q)) hf (Nat.le_refl _) new
    refine ⟨.ref s.heap.objs.size, _, I1, rfl, ⟨_, x, rfl, I.hok.fresh (Nat.le_refl _), rfl, fun ys hy => by rw [I.tuple_inj hy hq]; exact hx⟩, ⟨⟨y, ?_⟩, hit'.at fun o q => (sb.2 it (Ne.symm hne)).trans q, hne⟩, fun b hb => ?_⟩
    · rw [show ((i + 1 : Nat) : Int) = (i : Int) + 1 by omega]; exact he'
    · have hb' : b < s.heap.objs.size := by
        rcases List.mem_cons.mp hb with z | z
        · rw [z]; exact hel
        · rw [List.mem_singleton.mp z]; exact hil
      rw [upd_ne (Nat.ne_of_lt hb')]
      exact (hf b hb).1
  done := by
    intro X hP hw hK hc i pins s σ H E I hf st hg
    subst hP hw hK
    obtain ⟨⟨old, he⟩, hit, hne⟩ := st
    obtain ⟨xs, hq, hx⟩ := hg
    obtain ⟨its, rv, p, hz⟩ := I.tuple hq
    have pt : s.heap.IsTuple a its.toArray := p
    obtain ⟨f0, f1, f2, f3, f4, f5⟩ := hf it (List.mem_cons_of_mem _ (List.mem_cons_self ..))
    have hl := rv.length
    unfold pyNext
    have hT : s.TypeIs (.ref e) "enumerate" := ⟨_, he, rfl⟩
    refine wpAny_bind (wpAny_attempt (wpAny_callSpecial?_slot (name := Str.ofString "__next__") hT PySem.F.slot_enumerate_next
      (wpAny_call_entry PySem.F.slot_enumerate_next hT PySem.F.entry_enumerate_next ?_ (PySem.F.args_enumerate_next_1 _))))
    show wpAny _ _ (field (.ref e) 2 >>= _) _ _ _
    refine wpAny_bind (wpAny_field he rfl (x := .ref it) rfl ?_)
    refine wpAny_bind (wpAny_nextOf_tuple_end (I.ok.hd hc) hit pt (by rw [List.getElem?_toArray]; exact List.getElem?_eq_none (by omega)) fun h' y eb hy => ?_)
    obtain ⟨o, ho, hcl⟩ := hy
    refine wpAny_bind (wpAny_isInstance (T := "StopIteration") (b := true) ⟨o, ho, hcl⟩ isSubtype_stop ?_)
    exact wpAny_pure ⟨rfl, I.turned (t' := s.toks) (fun b o hb q => eb b o hb q) f0 f1 f3 f4 f5⟩
  self := fun A i s Q E st h => let ⟨⟨_, he⟩, _⟩ := st; wpAny_pyIter_enum he h
set_option maxHeartbeats 1000000 in
theorem new_enum1 {v : Value} {o : Obj} {G : Heap → Prop} (B : Begins v o G) : Meets (Builtin.«enumerate.__new__» ⟨[.type "enumerate", v], []⟩) (fun _ R s => G s.heap ∧
      R (.ok (.ret (.ref (s.heap.push o).objs.size))) { s with heap := (s.heap.push o).push { cls := .type "enumerate", data := .fields #[.none, .bool false, .ref s.heap.objs.size, rawInt 0, .none, .none] } }) :=
  .of_wp fun prog w A R s h => by
    obtain ⟨hp, gg, dr, tk, os⟩ := s
    obtain ⟨h1, h2⟩ := h
    have sub := sub_enumerate
    have it : ∀ {A' : Around} {E : Value → Shared → Prop} {Q : Value → Shared → Prop}, Q (.ref hp.objs.size) ⟨hp.push o, gg, dr, tk, os⟩ → wpAny (model prog w) A' (pyIter v) Q E ⟨hp, gg, dr, tk, os⟩ := fun q => B.iter prog w _ _ ⟨hp, gg, dr, tk, os⟩ _ h1 q
    wp_walk using it
    refine wpAny_stack_any fun st => wpAny_pure ?_
    split
    · rename_i c _ _ _ _ _
      cases (c == Value.type "enumerate") <;> (wp_walk using it; exact ⟨_, rfl, h2⟩)
    · wp_walk using it
      exact ⟨_, rfl, h2⟩
theorem enum_of {prog : Program} {w : World} {A : Around} {E : Value → Shared → Prop} {s : Shared} {v : Value} {o : Obj} {G : Heap → Prop} {Q : Value → Shared → Prop} (B : Begins v o G) (h1 : G s.heap)
    (h : ∀ h', IsEnum h' (s.heap.objs.size + 1) s.heap.objs.size 0 .none → h'.get? s.heap.objs.size = some o → h'.objs.size = s.heap.objs.size + 2 → (∀ b o, s.heap.get? b = some o → h'.get? b = some o) → Q (.ref (s.heap.objs.size + 1)) { s with heap := h' }) :
    wpAny (model prog w) A (call (.type "enumerate") [v]) Q E s := by
  refine callType_new PySem.F.called_enumerate (by decide) (PySem.F.typeCall_enumerate_1 _) (PySem.F.newCall_enumerate_1 _) (fun obj => PySem.F.args_object_init_2 obj _) PySem.F.entry_enumerate_new (new_enum1 B) ⟨h1, ?_⟩
  have hz : (s.heap.push o).objs.size = s.heap.objs.size + 1 := Heap.size_push ..
  have he : IsEnum ((s.heap.push o).push { cls := .type "enumerate", data := .fields #[.none, .bool false, .ref s.heap.objs.size, rawInt 0, .none, .none] }) (s.heap.objs.size + 1) s.heap.objs.size 0 .none := by
    have q := Heap.get?_push_size (s.heap.push o) (o := { cls := .type "enumerate", data := .fields #[.none, .bool false, .ref s.heap.objs.size, rawInt 0, .none, .none] }) rfl
    rw [hz] at q
    exact q
  show _ ∧ _
  rw [hz]
  exact ⟨⟨_, he, rfl⟩, h _ he (Heap.get?_push_of_some _ (Heap.get?_push_size _ B.free)) (by rw [Heap.size_push, hz]) fun b u x => Heap.get?_push_of_some _ (Heap.get?_push_of_some _ x)⟩
def iEnum2 (K : PySem.W.Frag) (ta : TA) : TI := fun σ H R => ta σ H fun vs H1 => (∃ a xs, vs = [.ref a] ∧ SqL K H1 a xs ∧ R (Ite K a) H1) ∨ ∃ a xs, vs = [.ref a] ∧ SqT K H1 a xs ∧ R (IteT K a) H1
theorem pi_enum2 {X : Cx} {e : Expr} {ta : TA} {p pos tpos : Pos} {elts : List Expr} {kk : Nat} (hg : Gl X "enumerate") (hm : X.mg "enumerate" = none) (ha : PA X [e] ta) (hs : starEach [e] X.env = [(false, eval e X.env)] := by rfl) :
    PI X (.Tuple elts kk tpos) (.Call (.Name "enumerate" p) [e] [] pos) (iEnum2 X.K ta) := by
  refine ⟨fun pins s σ H R I h => ?_⟩
  refine Call_ (ld_blt I hg hm boot_enumerate (PyProof.Rows.callWith_type1 (thn (ha.run pos pins s σ H _ I h) fun us s1 ⟨vs, H1, I1, r1, q1⟩ => ?_) hs rfl))
  have far : ∀ b, b ∈ [s1.heap.objs.size + 1, s1.heap.objs.size] → FpOk X pins H1 b := fun b hb => by
    have hle : s1.heap.objs.size ≤ b := by
      rcases List.mem_cons.mp hb with z | z
      · rw [z]; exact Nat.le_add_right _ _
      · rw [List.mem_singleton.mp z]; exact Nat.le_refl _
    exact I1.fpOk hle (I1.hok.fresh hle)
  rcases q1 with ⟨a, xs, ex, hq, q⟩ | ⟨a, xs, ex, hq, q⟩
  · subst ex
    obtain ⟨u, rfl, r⟩ := vals1 r1
    cases r
    obtain ⟨its, rv, p', hz⟩ := I1.list hq
    refine enum_of (begins_list a its.toArray) p'.isList fun h' he hit hsz hk => wpAny_pyIter_enum he ?_
    exact ⟨s1.heap.objs.size + 1, [s1.heap.objs.size + 1, s1.heap.objs.size], _, _, H1, rfl, I1.kept (t' := s1.toks) hk, turn_enum a (s1.heap.objs.size + 1) s1.heap.objs.size, ⟨⟨.none, he⟩, ⟨_, hit, rfl, rfl⟩, Nat.succ_ne_self _⟩, far, q⟩
  · subst ex
    obtain ⟨u, rfl, r⟩ := vals1 r1
    cases r
    obtain ⟨its, rv, p', hz⟩ := I1.tuple hq
    refine enum_of (begins_tuple a its.toArray) p' fun h' he hit hsz hk => wpAny_pyIter_enum he ?_
    exact ⟨s1.heap.objs.size + 1, [s1.heap.objs.size + 1, s1.heap.objs.size], _, _, H1, rfl, I1.kept (t' := s1.toks) hk, turn_enumT a (s1.heap.objs.size + 1) s1.heap.objs.size, ⟨⟨.none, he⟩, ⟨_, hit, rfl, rfl⟩, Nat.succ_ne_self _⟩, far, q⟩
/-- the pairs that enumerate makes -/
def enumD (ds : List PyData) : List PyData := (List.range ds.length).map fun (i : Nat) => .tuple [.int (i : Int), ds.getD i .none]
theorem enumD_get {ds : List PyData} {i : Nat} {d : PyData} (h : (enumD ds)[i]? = some d) : ∃ w, ds[i]? = some w ∧ d = .tuple [.int (i : Int), w] := by
  unfold enumD at h
  rw [List.getElem?_map] at h
  cases q : (List.range ds.length)[i]? with
  | none => rw [q] at h; cases h
  | some c =>
    rw [q] at h
    injection h with h
    obtain ⟨q1, q2⟩ := List.getElem?_eq_some_iff.mp q
    rw [List.getElem_range] at q2
    subst q2
    rw [List.length_range] at q1
    refine ⟨ds[i], List.getElem?_eq_getElem q1, ?_⟩
    rw [← h]
    show PyData.tuple [PyData.int (i : Int), ds.getD i .none] = _
    rw [List.getD_eq_getElem?_getD, List.getElem?_eq_getElem q1]
    rfl
theorem enumD_len (ds : List PyData) : (enumD ds).length = ds.length := by simp [enumD]
theorem itOk_enumL [NTb] {K : PySem.W.Frag} {F : Hp} {a : Addr} {vs : List V} {ds : List PyData} (h : F a = some (.lst vs)) (r : DvAll K F vs ds) : ItOk K F (Ite K a) (enumD ds) := fun i dk F2 H2 s1 s2 => by
  have q : SqL K H2 a vs := SqL.of (s2 _ _ (s1 _ _ h))
  refine ⟨fun d e => ?_, fun hl => ⟨vs, q, by rw [r.length, ← enumD_len]; exact hl⟩⟩
  obtain ⟨w, h1, rfl⟩ := enumD_get e
  obtain ⟨v, h2, h3⟩ := r.get h1
  refine ⟨⟨vs, v, q, h2⟩, fun x H3 ⟨T, x', e1, e2, e3, e4⟩ => ?_⟩
  have e5 := e4 vs q
  rw [h2] at e5
  injection e5 with e5
  subst e1 e3 e5
  exact ⟨_, Grow.new (o := .tup [.int (i : Nat), v]) s2 e2, .tup (SqT.of upd_same) (DvAll.mono (Grow.new (dk := dk) s2 e2).x.ff (.cons (.int _) (.cons (Dv.mono s1 h3) .nil)))⟩
theorem itOk_enumT [NTb] {K : PySem.W.Frag} {F : Hp} {a : Addr} {vs : List V} {ds : List PyData} (h : SqT K F a vs) (r : DvAll K F vs ds) : ItOk K F (IteT K a) (enumD ds) := fun i dk F2 H2 s1 s2 => by
  have q : SqT K H2 a vs := same_seqT (s1.trans s2) h
  refine ⟨fun d e => ?_, fun hl => ⟨vs, q, by rw [r.length, ← enumD_len]; exact hl⟩⟩
  obtain ⟨w, h1, rfl⟩ := enumD_get e
  obtain ⟨v, h2, h3⟩ := r.get h1
  refine ⟨⟨vs, v, q, h2⟩, fun x H3 ⟨T, x', e1, e2, e3, e4⟩ => ?_⟩
  have e5 := e4 vs q
  rw [h2] at e5
  injection e5 with e5
  subst e1 e3 e5
  exact ⟨_, Grow.new (o := .tup [.int (i : Nat), v]) s2 e2, .tup (SqT.of upd_same) (DvAll.mono (Grow.new (dk := dk) s2 e2).x.ff (.cons (.int _) (.cons (Dv.mono s1 h3) .nil)))⟩
def iEnumD (f : AS → M PyData) : AS → M (List PyData) := fun z => M.bnd (f z) fun d => M.bnd (M.opt (seqD d)) fun ds => M.pur (enumD ds)
theorem ji_enum [NTb] {X : Cx} {a : Expr} {fa : AS → M PyData} {p pos tpos : Pos} {elts : List Expr} {kk : Nat} (hg : Gl X "enumerate") (hm : X.mg "enumerate" = none) (h : JE X fa a) (hs : starEach [a] X.env = [(false, eval a X.env)] := by rfl) :
    JI X (iEnumD fa) (.Tuple elts kk tpos) (.Call (.Name "enumerate" p) [a] [] pos) :=
  PI_imp (pi_enum2 hg hm (pa_cons h pa_nil hs) hs) fun σ H R ⟨dk, F, z, δ, ds, δ', hf, ok, k⟩ => by
    obtain ⟨d, δ1, h1, hf1⟩ := M.bnd_some hf
    obtain ⟨es, δ2, h2, hf2⟩ := M.bnd_some hf1
    obtain ⟨h3, e3⟩ := M.opt_some h2
    obtain ⟨e4, e5⟩ := M.pur_some hf2
    subst e3 e4 e5
    refine ⟨dk, F, z, δ, d, _, h1, ok, fun v F' H' x dd r => ?_⟩
    cases r with
    | lst e1 e2 => injection h3 with h3; subst h3; exact .inl ⟨_, _, rfl, SqL.of (x.fh _ _ e1), k _ F' H' x dd (itOk_enumL e1 e2)⟩
    | tup e1 e2 => injection h3 with h3; subst h3; exact .inr ⟨_, _, rfl, same_seqT x.fh e1, k _ F' H' x dd (itOk_enumT e1 e2)⟩
    | non => cases h3
    | bl _ => cases h3
    | int _ => cases h3
    | str _ => cases h3
    | dct _ _ => cases h3
end
end VL
set_option Elab.async false
set_option linter.all false
set_option maxRecDepth 100000
namespace VL
open PySem PySem.Spec L2
open PyProof.Rows hiding St
def inD (ns : List Int) : List PyData := ns.map .int
def deckD (δ : DS) : PyData := .list [.list (inD δ.great), .list (inD δ.cells), .int δ.n]
def peekV (δ : DS) : SV → SV
  | .un => .un
  | .dat d => .dat d
  | .own ds => .dat (.list ds)
  | .deck => .dat (deckD δ)
  | .scr _ => .un
  | .fn _ => .un
  | .od _ => .un
  | .ot _ => .un
  | .ob _ _ => .un
  | .kn _ => .un
  | .gx _ => .un
def peekA (δ : DS) (z : AS) : AS := z.map (peekV δ)
theorem dv_ints {K : PySem.W.Frag} {F : Hp} (ns : List Int) : DvAll K F (ns.map V.int) (inD ns) := by
  unfold inD
  induction ns with
  | nil => exact .nil
  | cons n ns ih => exact .cons (.int n) ih
theorem dv_deck {E : Str → Option Addr} {G0 : PySem.W.Frag} {K : PySem.W.Frag} {k : Dk} {δ : DS} {F H G : Hp} (d : DeckAt E G0 k δ F H) (l : ∀ a vs, H a = some (.lst vs) → G a = some (.lst vs)) : Dv K G (.ref k.l) (deckD δ) :=
  .lst (l _ _ d.hl) (.cons (.lst (l _ _ d.hg) (dv_ints _)) (.cons (.lst (l _ _ d.hc) (dv_ints _)) (.cons (.int _) .nil)))
/-- all but the tables -/
def noT [NTb] (H : Hp) : Hp := fun b => if b ∈ NTb.T.map Prod.fst then none else H b
theorem noT_at [NTb] {H : Hp} {b : Addr} (h : b ∉ NTb.T.map Prod.fst) : noT H b = H b := if_neg h
theorem noT_in [NTb] {H : Hp} {b : Addr} (h : b ∈ NTb.T.map Prod.fst) : noT H b = none := if_pos h
theorem not_T [NTb] {F H : Hp} {b : Addr} {o : HO} (t : TabsF NTb.T F H) (h : H b = some o) (n : ∀ ps, o ≠ .tbl ps) : b ∉ NTb.T.map Prod.fst := fun z => by
  obtain ⟨p, hp, e⟩ := List.mem_map.mp z
  obtain ⟨ps, e1, _⟩ := t p hp
  rw [e, h] at e1
  exact n ps (Option.some.inj e1)
theorem F_T [NTb] {dk : Option Dk} {δ : DS} {F H : Hp} {b : Addr} {o : HO} (d : DeckOk dk δ F H) (h : F b = some o) : b ∉ NTb.T.map Prod.fst := fun z => by
  obtain ⟨p, hp, e⟩ := List.mem_map.mp z
  have := d.2.2 p hp
  rw [e, h] at this
  cases this
theorem noT_lst [NTb] {F H : Hp} {a : Addr} {vs : List V} (t : TabsF NTb.T F H) (h : H a = some (.lst vs)) : noT H a = some (.lst vs) := by
  rw [noT_at (not_T t h fun _ q => nomatch q)]
  exact h
theorem same_noT [NTb] {dk : Option Dk} {δ : DS} {F H : Hp} (fh : Same F H) (d : DeckOk dk δ F H) : Same F (noT H) := fun b o e => by
  rw [noT_at (F_T d e)]
  exact fh b o e
theorem Ok.peek [NTb] {K : PySem.W.Frag} {dk : Option Dk} {z : AS} {δ : DS} {σ : L2.St} {F H : Hp} (ok : Ok K dk z δ σ F H) : Ok K none (peekA δ z) noDS σ (noT H) H := by
  have key : ∀ (i : Nat) (sv : SV), (peekA δ z)[i]? = some sv → ∃ s0, z[i]? = some s0 ∧ sv = peekV δ s0 := fun i sv e => by
    unfold peekA at e
    rw [List.getElem?_map] at e
    cases q : z[i]? with
    | none => rw [q] at e; cases e
    | some s0 => rw [q] at e; injection e with e; exact ⟨s0, rfl, e.symm⟩
  refine ⟨fun b o e => by
    unfold noT at e
    split at e
    · cases e
    · exact e, ⟨rfl, fun p hp => (by
      obtain ⟨ps, h1, h2, h3⟩ := ok.deck.2.1 p hp
      exact ⟨ps, h1, h2, fun pos cv e => let ⟨c, e1, e2⟩ := h3 pos cv e; ⟨c, e1, same_noT ok.fh ok.deck _ _ e2⟩⟩), fun p hp => noT_in (List.mem_map.mpr ⟨p, hp, rfl⟩)⟩, by simp [peekA, ok.len], fun i sv e ne => ?_, fun i j a ds es hij e1 e2 e3 => ?_, fun i j a ds es hij e1 e2 e3 => ?_⟩
  · obtain ⟨s0, e0, rfl⟩ := key i sv e
    have n0 : s0 ≠ .un := fun q => ne (by rw [q]; rfl)
    obtain ⟨v, h1, h2⟩ := ok.sl i s0 e0 n0
    refine ⟨v, h1, ?_⟩
    cases s0 with
    | un => exact True.intro
    | dat d => exact Dv.mono (same_noT ok.fh ok.deck) h2
    | own ds =>
      obtain ⟨a, vs, rfl, _, _, hH, r⟩ := h2
      exact Dv.lst (noT_lst ok.deck.2.1 hH) (DvAll.mono (same_noT ok.fh ok.deck) r)
    | scr ns => exact True.intro
    | fn _ => exact True.intro
    | ob _ _ => exact True.intro
    | kn _ => exact True.intro
    | gx _ => exact True.intro
    | od _ => exact True.intro
    | ot _ => exact True.intro
    | deck =>
      obtain ⟨k, rfl, rfl⟩ := h2
      exact dv_deck ok.deck.1 fun a vs h => noT_lst ok.deck.2.1 h
  · obtain ⟨s0, e0, q⟩ := key i _ e1
    cases s0 <;> cases q
  · obtain ⟨s0, e0, q⟩ := key i _ e1
    cases s0 <;> cases q
def flat : PyData → Bool
  | .none => true
  | .bool _ => true
  | .int _ => true
  | .str _ => true
  | _ => false
theorem dv_flat {K : PySem.W.Frag} {F F' : Hp} {v : V} {d : PyData} (h : Dv K F v d) (f : flat d = true) : Dv K F' v d := by
  cases h with
  | non => exact .non
  | bl b => exact .bl b
  | int i => exact .int i
  | str x => exact .str x
  | lst _ _ => cases f
  | tup _ _ => cases f
  | dct _ _ => cases f
/-- F, and the code objects that G knows -/
noncomputable def withC (F G : Hp) : Hp := fun b => match F b with
  | some o => some o
  | none => match G b with
    | some o => (open Classical in if ∃ q, o = LamX.CodeO b q then some o else none)
    | none => none
theorem withC_ff {F G : Hp} : Same F (withC F G) := fun b o e => by unfold withC; rw [e]
theorem withC_sub {F G H : Hp} (h1 : Same F H) (h2 : Same G H) : Same (withC F G) H := fun b o e => by
  unfold withC at e
  cases q : F b with
  | some u => rw [q] at e; injection e with e; subst e; exact h1 _ _ q
  | none =>
    rw [q] at e
    cases r : G b with
    | none => rw [r] at e; cases e
    | some u =>
      rw [r] at e
      simp only at e
      split at e
      · injection e with e; subst e; exact h2 _ _ r
      · cases e
theorem withC_code {F G : Hp} {c : Addr} {q : Str} {H : Hp} (h1 : Same F H) (h2 : Same G H) (e : G c = some (LamX.CodeO c q)) : withC F G c = some (LamX.CodeO c q) := by
  unfold withC
  cases z : F c with
  | some u =>
    have a := h1 _ _ z
    rw [h2 _ _ e] at a
    injection a with a
    rw [a]
  | none =>
    rw [e]
    simp only
    rw [if_pos ⟨q, rfl⟩]
theorem withC_none {F G : Hp} {b : Addr} (e : F b = none) (n : ∀ o, G b = some o → ∀ q, o ≠ LamX.CodeO b q) : withC F G b = none := by
  unfold withC
  rw [e]
  cases r : G b with
  | none => rfl
  | some u =>
    simp only
    rw [if_neg]
    rintro ⟨q, z⟩
    exact n u r q z
theorem unpeek [NTb] {dk : Option Dk} {δ : DS} {δ0 : DS} {F H F' H' : Hp} (fh : Same F H) (d : DeckOk dk δ F H) (x : Ext none (noT H) H F' H') (dd : DeckOk none δ0 F' H') : Ext dk F H (withC F F') H' ∧ DeckOk dk δ (withC F F') H' := by
  have s : ∀ b o, H b = some o → b ∉ NTb.T.map Prod.fst → H' b = some o := fun b o e n => x.fh b o (x.ff b o (by rw [noT_at n]; exact e))
  have sl : ∀ b o, H b = some o → (∀ ps, o ≠ .tbl ps) → H' b = some o := fun b o e n => s b o e (not_T d.2.1 e n)
  have FH' : Same F H' := fun b o e => s b o (fh b o e) (F_T d e)
  have nn : ∀ b, F b = none → nc H' b → withC F F' b = none := fun b e ⟨o, e1, n⟩ => withC_none e fun u eu q z => by
    have := x.fh _ _ eu
    rw [e1] at this
    injection this with this
    exact n q (this.trans z)
  refine ⟨⟨withC_ff, withC_sub FH' x.fh, fun b o e _ n => sl b o e n, x.lv, x.lc, fun b e n => nn b e (x.lc b n)⟩, ?_, fun p hp => ?_, fun p hp => ?_⟩
  · cases dk with
    | none => exact d.1
    | some k =>
      have d := d.1
      refine DeckAt.to d withC_ff (fun a m e => ?_) (fun a o m e => sl _ _ e fun ps q => ?_)
      · obtain ⟨_, h⟩ := DeckAt.kind d m
        rcases h with ⟨vs, h⟩ | ⟨C, dx, vs, h⟩
        · exact nn _ e (nc_lst (sl _ _ h (fun _ q => nomatch q)))
        · exact nn _ e ⟨_, sl _ _ h (fun _ q => nomatch q), fun _ => codeO_ins⟩
      · obtain ⟨_, h⟩ := DeckAt.kind d m
        rcases h with ⟨vs, h⟩ | ⟨C, dx, vs, h⟩
        · rw [h, q] at e; cases e
        · rw [h, q] at e; cases e
  · obtain ⟨ps, h1, h2, h3⟩ := dd.2.1 p hp
    exact ⟨ps, h1, h2, fun pos cv e => let ⟨c, e1, e2⟩ := h3 pos cv e; ⟨c, e1, withC_code FH' x.fh e2⟩⟩
  · obtain ⟨ps, h1, _⟩ := dd.2.1 p hp
    exact nn _ (d.2.2 p hp) ⟨_, h1, fun _ => codeO_tbl⟩
def ePk (f : AS → M PyData) : AS → M PyData := fun z δ => match f (peekA δ z) noDS with
  | some (d, _) => if flat d = true then some (d, δ) else none
  | none => none
def cPk (f : AS → M Bool) : AS → M Bool := fun z δ => match f (peekA δ z) noDS with
  | some (d, _) => some (d, δ)
  | none => none
section
variable {X : Cx} {e o a b c tg : Expr} {es : List Expr} {fa fb fc : AS → M PyData} {pos : Pos}
theorem je_pk [NTb] (h : JE X fa a) : JE X (ePk fa) a := PE_imp h fun σ H Q ⟨dk, F, z, δ, d, δ', hf, ok, k⟩ => by
  unfold ePk at hf
  cases e0 : fa (peekA δ z) noDS with
  | none => rw [e0] at hf; cases hf
  | some p =>
    obtain ⟨d0, δ0⟩ := p
    rw [e0] at hf
    obtain ⟨q, e⟩ := if_some hf
    injection e with e1 e2
    subst e1 e2
    refine ⟨none, noT H, peekA δ' z, noDS, d, δ0, e0, ok.peek, fun v F' H' x dd r => ?_⟩
    obtain ⟨x1, d1⟩ := unpeek ok.fh ok.deck x dd
    exact k v _ H' x1 d1 (dv_flat r q)
theorem jc_pk [NTb] {cc : AS → M Bool} (h : JC X cc a) : JC X (cPk cc) a := PT_imp h fun σ H Q ⟨dk, F, z, δ, d, δ', hf, ok, k⟩ => by
  unfold cPk at hf
  cases e0 : cc (peekA δ z) noDS with
  | none => rw [e0] at hf; cases hf
  | some p =>
    obtain ⟨d0, δ0⟩ := p
    rw [e0] at hf
    injection hf with e
    injection e with e1 e2
    subst e1 e2
    refine ⟨none, noT H, peekA δ z, noDS, d0, δ0, e0, ok.peek, fun F' H' x dd => ?_⟩
    obtain ⟨x1, d1⟩ := unpeek ok.fh ok.deck x dd
    exact k _ H' x1 d1
def intC : PyData → Option PyData
  | .int i => some (.int i)
  | .bool b => some (.int (if b then 1 else 0))
  | _ => none
theorem ud_int [NTb] : UnD X.K (fun v H Q => (fun xs H Q => (∃ i, xs = [.int i] ∧ Q (.int i) H) ∨ ∃ k, xs = [.bl k] ∧ Q (.int (if k then 1 else 0)) H) [v] H Q) intC := fun dk F H x d w Q sm r h k => by
  cases d with
  | int i =>
    injection h with h
    subst h
    have r' := r.dv (fun ds q => nomatch q)
    cases r'
    exact .inl ⟨i, rfl, k _ F H (.refl sm) (.int _)⟩
  | bool b =>
    injection h with h
    subst h
    have r' := r.dv (fun ds q => nomatch q)
    cases r'
    exact .inr ⟨b, rfl, k _ F H (.refl sm) (.int _)⟩
  | none => cases h
  | str _ => cases h
  | list _ => cases h
  | tuple _ => cases h
  | dict _ => cases h
theorem ext_dk {k : Dk} {F H : Hp} {p : Addr} {us : List V} (fh : Same F H) (hp : inDk (some k) p) (hF : F p = none) (hH : H p ≠ none) : Ext (some k) F H F (upd H p (.lst us)) := by
  refine ⟨Same.refl _, fun b o e => ?_, fun b o e n _ => ?_, fun b e => ?_, fun b ⟨o, e, n⟩ => ?_, fun b e _ => e⟩
  · rw [upd_ne (ne_of_none e hF)]; exact fh b o e
  · rw [upd_ne (fun q => n (by rw [q]; exact hp))]; exact e
  · by_cases q : b = p
    · subst q; rw [upd_same]; exact fun z => nomatch z
    · rw [upd_ne q]; exact e
  · by_cases q : b = p
    · subst q; exact ⟨_, upd_same, fun _ => codeO_lst⟩
    · exact ⟨o, by rw [upd_ne q]; exact e, n⟩
theorem DeckOk.dkset [NTb] {dk : Option Dk} {δ δ' : DS} {F H : Hp} {a : Addr} {vs : List V} {u : HO} (d : DeckOk dk δ F H) (hl : H a = some (.lst vs)) (p : DeckP NTb.E NTb.G dk δ' F (L2.upd H a u)) : DeckOk dk δ' F (L2.upd H a u) := ⟨p, tabs_keep d.2.1 fun b o e q => (by
  rw [upd_ne]
  · exact e
  · intro z
    rw [z, hl] at e
    injection e with e
    obtain ⟨ps, q⟩ := q
    rw [q] at e
    cases e), d.2.2⟩
def onDk (i : Nat) (f : DS → Option DS) : AS → M Fl := fun z δ => match z[i]? with
  | some .deck => (f δ).map fun δ' => (.nx z, δ')
  | _ => none
theorem onDk_some {i : Nat} {f : DS → Option DS} {z : AS} {δ δ' : DS} {fl : Fl} (h : onDk i f z δ = some (fl, δ')) : z[i]? = some .deck ∧ f δ = some δ' ∧ fl = .nx z := by
  unfold onDk at h
  cases q : z[i]? with
  | none => rw [q] at h; cases h
  | some sv =>
    rw [q] at h
    cases sv with
    | deck =>
      obtain ⟨d, h1, h2⟩ := Option.map_eq_some_iff.mp h
      injection h2 with h2 h3
      subst h3
      exact ⟨rfl, h1, h2.symm⟩
    | scr _ => cases h
    | fn _ => cases h
    | od _ => cases h
    | ot _ => cases h
    | ob _ _ => cases h
    | kn _ => cases h
    | gx _ => cases h
    | un => cases h
    | dat _ => cases h
    | own _ => cases h
def setN (d : PyData) (δ : DS) : Option DS := match d with
  | .int m => some { δ with n := m }
  | _ => none
theorem setN_some {d : PyData} {δ δ' : DS} (h : setN d δ = some δ') : ∃ m, d = .int m ∧ δ' = { δ with n := m } := by
  cases d with
  | int m => injection h with h; exact ⟨m, rfl, h.symm⟩
  | _ => cases h
def setG (d : PyData) (δ : DS) : Option DS := match d, δ.great with
  | .int m, _ :: gs => some { δ with great := m :: gs }
  | _, _ => none
theorem setG_some {d : PyData} {δ δ' : DS} (h : setG d δ = some δ') : ∃ m g gs, d = .int m ∧ δ.great = g :: gs ∧ δ' = { δ with great := m :: gs } := by
  unfold setG at h
  cases d with
  | int m =>
    cases q : δ.great with
    | nil => rw [q] at h; cases h
    | cons g gs => rw [q] at h; injection h with h; exact ⟨m, g, gs, rfl, rfl, h.symm⟩
  | _ => cases h
def popG (δ : DS) : Option DS := match δ.great with
  | _ :: gs => some { δ with great := gs }
  | [] => none
theorem popG_some {δ δ' : DS} (h : popG δ = some δ') : ∃ g gs, δ.great = g :: gs ∧ δ' = { δ with great := gs } := by
  unfold popG at h
  cases q : δ.great with
  | nil => rw [q] at h; cases h
  | cons g gs => rw [q] at h; injection h with h; exact ⟨g, gs, rfl, h.symm⟩
theorem deck_slot [NTb] {K : PySem.W.Frag} {dk : Option Dk} {z : AS} {δ : DS} {σ : L2.St} {F H : Hp} (ok : Ok K dk z δ σ F H) {i : Nat} (h : z[i]? = some .deck) : ∃ k, dk = some k ∧ σ[i]? = some (some (.ref k.l)) ∧ DeckAt NTb.E NTb.G k δ F H := by
  obtain ⟨v, e, k, e1, e2⟩ := ok.sl i _ h (fun q => nomatch q)
  have d := ok.deck
  subst e1 e2
  exact ⟨k, rfl, e, d.1⟩
def sDkN (i : Nat) (f : AS → M PyData) : AS → M Fl := fun z => M.bnd (f z) fun d => onDk i (setN d) z
def sDkG (i : Nat) (f : AS → M PyData) : AS → M Fl := fun z => M.bnd (f z) fun d => onDk i (setG d) z
def sDkP (i : Nat) : AS → M Fl := onDk i popG
theorem js_dkN [NTb] {i k2 : Nat} {p2 tpos : Pos} (ho : PE X o (tVar i)) (h : JE X fa a) (hst : ∀ v, assign (.Subscript o (.Constant (.int 2) k2 p2) tpos) X.env v = (do
      let ov ← holding [v] (eval o X.env)
      let iv ← holding [v, ov] (eval (.Constant (.int 2) k2 p2) X.env)
      standAt tpos
      holding [v, ov, iv] (setItem ov iv v)
      release [v, ov, iv] []) := by intro _; rfl)
    (hs : swapsWithSole [.Subscript o (.Constant (.int 2) k2 p2) tpos] a pos.line X.env = pure false := by rfl) (hw : swappedStores [.Subscript o (.Constant (.int 2) k2 p2) tpos] a X.env = pure none := by rfl)
    (h1 : (assignEach [.Subscript o (.Constant (.int 2) k2 p2) tpos] X.env).map (·.2) = [assign (.Subscript o (.Constant (.int 2) k2 p2) tpos) X.env] := by rfl) : JS X (sDkN i fa) (.Assign [.Subscript o (.Constant (.int 2) k2 p2) tpos] a pos) :=
  PS_imp (ps_asg h (pg_sub ho pe_int set_list hst) hs hw h1) fun D σ H ⟨dk, F0, H0, F, z, δ, fl, δ', hf, x, ok, fr, k⟩ => by
    obtain ⟨d, δ1, e1, hf1⟩ := M.bnd_some hf
    obtain ⟨hz, e2, e3⟩ := onDk_some hf1
    obtain ⟨m, e4, e5⟩ := setN_some e2
    subst e3 e4 e5
    refine ⟨dk, F, z, δ, _, _, e1, ok, fun v F' H' x1 d1 r1 => ?_⟩
    cases r1
    have ok1 := ok.ext x1 d1
    obtain ⟨kk, e6, e7, da⟩ := deck_slot ok1 hz
    subst e6
    refine ⟨_, e7, kk.l, _, 2, 2, rfl, rfl, da.hl, rfl, ?_⟩
    have x2 : Ext (some kk) F' H' F' (upd H' kk.l (.lst [.ref kk.g, .ref kk.c, .int m])) := ext_dk ok1.fh (.inl rfl) da.fl (ne_none da.hl)
    refine k σ F' _ (x.trans (x1.trans x2)) x1.ff (ok1.ext x2 (δ' := { δ1 with n := m }) ?_) fr
    exact ok1.deck.dkset da.hl ⟨upd_same, by rw [upd_ne (Ne.symm da.lg)]; exact da.hg, by rw [upd_ne (Ne.symm da.lc)]; exact da.hc, da.fl, da.fg, da.fc, da.lg, da.lc, da.gc, DeckAt.updL da.ob da.hl, da.nd⟩
/-- deck[0] -/
theorem pe_dk0 [NTb] {i k0 : Nat} {p0 q0 : Pos} (ho : PE X o (tVar i)) (hs : PlainIx (.Constant (.int 0) k0 p0)) : PE X (.Subscript o (.Constant (.int 0) k0 p0) q0) (fun σ H Q => ∃ k δ F, σ[i]? = some (some (.ref k.l)) ∧ DeckAt NTb.E NTb.G k δ F H ∧ Q (.ref k.g) H) :=
  PE_imp (pe_ix ix_seq ho pe_int hs) fun σ H Q ⟨k, δ, F, e, da, q⟩ => ⟨_, e, .inl ⟨_, _, 0, _, rfl, rfl, SqL.of da.hl, rfl, q⟩⟩
theorem js_dkG [NTb] {i k0 k1 : Nat} {p0 q0 p1 tpos : Pos} (ho : PE X o (tVar i)) (h : JE X fa a) (hs0 : PlainIx (.Constant (.int 0) k0 p0)) (hst : ∀ v, assign (.Subscript (.Subscript o (.Constant (.int 0) k0 p0) q0) (.Constant (.int 0) k1 p1) tpos) X.env v = (do
      let ov ← holding [v] (eval (.Subscript o (.Constant (.int 0) k0 p0) q0) X.env)
      let iv ← holding [v, ov] (eval (.Constant (.int 0) k1 p1) X.env)
      standAt tpos
      holding [v, ov, iv] (setItem ov iv v)
      release [v, ov, iv] []) := by intro _; rfl)
    (hs : swapsWithSole [.Subscript (.Subscript o (.Constant (.int 0) k0 p0) q0) (.Constant (.int 0) k1 p1) tpos] a pos.line X.env = pure false := by rfl) (hw : swappedStores [.Subscript (.Subscript o (.Constant (.int 0) k0 p0) q0) (.Constant (.int 0) k1 p1) tpos] a X.env = pure none := by rfl)
    (h1 : (assignEach [.Subscript (.Subscript o (.Constant (.int 0) k0 p0) q0) (.Constant (.int 0) k1 p1) tpos] X.env).map (·.2) = [assign (.Subscript (.Subscript o (.Constant (.int 0) k0 p0) q0) (.Constant (.int 0) k1 p1) tpos) X.env] := by rfl) :
    JS X (sDkG i fa) (.Assign [.Subscript (.Subscript o (.Constant (.int 0) k0 p0) q0) (.Constant (.int 0) k1 p1) tpos] a pos) :=
  PS_imp (ps_asg h (pg_sub (pe_dk0 ho hs0) pe_int set_list hst) hs hw h1) fun D σ H ⟨dk, F0, H0, F, z, δ, fl, δ', hf, x, ok, fr, k⟩ => by
    obtain ⟨d, δ1, e1, hf1⟩ := M.bnd_some hf
    obtain ⟨hz, e2, e3⟩ := onDk_some hf1
    obtain ⟨m, g, gs, e4, eg, e5⟩ := setG_some e2
    subst e3 e4 e5
    refine ⟨dk, F, z, δ, _, _, e1, ok, fun v F' H' x1 d1 r1 => ?_⟩
    cases r1
    have ok1 := ok.ext x1 d1
    obtain ⟨kk, e6, e7, da⟩ := deck_slot ok1 hz
    subst e6
    have hg := da.hg
    rw [eg] at hg
    refine ⟨kk, δ1, F', e7, da, kk.g, _, 0, 0, rfl, rfl, hg, ?_, ?_⟩
    · unfold ixN <;> simp
    have x2 : Ext (some kk) F' H' F' (upd H' kk.g (.lst ((V.int m) :: gs.map V.int))) := ext_dk ok1.fh (.inr (.inl rfl)) da.fg (ne_none da.hg)
    refine k σ F' _ (x.trans (x1.trans x2)) x1.ff (ok1.ext x2 (δ' := { δ1 with great := m :: gs }) ?_) fr
    exact ok1.deck.dkset da.hg ⟨by rw [upd_ne da.lg]; exact da.hl, upd_same, by rw [upd_ne (Ne.symm da.gc)]; exact da.hc, da.fl, da.fg, da.fc, da.lg, da.lc, da.gc, DeckAt.updL da.ob da.hg, da.nd⟩
theorem js_dkP [NTb] {i k0 k1 : Nat} {p0 q0 p1 apos cpos : Pos} (ho : PE X o (tVar i)) (hs0 : PlainIx (.Constant (.int 0) k0 p0))
    (hbase : attributeBase (.Subscript o (.Constant (.int 0) k0 p0) q0) "pop" X.env (eval (.Subscript o (.Constant (.int 0) k0 p0) q0) X.env) = eval (.Subscript o (.Constant (.int 0) k0 p0) q0) X.env := by rfl)
    (hfew : ((backTo cpos (starEach [.Constant (.int 0) k1 p1] X.env)).all (fun x => !x.1) && (backToKw cpos (keywordEach [] X.env)).all (fun x => x.1.isSome)
      && decide (([.Constant (.int 0) k1 p1] : List Expr).length + ([] : List Keyword).length + (if ([] : List Keyword).isEmpty then 0 else 1) < 30)) = true := by rfl)
    (hline : (apos.endLine == cpos.line) = true := by rfl) (hs : starEach [.Constant (.int 0) k1 p1] X.env = (false, eval (.Constant (.int 0) k1 p1) X.env) :: starEach [] X.env := by rfl) (hplain : (backTo cpos (starEach [] X.env)).any (·.1) = false := by rfl)
    (hsw : swapsWith (.Call (.Attribute (.Subscript o (.Constant (.int 0) k0 p0) q0) "pop" apos) [.Constant (.int 0) k1 p1] [] cpos) none pos.line X.env = pure false := by rfl) :
    JS X (sDkP i) (.Expr (.Call (.Attribute (.Subscript o (.Constant (.int 0) k0 p0) q0) "pop" apos) [.Constant (.int 0) k1 p1] [] cpos) pos) :=
  PS_imp (ps_expr (pe_bm PySem.F.plainAttrs_list PySem.F.slot_list_pop PySem.F.type_list_pop mt_popAt (pe_dk0 ho hs0) (pa_cons pe_int pa_nil hs) hbase hfew hline hs hplain) hsw) fun D σ H ⟨dk, F0, H0, F, z, δ, fl, δ', hf, x, ok, fr, k⟩ => by
    obtain ⟨hz, e2, e3⟩ := onDk_some hf
    obtain ⟨g, gs, eg, e5⟩ := popG_some e2
    subst e3 e5
    obtain ⟨kk, e6, e7, da⟩ := deck_slot ok hz
    subst e6
    have hg := da.hg
    rw [eg] at hg
    have x2 : Ext (some kk) F H F (upd H kk.g (.lst (gs.map V.int))) := ext_dk ok.fh (.inr (.inl rfl)) da.fg (ne_none da.hg)
    refine ⟨kk, δ, F, e7, da, .inl ⟨rfl, _, SqL.of da.hg⟩, ?_⟩
    refine ⟨kk.g, _, 0, 0, .int g, rfl, rfl, hg, by decide, by decide, ?_, rfl, ?_⟩
    · unfold seqIndex?
      simp
    · refine k σ F _ (x.trans x2) (Same.refl _) (ok.ext x2 (δ' := { δ with great := gs }) ?_) fr
      exact ok.deck.dkset da.hg ⟨by rw [upd_ne da.lg]; exact da.hl, upd_same, by rw [upd_ne (Ne.symm da.gc)]; exact da.hc, da.fl, da.fg, da.fc, da.lg, da.lc, da.gc, DeckAt.updL da.ob da.hg, da.nd⟩
end
end VL
set_option Elab.async false
set_option linter.all false
set_option maxRecDepth 100000
namespace VL
open PySem PySem.Spec L2
open PyProof.Rows hiding St
def eScr (i n : Nat) : AS → M PyData := fun z => match z[i]? with
  | some (.scr ns) => M.pur (.list (inD (ns.take n)))
  | _ => M.no
theorem eScr_some {i n : Nat} {z : AS} {δ δ' : DS} {d : PyData} (h : eScr i n z δ = some (d, δ')) : ∃ ns, z[i]? = some (.scr ns) ∧ d = .list (inD (ns.take n)) ∧ δ' = δ := by
  unfold eScr at h
  cases hz : z[i]? with
  | none => rw [hz] at h; cases h
  | some sv =>
    rw [hz] at h
    cases sv with
    | scr ns => obtain ⟨e1, e2⟩ := M.pur_some h; exact ⟨ns, rfl, e1, e2⟩
    | fn _ => cases h
    | od _ => cases h
    | ot _ => cases h
    | ob _ _ => cases h
    | kn _ => cases h
    | gx _ => cases h
    | un => cases h
    | dat _ => cases h
    | own _ => cases h
    | deck => cases h
theorem cut_front {ns : List Int} {n : Nat} : cutV (ns.map V.int) none (some (n : Int)) = (ns.take n).map V.int := by
  unfold cutV
  rw [HT.sIx_none, HT.sIx_nat, List.drop_zero, Nat.sub_zero, List.map_take, List.length_map]
  by_cases h : n ≤ ns.length
  · rw [Nat.min_eq_left h]
  · rw [Nat.min_eq_right (by omega), List.take_of_length_le (by rw [List.length_map]; exact Nat.le_refl _), List.take_of_length_le (by rw [List.length_map]; omega)]
section
variable {X : Cx} {e o a b c tg : Expr} {es : List Expr} {fa fb fc : AS → M PyData} {pos : Pos}
theorem je_scr [NTb] {i n k0 : Nat} {p0 p2 : Pos} (ho : PE X o (tVar i)) : JE X (eScr i n) (.Subscript o (.Slice none (some (.Constant (.int (n : Int)) k0 p0)) none p2) pos) :=
  PE_imp (pe_slice sl_list ho po_none (po_some pe_int)) fun σ H Q ⟨dk, F, z, δ, d, δ', hf, ok, k⟩ => by
    obtain ⟨ns, hz, e1, e2⟩ := eScr_some hf
    subst e1 e2
    obtain ⟨v, h1, a, h2, h3⟩ := ok.sl i _ hz (fun q => nomatch q)
    subst h2
    refine ⟨_, h1, (n : Int), rfl, a, _, rfl, Same.seq ok.fh h3, fun p hp => ?_⟩
    rw [cut_front]
    exact k _ _ _ (.new ok.fh hp) (ok.deck.new hp ok.fh) (.lst upd_same (dv_ints _))
def catC (d e : PyData) : Option (List PyData) := match d, e with
  | .list xs, .list ys => if xs.length + ys.length ≤ sizeLine then some (xs ++ ys) else none
  | _, _ => none
theorem catC_some {d e : PyData} {w : List PyData} (h : catC d e = some w) : ∃ xs ys, d = .list xs ∧ e = .list ys ∧ xs.length + ys.length ≤ sizeLine ∧ w = xs ++ ys := by
  cases d with
  | list xs =>
    cases e with
    | list ys => obtain ⟨q, e⟩ := if_some h; exact ⟨xs, ys, rfl, rfl, q, e⟩
    | _ => cases h
  | _ => cases h
def oCat (f g : AS → M PyData) : AS → M (List PyData) := fun z => M.bnd (f z) fun d => M.bnd (g z) fun e => M.opt (catC d e)
theorem jo_cat [NTb] (ha : JE X fa a) (hb : JE X fb b) : JO X (oCat fa fb) (.BinOp a .Add b pos) :=
  PE_imp (pe_op op_cat ha hb) fun σ H Q ⟨dk, F, z, δ, w, δ', hf, ok, k⟩ => by
    obtain ⟨d, δ1, h1, hf1⟩ := M.bnd_some hf
    obtain ⟨e, δ2, h2, hf2⟩ := M.bnd_some hf1
    obtain ⟨h3, h4⟩ := M.opt_some hf2
    obtain ⟨xs, ys, e1, e2, hl, e3⟩ := catC_some h3
    subst e1 e2 e3 h4
    refine ⟨dk, F, z, δ, _, δ1, h1, ok, fun v F1 H1 x1 d1 r1 => ⟨dk, F1, z, δ1, _, _, h2, ok.ext x1 d1, fun u F2 H2 x2 d2 r2 => ?_⟩⟩
    have r1' := Dv.mono x2.ff r1
    cases r1' with
    | lst g1 g2 =>
      cases r2 with
      | lst g3 g4 =>
        refine ⟨_, _, _, _, rfl, rfl, x2.fh _ _ g1, x2.fh _ _ g3, by rw [g2.length, g4.length]; exact hl, fun p hp => ?_⟩
        have x12 := x1.trans x2
        exact k p _ F2 _ (x12.trans (Ext.open x2.fh hp)) ((Grow.open (dk := dk) x2.fh hp).d _ d2) (back_none x12 hp) (x2.fh.free hp) upd_same (g2.append g4)
end
theorem dv_inD {K : PySem.W.Frag} {F : Hp} : ∀ {vs : List V} {ns : List Int}, DvAll K F vs (inD ns) → vs = ns.map V.int
  | _, [], .nil => rfl
  | _, n :: ns, .cons h t => by
    cases h
    rw [List.map_cons, dv_inD (ns := ns) t]
def absI (i : Int) : Int := if i < 0 then -i else i
def deck0 (ns : List Int) : DS := ⟨((ns.take 63).map absI).filter fun i => decide ((10 : Int) ^ 18 ≤ i), (ns.take 63).map absI ++ [11231 + (((ns.take 63).map absI).length : Int)], 0, []⟩
theorem deck_lst [NTb] {X : Cx} {a b : Expr} {pos : Pos} {fa fb : AS → M (List PyData)} (ha : JO X fa a) (hb : JO X fb b) {k0 : Nat} {p0 : Pos} {n0 : Int}
    (hs : starEach [a, b, .Constant (.int n0) k0 p0] X.env = (false, eval a X.env) :: starEach [b, .Constant (.int n0) k0 p0] X.env := by rfl) (hs2 : starEach [b, .Constant (.int n0) k0 p0] X.env = (false, eval b X.env) :: starEach [.Constant (.int n0) k0 p0] X.env := by rfl)
    (hs3 : starEach [.Constant (.int n0) k0 p0] X.env = (false, eval (.Constant (.int n0) k0 p0) X.env) :: starEach [] X.env := by rfl) :
    PE X (.List [a, b, .Constant (.int n0) k0 p0] pos) (fun σ H Q => ∃ F z δ gs cs, fa z δ = some (inD gs, δ) ∧ fb z δ = some (inD cs, δ) ∧ Ok X.K none z δ σ F H ∧ ∀ k F' H', Ext none F H F' H' → DeckOk (some k) ⟨gs, cs, n0, []⟩ F' H' → Q (.ref k.l) H') :=
  PE_imp (pe_lst (pa_cons ha (pa_cons hb (pa_cons pe_int pa_nil hs3) hs2) hs)) fun σ H Q ⟨F, z, δ, gs, cs, h1, h2, ok, k⟩ => by
    refine ⟨none, F, z, δ, _, _, h1, ok, fun g vs F1 H1 x1 d1 ng fg hg rg => ⟨none, F1, z, δ, _, _, h2, ok.ext x1 d1, fun c ws F2 H2 x2 d2 nc fc hc rc => ⟨(show 3 ≤ sizeLine by decide), fun p hp => ?_⟩⟩⟩
    have hg2 : H2 g = some (.lst vs) := x2.hh _ _ hg (fun q => q) (fun _ q => nomatch q)
    have fg2 : F2 g = none := x2.nf _ fg (nc_lst hg)
    have e1 := dv_inD rg
    have e2 := dv_inD rc
    subst e1 e2
    have pg : p ≠ g := fun q => by rw [q, hg2] at hp; cases hp
    have pc : p ≠ c := fun q => by rw [q, hc] at hp; cases hp
    have gc : g ≠ c := fun q => by rw [← q, hg] at nc; cases nc
    have op := (Grow.open (dk := none) (o := .lst [.ref g, .ref c, .int n0]) x2.fh hp).d δ d2
    refine k ⟨p, g, c, []⟩ F2 _ ((x1.trans x2).trans (Ext.open x2.fh hp)) ⟨⟨upd_same, ?_, ?_, x2.fh.free hp, fg2, fc, pg, pc, gc, .nil, .nil⟩, op.2⟩
    · show (L2.upd H2 p _) g = _
      rw [upd_ne pg.symm]; exact hg2
    · show (L2.upd H2 p _) c = _
      rw [upd_ne pc.symm]; exact hc
theorem comp_all {t : PyData → AS → Option AS} {c : AS → M Bool} {f : AS → M PyData} {p : PyData → Bool} {h : PyData → PyData} {z : AS} {δ : DS} : ∀ {ds : List PyData}, (∀ d ∈ ds, ∃ z1, t d z = some z1 ∧ c z1 δ = some (p d, δ) ∧ (p d = true → f z1 δ = some (h d, δ))) →
    compL t c f ds z δ = some ((ds.filter p).map h, δ)
  | [], _ => rfl
  | d :: ds, k => by
    obtain ⟨z1, e1, e2, e3⟩ := k d (List.mem_cons_self ..)
    have ih := comp_all (ds := ds) fun d hd => k d (List.mem_cons_of_mem _ hd)
    unfold compL M.bnd M.opt
    simp only [e1, Option.map_some, e2]
    cases q : p d with
    | true =>
      rw [if_pos rfl]
      simp only [e3 q, ih, List.filter_cons_of_pos q, List.map_cons]
      rfl
    | false =>
      rw [if_neg Bool.false_ne_true, ih, List.filter_cons_of_neg (by rw [q]; exact Bool.false_ne_true)]
def spDk [NTb] (K : PySem.W.Frag) : Sp := fun vs H Q _ => ∃ F a ns, vs = [.ref a] ∧ Same F H ∧ DeckOk none noDS F H ∧ SqL K F a (ns.map V.int) ∧ ∀ k F' H', Ext none F H F' H' → DeckOk (some k) (deck0 ns) F' H' → Q (.ref k.l) H'
end VL
set_option Elab.async false
set_option linter.all false
set_option maxRecDepth 100000
namespace VL
open PySem PySem.Spec L2
open PyProof.Rows hiding St
theorem bnd_of {α β : Type} {x : M α} {f : α → M β} {δ δ1 : DS} {a : α} {r : Option (β × DS)} (h : x δ = some (a, δ1)) (k : f a δ1 = r) : M.bnd x f δ = r := by
  unfold M.bnd
  rw [h]
  exact k
theorem small63 {n : Nat} (h : n ≤ 63) : n ≤ sizeLine := Nat.le_trans h (by decide)
theorem inD_len (ns : List Int) : (inD ns).length = ns.length := by unfold inD; rw [List.length_map]
theorem inD_map (ns : List Int) (g : Int → Int) (h : PyData → PyData) (e : ∀ n, h (.int n) = .int (g n)) : (inD ns).map h = inD (ns.map g) := by
  unfold inD
  rw [List.map_map, List.map_map]
  apply List.map_congr_left
  intro n _
  exact e n
theorem mem_inD {ns : List Int} {d : PyData} (h : d ∈ inD ns) : ∃ n, n ∈ ns ∧ d = .int n := by
  unfold inD at h
  obtain ⟨n, h1, h2⟩ := List.mem_map.mp h
  exact ⟨n, h1, h2.symm⟩
abbrev dkG1 : AS → M Fl := sSet 1 (oE (oComp (iOf (eScr 0 63)) (gN 2) cYes (eUn (iD fun i => if i < 0 then -i else i) (eVar 2)) [2]))
abbrev dkFa : AS → M (List PyData) := oComp (iOf (eVar 1)) (gN 2) (cBin geC (eVar 2) (eBin powC (eC (.int 10)) (eC (.int 18)))) (eVar 2) [2]
abbrev dkFb : AS → M (List PyData) := oCat (eVar 1) (eLst (aCons (eBin addC (eC (.int 11231)) (eUn lenC (eVar 1))) aNil))
abbrev dkCs (ns : List Int) : List Int := (ns.take 63).map absI
theorem dkCs_len (ns : List Int) : (dkCs ns).length ≤ 63 := by
  rw [List.length_map, List.length_take]
  omega
theorem dk_g1 (ns : List Int) (δ : DS) : dkG1 [.scr ns, .un, .un] δ = some (.nx [.scr ns, .dat (.list (inD (dkCs ns))), .un], δ) := by
  have hl : (inD (ns.take 63)).length ≤ sizeLine := small63 (by rw [inD_len, List.length_take]; omega)
  have e : compL (gN 2) cYes (eUn (iD fun i => if i < 0 then -i else i) (eVar 2)) (inD (ns.take 63)) [.scr ns, .un, .un] δ = some (inD (dkCs ns), δ) := by
    rw [comp_all (p := fun _ => true) (h := fun d => match d with | .int i => .int (absI i) | d => d)]
    · rw [List.filter_eq_self.mpr (fun _ _ => rfl), inD_map _ absI _ (fun _ => rfl)]
    · intro d hd
      obtain ⟨n, _, rfl⟩ := mem_inD hd
      exact ⟨[.scr ns, .un, .dat (.int n)], rfl, rfl, fun _ => rfl⟩
  refine bnd_of (δ1 := δ) (a := .list (inD (dkCs ns))) (bnd_of (δ1 := δ) (a := inD (dkCs ns)) (bnd_of (δ1 := δ) (a := inD (ns.take 63)) rfl ?_) rfl) rfl
  show (if (inD (ns.take 63)).length ≤ sizeLine then (_ : M (List PyData)) else _) δ = _
  rw [if_pos hl]
  exact e
theorem dk_fa (ns : List Int) (δ : DS) : dkFa [.scr ns, .dat (.list (inD (dkCs ns))), .un] δ = some (inD ((dkCs ns).filter fun i => decide ((10 : Int) ^ 18 ≤ i)), δ) := by
  have hl : (inD (dkCs ns)).length ≤ sizeLine := small63 (by rw [inD_len]; exact dkCs_len ns)
  refine bnd_of (δ1 := δ) (a := inD (dkCs ns)) rfl ?_
  show (if (inD (dkCs ns)).length ≤ sizeLine then (_ : M (List PyData)) else _) δ = _
  rw [if_pos hl]
  show compL (gN 2) _ _ (inD (dkCs ns)) [.scr ns, .dat (.list (inD (dkCs ns))), .un] δ = _
  rw [comp_all (p := fun d => match d with | .int i => decide ((10 : Int) ^ 18 ≤ i) | _ => false) (h := fun d => d)]
  · rw [List.map_id']
    unfold inD
    rw [List.filter_map]
    rfl
  · intro d hd
    obtain ⟨n, _, rfl⟩ := mem_inD hd
    exact ⟨[.scr ns, .dat (.list (inD (dkCs ns))), .dat (.int n)], rfl, rfl, fun _ => rfl⟩
theorem dk_fb (ns : List Int) (δ : DS) : dkFb [.scr ns, .dat (.list (inD (dkCs ns))), .un] δ = some (inD (dkCs ns ++ [11231 + ((dkCs ns).length : Int)]), δ) := by
  have hl := dkCs_len ns
  refine bnd_of (δ1 := δ) (a := .list (inD (dkCs ns))) rfl ?_
  refine bnd_of (δ1 := δ) (a := .list [.int (11231 + ((dkCs ns).length : Int))]) ?_ ?_
  · refine bnd_of (δ1 := δ) (a := [.d (.int (11231 + ((dkCs ns).length : Int)))]) ?_ rfl
    refine bnd_of (δ1 := δ) (a := .int (11231 + ((dkCs ns).length : Int))) ?_ rfl
    show some (PyData.int (11231 + ((inD (dkCs ns)).length : Int)), δ) = _
    rw [inD_len]
  · unfold M.opt catC
    show Option.map _ (if (inD (dkCs ns)).length + 1 ≤ sizeLine then _ else _) = _
    rw [if_pos (Nat.le_trans (m := 64) (by rw [inD_len]; omega) (by decide))]
    unfold inD
    rw [List.map_append]
    rfl
end VL
set_option Elab.async false
set_option linter.all false
set_option maxRecDepth 100000
namespace VL
open PySem PySem.Spec L2
open PyProof.Rows hiding St
def spLaw [NTb] (K : PySem.W.Frag) : Sp := fun vs H Q _ => ∃ (F : Hp) (a : Addr) (ns : List Int), vs = [.ref a] ∧ Same F H ∧ DeckOk none noDS F H ∧ SqL K F a (ns.map V.int) ∧ ∀ H', Q (.bl true) H'
def lawZ (n : Nat) : AS := .un :: .deck :: List.replicate (n - 2) .un
theorem lawZ_get {n i : Nat} {sv : SV} (h : (lawZ n)[i]? = some sv) (ne : sv ≠ .un) : i = 1 ∧ sv = .deck := by
  unfold lawZ at h
  match i, h with
  | 0, h => injection h with h; exact absurd h.symm ne
  | 1, h => injection h with h; exact ⟨rfl, h.symm⟩
  | i + 2, h =>
    rw [List.getElem?_cons_succ, List.getElem?_cons_succ, List.getElem?_replicate] at h
    split at h
    · injection h with h
      exact absurd h.symm ne
    · cases h
theorem lawZ_ok [NTb] {K : PySem.W.Frag} {k : Dk} {δ : DS} {F H : Hp} {N : List Str} {a : Addr} (sm : Same F H) (d : DeckOk (some k) δ F H) (hn : 2 ≤ N.length) : Ok K (some k) (lawZ N.length) δ ((L2.start N [.ref a]).set 1 (some (.ref k.l))) F H := by
  have hl : (L2.start N [.ref a]).length = N.length := by
    unfold L2.start
    simp
    omega
  refine ⟨sm, d, ?_, fun i sv e ne => ?_, fun i j b ds es _ e1 _ _ => ?_, fun i j b ds es _ e1 _ _ => ?_⟩
  · unfold lawZ
    simp [hl]
    omega
  · obtain ⟨rfl, rfl⟩ := lawZ_get e ne
    exact ⟨.ref k.l, List.getElem?_set_self (by rw [hl]; omega), k, rfl, rfl⟩
  · obtain ⟨_, q⟩ := lawZ_get e1 (fun q => nomatch q)
    cases q
  · obtain ⟨_, q⟩ := lawZ_get e1 (fun q => nomatch q)
    cases q
theorem deck0_cells (ns : List Int) : (deck0 ns).cells ≠ [] := fun h => by
  have h' : (ns.take 63).map absI ++ [11231 + (((ns.take 63).map absI).length : Int)] = [] := h
  simp at h'
/-- from the mirror's run to the reading of the law's body -/
theorem law_reads [NTb] {X : Cx} {K : PySem.W.Frag} {N : List Str} {g : AS → M Fl} {vs : List V} {H : Hp} {Q : VK} (hn : 2 ≤ N.length) (run : ∀ δ : DS, δ.cells ≠ [] → δ.obs = [] → ∃ δ', g (lawZ N.length) δ = some (.rt (.bool true), δ')) (h : spLaw K vs H Q E0) (D : Ends) (hD : D.rt = Q) (hK : X.K = K := by rfl) :
    ∃ x, (L2.start N vs)[0]? = some (some x) ∧ spDk X.K [x] H (fun v H1 => tSt X g D ((L2.start N vs).set 1 (some v)) H1) E0 := by
  subst hK
  obtain ⟨F, a, ns, rfl, sm, tb, sq, q⟩ := h
  refine ⟨.ref a, rfl, F, a, ns, rfl, sm, tb, sq, fun k F' H' x d => ?_⟩
  obtain ⟨δ', e⟩ := run (deck0 ns) (deck0_cells ns) rfl
  refine ⟨some k, F', H', F', lawZ N.length, deck0 ns, _, δ', e, .refl x.fh, lawZ_ok x.fh d hn, fun i ds b m e1 _ => ?_, fun v F2 H2 _ _ r => ?_⟩
  · obtain ⟨_, z⟩ := lawZ_get e1 (fun z => by subst z; exact m.elim)
    subst z
    exact m.elim
  · cases r
    rw [hD]
    exact q H2
/-- the reading of the deck's body -/
theorem deck_reads [NTb] {X : Cx} {K : PySem.W.Frag} {N : List Str} {vs : List V} {H : Hp} {Q : VK} (hN : N.length = 3) (h : spDk K vs H Q E0) (D : Ends) (hD : D.rt = Q) (hK : X.K = K := by rfl) :
    tSt X dkG1 { D with nx := fun σ H => ∃ F z δ gs cs, dkFa z δ = some (inD gs, δ) ∧ dkFb z δ = some (inD cs, δ) ∧ Ok X.K none z δ σ F H ∧ ∀ k F' H', Ext none F H F' H' → DeckOk (some k) ⟨gs, cs, 0, []⟩ F' H' → D.rt (.ref k.l) H' } (L2.start N vs) H := by
  subst hK
  obtain ⟨F, a, ns, rfl, sm, tb, sq, q⟩ := h
  let δ : DS := ⟨[], [], 0, []⟩
  have hl : (L2.start N [.ref a]).length = 3 := by
    unfold L2.start
    simp [hN]
  have ok : Ok X.K none [.scr ns, .un, .un] δ (L2.start N [.ref a]) F H := by
    refine ⟨sm, tb, by rw [hl]; rfl, fun i sv e ne => ?_, fun i j b ds es _ e1 _ _ => ?_, fun i j b ds es _ e1 _ _ => ?_⟩
    · match i, e with
      | 0, e => injection e with e; subst e; exact ⟨.ref a, rfl, a, rfl, sq⟩
      | 1, e => injection e with e; exact absurd e.symm ne
      | 2, e => injection e with e; exact absurd e.symm ne
      | i + 3, e => simp at e
    · match i, e1 with
      | 0, e => injection e with e; cases e
      | 1, e => injection e with e; cases e
      | 2, e => injection e with e; cases e
      | i + 3, e => simp at e
    · match i, e1 with
      | 0, e => injection e with e; cases e
      | 1, e => injection e with e; cases e
      | 2, e => injection e with e; cases e
      | i + 3, e => simp at e
  refine ⟨none, F, H, F, _, δ, _, _, dk_g1 ns δ, .refl sm, ok, fun i ds b m e _ => ?_, fun σ F' H' x s ok' _ => ?_⟩
  · match i, e with
    | 0, e => injection e with e; subst e; exact m.elim
    | 1, e => injection e with e; subst e; exact m.elim
    | 2, e => injection e with e; subst e; exact m.elim
    | i + 3, e => simp at e
  · refine ⟨F', _, δ, _, _, dk_fa ns δ, dk_fb ns δ, ok', fun k F2 H2 x2 d2 => ?_⟩
    rw [hD]
    exact q k F2 H2 (x.trans x2) d2
end VL
set_option Elab.async false
set_option linter.all false
set_option maxRecDepth 100000
namespace VL
open PySem PySem.Spec L2
open PyProof.Rows hiding St
/-- the objects that change: as they are all along -/
class Ob where
  os : List (Str × List (Str × PyData))
instance (priority := low) noOb : Ob := ⟨[]⟩
variable [Ob]
def Good (δ : DS) : Prop := δ.cells ≠ [] ∧ δ.obs = Ob.os
def Tot {α : Type} (x : M α) (P : α → Prop) : Prop := ∀ δ, Good δ → ∃ a δ', x δ = some (a, δ') ∧ Good δ' ∧ P a
theorem Tot.pur {α : Type} {a : α} {P : α → Prop} (h : P a) : Tot (M.pur a) P := fun δ g => ⟨a, δ, rfl, g, h⟩
theorem Tot.opt {α : Type} {o : Option α} {a : α} {P : α → Prop} (e : o = some a) (h : P a) : Tot (M.opt o) P := fun δ g => ⟨a, δ, by rw [e]; rfl, g, h⟩
theorem Tot.bnd {α β : Type} {x : M α} {f : α → M β} {P : α → Prop} {R : β → Prop} (h : Tot x P) (k : ∀ a, P a → Tot (f a) R) : Tot (M.bnd x f) R := fun δ g => by
  obtain ⟨a, δ1, e1, g1, p1⟩ := h δ g
  obtain ⟨b, δ2, e2, g2, p2⟩ := k a p1 δ1 g1
  exact ⟨b, δ2, bnd_of e1 e2, g2, p2⟩
theorem Tot.mono {α : Type} {x : M α} {P R : α → Prop} (h : Tot x P) (k : ∀ a, P a → R a) : Tot x R := fun δ g => by
  obtain ⟨a, δ1, e1, g1, p1⟩ := h δ g
  exact ⟨a, δ1, e1, g1, k a p1⟩
/-- the value, whatever the deck -/
def Ev {α : Type} (x : M α) (a : α) : Prop := ∀ δ, x δ = some (a, δ)
theorem Ev.pur {α : Type} {a : α} : Ev (M.pur a) a := fun _ => rfl
theorem Ev.bnd {α β : Type} {x : M α} {f : α → M β} {a : α} {b : β} (h : Ev x a) (k : Ev (f a) b) : Ev (M.bnd x f) b := fun δ => bnd_of (h δ) (k δ)
theorem Ev.opt {α : Type} {o : Option α} {a : α} (e : o = some a) : Ev (M.opt o) a := fun δ => by rw [e]; rfl
/-- first this, then that -/
theorem Ev.then {α β : Type} {x : M α} {f : α → M β} {a : α} {R : β → Prop} (h : Ev x a) (k : Tot (f a) R) : Tot (M.bnd x f) R := fun δ g => by
  obtain ⟨b, δ2, e2, g2, p2⟩ := k δ g
  exact ⟨b, δ2, bnd_of (h δ) e2, g2, p2⟩
section
variable {z z1 : AS} {i j n : Nat} {d e w : PyData} {fa fb : AS → M PyData} {g : PyData → PyData → Option PyData} {P : PyData → Prop} {R : Fl → Prop}
theorem ev_c : Ev (eC d z) d := fun _ => rfl
theorem ev_var (h : z[i]? = some (.dat d)) : Ev (eVar i z) d := fun δ => by unfold eVar; rw [h]; rfl
theorem ev_own {ds : List PyData} (h : z[i]? = some (.own ds)) : Ev (eOwn i z) (.list ds) := fun δ => by unfold eOwn; rw [h]; rfl
theorem ev_bin (h1 : Ev (fa z) d) (h2 : Ev (fb z) e) (h : g d e = some w) : Ev (eBin g fa fb z) w := .bnd h1 (.bnd h2 (.opt h))
theorem ev_un {g : PyData → Option PyData} (h1 : Ev (fa z) d) (h : g d = some w) : Ev (eUn g fa z) w := .bnd h1 (.opt h)
theorem ev_cbin {g : PyData → PyData → Option Bool} {b : Bool} (h1 : Ev (fa z) d) (h2 : Ev (fb z) e) (h : g d e = some b) : Ev (cBin g fa fb z) b := .bnd h1 (.bnd h2 (.opt h))
theorem ev_tru {b : Bool} (h1 : Ev (fa z) d) (h : truC d = some b) : Ev (cTru fa z) b := .bnd h1 (.opt h)
theorem ev_not {f : AS → M Bool} {b : Bool} (h : Ev (f z) b) : Ev (cNot f z) (!b) := .bnd h .pur
theorem ev_or {f f2 : AS → M Bool} {b b2 : Bool} (h : Ev (f z) b) (h2 : b = false → Ev (f2 z) b2) : Ev (cOr f f2 z) (b || b2) := .bnd h (by cases b with
  | true => exact .pur
  | false => exact h2 rfl)
theorem ev_if {c : AS → M Bool} {b : Bool} (h : Ev (c z) b) (h1 : b = true → Ev (fa z) w) (h2 : b = false → Ev (fb z) w) : Ev (eIf c fa fb z) w := .bnd h (by cases b with
  | true => exact h1 rfl
  | false => exact h2 rfl)
theorem ev_anil : Ev (aNil z) [] := fun _ => rfl
theorem ev_acons {ga : AS → M (List AV)} {as : List AV} (h : Ev (fa z) d) (h2 : Ev (ga z) as) : Ev (aCons fa ga z) (.d d :: as) := .bnd h (.bnd h2 .pur)
theorem ev_call {fn : List AV → M PyData} {ga : AS → M (List AV)} {as : List AV} (h : Ev (ga z) as) (h2 : Ev (fn as) w) : Ev (eCall fn ga z) w := .bnd h h2
theorem avs_d : ∀ ds : List PyData, avs (ds.map AV.d) = some ds
  | [] => rfl
  | d :: ds => by
    show (avs (ds.map AV.d)).map _ = _
    rw [avs_d ds]
    rfl
end
end VL
set_option Elab.async false
set_option linter.all false
set_option maxRecDepth 100000
namespace VL
open PySem PySem.Spec L2
open PyProof.Rows hiding St
def drawM : List AV → M PyData := runB 2 5
  (sSeq (sIf (cPk (cBin neC (eBin ixC (eVar 0) (eC (.int 0))) (eLst aNil))) (sSeq (sSet 2 (ePk (eBin ixC (eBin ixC (eVar 0) (eC (.int 0))) (eC (.int 0)))))
      (sSeq (sDkG 0 (eBin fdivC (eVar 2) (eVar 1)))
      (sSeq (sIf (cPk (cBin eqC (eBin ixC (eBin ixC (eVar 0) (eC (.int 0))) (eC (.int 0))) (eC (.int 0)))) (sDkP 0) sNil)
      (sRet (eBin modC (eUn intC (eVar 2)) (eVar 1)))))) sNil)
      (sSeq (sDkN 0 (ePk (eBin addC (eBin ixC (eVar 0) (eC (.int 2))) (eC (.int 1)))))
      (sSeq (sSet 3 (ePk (eBin ixC (eBin ixC (eVar 0) (eC (.int 1))) (eBin modC (eUn intC (eBin ixC (eVar 0) (eC (.int 2)))) (eUn lenC (eBin ixC (eVar 0) (eC (.int 1))))))))
      (sSeq (sSet 4 (ePk (eBin modC (eUn intC (eBin addC (eBin modC (eUn intC (eVar 3)) (eC (.int 4294966651))) (eBin mulC (eC (.int 2654435761)) (eBin ixC (eVar 0) (eC (.int 2)))))) (eC (.int 4294966651)))))
      (sSeq (sSet 4 (ePk (eBin modC (eUn intC (eBin addC (eBin mulC (eVar 4) (eVar 4)) (eBin mulC (eC (.int 75011)) (eBin ixC (eVar 0) (eC (.int 2)))))) (eC (.int 4294966619)))))
      (sRet (eBin modC (eBin fdivC (eBin modC (eUn intC (eBin mulC (eVar 4) (eVar 4))) (eC (.int 4294966591))) (eC (.int 2048))) (eVar 1))))))))
def pickM : List AV → M PyData := runB 2 2
  (sRet (eBin ixC (eVar 1) (eCall drawM (aDeck 0 (aCons (eUn lenC (eVar 1)) aNil)))))
theorem okEqAll_nil : ∀ ds : List PyData, okEqAll ds [] = true
  | [] => rfl
  | _ :: _ => rfl
theorem eqvAll_nil : ∀ ds : List PyData, PyData.eqvAll ds [] = ds.isEmpty
  | [] => rfl
  | _ :: _ => rfl
theorem okC_l0 (ds : List PyData) : okC (.list ds) (.list []) = true := by
  have h : decide (min (PyData.list ds).depth (PyData.list []).depth ≤ 60) = true := decide_eq_true (Nat.le_trans (Nat.min_le_right _ _) (by decide))
  show (okEqAll ds [] && true && true && _) = true
  rw [okEqAll_nil, h]
  rfl
theorem okC_t0 (ds : List PyData) : okC (.tuple ds) (.tuple []) = true := by
  have h : decide (min (PyData.tuple ds).depth (PyData.tuple []).depth ≤ 60) = true := decide_eq_true (Nat.le_trans (Nat.min_le_right _ _) (by decide))
  show (okEqAll ds [] && true && true && _) = true
  rw [okEqAll_nil, h]
  rfl
theorem eqC_l0 (ds : List PyData) : eqC (.list ds) (.list []) = some ds.isEmpty := by
  unfold eqC
  rw [if_pos (okC_l0 ds)]
  show some (PyData.eqvAll ds []) = _
  rw [eqvAll_nil]
theorem neC_l0 (ds : List PyData) : neC (.list ds) (.list []) = some (!ds.isEmpty) := by
  unfold neC
  rw [if_pos (okC_l0 ds)]
  show some (!PyData.eqvAll ds []) = _
  rw [eqvAll_nil]
theorem eqC_t0 (ds : List PyData) : eqC (.tuple ds) (.tuple []) = some ds.isEmpty := by
  unfold eqC
  rw [if_pos (okC_t0 ds)]
  show some (PyData.eqvAll ds []) = _
  rw [eqvAll_nil]
theorem eqC_int (i j : Int) : eqC (.int i) (.int j) = some (i == j) := rfl
end VL
set_option Elab.async false
set_option linter.all false
set_option maxRecDepth 100000
namespace VL
variable [Ob]
open PySem PySem.Spec L2
open PyProof.Rows hiding St
theorem pk_of {f : AS → M PyData} {z : AS} {δ δ0 : DS} {d : PyData} (h : f (peekA δ z) noDS = some (d, δ0)) (fl : flat d = true) : ePk f z δ = some (d, δ) := by
  unfold ePk
  rw [h]
  show (if flat d = true then some (d, δ) else none) = _
  rw [if_pos fl]
theorem cpk_of {f : AS → M Bool} {z : AS} {δ δ0 : DS} {b : Bool} (h : f (peekA δ z) noDS = some (b, δ0)) : cPk f z δ = some (b, δ) := by
  unfold cPk
  rw [h]
theorem fdiv_of {i j : Int} (h0 : 0 < j) (h1 : j < 1073741824) : fdivC (.int i) (.int j) = some (.int (i / j)) := by
  show (if decide (0 < j ∧ j < 1073741824) = true then _ else _) = _
  rw [if_pos (decide_eq_true ⟨h0, h1⟩)]
theorem mod_of {i j : Int} (h0 : 0 < j) : modC (.int i) (.int j) = some (.int (i % j)) := by
  show (if decide (0 < j) = true then _ else _) = _
  rw [if_pos (decide_eq_true h0)]
theorem mul_of {i j : Int} (h : (-(2 ^ 64) < i ∧ i < 2 ^ 64) ∨ (-(2 ^ 64) < j ∧ j < 2 ^ 64)) : mulC (.int i) (.int j) = some (.int (i * j)) := by
  show (if decide ((-(2 ^ 64) < i ∧ i < 2 ^ 64) ∨ (-(2 ^ 64) < j ∧ j < 2 ^ 64)) = true then _ else _) = _
  rw [if_pos (decide_eq_true h)]
theorem ev_fdiv {z : AS} {i j : Int} {fa fb : AS → M PyData} (h1 : Ev (fa z) (.int i)) (h2 : Ev (fb z) (.int j)) (h0 : 0 < j) (h3 : j < 1073741824) : Ev (eBin fdivC fa fb z) (.int (i / j)) := ev_bin h1 h2 (fdiv_of h0 h3)
theorem ev_mod {z : AS} {i j : Int} {fa fb : AS → M PyData} (h1 : Ev (fa z) (.int i)) (h2 : Ev (fb z) (.int j)) (h0 : 0 < j) : Ev (eBin modC fa fb z) (.int (i % j)) := ev_bin h1 h2 (mod_of h0)
theorem ev_mul {z : AS} {i j : Int} {fa fb : AS → M PyData} (h1 : Ev (fa z) (.int i)) (h2 : Ev (fb z) (.int j)) (h : (-(2 ^ 64) < i ∧ i < 2 ^ 64) ∨ (-(2 ^ 64) < j ∧ j < 2 ^ 64)) : Ev (eBin mulC fa fb z) (.int (i * j)) := ev_bin h1 h2 (mul_of h)
theorem ev_add {z : AS} {i j : Int} {fa fb : AS → M PyData} (h1 : Ev (fa z) (.int i)) (h2 : Ev (fb z) (.int j)) : Ev (eBin addC fa fb z) (.int (i + j)) := ev_bin h1 h2 rfl
theorem ev_intC {z : AS} {i : Int} {fa : AS → M PyData} (h1 : Ev (fa z) (.int i)) : Ev (eUn intC fa z) (.int i) := ev_un h1 rfl
theorem ix0 (d : PyData) (ds : List PyData) : ixC (.list (d :: ds)) (.int 0) = some d := by
  show atI (d :: ds) 0 = _
  exact atI_nat (j := 0) rfl
theorem tot_draw {b : Int} (h0 : 0 < b) (h1 : b < 1073741824) : Tot (drawM [.deck, .d (.int b)]) (fun d => ∃ r, d = .int r ∧ 0 ≤ r ∧ r < b) := by
  rintro ⟨great, cells, n, obs⟩ g
  have rb : ∀ i : Int, 0 ≤ i % b ∧ i % b < b := fun i => ⟨Int.emod_nonneg _ (by omega), Int.emod_lt_of_pos _ h0⟩
  have hb : Ev (eVar 1 [.deck, .dat (.int b), .un, .un, .un]) (.int b) := ev_var rfl
  cases great with
  | cons q gs =>
    by_cases hz : q / b = 0
    · refine ⟨.int (q % b), ⟨gs, cells, n, obs⟩, ?_, g, _, rfl, rb q⟩
      refine bnd_of (δ1 := ⟨gs, cells, n, obs⟩) (a := .rt (.int (q % b))) ?_ rfl
      refine bnd_of (δ1 := ⟨gs, cells, n, obs⟩) (a := .rt (.int (q % b))) ?_ rfl
      refine bnd_of (a := true) (δ1 := ⟨q :: gs, cells, n, obs⟩) (cpk_of (δ0 := noDS) (ev_cbin (d := .list (inD (q :: gs))) (e := .list []) (b := true) (fun _ => rfl) (fun _ => rfl) (neC_l0 _) _)) ?_
      refine bnd_of (a := .nx [.deck, .dat (.int b), .dat (.int q), .un, .un]) (δ1 := ⟨q :: gs, cells, n, obs⟩) (bnd_of (a := .int q) (pk_of (δ0 := noDS) (ev_bin (d := .list (inD (q :: gs))) (e := .int 0) (fun _ => rfl) (fun _ => rfl) (ix0 _ _) _) rfl) rfl) ?_
      refine bnd_of (a := .nx [.deck, .dat (.int b), .dat (.int q), .un, .un]) (δ1 := ⟨q / b :: gs, cells, n, obs⟩) (bnd_of (a := .int (q / b)) (ev_fdiv (i := q) (j := b) (fun _ => rfl) (fun _ => rfl) h0 h1 _) rfl) ?_
      refine bnd_of (a := .nx [.deck, .dat (.int b), .dat (.int q), .un, .un]) (δ1 := ⟨gs, cells, n, obs⟩) (bnd_of (a := true) (δ1 := ⟨q / b :: gs, cells, n, obs⟩) (cpk_of (δ0 := noDS) (ev_cbin (d := .int (q / b)) (e := .int 0) (ev_bin (d := .list (inD (q / b :: gs))) (e := .int 0) (fun _ => rfl) (fun _ => rfl) (ix0 _ _)) (fun _ => rfl) (by rw [hz]; rfl) _)) rfl) ?_
      exact bnd_of (ev_mod (i := q) (j := b) (ev_intC fun _ => rfl) (fun _ => rfl) h0 _) rfl
    · refine ⟨.int (q % b), ⟨q / b :: gs, cells, n, obs⟩, ?_, g, _, rfl, rb q⟩
      refine bnd_of (δ1 := ⟨q / b :: gs, cells, n, obs⟩) (a := .rt (.int (q % b))) ?_ rfl
      refine bnd_of (δ1 := ⟨q / b :: gs, cells, n, obs⟩) (a := .rt (.int (q % b))) ?_ rfl
      refine bnd_of (a := true) (δ1 := ⟨q :: gs, cells, n, obs⟩) (cpk_of (δ0 := noDS) (ev_cbin (d := .list (inD (q :: gs))) (e := .list []) (b := true) (fun _ => rfl) (fun _ => rfl) (neC_l0 _) _)) ?_
      refine bnd_of (a := .nx [.deck, .dat (.int b), .dat (.int q), .un, .un]) (δ1 := ⟨q :: gs, cells, n, obs⟩) (bnd_of (a := .int q) (pk_of (δ0 := noDS) (ev_bin (d := .list (inD (q :: gs))) (e := .int 0) (fun _ => rfl) (fun _ => rfl) (ix0 _ _) _) rfl) rfl) ?_
      refine bnd_of (a := .nx [.deck, .dat (.int b), .dat (.int q), .un, .un]) (δ1 := ⟨q / b :: gs, cells, n, obs⟩) (bnd_of (a := .int (q / b)) (ev_fdiv (i := q) (j := b) (fun _ => rfl) (fun _ => rfl) h0 h1 _) rfl) ?_
      refine bnd_of (a := .nx [.deck, .dat (.int b), .dat (.int q), .un, .un]) (δ1 := ⟨q / b :: gs, cells, n, obs⟩) (bnd_of (a := false) (δ1 := ⟨q / b :: gs, cells, n, obs⟩) (cpk_of (δ0 := noDS) (ev_cbin (d := .int (q / b)) (e := .int 0) (ev_bin (d := .list (inD (q / b :: gs))) (e := .int 0) (fun _ => rfl) (fun _ => rfl) (ix0 _ _)) (fun _ => rfl) (by rw [eqC_int]; simp [hz]) _)) rfl) ?_
      exact bnd_of (ev_mod (i := q) (j := b) (ev_intC fun _ => rfl) (fun _ => rfl) h0 _) rfl
  | nil =>
    have hlen : 0 < (cells.length : Int) := by
      have : cells.length ≠ 0 := fun e => g.1 (List.length_eq_zero_iff.mp e)
      omega
    let k : Int := (n + 1) % (cells.length : Int)
    have k0 : 0 ≤ k := Int.emod_nonneg _ (by omega)
    have k1 : k < cells.length := Int.emod_lt_of_pos _ hlen
    obtain ⟨c, hc⟩ : ∃ c, cells[k.toNat]? = some c := ⟨cells[k.toNat]'(by omega), List.getElem?_eq_getElem _⟩
    have hix : ixC (.list (inD cells)) (.int k) = some (.int c) := by
      show atI (inD cells) k = _
      have e : k = ((k.toNat : Nat) : Int) := by omega
      rw [e]
      refine atI_nat ?_
      unfold inD
      rw [List.getElem?_map, hc]
      rfl
    let δ1 : DS := ⟨[], cells, n + 1, obs⟩
    let m1 : Int := (c % 4294966651 + 2654435761 * (n + 1)) % 4294966651
    have b1 : 0 ≤ m1 ∧ m1 < 4294966651 := ⟨Int.emod_nonneg _ (by decide), Int.emod_lt_of_pos _ (by decide)⟩
    let m2 : Int := (m1 * m1 + 75011 * (n + 1)) % 4294966619
    have b2 : 0 ≤ m2 ∧ m2 < 4294966619 := ⟨Int.emod_nonneg _ (by decide), Int.emod_lt_of_pos _ (by decide)⟩
    refine ⟨.int (m2 * m2 % 4294966591 / 2048 % b), δ1, ?_, g, _, rfl, rb _⟩
    refine bnd_of (δ1 := δ1) (a := .rt (.int (m2 * m2 % 4294966591 / 2048 % b))) ?_ rfl
    refine bnd_of (a := .nx [.deck, .dat (.int b), .un, .un, .un]) (δ1 := ⟨[], cells, n, obs⟩) (bnd_of (a := false) (δ1 := ⟨[], cells, n, obs⟩) (cpk_of (δ0 := noDS) (ev_cbin (d := .list []) (e := .list []) (b := false) (fun _ => rfl) (fun _ => rfl) (neC_l0 _) _)) rfl) ?_
    refine bnd_of (a := .nx [.deck, .dat (.int b), .un, .un, .un]) (δ1 := δ1) (bnd_of (a := .int (n + 1)) (pk_of (δ0 := noDS) rfl rfl) rfl) ?_
    refine bnd_of (a := .nx [.deck, .dat (.int b), .un, .dat (.int c), .un]) (δ1 := δ1) (bnd_of (a := .int c) (δ1 := δ1) (pk_of (δ0 := noDS) (ev_bin (d := .list (inD cells)) (e := .int k) (fun _ => rfl) (ev_mod (i := n + 1) (j := (cells.length : Int)) (ev_intC fun _ => rfl) (ev_un (d := .list (inD cells)) (fun _ => rfl) (by show some (PyData.int ((inD cells).length : Int)) = _; rw [inD_len])) hlen) hix _) rfl) rfl) ?_
    refine bnd_of (a := .nx [.deck, .dat (.int b), .un, .dat (.int c), .dat (.int m1)]) (δ1 := δ1) (bnd_of (a := .int m1) (δ1 := δ1) (pk_of (δ0 := noDS) (ev_mod (ev_intC (ev_add (ev_mod (i := c) (ev_intC fun _ => rfl) (fun _ => rfl) (by decide)) (ev_mul (i := 2654435761) (j := n + 1) (fun _ => rfl) (fun _ => rfl) (.inl (by decide))))) (fun _ => rfl) (by decide) _) rfl) rfl) ?_
    refine bnd_of (a := .nx [.deck, .dat (.int b), .un, .dat (.int c), .dat (.int m2)]) (δ1 := δ1) (bnd_of (a := .int m2) (δ1 := δ1) (pk_of (δ0 := noDS) (ev_mod (ev_intC (ev_add (ev_mul (i := m1) (j := m1) (fun _ => rfl) (fun _ => rfl) (.inl (by omega))) (ev_mul (i := 75011) (j := n + 1) (fun _ => rfl) (fun _ => rfl) (.inl (by decide))))) (fun _ => rfl) (by decide) _) rfl) rfl) ?_
    refine bnd_of (a := .int (m2 * m2 % 4294966591 / 2048 % b)) (δ1 := δ1) (ev_mod (ev_fdiv (ev_mod (ev_intC (ev_mul (i := m2) (j := m2) (fun _ => rfl) (fun _ => rfl) (.inl (by omega)))) (fun _ => rfl) (by decide)) (fun _ => rfl) (by decide) (by decide)) (fun _ => rfl) h0 _) rfl
theorem tot_pick {xs : List PyData} (h : xs ≠ []) (hl : xs.length < 1073741824) : Tot (pickM [.deck, .d (.list xs)]) (fun d => d ∈ xs) := by
  have h0 : 0 < xs.length := List.length_pos_iff.mpr h
  have ha : Ev ((aDeck 0 (aCons (eUn lenC (eVar 1)) aNil)) [.deck, .dat (.list xs)]) [.deck, .d (.int (xs.length : Int))] := fun δ => rfl
  have hd : Tot (eCall drawM (aDeck 0 (aCons (eUn lenC (eVar 1)) aNil)) [.deck, .dat (.list xs)]) (fun d => ∃ r, d = .int r ∧ 0 ≤ r ∧ r < (xs.length : Int)) := Ev.then ha (tot_draw (by omega) (by omega))
  have hx : Tot (eBin ixC (eVar 1) (eCall drawM (aDeck 0 (aCons (eUn lenC (eVar 1)) aNil))) [.deck, .dat (.list xs)]) (fun d => d ∈ xs) := by
    refine Ev.then (a := .list xs) (ev_var rfl) (hd.bnd fun e ⟨r, e1, r0, r1⟩ => ?_)
    subst e1
    have hlt : r.toNat < xs.length := by omega
    refine .opt (a := xs[r.toNat]) ?_ (List.getElem_mem hlt)
    show atI xs r = _
    have e2 := atI_nat (xs := xs) (List.getElem?_eq_getElem hlt)
    rwa [Int.toNat_of_nonneg r0] at e2
  exact Tot.bnd (P := fun fl => ∃ d, fl = .rt d ∧ d ∈ xs) (hx.bnd fun d p => .pur ⟨d, rfl, p⟩) fun fl ⟨d, e, p⟩ => by rw [e]; exact .pur p
end VL
set_option Elab.async false
set_option linter.all false
set_option maxRecDepth 100000
namespace VL
variable [Ob]
open PySem PySem.Spec L2
open PyProof.Rows hiding St
theorem ev_run {n N : Nat} {g : AS → M Fl} {as : List AV} {w : PyData} (hl : as.length = n) (h : Ev (g (startA N as)) (.rt w)) : Ev (runB n N g as) w := fun δ => by
  unfold runB
  rw [if_pos hl]
  exact bnd_of (h δ) rfl
section
variable {z z1 : AS} {i j n : Nat} {d e w : PyData} {fa fb : AS → M PyData} {fl : Fl} {g1 g2 : AS → M Fl} {R : Fl → Prop} {P : PyData → Prop}
theorem ev_ret (h : Ev (fa z) d) : Ev (sRet fa z) (.rt d) := .bnd h .pur
theorem ev_seq (h : Ev (g1 z) (.nx z1)) (k : Ev (g2 z1) fl) : Ev (sSeq g1 g2 z) fl := .bnd h k
theorem ev_seq_rt (h : Ev (g1 z) (.rt d)) : Ev (sSeq g1 g2 z) (.rt d) := .bnd h .pur
theorem ev_sif {c : AS → M Bool} {b : Bool} (h : Ev (c z) b) (h1 : b = true → Ev (g1 z) fl) (h2 : b = false → Ev (g2 z) fl) : Ev (sIf c g1 g2 z) fl := .bnd h (by cases b with
  | true => exact h1 rfl
  | false => exact h2 rfl)
theorem ev_set (h : Ev (fa z) d) : Ev (sSet i fa z) (.nx (z.set i (.dat d))) := .bnd h .pur
theorem ev_lst {ga : AS → M (List AV)} {ds : List PyData} (h : Ev (ga z) (ds.map AV.d)) (hl : ds.length ≤ sizeLine) : Ev (eLst ga z) (.list ds) := .bnd h (.opt (by rw [avs_d]; show (if _ then _ else _) = _; rw [if_pos hl]))
theorem ev_tup {ga : AS → M (List AV)} {ds : List PyData} (h : Ev (ga z) (ds.map AV.d)) (hl : ds.length ≤ sizeLine) : Ev (eTup ga z) (.tuple ds) := .bnd h (.opt (by rw [avs_d]; show (if _ then _ else _) = _; rw [if_pos hl]))
theorem ev_isi {T : String} {b : Bool} (h : Ev (fa z) d) (q : (tyN d == T) = b) : Ev (cTru (eUn (isiC T) fa) z) b := ev_tru (ev_un h rfl) (by rw [← q]; rfl)
theorem cut_drop {α : Type} (xs : List α) (n : Nat) : cutD xs (some (n : Int)) none = xs.drop n := by
  unfold cutD
  rw [HT.sIx_nat, HT.sIx_none]
  by_cases h : n ≤ xs.length
  · rw [Nat.min_eq_left h, List.take_of_length_le (by rw [List.length_drop]; exact Nat.le_refl _)]
  · rw [Nat.min_eq_right (by omega), Nat.sub_self, List.take_zero, List.drop_eq_nil_of_le (by omega)]
theorem cut_take {α : Type} (xs : List α) (n : Nat) : cutD xs none (some (n : Int)) = xs.take n := by
  unfold cutD
  rw [HT.sIx_nat, HT.sIx_none, List.drop_zero, Nat.sub_zero]
  by_cases h : n ≤ xs.length
  · rw [Nat.min_eq_left h]
  · rw [Nat.min_eq_right (by omega), List.take_of_length_le (Nat.le_refl _), List.take_of_length_le (by omega)]
theorem ev_from {ds : List PyData} (n : Nat) (h : Ev (fa z) (.tuple ds)) : Ev (eSl fa (pSo (eC (.int (n : Int)))) pNo z) (.tuple (ds.drop n)) := .bnd h (.bnd (a := some (n : Int)) (fun _ => rfl) (.bnd (a := none) (fun _ => rfl) (.opt (by
  show some (PyData.tuple (cutD ds (some (n : Int)) none)) = _
  rw [cut_drop]))))
theorem ev_len_t {ds : List PyData} (h : Ev (fa z) (.tuple ds)) : Ev (eUn lenC fa z) (.int ds.length) := ev_un h rfl
end
def ao : List PyData := [.str "and", .str "or"]
def nsa : List PyData := [.str "not", .str "some", .str "all"]
def nsao : List PyData := [.str "not", .str "some", .str "all", .str "and", .str "or"]
def inS (l : List PyData) (d : PyData) : Bool := l.any fun y => PyData.eqv y d
def allS (l : List PyData) : Bool := l.all fun y => tyN y == "str"
theorem okIn_strs {l : List PyData} (h : allS l = true) (d : PyData) : okIn d l = true := by
  unfold okIn
  refine List.all_eq_true.mpr fun y hy => ?_
  have e : (tyN y == "str") = true := List.all_eq_true.mp h y hy
  cases y with
  | str x =>
    have e1 : okEq (.str x) d = true := by cases d <;> rfl
    have e3 : min (PyData.str x).depth d.depth ≤ 60 := Nat.le_trans (Nat.min_le_left _ _) (by show 0 ≤ 60; decide)
    rw [e1, decide_eq_true e3]
    rfl
  | none => exact absurd e (by decide)
  | bool _ => exact absurd e (by simp [tyN])
  | int _ => exact absurd e (by simp [tyN])
  | list _ => exact absurd e (by simp [tyN])
  | tuple _ => exact absurd e (by simp [tyN])
  | dict _ => exact absurd e (by simp [tyN])
theorem inC_l {l : List PyData} (h : allS l = true) (d : PyData) : inC d (.list l) = some (inS l d) := by
  show (if okIn d l = true then _ else _) = _
  rw [if_pos (okIn_strs h d)]
  rfl
theorem inC_t {l : List PyData} (h : allS l = true) (d : PyData) : inC d (.tuple l) = some (inS l d) := by
  show (if okIn d l = true then _ else _) = _
  rw [if_pos (okIn_strs h d)]
  rfl
theorem inS_str {l : List PyData} (h : allS l = true) {d : PyData} (q : inS l d = true) : tyN d = "str" := by
  obtain ⟨y, hy, e⟩ := List.any_eq_true.mp q
  have e2 : (tyN y == "str") = true := List.all_eq_true.mp h y hy
  cases y with
  | str x => cases d <;> first | rfl | (simp [PyData.eqv] at e)
  | none => exact absurd e2 (by decide)
  | bool _ => exact absurd e2 (by simp [tyN])
  | int _ => exact absurd e2 (by simp [tyN])
  | list _ => exact absurd e2 (by simp [tyN])
  | tuple _ => exact absurd e2 (by simp [tyN])
  | dict _ => exact absurd e2 (by simp [tyN])
def isN : PyData → Bool
  | .tuple (h :: ds) => inS ao h || (inS nsa h && ds.length == 1)
  | _ => false
mutual
def isF (ws : List PyData) : PyData → Bool
  | .tuple ds => isN (.tuple ds) && isF1 ws ds
  | .str x => inS ws (.str x)
  | _ => false
def isF1 (ws : List PyData) : List PyData → Bool
  | [] => true
  | _ :: ds => isFs ws ds
def isFs (ws : List PyData) : List PyData → Bool
  | [] => true
  | d :: ds => isF ws d && isFs ws ds
end
mutual
def sgn : PyData → Nat
  | .tuple ds => 1 + sgn1 ds
  | _ => 1
def sgn1 : List PyData → Nat
  | [] => 0
  | _ :: ds => sgns ds
def sgns : List PyData → Nat
  | [] => 0
  | d :: ds => sgn d + sgns ds
end
mutual
def cnt : PyData → Nat
  | .tuple ds => 1 + cnts ds
  | .list ds => 1 + cnts ds
  | _ => 1
def cnts : List PyData → Nat
  | [] => 0
  | d :: ds => cnt d + cnts ds
end
theorem isFs_all {ws : List PyData} : ∀ {ds : List PyData}, isFs ws ds = ds.all (isF ws)
  | [] => rfl
  | d :: ds => by rw [isFs, isFs_all]; rfl
theorem sgns_sum : ∀ {ds : List PyData}, sgns ds = (ds.map sgn).sum
  | [] => rfl
  | d :: ds => by rw [sgns, sgns_sum]; rfl
theorem cnt_pos (d : PyData) : 1 ≤ cnt d := by cases d <;> simp [cnt]
theorem len_cnts : ∀ ds : List PyData, ds.length ≤ cnts ds
  | [] => Nat.le_refl _
  | d :: ds => by
    have h1 := cnt_pos d
    have h2 := len_cnts ds
    simp only [List.length_cons, cnts]
    omega
theorem mem_cnts : ∀ {ds : List PyData} {d : PyData}, d ∈ ds → cnt d ≤ cnts ds
  | e :: ds, d, h => by
    simp only [cnts]
    rcases List.mem_cons.mp h with q | q
    · subst q; omega
    · have := mem_cnts q; omega
theorem mem_depth : ∀ {ds : List PyData} {d : PyData}, d ∈ ds → d.depth ≤ PyData.depthAll ds
  | e :: ds, d, h => by
    simp only [PyData.depthAll]
    rcases List.mem_cons.mp h with q | q
    · subst q; exact Nat.le_max_left _ _
    · exact Nat.le_trans (mem_depth q) (Nat.le_max_right _ _)
theorem cnts_app : ∀ (xs ys : List PyData), cnts (xs ++ ys) = cnts xs + cnts ys
  | [], ys => by simp [cnts]
  | x :: xs, ys => by simp only [List.cons_append, cnts, cnts_app xs ys]; omega
end VL
set_option Elab.async false
set_option linter.all false
set_option maxRecDepth 100000
namespace VL
variable [Ob]
open PySem PySem.Spec L2
open PyProof.Rows hiding St
theorem textFrom_most : ∀ (ts : List Str) (k : Nat) (acc : Str), (textFrom k acc ts).length ≤ acc.length + piled ts
  | [], _, acc => by show acc.length ≤ _; omega
  | t :: r, k, acc => by
    have ih := textFrom_most r (k + 1) (acc ++ (if k > 0 then ", " else "" : String) ++ t)
    have e : (acc ++ (if k > 0 then ", " else "" : String) ++ t).length ≤ acc.length + 2 + t.length := by
      rw [Str.length_append, Str.length_append]
      have : (((if k > 0 then ", " else "" : String) : Str)).length ≤ 2 := by split <;> decide
      omega
    show (textFrom (k + 1) _ r).length ≤ _
    rw [piled_cons]
    omega
theorem listText_most (ts : List Str) : (listText ts).length ≤ piled ts + 2 := by
  unfold listText
  rw [Str.length_append]
  have h := textFrom_most ts 0 "["
  have e1 : ((("[" : String) : Str)).length = 1 := rfl
  have e2 : ((("]" : String) : Str)).length = 1 := rfl
  rw [e1] at h
  rw [e2]
  omega
theorem tupleText_most (ts : List Str) : (tupleText ts).length ≤ piled ts + 4 := by
  unfold tupleText
  rw [Str.length_append, Str.length_append]
  have e1 : ((("(" : String) : Str)).length = 1 := rfl
  have e3 : (((if ts.length == 1 then ",)" else ")" : String) : Str)).length ≤ 2 := by split <;> decide
  rw [e1]
  by_cases h : ts = []
  · subst h
    have e4 : (Str.join ", " []).length = 0 := rfl
    omega
  · have := join_length_add ts h
    omega
inductive Fine (A : List PyData) : PyData → Prop
  | at {d : PyData} : d ∈ A → Fine A d
  | tup {ds : List PyData} : (∀ d, d ∈ ds → Fine A d) → Fine A (.tuple ds)
  | lst {ds : List PyData} : (∀ d, d ∈ ds → Fine A d) → Fine A (.list ds)
def leafOk (d : PyData) : Bool := d.showable && decide (d.shown.length ≤ 40)
theorem piled_le {k : Nat} : ∀ {ds : List PyData}, (∀ d ∈ ds, d.shown.length + 2 ≤ k * cnt d) → piled (PyData.shownAll ds) ≤ k * cnts ds
  | [], _ => Nat.le_of_eq rfl
  | d :: ds, h => by
    have h1 := h d (List.mem_cons_self ..)
    have h2 := piled_le (ds := ds) fun e he => h e (List.mem_cons_of_mem _ he)
    simp only [PyData.shownAll, piled_cons, cnts, Nat.mul_add]
    omega
theorem Fine.shown {A : List PyData} (hA : ∀ d ∈ A, leafOk d = true) {d : PyData} (h : Fine A d) : d.shown.length + 2 ≤ 50 * cnt d := by
  induction h with
  | @«at» d h =>
    have h1 := hA d h
    unfold leafOk at h1
    rw [Bool.and_eq_true, decide_eq_true_eq] at h1
    have := cnt_pos d
    omega
  | @tup ds _ ih =>
    have h1 := piled_le ih
    have h2 := tupleText_most (PyData.shownAll ds)
    have h3 : cnt (.tuple ds) = 1 + cnts ds := rfl
    simp only [PyData.shown]
    omega
  | @lst ds _ ih =>
    have h1 := piled_le ih
    have h2 := listText_most (PyData.shownAll ds)
    have h3 : cnt (.list ds) = 1 + cnts ds := rfl
    simp only [PyData.shown]
    omega
theorem showAll_of : ∀ {ds : List PyData}, (∀ d ∈ ds, d.showable = true) → PyData.showableAll ds = true
  | [], _ => rfl
  | d :: ds, h => by
    simp only [PyData.showableAll, Bool.and_eq_true]
    exact ⟨h d (List.mem_cons_self ..), showAll_of fun e he => h e (List.mem_cons_of_mem _ he)⟩
theorem Fine.showable {A : List PyData} (hA : ∀ d ∈ A, leafOk d = true) {d : PyData} (h : Fine A d) : d.showable = true := by
  induction h with
  | @«at» d h =>
    have h1 := hA d h
    unfold leafOk at h1
    rw [Bool.and_eq_true] at h1
    exact h1.1
  | @tup ds _ ih => simp only [PyData.showable]; exact showAll_of ih
  | @lst ds _ ih => simp only [PyData.showable]; exact showAll_of ih
theorem Fine.repr {A : List PyData} (hA : ∀ d ∈ A, leafOk d = true) {d : PyData} (h : Fine A d) (hd : d.depth ≤ 100) (hc : cnt d ≤ 300000) : reprOk d = true := by
  unfold reprOk
  have h1 := h.shown hA
  rw [h.showable hA, decide_eq_true hd, decide_eq_true (Nat.le_trans (m := 15000000) (by omega) (by decide))]
  rfl
theorem isF_tup {ws : List PyData} {ds : List PyData} (h : isF ws (.tuple ds) = true) : ∃ x tl, ds = .str x :: tl ∧ (∀ d ∈ tl, isF ws d = true) ∧ (inS ao (.str x) = true ∨ (inS nsa (.str x) = true ∧ tl.length = 1)) := by
  rw [isF, Bool.and_eq_true] at h
  cases ds with
  | nil => cases h.1
  | cons hd tl =>
    have h1 : (inS ao hd || (inS nsa hd && tl.length == 1)) = true := h.1
    rw [Bool.or_eq_true, Bool.and_eq_true, beq_iff_eq] at h1
    have s : tyN hd = "str" := by
      rcases h1 with q | q
      · exact inS_str (by decide) q
      · exact inS_str (by decide) q.1
    have h2 := h.2
    rw [isF1, isFs_all] at h2
    cases hd with
    | str x => exact ⟨x, tl, rfl, fun d hd => List.all_eq_true.mp h2 d hd, h1⟩
    | none => exact absurd s (by decide)
    | bool _ => exact absurd s (by simp [tyN])
    | int _ => exact absurd s (by simp [tyN])
    | list _ => exact absurd s (by simp [tyN])
    | tuple _ => exact absurd s (by simp [tyN])
    | dict _ => exact absurd s (by simp [tyN])
mutual
theorem isF_size (ws : List PyData) : ∀ d : PyData, isF ws d = true → cnt d ≤ 2 * sgn d ∧ d.depth ≤ sgn d
  | .tuple [], h => by cases h
  | .tuple (hd :: tl), h => by
    obtain ⟨x, tl0, e, hp, _⟩ := isF_tup h
    injection e with e1 e2
    subst e1
    rw [← e2] at hp
    have ih := isFs_size ws tl hp
    have e3 : cnt (.tuple (.str x :: tl)) = 1 + (1 + cnts tl) := rfl
    have e4 : sgn (.tuple (.str x :: tl)) = 1 + sgns tl := by rw [sgn, sgn1]
    have e5 : (PyData.tuple (.str x :: tl)).depth = max (PyData.str x).depth (PyData.depthAll tl) + 1 := by simp [PyData.depth, PyData.depthAll]
    have e6 : (PyData.str x).depth = 0 := by simp [PyData.depth]
    omega
  | .str x, _ => by
    have e6 : (PyData.str x).depth = 0 := by simp [PyData.depth]
    have e7 : sgn (.str x) = 1 := by rw [sgn]; intro ds q; cases q
    have e8 : cnt (.str x) = 1 := by rw [cnt] <;> (intro ds q; cases q)
    omega
  | .none, h => by cases h
  | .bool _, h => by cases h
  | .int _, h => by cases h
  | .list _, h => by cases h
  | .dict _, h => by cases h
theorem isFs_size (ws : List PyData) : ∀ ds : List PyData, (∀ d ∈ ds, isF ws d = true) → cnts ds ≤ 2 * sgns ds ∧ PyData.depthAll ds ≤ sgns ds
  | [], _ => by simp [cnts, PyData.depthAll]
  | d :: ds, h => by
    have h1 := isF_size ws d (h d (List.mem_cons_self ..))
    have h2 := isFs_size ws ds fun e he => h e (List.mem_cons_of_mem _ he)
    simp only [cnts, sgns, PyData.depthAll]
    omega
end
end VL
set_option Elab.async false
set_option linter.all false
set_option maxRecDepth 100000
set_option maxHeartbeats 1000000
namespace VL
variable [Ob]
open PySem PySem.Spec L2
open PyProof.Rows hiding St
section
variable {z z1 : AS} {i : Nat} {d e w : PyData} {fa fb : AS → M PyData} {g1 g2 : AS → M Fl} {R : Fl → Prop} {P : PyData → Prop} {c : AS → M Bool} {b : Bool}
theorem mem_range {m : Nat} {d : PyData} (h : d ∈ rangeD 0 m) : ∃ k : Nat, k < m ∧ d = .int (k : Int) := by
  unfold rangeD at h
  obtain ⟨k, h1, h2⟩ := List.mem_map.mp h
  exact ⟨k, List.mem_range.mp h1, by rw [← h2]; congr 1; omega⟩
end
end VL
namespace VL.cm
variable [Ob]
open PySem PySem.Spec L2 VL
open PyProof.Rows hiding St
theorem parts_of {ws : List PyData} {ds : List PyData} (h : isF ws (.tuple ds) = true) : ∃ hd tl, ds = hd :: tl ∧ (∀ d ∈ tl, isF ws d = true) ∧ isN (.tuple (hd :: tl)) = true := by
  rw [isF, Bool.and_eq_true] at h
  cases ds with
  | nil => cases h.1
  | cons hd tl =>
    refine ⟨hd, tl, rfl, fun d hd => ?_, h.1⟩
    have h2 := h.2
    rw [isF1, isFs_all] at h2
    exact List.all_eq_true.mp h2 d hd
theorem intsOf_map (g : PyData → Nat) : ∀ ds : List PyData, intsOf (ds.map fun d => .int (g d : Int)) = some ((ds.map fun d => (g d : Int)))
  | [] => rfl
  | d :: ds => by
    show (intsOf _).map _ = _
    rw [intsOf_map g ds]
    rfl
theorem sum_cast (g : PyData → Nat) : ∀ ds : List PyData, (ds.map fun d => (g d : Int)).sum = (((ds.map g).sum : Nat) : Int)
  | [] => rfl
  | d :: ds => by
    rw [List.map_cons, List.sum_cons, List.map_cons, List.sum_cons, sum_cast g ds]
    omega
theorem isF_mk {ws : List PyData} {hd : PyData} {tl : List PyData} (h : isN (.tuple (hd :: tl)) = true) (hp : ∀ d ∈ tl, isF ws d = true) : isF ws (.tuple (hd :: tl)) = true := by
  rw [isF, h, isF1, isFs_all, List.all_eq_true.mpr hp]
  rfl
theorem sgn_mk (hd : PyData) (tl : List PyData) : sgn (.tuple (hd :: tl)) = 1 + sgns tl := by rw [sgn, sgn1]
theorem sgn_pos (d : PyData) : 1 ≤ sgn d := by cases d <;> simp [sgn]
theorem len_sgns : ∀ ds : List PyData, ds.length ≤ sgns ds
  | [] => Nat.le_refl _
  | d :: ds => by
    have h1 := sgn_pos d
    have h2 := len_sgns ds
    simp only [List.length_cons, sgns]
    omega
theorem ws_F {ws : List PyData} (hw : allS ws = true) : ∀ d ∈ ws, isF ws d = true ∧ sgn d = 1 := fun d hd => by
  have e : (tyN d == "str") = true := List.all_eq_true.mp hw d hd
  cases d with
  | str x =>
    refine ⟨?_, by rw [sgn]; intro ds q; cases q⟩
    rw [isF]
    exact List.any_eq_true.mpr ⟨.str x, hd, by simp [PyData.eqv]⟩
  | none => exact absurd e (by decide)
  | bool _ => exact absurd e (by simp [tyN])
  | int _ => exact absurd e (by simp [tyN])
  | list _ => exact absurd e (by simp [tyN])
  | tuple _ => exact absurd e (by simp [tyN])
  | dict _ => exact absurd e (by simp [tyN])
end VL.cm
set_option Elab.async false
set_option linter.all false
set_option maxRecDepth 100000
namespace VL
variable [Ob]
open PySem PySem.Spec L2
open PyProof.Rows hiding St
theorem cnts_take : ∀ (n : Nat) (ds : List PyData), cnts (ds.take n) + cnts (ds.drop n) = cnts ds
  | 0, ds => by simp [cnts]
  | n + 1, [] => by simp [cnts]
  | n + 1, d :: ds => by
    have := cnts_take n ds
    simp only [List.take_succ_cons, List.drop_succ_cons, cnts]
    omega
theorem cnts_rev : ∀ ds : List PyData, cnts ds.reverse = cnts ds
  | [] => rfl
  | d :: ds => by
    rw [List.reverse_cons, cnts_app, cnts_rev ds]
    simp only [cnts]
    omega
theorem depthAll_le {D : Nat} : ∀ {ds : List PyData}, (∀ d ∈ ds, d.depth ≤ D) → PyData.depthAll ds ≤ D
  | [], _ => by simp [PyData.depthAll]
  | d :: ds, h => by
    simp only [PyData.depthAll]
    exact Nat.max_le.mpr ⟨h d (List.mem_cons_self ..), depthAll_le fun e he => h e (List.mem_cons_of_mem _ he)⟩
theorem depth_tup (ds : List PyData) : (PyData.tuple ds).depth = PyData.depthAll ds + 1 := by simp [PyData.depth]
theorem depth_lst (ds : List PyData) : (PyData.list ds).depth = PyData.depthAll ds + 1 := by simp [PyData.depth]
theorem cnt_tup (ds : List PyData) : cnt (.tuple ds) = 1 + cnts ds := by rw [cnt]
theorem cnt_lst (ds : List PyData) : cnt (.list ds) = 1 + cnts ds := by rw [cnt]
end VL
set_option Elab.async false
set_option linter.all false
set_option maxRecDepth 100000
namespace VL
open PySem PySem.Spec L2
open PyProof.Rows hiding St
def eChain (g g2 : PyData → PyData → Option Bool) (fa fb fc : AS → M PyData) : AS → M PyData := fun z => M.bnd (fa z) fun d => M.bnd (fb z) fun e => M.bnd (M.opt (g d e)) fun k => if k then M.bnd (fc z) fun w => M.opt (bl g2 e w) else M.pur (.bool false)
section
variable {X : Cx} {e a b c tg : Expr} {es : List Expr} {fa fb fc : AS → M PyData} {pos : Pos}
theorem chain_of [NTb] {r r2 : R2} {g g2 : PyData → PyData → Option Bool} (hg : OpD X.K r (bl g)) (hg2 : OpD X.K r2 (bl g2)) {σ : L2.St} {H : Hp} {Q : VK} {dk : Option Dk} {F : Hp} {z : AS} {δ δ' : DS} {w : PyData} (hf : eChain g g2 fa fb fc z δ = some (w, δ')) (ok : Ok X.K dk z δ σ F H)
    (k : ∀ v F' H', Ext dk F H F' H' → DeckOk dk δ' F' H' → Dv X.K F' v w → Q v H') : tChain r r2 (tE X.K fa) (tE X.K fb) (tE X.K fc) σ H Q := by
  obtain ⟨d, δ1, h1, hf1⟩ := M.bnd_some hf
  obtain ⟨e, δ2, h2, hf2⟩ := M.bnd_some hf1
  obtain ⟨t, δ3, h3, hf3⟩ := M.bnd_some hf2
  obtain ⟨h4, e4⟩ := M.opt_some h3
  subst e4
  refine ⟨dk, F, z, δ, d, δ1, h1, ok, fun v1 F1 H1 x1 d1 r1 => ⟨dk, F1, z, δ1, e, _, h2, ok.ext x1 d1, fun v2 F2 H2 x2 d2 r2 => ?_⟩⟩
  refine hg dk F2 H2 v1 v2 d e (.bool t) _ x2.fh (Dv.mono x2.ff r1) r2 (by unfold bl; rw [h4]; rfl) fun v F3 H3 gr r => ?_
  cases r
  refine ⟨t, rfl, ?_⟩
  have d3 := gr.d _ d2
  have x13 := x1.trans (x2.trans gr.x)
  cases t with
  | false =>
    rw [if_neg Bool.false_ne_true] at hf3 ⊢
    obtain ⟨e1, e2⟩ := M.pur_some hf3
    subst e1 e2
    exact k _ F3 H3 x13 d3 (.bl _)
  | true =>
    rw [if_pos rfl] at hf3 ⊢
    obtain ⟨u, δ4, h5, hf4⟩ := M.bnd_some hf3
    obtain ⟨h6, e6⟩ := M.opt_some hf4
    subst e6
    exact ⟨dk, F3, z, _, u, _, h5, ok.ext x13 d3, fun v4 F4 H4 x4 d4 r4 => hg2 dk F4 H4 v2 v4 e u w Q x4.fh (Dv.mono (gr.x.ff.trans x4.ff) r2) r4 h6 fun v5 F5 H5 g5 r5 => k v5 F5 H5 (x13.trans (x4.trans g5.x)) (g5.d _ d4) r5⟩
theorem je_chain [NTb] {op op2 : CmpOp} {r r2 : R2} {g g2 : PyData → PyData → Option Bool} (ho : OpR X (compareOp op) r) (hg : OpD X.K r (bl g)) (ho2 : OpR X (compareOp op2) r2) (hg2 : OpD X.K r2 (bl g2)) (ha : JE X fa a) (hb : JE X fb b) (hc : JE X fc c)
    (hm : lastMarks [op, op2] [b, c] = false := by with_unfolding_all rfl) : JE X (eChain g g2 fa fb fc) (.Compare a [op, op2] [b, c] pos) :=
  PE_imp (pe_chain ho ho2 ha hb hc hm) fun σ H Q ⟨dk, F, z, δ, d, δ', hf, ok, k⟩ => chain_of hg hg2 hf ok k
def cChain (g g2 : PyData → PyData → Option Bool) (fa fb fc : AS → M PyData) : AS → M Bool := toB (eChain g g2 fa fb fc)
end
end VL
set_option Elab.async false
set_option linter.all false
set_option maxRecDepth 100000
set_option maxHeartbeats 3200000
namespace VL
open PySem PySem.Spec L2 PySem.Froz
open PyProof.Rows hiding St
def XD (P : Program) (w : World) (D : SD) (l : List Str) : Prop := TxOk P w D l ∧ l.Nodup ∧ Ris D.2.2.place.toList ∧ (w.params.followText "set-order" = true ∨ D.2.2.led = true)
def XS (P : Program) (w : World) (h : Heap) (a : Addr) (l : List Str) : Prop := ∃ D : SD, h.get? a = some (sObj "set" D) ∧ XD P w D l
section
variable {P : Program} {w : World} {A : Around} {E : Value → Shared → Prop} {s : Shared}
theorem XS.at {h h' : Heap} {a : Addr} {l : List Str} (x : XS P w h a l) (k : ∀ o, h.get? a = some o → h'.get? a = some o) : XS P w h' a l := by
  obtain ⟨D, e, r⟩ := x
  exact ⟨D, k _ e, r⟩
end
end VL
set_option Elab.async false
set_option linter.all false
set_option maxRecDepth 100000
set_option maxHeartbeats 3200000
namespace VL
open PySem PySem.Spec L2 PySem.Froz
open PyProof.Rows hiding St
end VL
set_option Elab.async false
set_option linter.all false
set_option maxRecDepth 100000
set_option maxHeartbeats 3200000
namespace VL
open PySem PySem.Spec L2 PySem.Froz
open PyProof.Rows hiding St
end VL
set_option Elab.async false
set_option linter.all false
set_option maxRecDepth 100000
namespace VL
open PySem PySem.Spec L2 PySem.Froz
open PyProof.Rows hiding St
def ltS (x y : Str) : Bool := ltCps x.cps.toList y.cps.toList
def insS (x : Str) : List Str → List Str
  | [] => [x]
  | y :: r => if x = y then y :: r else if ltS x y = true then x :: y :: r else y :: insS x r
/-- each once, ascending -/
def sortTx (l : List Str) : List Str := l.foldr insS []
end VL
set_option Elab.async false
set_option linter.all false
set_option maxRecDepth 100000
set_option maxHeartbeats 3200000
namespace VL
open PySem PySem.Spec L2 PySem.Froz
open PyProof.Rows hiding St
end VL
set_option Elab.async false
set_option linter.all false
set_option maxRecDepth 100000
namespace VL
open PySem PySem.Spec L2 PySem.Froz
open PyProof.Rows hiding St
theorem len_sub : ∀ {l m : List Str}, l.Nodup → (∀ x ∈ l, x ∈ m) → l.length ≤ m.length
  | [], _, _, _ => Nat.zero_le _
  | x :: l, m, nd, sub => by
    obtain ⟨nx, nl⟩ := List.nodup_cons.mp nd
    obtain ⟨m1, m2, rfl⟩ := List.append_of_mem (sub x (List.mem_cons_self ..))
    have ih : l.length ≤ (m1 ++ m2).length := len_sub nl fun y hy => by
      rcases List.mem_append.mp (sub y (List.mem_cons_of_mem _ hy)) with q | q
      · exact List.mem_append_left _ q
      · rcases List.mem_cons.mp q with q | q
        · subst q; exact absurd hy nx
        · exact List.mem_append_right _ q
    simp at ih ⊢
    omega
/-- sorted(set(e)), e a list of texts: a list of one's own -/
def strsOf : List PyData → Option (List Str)
  | [] => some []
  | .str x :: r => (strsOf r).map (x :: ·)
  | _ :: _ => none
def txD (ts : List Str) : List PyData := ts.map .str
def ssC (d : PyData) : Option (List PyData) := match d with
  | .list ds => (strsOf ds).bind fun ts => if (sortTx ts).length < 64 then some (txD (sortTx ts)) else none
  | .tuple ds => (strsOf ds).bind fun ts => if (sortTx ts).length < 64 then some (txD (sortTx ts)) else none
  | _ => none
def oSS (f : AS → M PyData) : AS → M (List PyData) := fun z => M.bnd (f z) fun d => M.opt (ssC d)
end VL
set_option Elab.async false
set_option linter.all false
set_option maxRecDepth 100000
namespace VL
open PySem PySem.Spec L2
open PyProof.Rows hiding St
def isNone : PyData → Bool
  | .none => true
  | _ => false
def isC (d e : PyData) : Option Bool := match e, d with
  | .none, d => some (isNone d)
  | .bool b, .bool a => some (decide (a = b))
  | _, _ => none
def isNotC (d e : PyData) : Option Bool := (isC d e).map not
section
variable {X : Cx} {pos : Pos}
theorem dv_isN {K : PySem.W.Frag} {F : Hp} {x : V} {d : PyData} (h : Dv K F x d) : decide (x = .non) = isNone d := by
  cases h with
  | non => rfl
  | bl _ => exact decide_eq_false (by intro z; cases z)
  | int _ => exact decide_eq_false (by intro z; cases z)
  | str _ => exact decide_eq_false (by intro z; cases z)
  | lst _ _ => exact decide_eq_false (by intro z; cases z)
  | tup _ _ => exact decide_eq_false (by intro z; cases z)
  | dct _ _ => exact decide_eq_false (by intro z; cases z)
def rIs (n : Bool) : R2 := fun x y H Q => (y = .non ∧ Q (.bl (if n then !decide (x = .non) else decide (x = .non))) H) ∨ ∃ a b : Bool, x = .bl a ∧ y = .bl b ∧ Q (.bl (if n then !decide (a = b) else decide (a = b))) H
theorem or_is : OpR X (compareOp .Is) (rIs false) := op_isN.or op_isBl
theorem or_isNot : OpR X (compareOp .IsNot) (rIs true) := op_notN.or op_notBl
theorem od_is [NTb] : OpD X.K (rIs false) (bl isC) := fun dk F H x y d e w Q sm r1 r2 h k => by
  obtain ⟨b, hb, rfl⟩ := bl_some h
  cases r2 with
  | non =>
    have hb : some (isNone d) = some b := hb
    injection hb with hb
    refine .inl ⟨rfl, k _ F H (.refl sm) ?_⟩
    show Dv X.K F (.bl (decide (x = .non))) _
    rw [dv_isN r1, hb]
    exact .bl b
  | bl c =>
    cases r1 with
    | bl a =>
      have hb : some (decide (a = c)) = some b := hb
      injection hb with hb
      refine .inr ⟨a, c, rfl, rfl, k _ F H (.refl sm) ?_⟩
      show Dv X.K F (.bl (decide (a = c))) _
      rw [hb]
      exact .bl b
    | non => cases hb
    | int _ => cases hb
    | str _ => cases hb
    | lst _ _ => cases hb
    | tup _ _ => cases hb
    | dct _ _ => cases hb
  | int _ => cases hb
  | str _ => cases hb
  | lst _ _ => cases hb
  | tup _ _ => cases hb
  | dct _ _ => cases hb
theorem od_isNot [NTb] : OpD X.K (rIs true) (bl isNotC) := fun dk F H x y d e w Q sm r1 r2 h k => by
  obtain ⟨b, hb, rfl⟩ := bl_some h
  cases r2 with
  | non =>
    have hb : some (!isNone d) = some b := hb
    injection hb with hb
    refine .inl ⟨rfl, k _ F H (.refl sm) ?_⟩
    show Dv X.K F (.bl (!decide (x = .non))) _
    rw [dv_isN r1, hb]
    exact .bl b
  | bl c =>
    cases r1 with
    | bl a =>
      have hb : some (!decide (a = c)) = some b := hb
      injection hb with hb
      refine .inr ⟨a, c, rfl, rfl, k _ F H (.refl sm) ?_⟩
      show Dv X.K F (.bl (!decide (a = c))) _
      rw [hb]
      exact .bl b
    | non => cases hb
    | int _ => cases hb
    | str _ => cases hb
    | lst _ _ => cases hb
    | tup _ _ => cases hb
    | dct _ _ => cases hb
  | int _ => cases hb
  | str _ => cases hb
  | lst _ _ => cases hb
  | tup _ _ => cases hb
  | dct _ _ => cases hb
def isiIC (d : PyData) : Option PyData := some (.bool (tyN d == "int" || tyN d == "bool"))
theorem je_isiI [NTb] {a : Expr} {fa : AS → M PyData} {T : Str} {p q : Pos} (hgl : Gl X "isinstance") (hm : X.mg "isinstance" = none) (hglT : Gl X T) (hmT : X.mg T = none) (hv : bootBuiltins T = some (.type "int")) (ha : JE X fa a) (ht : ∀ m ∈ tyNames, kitB m "int" = some (m == "int" || m == "bool"))
    (hn : T ≠ "__name__" := by decide) (hd : (T == ("__debug__" : Str)) = false := by decide)
    (hs : starEach [a, .Name T q] X.env = (false, eval a X.env) :: starEach [.Name T q] X.env := by rfl) (hs2 : starEach [.Name T q] X.env = (false, eval (.Name T q) X.env) :: starEach [] X.env := by rfl) (hpl : (backTo pos (starEach [.Name T q] X.env)).any (·.1) = false := by rfl) :
    JE X (eUn isiIC fa) (.Call (.Name "isinstance" p) [a, .Name T q] [] pos) :=
  PE_imp (pe_callB call_isi hgl hm (by decide +kernel) (pa_cons ha (pa_cons (pe_bltn (v := .ty "int") hglT hmT hv rfl hn hd) pa_nil hs2) hs) (by decide) (by decide) hs hpl) fun σ H Q ⟨dk, F, z, δ, w, δ', hf, ok, k⟩ => by
    obtain ⟨d, δ1, h1, hf1⟩ := M.bnd_some hf
    obtain ⟨h2, rfl⟩ := M.opt_some hf1
    injection h2 with h2
    subst h2
    refine ⟨dk, F, z, δ, d, _, h1, ok, fun v F1 H1 x1 d1 r1 => ?_⟩
    exact ⟨v, .ty "int", _, _, _, rfl, .ty "int", tyX_of x1.fh r1, kit_ty (ht _ (tyN_mem d)), k _ F1 H1 x1 d1 (.bl _)⟩
end
end VL
set_option Elab.async false
set_option linter.all false
set_option maxRecDepth 100000
namespace VL
open PySem PySem.Spec L2
open PyProof.Rows hiding St
@[irreducible] def bigN : Nat := 300000
theorem bigN_eq : bigN = 300000 := by unfold bigN; rfl
def W {α : Type} (x : M α) (δ : DS) (Q : α → DS → Prop) : Prop := ∃ a δ', x δ = some (a, δ') ∧ Q a δ'
def oW {α : Type} (o : Option α) (Q : α → Prop) : Prop := match o with
  | some a => Q a
  | none => False
@[simp] theorem oW_some {α : Type} {a : α} {Q : α → Prop} : oW (some a) Q ↔ Q a := Iff.rfl
@[simp] theorem oW_none {α : Type} {Q : α → Prop} : oW (none : Option α) Q ↔ False := Iff.rfl
theorem oW_iff {α : Type} {o : Option α} {Q : α → Prop} : oW o Q ↔ ∃ a, o = some a ∧ Q a := by cases o <;> simp
@[simp] theorem oW_map {α β : Type} {o : Option α} {f : α → β} {Q : β → Prop} : oW (o.map f) Q ↔ oW o fun a => Q (f a) := by cases o <;> simp
theorem oW_mono {α : Type} {o : Option α} {Q R : α → Prop} (h : oW o Q) (k : ∀ a, Q a → R a) : oW o R := by cases o with
  | none => exact h
  | some a => exact k a h
def asB : PyData → Option Bool
  | .bool b => some b
  | _ => none
def asI : PyData → Option Int
  | .int i => some i
  | _ => none
@[simp] theorem asB_b {b : Bool} : asB (.bool b) = some b := rfl
@[simp] theorem asI_i {i : Int} : asI (.int i) = some i := rfl
def datAt : AS → Nat → Option PyData
  | [], _ => none
  | .dat d :: _, 0 => some d
  | _ :: _, 0 => none
  | _ :: z, i + 1 => datAt z i
@[simp] theorem datAt_0 {d : PyData} {z : AS} : datAt (.dat d :: z) 0 = some d := rfl
@[simp] theorem datAt_s {s : SV} {z : AS} {i : Nat} : datAt (s :: z) (i + 1) = datAt z i := by cases s <;> rfl
theorem datAt_iff {d : PyData} : ∀ {z : AS} {i : Nat}, datAt z i = some d ↔ z[i]? = some (.dat d)
  | [], _ => by simp [datAt]
  | s :: z, 0 => by cases s <;> simp [datAt]
  | s :: z, i + 1 => by rw [datAt_s, List.getElem?_cons_succ]; exact datAt_iff
def ownOf : AS → Nat → Option (List PyData)
  | [], _ => none
  | .own d :: _, 0 => some d
  | _ :: _, 0 => none
  | _ :: z, i + 1 => ownOf z i
@[simp] theorem ownOf_0 {d : List PyData} {z : AS} : ownOf (.own d :: z) 0 = some d := rfl
@[simp] theorem ownOf_s {s : SV} {z : AS} {i : Nat} : ownOf (s :: z) (i + 1) = ownOf z i := by cases s <;> rfl
theorem ownOf_iff {d : List PyData} : ∀ {z : AS} {i : Nat}, ownOf z i = some d ↔ z[i]? = some (.own d)
  | [], _ => by simp [ownOf]
  | s :: z, 0 => by cases s <;> simp [ownOf]
  | s :: z, i + 1 => by rw [ownOf_s, List.getElem?_cons_succ]; exact ownOf_iff
theorem ownAt_of (z : AS) (i : Nat) : ownAt z i = ownOf z i := by
  cases h : ownOf z i with
  | some d => unfold ownAt; rw [ownOf_iff.mp h]
  | none =>
    unfold ownAt
    split
    · rename_i ds e
      rw [← ownOf_iff, h] at e
      cases e
    · rfl
section
variable {α β : Type} {x : M α} {f : α → M β} {δ : DS} {a : α} {z : AS} {i j : Nat}
@[simp] theorem W_pur {Q : α → DS → Prop} : W (M.pur a) δ Q ↔ Q a δ := ⟨fun ⟨_, _, e, q⟩ => by obtain ⟨rfl, rfl⟩ := M.pur_some e; exact q, fun q => ⟨a, δ, rfl, q⟩⟩
@[simp] theorem W_no {Q : α → DS → Prop} : W M.no δ Q ↔ False := ⟨fun ⟨_, _, e, _⟩ => (by cases e), fun q => False.elim q⟩
@[simp] theorem W_opt {o : Option α} {Q : α → DS → Prop} : W (M.opt o) δ Q ↔ oW o fun a => Q a δ := by
  rw [oW_iff]
  exact ⟨fun ⟨b, _, e, q⟩ => by
    obtain ⟨e', rfl⟩ := M.opt_some e
    exact ⟨b, e', q⟩, fun ⟨b, e, q⟩ => ⟨b, δ, by rw [e]; rfl, q⟩⟩
@[simp] theorem W_bnd {Q : β → DS → Prop} : W (M.bnd x f) δ Q ↔ W x δ fun a δ1 => W (f a) δ1 Q := ⟨fun ⟨b, δ2, e, q⟩ => by
  obtain ⟨a, δ1, e1, e2⟩ := M.bnd_some e
  exact ⟨a, δ1, e1, b, δ2, e2, q⟩, fun ⟨a, δ1, e1, b, δ2, e2, q⟩ => ⟨b, δ2, bnd_of e1 e2, q⟩⟩
@[simp] theorem W_ite {c : Prop} [Decidable c] {x y : M α} {Q : α → DS → Prop} : W (if c then x else y) δ Q ↔ if c then W x δ Q else W y δ Q := by split <;> rfl
theorem W.mono {Q R : α → DS → Prop} (h : W x δ Q) (k : ∀ a δ', Q a δ' → R a δ') : W x δ R := let ⟨a, δ', e, q⟩ := h; ⟨a, δ', e, k a δ' q⟩
theorem W_ev {Q : α → DS → Prop} (h : Ev x a) : W x δ Q ↔ Q a δ := ⟨fun ⟨b, δ', e, q⟩ => by rw [h δ] at e; cases e; exact q, fun q => ⟨a, δ, h δ, q⟩⟩
theorem ev_W (h : ∀ δ, W x δ fun b δ' => b = a ∧ δ' = δ) : Ev x a := fun δ => by
  obtain ⟨b, δ', e, rfl, rfl⟩ := h δ
  exact e
theorem tot_W [Ob] {P : α → Prop} (h : ∀ δ, Good δ → W x δ fun b δ' => Good δ' ∧ P b) : Tot x P := fun δ g => h δ g
theorem W_tot [Ob] {P : α → Prop} {Q : α → DS → Prop} (h : Tot x P) (g : Good δ) (k : ∀ a δ', Good δ' → P a → Q a δ') : W x δ Q := by
  obtain ⟨a, δ', e, g', p⟩ := h δ g
  exact ⟨a, δ', e, k a δ' g' p⟩
variable {fa fb fc : AS → M PyData} {g1 g2 : AS → M Fl} {c c2 : AS → M Bool} {d : PyData} {ga : AS → M (List AV)} {fo : AS → M (List PyData)} {po ph : AS → M (Option Int)} {t : PyData → AS → Option AS} {op : PyData → PyData → Option PyData} {ob ob2 : PyData → PyData → Option Bool} {un : PyData → Option PyData}
@[simp] theorem W_eC {Q : PyData → DS → Prop} : W (eC d z) δ Q ↔ Q d δ := W_pur
@[simp] theorem W_eVar {Q : PyData → DS → Prop} : W (eVar i z) δ Q ↔ oW (datAt z i) fun d => Q d δ := by
  rw [oW_iff]
  exact ⟨fun ⟨b, δ', e, q⟩ => by
    obtain ⟨h, rfl⟩ := eVar_some e
    exact ⟨b, datAt_iff.mpr h, q⟩, fun ⟨d, e, q⟩ => ⟨d, δ, ev_var (datAt_iff.mp e) δ, q⟩⟩
@[simp] theorem W_eOwn {Q : PyData → DS → Prop} : W (eOwn i z) δ Q ↔ oW (ownOf z i) fun ds => Q (.list ds) δ := by
  rw [oW_iff]
  exact ⟨fun ⟨b, δ', e, q⟩ => by
    obtain ⟨ds, rfl, h, rfl⟩ := eOwn_some e
    exact ⟨ds, ownOf_iff.mpr h, q⟩, fun ⟨ds, e, q⟩ => ⟨.list ds, δ, ev_own (ownOf_iff.mp e) δ, q⟩⟩
@[simp] theorem W_eBin {Q : PyData → DS → Prop} : W (eBin op fa fb z) δ Q ↔ W (fa z) δ fun d δ => W (fb z) δ fun e δ => oW (op d e) fun w => Q w δ := by unfold eBin; simp
@[simp] theorem W_eUn {Q : PyData → DS → Prop} : W (eUn un fa z) δ Q ↔ W (fa z) δ fun d δ => oW (un d) fun w => Q w δ := by unfold eUn; simp
@[simp] theorem W_cBin {Q : Bool → DS → Prop} : W (cBin ob fa fb z) δ Q ↔ W (fa z) δ fun d δ => W (fb z) δ fun e δ => oW (ob d e) fun w => Q w δ := by unfold cBin; simp
@[simp] theorem W_cTru {Q : Bool → DS → Prop} : W (cTru fa z) δ Q ↔ W (fa z) δ fun d δ => oW (truC d) fun w => Q w δ := by unfold cTru; simp
@[simp] theorem W_cNot {Q : Bool → DS → Prop} : W (cNot c z) δ Q ↔ W (c z) δ fun b δ => Q (!b) δ := by unfold cNot; simp
@[simp] theorem W_cAnd {Q : Bool → DS → Prop} : W (cAnd c c2 z) δ Q ↔ W (c z) δ fun b δ => if b = true then W (c2 z) δ Q else Q false δ := by unfold cAnd; simp
@[simp] theorem W_cOr {Q : Bool → DS → Prop} : W (cOr c c2 z) δ Q ↔ W (c z) δ fun b δ => if b = true then Q true δ else W (c2 z) δ Q := by unfold cOr; simp
theorem W_toB {Q : Bool → DS → Prop} : W (toB fa z) δ Q ↔ W (fa z) δ fun d δ => oW (asB d) fun b => Q b δ := by
  unfold toB
  rw [W_bnd]
  constructor <;> exact fun h => h.mono fun d δ q => by cases d <;> first | exact W_pur.mp q | exact W_pur.mpr q | exact (W_no.mp q).elim | exact q.elim
@[simp] theorem W_eAnd {Q : PyData → DS → Prop} : W (eAnd fa fb z) δ Q ↔ W (fa z) δ fun d δ => oW (asB d) fun b => if b = true then W (fb z) δ Q else Q (.bool false) δ := by unfold eAnd; simp [W_toB]
@[simp] theorem W_eOr {Q : PyData → DS → Prop} : W (eOr fa fb z) δ Q ↔ W (fa z) δ fun d δ => oW (asB d) fun b => if b = true then Q (.bool true) δ else W (fb z) δ Q := by unfold eOr; simp [W_toB]
@[simp] theorem W_eNot {Q : PyData → DS → Prop} : W (eNot fa z) δ Q ↔ W (fa z) δ fun d δ => oW (asB d) fun b => Q (.bool (!b)) δ := by unfold eNot; simp [W_toB]
@[simp] theorem W_eIf {Q : PyData → DS → Prop} : W (eIf c fa fb z) δ Q ↔ W (c z) δ fun b δ => if b = true then W (fa z) δ Q else W (fb z) δ Q := by unfold eIf; simp
@[simp] theorem W_eChain {Q : PyData → DS → Prop} : W (eChain ob ob2 fa fb fc z) δ Q ↔ W (fa z) δ fun d δ => W (fb z) δ fun e δ => oW (ob d e) fun k => if k = true then W (fc z) δ fun w δ => oW (ob2 e w) fun b => Q (.bool b) δ else Q (.bool false) δ := by unfold eChain; simp [bl]
@[simp] theorem W_cChain {Q : Bool → DS → Prop} : W (cChain ob ob2 fa fb fc z) δ Q ↔ W (eChain ob ob2 fa fb fc z) δ fun d δ => oW (asB d) fun b => Q b δ := by unfold cChain; rw [W_toB]
@[simp] theorem W_aNil {Q : List AV → DS → Prop} : W (aNil z) δ Q ↔ Q [] δ := W_pur
@[simp] theorem W_aCons {Q : List AV → DS → Prop} : W (aCons fa ga z) δ Q ↔ W (fa z) δ fun d δ => W (ga z) δ fun r δ => Q (.d d :: r) δ := by unfold aCons; simp
@[simp] theorem W_aDeck {Q : List AV → DS → Prop} (h : z[i]? = some .deck) : W (aDeck i ga z) δ Q ↔ W (ga z) δ fun r δ => Q (.deck :: r) δ := by unfold aDeck; rw [h]; simp
@[simp] theorem W_aStar {Q : List AV → DS → Prop} : W (aStar fa ga z) δ Q ↔ W (fa z) δ fun d δ => oW (seqD d) fun ds => W (ga z) δ fun r δ => Q (ds.map AV.d ++ r) δ := by unfold aStar; simp
@[simp] theorem W_eTup {Q : PyData → DS → Prop} : W (eTup ga z) δ Q ↔ W (ga z) δ fun as δ => oW (avs as) fun ds => ds.length ≤ sizeLine ∧ Q (.tuple ds) δ := by
  unfold eTup
  simp only [W_bnd, W_opt]
  constructor <;> exact fun h => h.mono fun as δ q => by
    cases e : avs as with
    | none => rw [e] at q; exact q.elim
    | some ds =>
      rw [e] at q
      by_cases l : ds.length ≤ sizeLine
      · first | (have q : oW (if ds.length ≤ sizeLine then some (PyData.tuple ds) else none) (fun a => Q a δ) := q; rw [if_pos l] at q; exact ⟨l, q⟩) | (show oW (if ds.length ≤ sizeLine then some (PyData.tuple ds) else none) (fun a => Q a δ); rw [if_pos l]; exact q.2)
      · first | (have q : oW (if ds.length ≤ sizeLine then some (PyData.tuple ds) else none) (fun a => Q a δ) := q; rw [if_neg l] at q; exact q.elim) | exact absurd q.1 l
@[simp] theorem W_eLst {Q : PyData → DS → Prop} : W (eLst ga z) δ Q ↔ W (ga z) δ fun as δ => oW (avs as) fun ds => ds.length ≤ sizeLine ∧ Q (.list ds) δ := by
  unfold eLst
  simp only [W_bnd, W_opt]
  constructor <;> exact fun h => h.mono fun as δ q => by
    cases e : avs as with
    | none => rw [e] at q; exact q.elim
    | some ds =>
      rw [e] at q
      by_cases l : ds.length ≤ sizeLine
      · first | (have q : oW (if ds.length ≤ sizeLine then some (PyData.list ds) else none) (fun a => Q a δ) := q; rw [if_pos l] at q; exact ⟨l, q⟩) | (show oW (if ds.length ≤ sizeLine then some (PyData.list ds) else none) (fun a => Q a δ); rw [if_pos l]; exact q.2)
      · first | (have q : oW (if ds.length ≤ sizeLine then some (PyData.list ds) else none) (fun a => Q a δ) := q; rw [if_neg l] at q; exact q.elim) | exact absurd q.1 l
@[simp] theorem W_oLst {Q : List PyData → DS → Prop} : W (oLst ga z) δ Q ↔ W (ga z) δ fun as δ => oW (avs as) fun ds => ds.length ≤ sizeLine ∧ Q ds δ := by
  unfold oLst
  simp only [W_bnd, W_opt]
  constructor <;> exact fun h => h.mono fun as δ q => by
    cases e : avs as with
    | none => rw [e] at q; exact q.elim
    | some ds =>
      rw [e] at q
      by_cases l : ds.length ≤ sizeLine
      · first | (have q : oW (if ds.length ≤ sizeLine then some ds else none) (fun a => Q a δ) := q; rw [if_pos l] at q; exact ⟨l, q⟩) | (show oW (if ds.length ≤ sizeLine then some ds else none) (fun a => Q a δ); rw [if_pos l]; exact q.2)
      · first | (have q : oW (if ds.length ≤ sizeLine then some ds else none) (fun a => Q a δ) := q; rw [if_neg l] at q; exact q.elim) | exact absurd q.1 l
@[simp] theorem W_eCall {fn : List AV → M PyData} {Q : PyData → DS → Prop} : W (eCall fn ga z) δ Q ↔ W (ga z) δ fun as δ => W (fn as) δ Q := by unfold eCall; simp
@[simp] theorem W_oE {Q : PyData → DS → Prop} : W (oE fo z) δ Q ↔ W (fo z) δ fun ds δ => Q (.list ds) δ := by unfold oE; simp
@[simp] theorem W_oList {Q : List PyData → DS → Prop} : W (oList fa z) δ Q ↔ W (fa z) δ fun d δ => oW (listC d) fun ds => Q ds δ := by unfold oList; simp
@[simp] theorem W_oSS {Q : List PyData → DS → Prop} : W (oSS fa z) δ Q ↔ W (fa z) δ fun d δ => oW (ssC d) fun ds => Q ds δ := by unfold oSS; simp
@[simp] theorem W_iOf {Q : List PyData → DS → Prop} : W (iOf fa z) δ Q ↔ W (fa z) δ fun d δ => oW (itemsD d) fun ds => Q ds δ := by unfold iOf; simp
@[simp] theorem W_iEnumD {Q : List PyData → DS → Prop} : W (iEnumD fa z) δ Q ↔ W (fa z) δ fun d δ => oW (seqD d) fun ds => Q (enumD ds) δ := by unfold iEnumD; simp
@[simp] theorem W_iRange1 {Q : List PyData → DS → Prop} : W (iRange1 fa z) δ Q ↔ W (fa z) δ fun d δ => oW (asI d) fun n => (n < 2 ^ 62 ∧ -(2 ^ 62) ≤ n) ∧ Q (rangeD 0 n.toNat) δ := by
  unfold iRange1
  rw [W_bnd]
  constructor <;> exact fun h => h.mono fun d δ q => by
    cases d with
    | int n =>
      by_cases l : n < 2 ^ 62 ∧ -(2 ^ 62) ≤ n
      · first | (have q : W (if n < 2 ^ 62 ∧ -(2 ^ 62) ≤ n then M.pur (rangeD 0 n.toNat) else M.no) δ Q := q; rw [if_pos l] at q; exact ⟨l, W_pur.mp q⟩) | (show W (if n < 2 ^ 62 ∧ -(2 ^ 62) ≤ n then M.pur (rangeD 0 n.toNat) else M.no) δ Q; rw [if_pos l]; exact W_pur.mpr q.2)
      · first | (have q : W (if n < 2 ^ 62 ∧ -(2 ^ 62) ≤ n then M.pur (rangeD 0 n.toNat) else M.no) δ Q := q; rw [if_neg l] at q; exact (W_no.mp q).elim) | exact absurd q.1 l
    | _ => first | exact (W_no.mp q).elim | exact q.elim
@[simp] theorem W_pNo {Q : Option Int → DS → Prop} : W (pNo z) δ Q ↔ Q none δ := W_pur
@[simp] theorem W_pSo {Q : Option Int → DS → Prop} : W (pSo fa z) δ Q ↔ W (fa z) δ fun d δ => oW (asI d) fun n => Q (some n) δ := by
  unfold pSo
  rw [W_bnd]
  constructor <;> exact fun h => h.mono fun d δ q => by
    cases d with
    | int n => first | exact W_pur.mp q | exact W_pur.mpr q
    | _ => first | exact (W_no.mp q).elim | exact q.elim
@[simp] theorem W_eSl {Q : PyData → DS → Prop} : W (eSl fa po ph z) δ Q ↔ W (fa z) δ fun d δ => W (po z) δ fun lo δ => W (ph z) δ fun hi δ => oW (slC d lo hi) fun w => Q w δ := by unfold eSl; simp
theorem W_oComp {vs : List Nat} {Q : List PyData → DS → Prop} : W (oComp fo t c fa vs z) δ Q ↔ W (fo z) δ fun ds δ => ds.length ≤ sizeLine ∧ W (compL t c fa ds (wipeA z vs)) δ Q := by
  unfold oComp
  rw [W_bnd]
  refine ⟨fun h => h.mono fun ds δ q => ?_, fun h => h.mono fun ds δ ⟨l, q⟩ => ?_⟩
  · by_cases l : ds.length ≤ sizeLine
    · exact ⟨l, by simpa [l] using q⟩
    · simp [l] at q
  · simpa [l] using q
@[simp] theorem W_sSeq {Q : Fl → DS → Prop} : W (sSeq g1 g2 z) δ Q ↔ W (g1 z) δ fun fl δ => match fl with
  | .nx z' => W (g2 z') δ Q
  | f => Q f δ := by
  unfold sSeq
  rw [W_bnd]
  constructor <;> exact fun h => h.mono fun fl δ q => by cases fl <;> simpa using q
@[simp] theorem W_sNil {Q : Fl → DS → Prop} : W (sNil z) δ Q ↔ Q (.nx z) δ := W_pur
@[simp] theorem W_sBrk {Q : Fl → DS → Prop} : W (sBrk z) δ Q ↔ Q (.bk z) δ := W_pur
@[simp] theorem W_sCont {Q : Fl → DS → Prop} : W (sCont z) δ Q ↔ Q (.ct z) δ := W_pur
@[simp] theorem W_sRet {Q : Fl → DS → Prop} : W (sRet fa z) δ Q ↔ W (fa z) δ fun d δ => Q (.rt d) δ := by unfold sRet; simp
@[simp] theorem W_sDrop {Q : Fl → DS → Prop} : W (sDrop fa z) δ Q ↔ W (fa z) δ fun d δ => Q (.nx z) δ := by unfold sDrop; simp
@[simp] theorem W_sIf {Q : Fl → DS → Prop} : W (sIf c g1 g2 z) δ Q ↔ W (c z) δ fun b δ => if b = true then W (g1 z) δ Q else W (g2 z) δ Q := by unfold sIf; simp
@[simp] theorem W_sSet {Q : Fl → DS → Prop} : W (sSet i fa z) δ Q ↔ W (fa z) δ fun d δ => Q (.nx (z.set i (.dat d))) δ := by unfold sSet; simp
@[simp] theorem W_sSetO {Q : Fl → DS → Prop} : W (sSetO i fo z) δ Q ↔ W (fo z) δ fun d δ => Q (.nx (z.set i (.own d))) δ := by unfold sSetO; simp
@[simp] theorem W_sFrz {Q : Fl → DS → Prop} : W (sFrz i g1 z) δ Q ↔ oW (ownOf z i) fun ds => W (g1 (z.set i (.dat (.list ds)))) δ Q := by
  rw [← ownAt_of]
  unfold sFrz ownAt
  split <;> simp_all
@[simp] theorem W_sAsg {Q : Fl → DS → Prop} : W (sAsg t fa z) δ Q ↔ W (fa z) δ fun d δ => oW (t d z) fun z' => Q (.nx z') δ := by unfold sAsg; simp
@[simp] theorem W_sFor {Q : Fl → DS → Prop} : W (sFor fo t g1 z) δ Q ↔ W (fo z) δ fun ds δ => W (forL t g1 ds z) δ Q := by unfold sFor; simp
@[simp] theorem W_sApp {Q : Fl → DS → Prop} : W (sApp i fa z) δ Q ↔ W (fa z) δ fun d δ => oW (ownOf z i) fun ds => ds.length < sizeLine ∧ Q (.nx (z.set i (.own (ds ++ [d])))) δ := by
  unfold sApp
  simp only [W_bnd, W_opt, ownAt_of]
  constructor <;> exact fun h => h.mono fun d δ q => oW_mono q fun ds q => by
    by_cases l : ds.length < sizeLine
    · first | exact ⟨l, W_pur.mp (by rw [if_pos l] at q; exact q)⟩ | (rw [if_pos l]; exact W_pur.mpr q.2)
    · first | (rw [if_neg l] at q; exact (W_no.mp q).elim) | exact absurd q.1 l
@[simp] theorem W_sExt {Q : Fl → DS → Prop} : W (sExt i fa z) δ Q ↔ W (fa z) δ fun d δ => oW (seqD d) fun es => oW (ownOf z i) fun ds => ds.length + es.length ≤ sizeLine ∧ Q (.nx (z.set i (.own (ds ++ es)))) δ := by
  unfold sExt
  simp only [W_bnd, W_opt, ownAt_of]
  constructor <;> exact fun h => h.mono fun d δ q => oW_mono q fun es q => oW_mono q fun ds q => by
    by_cases l : ds.length + es.length ≤ sizeLine
    · first | exact ⟨l, W_pur.mp (by rw [if_pos l] at q; exact q)⟩ | (rw [if_pos l]; exact W_pur.mpr q.2)
    · first | (rw [if_neg l] at q; exact (W_no.mp q).elim) | exact absurd q.1 l
@[simp] theorem W_sPopTo {Q : Fl → DS → Prop} : W (sPopTo j i z) δ Q ↔ oW (ownOf z i) fun ds => oW ds.getLast? fun d => Q (.nx ((z.set i (.own ds.dropLast)).set j (.dat d))) δ := by unfold sPopTo; simp [ownAt_of]
@[simp] theorem W_sPop {Q : Fl → DS → Prop} : W (sPop i z) δ Q ↔ oW (ownOf z i) fun ds => oW ds.getLast? fun d => Q (.nx (z.set i (.own ds.dropLast))) δ := by unfold sPop; simp [ownAt_of]
@[simp] theorem W_sAug {Q : Fl → DS → Prop} : W (sAug i fa z) δ Q ↔ W (eVar i z) δ fun d δ => W (fa z) δ fun e δ => oW (augC d e) fun w => Q (.nx (z.set i (.dat w))) δ := by unfold sAug; simp
@[simp] theorem W_sPar {Q : Fl → DS → Prop} : W (sPar i j fa fb z) δ Q ↔ W (fa z) δ fun d δ => W (fb z) δ fun e δ => Q (.nx ((z.set i (.dat d)).set j (.dat e))) δ := by unfold sPar; simp
@[simp] theorem W_sParO {Q : Fl → DS → Prop} : W (sParO i j fo fb z) δ Q ↔ W (fo z) δ fun d δ => W (fb z) δ fun e δ => Q (.nx ((z.set i (.own d)).set j (.dat e))) δ := by unfold sParO; simp
@[simp] theorem W_sParDO {Q : Fl → DS → Prop} : W (sParDO i j fa fo z) δ Q ↔ W (fa z) δ fun d δ => W (fo z) δ fun e δ => Q (.nx ((z.set i (.dat d)).set j (.own e))) δ := by unfold sParDO; simp
theorem W_runB {n N : Nat} {as : List AV} {Q : PyData → DS → Prop} (h : as.length = n) : W (runB n N g1 as) δ Q ↔ W (g1 (startA N as)) δ fun fl δ => W (flD fl) δ Q := by
  unfold runB
  simp [h]
theorem ev_runW {n N : Nat} {as : List AV} {w : PyData} (h : as.length = n) (k : ∀ δ, W (g1 (startA N as)) δ fun fl δ' => W (flD fl) δ' fun b δ2 => b = w ∧ δ2 = δ) : Ev (runB n N g1 as) w := ev_W fun δ => (W_runB h).mpr (k δ)
theorem tot_runW [Ob] {n N : Nat} {as : List AV} {P : PyData → Prop} (h : as.length = n) (k : ∀ δ, Good δ → W (g1 (startA N as)) δ fun fl δ' => W (flD fl) δ' fun b δ2 => Good δ2 ∧ P b) : Tot (runB n N g1 as) P := tot_W fun δ g => (W_runB h).mpr (k δ g)
@[simp] theorem startA_def {N : Nat} {as : List AV} : startA N as = as.map avSV ++ List.replicate (N - as.length) .un := rfl
@[simp] theorem avSV_d {d : PyData} : avSV (.d d) = .dat d := rfl
@[simp] theorem avSV_deck : avSV .deck = .deck := rfl
@[simp] theorem isiC_def {T : String} {d : PyData} : isiC T d = some (.bool (tyN d == T)) := rfl
@[simp] theorem isiIC_def {d : PyData} : isiIC d = some (.bool (tyN d == "int" || tyN d == "bool")) := rfl
@[simp] theorem tyN_t {ds : List PyData} : tyN (.tuple ds) = "tuple" := rfl
@[simp] theorem tyN_l {ds : List PyData} : tyN (.list ds) = "list" := rfl
@[simp] theorem tyN_s {x : Str} : tyN (.str x) = "str" := rfl
@[simp] theorem tyN_i {i : Int} : tyN (.int i) = "int" := rfl
@[simp] theorem tyN_b {b : Bool} : tyN (.bool b) = "bool" := rfl
@[simp] theorem tyN_n : tyN .none = "NoneType" := rfl
@[simp] theorem tyN_d {ds : List (PyData × PyData)} : tyN (.dict ds) = "dict" := rfl
@[simp] theorem truC_b {b : Bool} : truC (.bool b) = some b := rfl
@[simp] theorem truC_l {ds : List PyData} : truC (.list ds) = some (!ds.isEmpty) := rfl
@[simp] theorem truC_t {ds : List PyData} : truC (.tuple ds) = some (!ds.isEmpty) := rfl
@[simp] theorem truC_i {i : Int} : truC (.int i) = some (i != 0) := rfl
@[simp] theorem lenC_l {ds : List PyData} : lenC (.list ds) = some (.int ds.length) := rfl
@[simp] theorem lenC_t {ds : List PyData} : lenC (.tuple ds) = some (.int ds.length) := rfl
@[simp] theorem seqD_l {ds : List PyData} : seqD (.list ds) = some ds := rfl
@[simp] theorem seqD_t {ds : List PyData} : seqD (.tuple ds) = some ds := rfl
@[simp] theorem itemsD_l {ds : List PyData} : itemsD (.list ds) = some ds := rfl
@[simp] theorem itemsD_t {ds : List PyData} : itemsD (.tuple ds) = some ds := rfl
@[simp] theorem listC_l {ds : List PyData} : listC (.list ds) = some ds := rfl
@[simp] theorem listC_t {ds : List PyData} : listC (.tuple ds) = some ds := rfl
@[simp] theorem tupC_l {ds : List PyData} : tupC (.list ds) = some (.tuple ds) := rfl
@[simp] theorem tupC_t {ds : List PyData} : tupC (.tuple ds) = some (.tuple ds) := rfl
@[simp] theorem eqC_ii {i j : Int} : eqC (.int i) (.int j) = some (i == j) := rfl
@[simp] theorem neC_ii {i j : Int} : neC (.int i) (.int j) = some (!(i == j)) := rfl
@[simp] theorem ltC_ii {f : Int → Int → Bool} {i j : Int} : iiB f (.int i) (.int j) = some (f i j) := rfl
@[simp] theorem subC_ii {i j : Int} : subC (.int i) (.int j) = some (.int (i - j)) := rfl
@[simp] theorem addC_ii {i j : Int} : addC (.int i) (.int j) = some (.int (i + j)) := rfl
@[simp] theorem bl_def {ob : PyData → PyData → Option Bool} {d e : PyData} : bl ob d e = (ob d e).map .bool := rfl
@[simp] theorem W_rt {Q : PyData → DS → Prop} : W (flD (.rt d)) δ Q ↔ Q d δ := W_pur
@[simp] theorem W_nx {Q : PyData → DS → Prop} : W (flD (.nx z)) δ Q ↔ Q .none δ := W_pur
@[simp] theorem cYes_W {Q : Bool → DS → Prop} : W (cYes z) δ Q ↔ Q true δ := W_pur
@[simp] theorem avs_nil' : avs [] = some [] := rfl
@[simp] theorem avs_cons' {d : PyData} {r : List AV} : avs (.d d :: r) = (avs r).map (d :: ·) := rfl
@[simp] theorem avs_app' {ds : List PyData} {r : List AV} : avs (ds.map AV.d ++ r) = (avs r).map (ds ++ ·) := by
  induction ds with
  | nil => cases h : avs r <;> simp [h]
  | cons d ds ih => simp [ih]; cases h : avs r <;> rfl
@[simp] theorem avs_map {ds : List PyData} : avs (ds.map AV.d) = some ds := avs_d ds
@[simp] theorem gN_def : gN i d z = some (z.set i (.dat d)) := rfl
end
theorem W_for {t : PyData → AS → Option AS} {g : AS → M Fl} (I : List PyData → AS → DS → Prop) {Q : Fl → DS → Prop} : ∀ {ds : List PyData} {z : AS} {δ : DS}, I ds z δ → (∀ d ds z δ, I (d :: ds) z δ → ∃ z1, t d z = some z1 ∧ W (g z1) δ fun fl δ => match fl with
  | .nx z2 => I ds z2 δ
  | .ct z2 => I ds z2 δ
  | .bk z2 => Q (.nx z2) δ
  | .rt r => Q (.rt r) δ
  | .ex c fs z2 => Q (.ex c fs z2) δ) → (∀ z δ, I [] z δ → Q (.nx z) δ) → W (forL t g ds z) δ Q
  | [], z, δ, h0, _, k => W_pur.mpr (k z δ h0)
  | d :: ds, z, δ, h0, k, ke => by
    obtain ⟨z1, e1, h1⟩ := k d ds z δ h0
    unfold forL
    simp only [W_bnd, W_opt]
    refine oW_iff.mpr ⟨z1, e1, h1.mono fun fl δ q => ?_⟩
    cases fl with
    | nx z2 => exact W_for I q k ke
    | ct z2 => exact W_for I q k ke
    | bk z2 => exact W_pur.mpr q
    | rt r => exact W_pur.mpr q
    | ex _ _ _ => exact W_pur.mpr q
/-- a comprehension whose parts leave the deck alone -/
theorem W_compE {t : PyData → AS → Option AS} {c : AS → M Bool} {fa : AS → M PyData} {z : AS} (p : PyData → Bool) (h : PyData → PyData) {ds : List PyData} {δ : DS} {Q : List PyData → DS → Prop}
    (k : ∀ d ∈ ds, ∃ z1, t d z = some z1 ∧ (∀ δ, W (c z1) δ fun b δ' => b = p d ∧ δ' = δ) ∧ (p d = true → ∀ δ, W (fa z1) δ fun w δ' => w = h d ∧ δ' = δ)) (q : Q ((ds.filter p).map h) δ) : W (compL t c fa ds z) δ Q :=
  ⟨_, δ, comp_all fun d hd => let ⟨z1, e1, e2, e3⟩ := k d hd; ⟨z1, e1, ev_W e2 δ, fun q => ev_W (e3 q) δ⟩, q⟩
/-- a comprehension that turns the deck -/
theorem W_comp {t : PyData → AS → Option AS} {c : AS → M Bool} {fa : AS → M PyData} {z : AS} (I : List PyData → List PyData → DS → Prop) {Q : List PyData → DS → Prop} : ∀ {ds : List PyData} {acc : List PyData} {δ : DS}, I ds acc δ →
    (∀ d ds acc δ, I (d :: ds) acc δ → ∃ z1, t d z = some z1 ∧ W (c z1) δ fun b δ => if b = true then W (fa z1) δ fun w δ => I ds (acc ++ [w]) δ else I ds acc δ) → (∀ acc δ, I [] acc δ → Q acc δ) → W (compL t c fa ds z) δ fun es δ => Q (acc ++ es) δ
  | [], acc, δ, h0, _, ke => W_pur.mpr (by rw [List.append_nil]; exact ke acc δ h0)
  | d :: ds, acc, δ, h0, k, ke => by
    obtain ⟨z1, e1, h1⟩ := k d ds acc δ h0
    unfold compL
    simp only [W_bnd, W_opt]
    refine oW_iff.mpr ⟨z1, e1, h1.mono fun b δ q => ?_⟩
    cases b with
    | false =>
      have q : I ds acc δ := by simpa using q
      simpa using W_comp I q k ke
    | true =>
      have q : W (fa z1) δ fun w δ => I ds (acc ++ [w]) δ := by simpa using q
      simp only [if_pos, W_bnd]
      refine q.mono fun w δ q => ?_
      refine (W_comp I q k ke).mono fun es δ q => W_pur.mpr ?_
      rw [List.append_assoc] at q
      exact q
theorem W_comp0 {t : PyData → AS → Option AS} {c : AS → M Bool} {fa : AS → M PyData} {z : AS} (I : List PyData → List PyData → DS → Prop) {Q : List PyData → DS → Prop} {ds : List PyData} {δ : DS} (h0 : I ds [] δ)
    (k : ∀ d ds acc δ, I (d :: ds) acc δ → ∃ z1, t d z = some z1 ∧ W (c z1) δ fun b δ => if b = true then W (fa z1) δ fun w δ => I ds (acc ++ [w]) δ else I ds acc δ) (ke : ∀ acc δ, I [] acc δ → Q acc δ) : W (compL t c fa ds z) δ Q := W_comp I h0 k ke
theorem W_draw [Ob] {b : Int} {δ : DS} {Q : PyData → DS → Prop} (h0 : 0 < b) (h1 : b < 1073741824) (g : Good δ) (k : ∀ (r : Int) δ', Good δ' → 0 ≤ r → r < b → Q (.int r) δ') : W (drawM [.deck, .d (.int b)]) δ Q := W_tot (tot_draw h0 h1) g fun a δ' g' ⟨r, e, r0, r1⟩ => by subst e; exact k r δ' g' r0 r1
theorem W_pick [Ob] {xs : List PyData} {δ : DS} {Q : PyData → DS → Prop} (h0 : xs ≠ []) (h1 : xs.length < 1073741824) (g : Good δ) (k : ∀ d δ', Good δ' → d ∈ xs → Q d δ') : W (pickM [.deck, .d (.list xs)]) δ Q := W_tot (tot_pick h0 h1) g fun a δ' g' q => k a δ' g' q
end VL
set_option Elab.async false
set_option linter.all false
set_option maxRecDepth 100000
namespace VL
open PySem PySem.Spec L2
open PyProof.Rows hiding St
def atomD : PyData → Bool
  | .none => true
  | .bool _ => true
  | .int _ => true
  | .str _ => true
  | _ => false
/-- known no more -/
def forget (F : Hp) (a : Addr) : Hp := fun b => if b = a then none else F b
theorem forget_ne {F : Hp} {a b : Addr} (h : b ≠ a) : forget F a b = F b := if_neg h
theorem forget_same {F : Hp} {a : Addr} : forget F a a = none := if_pos rfl
def eBor (i : Nat) (f : AS → M PyData) : AS → M PyData := fun z => M.bnd (M.opt (ownAt z i)) fun ds => M.bnd (f (z.set i (.dat (.list ds)))) fun r => if atomD r then M.pur r else M.no
def cBor (i : Nat) (f : AS → M Bool) : AS → M Bool := fun z => M.bnd (M.opt (ownAt z i)) fun ds => f (z.set i (.dat (.list ds)))
/-- the items at these places -/
def pick {α : Type} (ix : List Nat) (l : List α) : List α := ix.filterMap (l[·]?)
theorem Vals.get {vs : List V} {us : List Value} (h : Vals vs us) : ∀ {i : Nat} {v : V}, vs[i]? = some v → ∃ u, us[i]? = some u ∧ RelV v u := by
  induction h with
  | nil => intro i v e; simp at e
  | cons h t ih =>
    intro i v e
    cases i with
    | zero => simp at e; subst e; exact ⟨_, rfl, h⟩
    | succ i => simpa using ih (by simpa using e)
theorem AVs.append [NTb] {K : PySem.W.Frag} {dk : Option Dk} {F : Hp} : ∀ {vs ws : List V} {as bs : List AV}, AVs K dk F vs as → AVs K dk F ws bs → AVs K dk F (vs ++ ws) (as ++ bs)
  | _, _, _, _, .nil, t => t
  | _, _, _, _, .cons h r, t => .cons h (AVs.append r t)
def eCallK (fn : List AV → M PyData) (n m : Nat) (ix : List Nat) (ga gk : AS → M (List AV)) : AS → M PyData := fun z => M.bnd (ga z) fun as => M.bnd (gk z) fun bs => if as.length = n ∧ bs.length = m then fn (pick ix (as ++ bs)) else M.no
end VL
set_option Elab.async false
set_option linter.all false
set_option maxRecDepth 100000
namespace VL
open PySem PySem.Spec L2
open PyProof.Rows hiding St
def sParOO (i j : Nat) (f g : AS → M (List PyData)) : AS → M Fl := fun z => M.bnd (f z) fun d => M.bnd (g z) fun e => M.pur (.nx ((z.set i (.own d)).set j (.own e)))
section
variable {X : Cx} {e o a b c tg : Expr} {es : List Expr} {fa fb fc : AS → M PyData} {pos : Pos}
/-- x.append(y.pop(e)) -/
def sAppPop (i j : Nat) (f : AS → M PyData) : AS → M Fl := fun z => M.bnd (f z) fun d => M.bnd (M.opt (asInt d)) fun n => M.bnd (M.opt (ownAt z j)) fun ys => M.bnd (M.opt (seqIndex? n ys.length)) fun k => M.bnd (M.opt ys[k]?) fun y => M.bnd (M.opt (ownAt z i)) fun xs =>
  if xs.length < sizeLine ∧ -(2 ^ 63) ≤ n ∧ n < 2 ^ 63 then M.pur (.nx ((z.set j (.own (ys.eraseIdx k))).set i (.own (xs ++ [y])))) else M.no
where asInt : PyData → Option Int
  | .int n => some n
  | _ => none
end
end VL
set_option Elab.async false
set_option linter.all false
set_option maxRecDepth 100000
namespace VL
open PySem PySem.Spec L2
open PyProof.Rows hiding St
section
variable {δ : DS} {z : AS} {i j : Nat} {fa fb fc : AS → M PyData} {c : AS → M Bool} {ga gk : AS → M (List AV)} {fo fp : AS → M (List PyData)}
@[simp] theorem W_eBor {Q : PyData → DS → Prop} : W (eBor i fa z) δ Q ↔ oW (ownOf z i) fun ds => W (fa (z.set i (.dat (.list ds)))) δ fun r δ => atomD r = true ∧ Q r δ := by
  unfold eBor
  simp only [W_bnd, W_opt, ownAt_of]
  constructor <;> exact fun h => oW_mono h fun ds q => q.mono fun r δ q => by
    by_cases l : atomD r = true
    · first | exact ⟨l, W_pur.mp (by rw [if_pos l] at q; exact q)⟩ | (rw [if_pos l]; exact W_pur.mpr q.2)
    · first | (rw [if_neg l] at q; exact (W_no.mp q).elim) | exact absurd q.1 l
@[simp] theorem W_cBor {Q : Bool → DS → Prop} : W (cBor i c z) δ Q ↔ oW (ownOf z i) fun ds => W (c (z.set i (.dat (.list ds)))) δ Q := by
  unfold cBor
  simp only [W_bnd, W_opt, ownAt_of]
@[simp] theorem W_eCallK {fn : List AV → M PyData} {n m : Nat} {ix : List Nat} {Q : PyData → DS → Prop} : W (eCallK fn n m ix ga gk z) δ Q ↔ W (ga z) δ fun as δ => W (gk z) δ fun bs δ => (as.length = n ∧ bs.length = m) ∧ W (fn (pick ix (as ++ bs))) δ Q := by
  unfold eCallK
  simp only [W_bnd]
  constructor <;> exact fun h => h.mono fun as δ q => q.mono fun bs δ q => by
    by_cases l : as.length = n ∧ bs.length = m
    · first | exact ⟨l, by rw [if_pos l] at q; exact q⟩ | (rw [if_pos l]; exact q.2)
    · first | (rw [if_neg l] at q; exact (W_no.mp q).elim) | exact absurd q.1 l
@[simp] theorem W_sParOO {Q : Fl → DS → Prop} : W (sParOO i j fo fp z) δ Q ↔ W (fo z) δ fun d δ => W (fp z) δ fun e δ => Q (.nx ((z.set i (.own d)).set j (.own e))) δ := by unfold sParOO; simp
@[simp] theorem W_oCat {Q : List PyData → DS → Prop} : W (oCat fa fb z) δ Q ↔ W (fa z) δ fun d δ => W (fb z) δ fun e δ => oW (catC d e) fun ds => Q ds δ := by unfold oCat; simp
@[simp] theorem asInt_i {n : Int} : sAppPop.asInt (.int n) = some n := rfl
@[simp] theorem W_sAppPop {Q : Fl → DS → Prop} : W (sAppPop i j fa z) δ Q ↔ W (fa z) δ fun d δ => oW (sAppPop.asInt d) fun n => oW (ownOf z j) fun ys => oW (seqIndex? n ys.length) fun k => oW ys[k]? fun y => oW (ownOf z i) fun xs => (xs.length < sizeLine ∧ -(2 ^ 63) ≤ n ∧ n < 2 ^ 63) ∧ Q (.nx ((z.set j (.own (ys.eraseIdx k))).set i (.own (xs ++ [y])))) δ := by
  unfold sAppPop
  simp only [W_bnd, W_opt, ownAt_of]
  constructor <;> exact fun h => h.mono fun d δ q => oW_mono q fun n q => oW_mono q fun ys q => oW_mono q fun k q => oW_mono q fun y q => oW_mono q fun xs q => by
    by_cases l : xs.length < sizeLine ∧ -(2 ^ 63) ≤ n ∧ n < 2 ^ 63
    · first | exact ⟨l, W_pur.mp (by rw [if_pos l] at q; exact q)⟩ | (rw [if_pos l]; exact W_pur.mpr q.2)
    · first | (rw [if_neg l] at q; exact (W_no.mp q).elim) | exact absurd q.1 l
end
theorem W_seqA {g1 g2 : AS → M Fl} {z : AS} {δ : DS} {Q : Fl → DS → Prop} (A : AS → DS → Prop) (h : ∀ B : AS → DS → Prop, (∀ z δ, A z δ → B z δ) → W (g1 z) δ fun fl δ => match fl with
  | .nx z' => B z' δ
  | _ => False) (k : ∀ z δ, A z δ → W (g2 z) δ Q) : W (sSeq g1 g2 z) δ Q := by
  rw [W_sSeq]
  refine (h A fun _ _ q => q).mono fun fl δ q => ?_
  cases fl with
  | nx z' => exact k z' δ q
  | rt _ => exact q.elim
  | bk _ => exact q.elim
  | ct _ => exact q.elim
  | ex _ _ _ => exact q.elim
theorem W_forA {t : PyData → AS → Option AS} {g : AS → M Fl} (I : List PyData → AS → DS → Prop) {Q : Fl → DS → Prop} {ds : List PyData} {z : AS} {δ : DS} (h0 : I ds z δ) (k : ∀ (B : List PyData → AS → DS → Prop) (R : PyData → DS → Prop), (∀ ds z δ, I ds z δ → B ds z δ) → (∀ r δ, Q (.rt r) δ → R r δ) → ∀ d ds z δ, I (d :: ds) z δ → ∃ z1, t d z = some z1 ∧ W (g z1) δ fun fl δ => match fl with
  | .nx z2 => B ds z2 δ
  | .ct z2 => B ds z2 δ
  | .bk _ => False
  | .rt r => R r δ
  | .ex _ _ _ => False) (ke : ∀ z δ, I [] z δ → Q (.nx z) δ) : W (forL t g ds z) δ Q :=
  W_for I h0 (fun d ds z δ h => by
    obtain ⟨z1, e1, h1⟩ := k I (fun r δ => Q (.rt r) δ) (fun _ _ _ q => q) (fun _ _ q => q) d ds z δ h
    refine ⟨z1, e1, h1.mono fun fl δ q => ?_⟩
    cases fl with
    | nx _ => exact q
    | ct _ => exact q
    | bk _ => exact q.elim
    | rt _ => exact q
    | ex _ _ _ => exact q.elim) ke
theorem tot_runA [Ob] {n N : Nat} {g1 : AS → M Fl} {as : List AV} {P : PyData → Prop} (h : as.length = n) (k : ∀ (B : PyData → DS → Prop), (∀ d δ, Good δ → P d → B d δ) → ∀ δ, Good δ → W (g1 (startA N as)) δ fun fl δ' => W (flD fl) δ' fun b δ2 => B b δ2) : Tot (runB n N g1 as) P :=
  tot_runW h fun δ g => k (fun d δ => Good δ ∧ P d) (fun d δ g p => ⟨g, p⟩) δ g
@[simp] theorem pick_nil {α : Type} {l : List α} : pick [] l = [] := rfl
end VL
set_option Elab.async false
set_option linter.all false
set_option maxRecDepth 100000
namespace VL
open PySem PySem.Spec L2
open PyProof.Rows hiding St
def eIxO (i : Nat) (fb : AS → M PyData) : AS → M PyData := fun z => M.bnd (fb z) fun e => M.bnd (M.opt (ownAt z i)) fun ds => M.opt (ixC (.list ds) e)
end VL
set_option Elab.async false
set_option linter.all false
set_option maxRecDepth 100000
namespace VL
open PySem PySem.Spec L2
open PyProof.Rows hiding St
end VL
set_option Elab.async false
set_option linter.all false
set_option maxRecDepth 100000
namespace VL
open PySem PySem.Spec L2
open PyProof.Rows hiding St
def keyOf : PyData → Option Key
  | .int i => some (.inl i)
  | .str x => some (.inr x)
  | _ => none
def keyB : PyData → Key → Bool
  | .int i, .inl j => i == j
  | .str x, .inr y => x == y
  | _, _ => false
def getKV : List (PyData × PyData) → Key → Option PyData
  | [], _ => none
  | p :: r, k => if keyB p.1 k = true then some p.2 else getKV r k
/-- {k: v} -/
def eDict1 (fa fb : AS → M PyData) : AS → M PyData := fun z => M.bnd (fa z) fun d => M.bnd (fb z) fun e => M.opt ((keyOf d).map fun k => .dict [(kD k, e)])
def dget2C (d k x : PyData) : Option PyData := match d, keyOf k with
  | .dict ds, some j => some ((getKV ds j).getD x)
  | _, _ => none
def eDGet2 (fo fe fx : AS → M PyData) : AS → M PyData := fun z => M.bnd (fo z) fun d => M.bnd (fe z) fun k => M.bnd (fx z) fun x => M.opt (dget2C d k x)
def dgetC (d k : PyData) : Option PyData := match d, keyOf k with
  | .dict ds, some j => getKV ds j
  | _, _ => none
def eDGet (fo fe : AS → M PyData) : AS → M PyData := fun z => M.bnd (fo z) fun d => M.bnd (fe z) fun k => M.opt (dgetC d k)
end VL
set_option Elab.async false
set_option linter.all false
set_option maxRecDepth 100000
namespace VL
open PySem PySem.Spec L2
open PyProof.Rows hiding St
section
variable {X : Cx}
def sDelF (i : Nat) (f : AS → M PyData) : AS → M Fl := fun z => M.bnd (f z) fun d => M.bnd (M.opt (sAppPop.asInt d)) fun n => M.bnd (M.opt (ownAt z i)) fun ds => if 0 ≤ n ∧ n ≤ ds.length then M.pur (.nx (z.set i (.own (ds.take n.toNat)))) else M.no
/-- a slice of a list of one's own -/
def eSlO (i : Nat) (lo hi : AS → M (Option Int)) : AS → M PyData := fun z => M.bnd (lo z) fun a => M.bnd (hi z) fun b => M.bnd (M.opt (ownAt z i)) fun ds => M.opt (slC (.list ds) a b)
end
end VL
set_option Elab.async false
set_option linter.all false
set_option maxRecDepth 100000
namespace VL
open PySem PySem.Spec L2
open PyProof.Rows hiding St
/-- the cells hold what they held, and are no known things -/
def KeepC (H0 H : Hp) (h0 h : Heap) : Prop := ∀ c v, H0 c = none → h0.IsCell c v → H c = none ∧ h.IsCell c v
theorem KeepC.refl {H : Hp} {h : Heap} : KeepC H H h h := fun c v n z => ⟨n, z⟩
theorem KeepC.trans {H0 H1 H2 : Hp} {h0 h1 h2 : Heap} (a : KeepC H0 H1 h0 h1) (b : KeepC H1 H2 h1 h2) : KeepC H0 H2 h0 h2 := fun c v n z => let ⟨n1, z1⟩ := a c v n z; b c v n1 z1
/-- whenever it is called behind the heap h0 (of which H0 was known), the function at a makes of data what g says -/
def Callable [NTb] (P : Program) (w : World) (K : PySem.W.Frag) (mg : Str → Option Value) (base : Heap) (k : Nat) (H0 : Hp) (h0 : Heap) (g : FnD) (a : Addr) (G : Hp) : Prop :=
  (∃ o, G a = some o ∧ ∀ H h, ObjOk P w H h a o → PySem.W.FnAt a h) ∧
  ∀ (A : Around) (outer : List Env) (s : Shared) (H F : Hp) (us : List Value) (vs : List V) (ds : List PyData) (dk : Option Dk) (δ δ' : DS) (d : PyData) (Q : VK), A.guards = some [] → Room k A → Env0 P w K mg base A outer s H → KeepC H0 H h0 s.heap → Same G F → Same F H → DeckOk dk δ F H →
    Vals vs us → DvAll K F vs ds → g ds δ = some (d, δ') → (∀ v F' H', Ext dk F H F' H' → DeckOk dk δ' F' H' → Dv K F' v d → Q v H') → codeAny (model P w) A (.call (.ref a) ⟨us, []⟩) (CR CX0 outer P w H s Q E0) s
theorem Callable.later [NTb] {P : Program} {w : World} {K : PySem.W.Frag} {mg : Str → Option Value} {base : Heap} {k : Nat} {H0 H1 : Hp} {h0 h1 : Heap} {g : FnD} {a : Addr} {G : Hp} (c : Callable P w K mg base k H0 h0 g a G) (z : KeepC H0 H1 h0 h1) : Callable P w K mg base k H1 h1 g a G :=
  ⟨c.1, fun A outer s H F us vs ds dk δ δ' d Q hg hr e0 kc => c.2 A outer s H F us vs ds dk δ δ' d Q hg hr e0 (z.trans kc)⟩
theorem Callable.up [NTb] {P : Program} {w : World} {K : PySem.W.Frag} {mg : Str → Option Value} {base : Heap} {k k' : Nat} {H0 : Hp} {h0 : Heap} {g : FnD} {a : Addr} {G : Hp} (c : Callable P w K mg base k H0 h0 g a G) (z : k ≤ k') : Callable P w K mg base k' H0 h0 g a G :=
  ⟨c.1, fun A outer s H F us vs ds dk δ δ' d Q hg hr e0 kc => c.2 A outer s H F us vs ds dk δ δ' d Q hg (hr.mono z) e0 kc⟩
end VL
set_option Elab.async false
set_option linter.all false
set_option maxRecDepth 100000
namespace VL
open PySem PySem.Spec L2 NdefX
open PyProof.Rows hiding St
section
variable {dk : Option Dk} {F H : Hp} {P c : Addr} {ps more : Array Value} {q : Str} {δ : DS}
theorem code_at (eP : H P = some (.tbl ps)) (fresh : H c = none) {b : Addr} {o : HO} (e : H b = some o) (n : ∀ ps, o ≠ .tbl ps) : (L2.upd (L2.upd H P (.tbl (ps ++ more))) c (LamX.CodeO c q)) b = some o := by
  rw [upd_ne (ne_of_none e fresh), upd_ne (fun z => n ps (Option.some.inj (e.symm.trans (by rw [z]; exact eP))))]
  exact e
theorem Ext.code (sm : Same F H) (eP : H P = some (.tbl ps)) (fP : F P = none) (fresh : H c = none) : Ext dk F H ((L2.upd F c (LamX.CodeO c q))) ((L2.upd (L2.upd H P (.tbl (ps ++ more))) c (LamX.CodeO c q))) := by
  have fC : F c = none := sm.free fresh
  have PC : P ≠ c := ne_of_none eP fresh
  refine ⟨fun b u e => ?_, fun b u e => ?_, fun b o e _ n => code_at eP fresh e n, fun b e => ?_, fun b ⟨o, e, n⟩ => ?_, fun b e ⟨o, e1, n⟩ => ?_⟩
  · rw [upd_ne (ne_of_none e fC)]; exact e
  · by_cases z : b = c
    · subst z
      rw [upd_same] at e ⊢
      exact e
    · rw [upd_ne z] at e ⊢
      have zP : b ≠ P := fun y => by rw [y, fP] at e; cases e
      rw [upd_ne zP]
      exact sm b u e
  · by_cases z : b = c
    · subst z; rw [upd_same]; exact fun y => nomatch y
    · rw [upd_ne z]
      by_cases y : b = P
      · subst y; rw [upd_same]; exact fun y => nomatch y
      · rw [upd_ne y]; exact e
  · have z : b ≠ c := ne_of_none e fresh
    by_cases y : b = P
    · subst y
      exact ⟨_, by rw [upd_ne z, upd_same], fun q y => LamX.codeO_ne _ y.symm⟩
    · exact ⟨o, by rw [upd_ne z, upd_ne y]; exact e, n⟩
  · rw [upd_ne (ne_of_none e1 fresh)]; exact e
theorem DeckP.code {E : Str → Option Addr} {G : PySem.W.Frag} (d : DeckP E G dk δ F H) (eP : H P = some (.tbl ps)) (fresh : H c = none) (sm : Same F H) : DeckP E G dk δ ((L2.upd F c (LamX.CodeO c q))) ((L2.upd (L2.upd H P (.tbl (ps ++ more))) c (LamX.CodeO c q))) := by
  cases dk with
  | none => exact d
  | some k =>
    have hF : F c = none := sm.free fresh
    refine DeckAt.toG d (keepT_of (fun b u e => by rw [upd_ne (ne_of_none e hF)]; exact e)) (fun a m dx e => by rw [upd_ne (ne_of_none e hF)]; exact e) (fun a m e => ?_) (fun a C dx vs m e => code_at eP fresh e (fun _ y => nomatch y)) (fun a vs m e => code_at eP fresh e (fun _ y => nomatch y))
    rw [upd_ne]
    · exact e
    · exact fun q => (DeckAt.some_of d m).1 (by rw [q]; exact fresh)
theorem DeckOk.code [NTb] {nm : Nat → Nat → Str} {pos : Pos} (d : DeckOk dk δ F H) (eP : H P = some (.tbl ps)) (fresh : H c = none) (sm : Same F H) (hm : (P, nm) ∈ NTb.T) (hu : ∀ p ∈ NTb.T, p.1 = P → p.2 = nm) (ht : TriplesOk ps.toList)
    (hn : nm pos.line pos.col = q) (em : more = #[rawInt pos.line, rawInt pos.col, .ref c]) : DeckOk dk δ ((L2.upd F c (LamX.CodeO c q))) ((L2.upd (L2.upd H P (.tbl (ps ++ more))) c (LamX.CodeO c q))) := by
  obtain ⟨d1, d2, d3⟩ := d
  have fC : F c = none := sm.free fresh
  have grow : ∀ {b : Addr} {o : HO}, F b = some o → (L2.upd F c (LamX.CodeO c q)) b = some o := fun {b o} e => by
    rw [upd_ne (ne_of_none e fC)]; exact e
  refine ⟨d1.code eP fresh sm, fun p hp => ?_, fun p hp => ?_⟩
  · obtain ⟨ps', a1, a2, kn3⟩ := d2 p hp
    by_cases hb : p.1 = P
    · rw [hu p hp hb, hb]
      have e5 : ps' = ps := by
        rw [hb, eP] at a1
        injection a1 with a1
        injection a1 with a1
        exact a1.symm
      subst e5
      have apd : (ps' ++ more).toList = ps'.toList ++ [rawInt pos.line, rawInt pos.col, .ref c] := by rw [em]; simp
      refine ⟨_, by rw [upd_ne (ne_of_none eP fresh), upd_same], by rw [apd]; exact PySem.TriplesOk_snoc _ _ _ _ ht, fun at2 val am => ?_⟩
      rw [apd] at am
      rcases among_app2 _ ht am with z | ⟨z, zl, zc⟩
      · obtain ⟨cd, e1, e2⟩ := kn3 at2 val z
        rw [hu p hp hb] at e2
        exact ⟨cd, e1, grow e2⟩
      · refine ⟨c, z, ?_⟩
        rw [← zl, ← zc, hn]
        exact upd_same
    · refine ⟨ps', by rw [upd_ne (ne_of_none a1 fresh), upd_ne hb]; exact a1, a2, fun at2 val am => ?_⟩
      obtain ⟨cd, e1, e2⟩ := kn3 at2 val am
      exact ⟨cd, e1, grow e2⟩
  · obtain ⟨ps', a1, _⟩ := d2 p hp
    rw [upd_ne (ne_of_none a1 fresh)]
    exact d3 p hp
end
end VL
set_option Elab.async false
set_option linter.all false
set_option maxRecDepth 100000
namespace VL
open PySem PySem.Spec L2
open PyProof.Rows hiding St
end VL
set_option Elab.async false
set_option linter.all false
set_option maxRecDepth 100000
namespace VL
open PySem PySem.Spec L2 NdefX LamX
open PyProof.Rows hiding St
/-- the object at f is the lambda -/
def LamO (f : Addr) (q : Str) (params : Arguments) (body : Expr) (scope : Scope) (cl : List (Str × Addr)) (c : Addr) : HO := .ext fun h => ∃ pm ctv : Value, h.get? f = some (PySem.W.kla_obj "<lambda>" q params body scope cl pm c ctv)
end VL
set_option Elab.async false
set_option linter.all false
set_option maxRecDepth 100000
namespace VL
open PySem PySem.Spec L2 NdefX LamX
open PyProof.Rows hiding St
end VL
set_option Elab.async false
set_option linter.all false
set_option maxRecDepth 100000
namespace VL
open PySem PySem.Spec L2 NdefX LamX
open PyProof.Rows hiding St
section
variable {P : Program} {w : World} {K : PySem.W.Frag} {mg : Str → Option Value} {base : Heap}
/-- what a function captures -/
def CapV [NTb] (K : PySem.W.Frag) (F : Hp) (w : V) : SV → Prop
  | .dat d => Dv K F w d
  | .fn g => ∃ a G, w = .ref a ∧ Same G F ∧ NTb.C g a G
  | .ob c fs => ObAt K F w c fs
  | .kn o => KnAt F w o
  | _ => False
inductive CapAll [NTb] (K : PySem.W.Frag) (F : Hp) : List V → List SV → Prop
  | nil : CapAll K F [] []
  | cons {w : V} {ws : List V} {e : SV} {es : List SV} : CapV K F w e → CapAll K F ws es → CapAll K F (w :: ws) (e :: es)
theorem CapV.to {n1 n2 : NTb} {K : PySem.W.Frag} {F F' : Hp} (x : Same F F') (i : ∀ g a G, n1.C g a G → n2.C g a G) (ee : n1.E = n2.E) {w : V} : ∀ {e : SV}, @CapV n1 K F w e → @CapV n2 K F' w e
  | .dat _, h => Dv.mono x h
  | .fn _, ⟨a, G, e, s, h⟩ => ⟨a, G, e, s.trans x, i _ _ _ h⟩
  | .ob c fs, ⟨a, C, dx, vs, h1, h2, h3, h4, h5⟩ => ⟨a, C, dx, vs, h1, by rw [← ee]; exact h2, x _ _ h3, x _ _ h4, h5.mono x⟩
  | .kn _, h => KnAt.mono x h
theorem CapAll.to {n1 n2 : NTb} {K : PySem.W.Frag} {F F' : Hp} (x : Same F F') (i : ∀ g a G, n1.C g a G → n2.C g a G) (ee : n1.E = n2.E) {ws : List V} {es : List SV} (h : @CapAll n1 K F ws es) : @CapAll n2 K F' ws es :=
  @CapAll.rec n1 K F (fun ws es _ => @CapAll n2 K F' ws es) (@CapAll.nil n2 K F') (fun h _ t => @CapAll.cons n2 K F' _ _ _ _ (@CapV.to n1 n2 _ _ _ x i ee _ _ h) t) ws es h
/-- the slots at the entry of a function that captures -/
def startZ (N : Nat) (ds : List PyData) (es : List SV) : AS := ds.map .dat ++ es ++ List.replicate (N - (ds.length + es.length)) .un
/-- what a body tells as a function -/
def valOf (g : AS → M Fl) : AS → M PyData := fun z => M.bnd (g z) fun fl => match fl with
  | .nx _ => M.pur .none
  | .rt d => M.pur d
  | _ => M.no
end
end VL
set_option Elab.async false
set_option linter.all false
set_option maxRecDepth 100000
namespace VL
open PySem PySem.Spec L2 NdefX LamX
open PyProof.Rows hiding St
end VL
set_option Elab.async false
set_option linter.all false
set_option maxRecDepth 100000
namespace VL
open PySem PySem.Spec L2 NdefX LamX
open PyProof.Rows hiding St
/-- a captured name: data, a function that came in, a def made here -/
inductive CJ where
  | d (j : Nat)
  | f (j : Nat)
  | n (j : Nat)
  | o (j : Nat)
def CJ.at_ : CJ → Nat
  | .d j => j
  | .f j => j
  | .n j => j
  | .o j => j
/-- a function, without its text -/
structure LGm where
  n : Nat
  p : Nat
  js : List CJ
  fe : AS → M PyData
def LGm.g (l : LGm) (es : List SV) : FnD := fun ds => if ds.length = l.p then l.fe (startZ l.n ds es) else fun _ => none
/-- what is written of a lambda -/
structure LW where
  params : Arguments
  body : Expr
  scope : Scope
  N : List Str
  ps : List Str
  fr : List Str
  js : List CJ
  fe : AS → M PyData
def LW.toG (l : LW) : LGm := ⟨l.N.length, l.ps.length, l.js, l.fe⟩
def LW.f (l : LW) (X : Cx) (c : Addr) : NF := ⟨"<lambda>", X.env.qual ++ "<lambda>", l.params, [], l.scope, cloFrom X.env.cells l.scope.names [], c⟩
/-- .. of a def within a def -/
structure LN where
  st : Stmt
  name : Str
  N : List Str
  ps : List Str
  fr : List Str
  js : List CJ
  gb : AS → M Fl
def LN.toG (l : LN) : LGm := ⟨l.N.length, l.ps.length, l.js, valOf l.gb⟩
def LN.f (l : LN) (X : Cx) (c : Addr) : NF := NF.of l.st l.name (X.env.qual ++ l.name) (cloFrom X.env.cells (C8.fnScope l.st).names []) c
/-- the slot i holds the def just made -/
def NdAt (X : Cx) (σ : L2.St) (F : Hp) (p : Nat × LN) : Prop := ∃ a c', σ[p.1]? = some (some (.ref a)) ∧ F a = some (FnO a (p.2.f X c')) ∧ F c' = some (CodeO c' (X.env.qual ++ p.2.name))
theorem NdAt.ext {X : Cx} {σ : L2.St} {F F' : Hp} {p : Nat × LN} (x : Same F F') (h : NdAt X σ F p) : NdAt X σ F' p := by
  obtain ⟨a, c', h1, h2, h3⟩ := h
  exact ⟨a, c', h1, x _ _ h2, x _ _ h3⟩
end VL
set_option Elab.async false
set_option linter.all false
set_option maxRecDepth 100000
namespace VL
open PySem PySem.Spec L2 NdefX LamX
open PyProof.Rows hiding St
inductive FG where
  | nm (c : CJ)
  | lm (l : LGm)
def FG.js : FG → List CJ
  | .nm c => [c]
  | .lm l => l.js
/-- the lambda's making: its place, its table -/
structure LM [NTb] (X : Cx) (l : LW) (pos : Pos) : Prop where
  tb : ∃ nm c P, TabB X.base X.mg c P ∧ X.env.code = .ref c ∧ (P, nm) ∈ NTb.T ∧ nm pos.line pos.col = X.env.qual ++ "<lambda>" ∧ ∀ p ∈ NTb.T, p.1 = P → p.2 = nm
  dfl : defaultsOf l.params X.env = ([], [])
inductive FA where
  | nm (c : CJ) (x : Str) (p : Pos)
  | lm (l : LW) (p : Pos)
def FA.e : FA → Expr
  | .nm _ x p => .Name x p
  | .lm l p => .Lambda l.params l.body l.scope p
def FA.toG : FA → FG
  | .nm c _ _ => .nm c
  | .lm l _ => .lm l.toG
def FAt (X : Cx) (σ : L2.St) (F : Hp) : FA → V → Prop
  | .nm c _ _, v => σ[c.at_]? = some (some v)
  | .lm l _, v => ∃ a c', v = .ref a ∧ F a = some (LamO a (X.env.qual ++ "<lambda>") l.params l.body l.scope (cloFrom X.env.cells l.scope.names []) c') ∧ F c' = some (CodeO c' (X.env.qual ++ "<lambda>"))
inductive FAts (X : Cx) (σ : L2.St) (F : Hp) : List FA → List V → Prop
  | nil : FAts X σ F [] []
  | cons {fa : FA} {v : V} {fas : List FA} {vs : List V} : FAt X σ F fa v → FAts X σ F fas vs → FAts X σ F (fa :: fas) (v :: vs)
theorem FAt.ext {X : Cx} {σ : L2.St} {F F' : Hp} (x : Same F F') : ∀ {fa : FA} {v : V}, FAt X σ F fa v → FAt X σ F' fa v
  | .nm _ _ _, _, h => h
  | .lm _ _, _, ⟨a, c', e, h1, h2⟩ => ⟨a, c', e, x _ _ h1, x _ _ h2⟩
theorem FAts.ext {X : Cx} {σ : L2.St} {F F' : Hp} (x : Same F F') {fas : List FA} {vs : List V} (h : FAts X σ F fas vs) : FAts X σ F' fas vs := by
  induction h with
  | nil => exact .nil
  | cons h _ ih => exact .cons (h.ext x) ih
end VL
set_option Elab.async false
set_option linter.all false
set_option maxRecDepth 100000
namespace VL
open PySem PySem.Spec L2 NdefX LamX
open PyProof.Rows hiding St
end VL
set_option Elab.async false
set_option linter.all false
set_option maxRecDepth 100000
namespace VL
open PySem PySem.Spec L2
open PyProof.Rows hiding St
section
variable {δ : DS} {z : AS} {i j : Nat} {fa fb fc : AS → M PyData} {ga : AS → M (List AV)} {fl fh : AS → M (Option Int)}
@[simp] theorem W_eDict1 {Q : PyData → DS → Prop} : W (eDict1 fa fb z) δ Q ↔ W (fa z) δ fun d δ => W (fb z) δ fun e δ => oW (keyOf d) fun k => Q (.dict [(kD k, e)]) δ := by unfold eDict1; simp
@[simp] theorem W_eDGet2 {Q : PyData → DS → Prop} : W (eDGet2 fa fb fc z) δ Q ↔ W (fa z) δ fun d δ => W (fb z) δ fun k δ => W (fc z) δ fun x δ => oW (dget2C d k x) fun w => Q w δ := by unfold eDGet2; simp
@[simp] theorem W_eDGet {Q : PyData → DS → Prop} : W (eDGet fa fb z) δ Q ↔ W (fa z) δ fun d δ => W (fb z) δ fun k δ => oW (dgetC d k) fun w => Q w δ := by unfold eDGet; simp
@[simp] theorem W_eIxO {Q : PyData → DS → Prop} : W (eIxO i fb z) δ Q ↔ W (fb z) δ fun e δ => oW (ownOf z i) fun ds => oW (ixC (.list ds) e) fun w => Q w δ := by unfold eIxO; simp [ownAt_of]
@[simp] theorem W_eSlO {Q : PyData → DS → Prop} : W (eSlO i fl fh z) δ Q ↔ W (fl z) δ fun a δ => W (fh z) δ fun b δ => oW (ownOf z i) fun ds => oW (slC (.list ds) a b) fun w => Q w δ := by unfold eSlO; simp [ownAt_of]
@[simp] theorem W_sDelF {Q : Fl → DS → Prop} : W (sDelF i fa z) δ Q ↔ W (fa z) δ fun d δ => oW (sAppPop.asInt d) fun n => oW (ownOf z i) fun ds => (0 ≤ n ∧ n ≤ ds.length) ∧ Q (.nx (z.set i (.own (ds.take n.toNat)))) δ := by
  unfold sDelF
  simp only [W_bnd, W_opt, ownAt_of]
  constructor <;> exact fun h => h.mono fun d δ q => oW_mono q fun n q => oW_mono q fun ds q => by
    by_cases l : 0 ≤ n ∧ n ≤ ds.length
    · first | exact ⟨l, W_pur.mp (by rw [if_pos l] at q; exact q)⟩ | (rw [if_pos l]; exact W_pur.mpr q.2)
    · first | (rw [if_neg l] at q; exact (W_no.mp q).elim) | exact absurd q.1 l
end
end VL
set_option Elab.async false
set_option linter.all false
set_option maxRecDepth 100000
namespace VL
open PySem PySem.Spec L2
open PyProof.Rows hiding St
def putV (l : List (Key × PyData)) (k : Key) (v : PyData) : List (Key × PyData) :=
  if (l.any fun p => decide (p.1 = k)) = true then l.map (fun p => if p.1 = k then (p.1, v) else p) else l ++ [(k, v)]
def dK (l : List (Key × PyData)) : PyData := .dict (l.map fun p => (kD p.1, p.2))
section
variable {K : PySem.W.Frag} {F F' : Hp}
theorem DKv.len {vs : List (Key × V)} {ds : List (Key × PyData)} (h : DKv K F vs ds) : vs.length = ds.length := by
  induction h with
  | nil => rfl
  | cons _ _ ih => simp [ih]
theorem DKv.any {vs : List (Key × V)} {ds : List (Key × PyData)} (h : DKv K F vs ds) (k : Key) : (vs.any fun p => decide (p.1 = k)) = ds.any fun p => decide (p.1 = k) := by
  induction h with
  | nil => rfl
  | cons _ _ ih => simp only [List.any_cons, ih]
theorem DKv.snoc {vs : List (Key × V)} {ds : List (Key × PyData)} (h : DKv K F vs ds) {k : Key} {v : V} {d : PyData} (r : Dv K F v d) : DKv K F (vs ++ [(k, v)]) (ds ++ [(k, d)]) := by
  induction h with
  | nil => exact .cons r .nil
  | cons h _ ih => exact .cons h ih
theorem DKv.repl {vs : List (Key × V)} {ds : List (Key × PyData)} (h : DKv K F vs ds) {k : Key} {v : V} {d : PyData} (r : Dv K F v d) : DKv K F (vs.map fun p => if p.1 = k then (p.1, v) else p) (ds.map fun p => if p.1 = k then (p.1, d) else p) := by
  induction h with
  | nil => exact .nil
  | cons h _ ih =>
    rename_i k1 v1 d1 _ _ _
    rw [List.map_cons, List.map_cons]
    by_cases q : k1 = k
    · rw [if_pos q, if_pos q]; exact .cons r ih
    · rw [if_neg q, if_neg q]; exact .cons h ih
theorem DKv.put {vs : List (Key × V)} {ds : List (Key × PyData)} (h : DKv K F vs ds) {k : Key} {v : V} {d : PyData} (r : Dv K F v d) : DKv K F (putK vs k v) (putV ds k d) := by
  unfold putK putV
  rw [h.any k]
  split
  · exact h.repl r
  · exact h.snoc r
end
def dcL (t : PyData → AS → Option AS) (c : AS → M Bool) (fk fv : AS → M PyData) : List PyData → List (Key × PyData) → AS → M (List (Key × PyData))
  | [], acc, _ => M.pur acc
  | d :: ds, acc, z => M.bnd (M.opt (t d z)) fun z1 => M.bnd (c z1) fun b => if b then M.bnd (fk z1) fun k => M.bnd (fv z1) fun v => M.bnd (M.opt (keyOf k)) fun j => dcL t c fk fv ds (putV acc j v) z else dcL t c fk fv ds acc z
def eDc (fi : AS → M (List PyData)) (t : PyData → AS → Option AS) (c : AS → M Bool) (fk fv : AS → M PyData) (vs : List Nat) : AS → M PyData := fun z => M.bnd (fi z) fun ds => if ds.length ≤ sizeLine then M.bnd (dcL t c fk fv ds [] (wipeA z vs)) fun l => M.pur (dK l) else M.no
end VL
set_option Elab.async false
set_option linter.all false
set_option maxRecDepth 100000
namespace VL
open PySem PySem.Spec L2
open PyProof.Rows hiding St
section
variable {z : AS} {δ : DS}
@[simp] theorem W_eDc {fi : AS → M (List PyData)} {t : PyData → AS → Option AS} {c : AS → M Bool} {fk fv : AS → M PyData} {vs : List Nat} {Q : PyData → DS → Prop} : W (eDc fi t c fk fv vs z) δ Q ↔ W (fi z) δ fun ds δ => ds.length ≤ sizeLine ∧ W (dcL t c fk fv ds [] (wipeA z vs)) δ fun l δ => Q (dK l) δ := by
  unfold eDc
  rw [W_bnd]
  have e : ∀ ds δ, W (if ds.length ≤ sizeLine then M.bnd (dcL t c fk fv ds [] (wipeA z vs)) fun l => M.pur (dK l) else M.no) δ Q ↔ (ds.length ≤ sizeLine ∧ W (dcL t c fk fv ds [] (wipeA z vs)) δ fun l δ => Q (dK l) δ) := fun ds δ => by
    by_cases q : ds.length ≤ sizeLine
    · rw [if_pos q]; simp [q]
    · rw [if_neg q]; simp [q]
  exact ⟨fun h => h.mono fun ds δ q => (e ds δ).mp q, fun h => h.mono fun ds δ q => (e ds δ).mpr q⟩
end
end VL
set_option Elab.async false
set_option linter.all false
set_option maxRecDepth 100000
set_option maxHeartbeats 3200000
namespace VL
open PySem PySem.Spec L2 PySem.Froz
open PyProof.Rows hiding St
abbrev NK := NestedKey
section
variable {P : Program} {w : World}
/-- the value at a is the tuple k -/
abbrev Nt (P : Program) (w : World) (h : Heap) (k : NK) (a : Addr) : Prop := (nestedKind P w).is h k a
variable {A : Around} {E : Value → Shared → Prop} {s : Shared}
end
end VL
set_option Elab.async false
set_option linter.all false
set_option maxRecDepth 100000
set_option maxHeartbeats 3200000
namespace VL
open PySem PySem.Spec L2 PySem.Froz
open PyProof.Rows hiding St
/-- the row of a tuple -/
def rowN (w : World) (p : Addr × NK) : Int × Value := (p.2.hash w, .ref p.1)
abbrev hsN (w : World) (L : List (Addr × NK)) : List Int := L.map fun p => p.2.hash w
abbrev ksN (L : List (Addr × NK)) : List NK := L.map Prod.snd
/-- at a stands a set of the tuples L -/
structure NSet (P : Program) (w : World) (h : Heap) (a : Addr) (L : List (Addr × NK)) (es : Array (Int × Value)) (ep : Nat) (t : SetTable) : Prop where
  ob : ∃ o, h.get? a = some o ∧ o.ExactSet ∧ o.data = .set es ep t
  row : es.toList = L.map (rowN w)
  tab : TabOk t (hsN w L)
  nd : (ksN L).Nodup
  tup : ∀ p ∈ L, Nt P w h p.2 p.1
  led : w.params.followText "set-order" = true ∨ t.led = true
  room : L.length * 5 < t.mask * 3
  few : L.length < 64
section
variable {P : Program} {w : World} {A : Around} {E : Value → Shared → Prop} {s : Shared} {a : Addr} {L : List (Addr × NK)} {es : Array (Int × Value)} {ep : Nat} {t : SetTable} {h : Heap}
theorem NSet.stay (R : NSet P w h a L es ep t) : ¬ t.gaveWay = true := by
  unfold SetTable.gaveWay
  rw [mask_odd R.tab.mok]
  exact nofun
theorem NSet.keep {h' : Heap} (R : NSet P w h a L es ep t) (ka : ∀ o, h.get? a = some o → h'.get? a = some o) (kt : ∀ p ∈ L, Nt P w h' p.2 p.1) : NSet P w h' a L es ep t :=
  let ⟨o, e, r⟩ := R.ob
  ⟨⟨o, ka o e, r⟩, R.row, R.tab, R.nd, kt, R.led, R.room, R.few⟩
end
end VL
set_option Elab.async false
set_option linter.all false
set_option maxRecDepth 100000
set_option maxHeartbeats 3200000
namespace VL
open PySem PySem.Spec L2 PySem.Froz
open PyProof.Rows hiding St
end VL
set_option Elab.async false
set_option linter.all false
set_option maxRecDepth 100000
set_option maxHeartbeats 3200000
namespace VL
open PySem PySem.Spec L2 PySem.Froz
open PyProof.Rows hiding St
end VL
set_option Elab.async false
set_option linter.all false
set_option maxRecDepth 100000
set_option maxHeartbeats 3200000
namespace VL
open PySem PySem.Spec L2 PySem.Froz PySem.W PySem.SeqAt
open PyProof.Rows hiding St
end VL
set_option Elab.async false
set_option linter.all false
set_option maxRecDepth 100000
set_option maxHeartbeats 3200000
namespace VL
open PySem PySem.Spec L2 PySem.Froz PySem.W
open PyProof.Rows hiding St
end VL
set_option Elab.async false
set_option linter.all false
set_option maxRecDepth 100000
set_option maxHeartbeats 3200000
namespace VL
open PySem PySem.Spec L2 PySem.Froz PySem.W
open PyProof.Rows hiding St
mutual
def nk : PyData → Option NK
  | .none => some .none
  | .int i => some (.num i)
  | .str x => some (.text x)
  | .tuple ds => (nks ds).map .tup
  | _ => none
def nks : List PyData → Option (List NK)
  | [] => some []
  | d :: ds => (nk d).bind fun k => (nks ds).map (k :: ·)
end
/-- the tuple as a key of a set -/
def tpN : PyData → Option NK
  | .tuple ds => (nks ds).bind fun ks => if (NestedKey.tup ks).depth ≤ 8 then some (.tup ks) else none
  | _ => none
end VL
set_option Elab.async false
set_option linter.all false
set_option maxRecDepth 100000
set_option maxHeartbeats 3200000
namespace VL
open PySem PySem.Spec L2 PySem.Froz PySem.W
open PyProof.Rows hiding St
theorem nodup_len {α : Type} : ∀ {s t : List α}, s.Nodup → (∀ x ∈ s, x ∈ t) → s.length ≤ t.length
  | [], _, _, _ => Nat.zero_le _
  | x :: s, t, nd, h => by
    obtain ⟨n1, n2⟩ := List.nodup_cons.mp nd
    obtain ⟨a, b, rfl⟩ := List.append_of_mem (h x (List.mem_cons_self ..))
    have := nodup_len (s := s) (t := a ++ b) n2 fun y hy => by
      have m := h y (List.mem_cons_of_mem _ hy)
      simp only [List.mem_append, List.mem_cons] at m ⊢
      rcases m with m | m | m
      · exact .inl m
      · subst m; exact absurd hy n1
      · exact .inr m
    simp only [List.length_append, List.length_cons] at this ⊢
    omega
end VL
set_option Elab.async false
set_option linter.all false
set_option maxRecDepth 100000
set_option maxHeartbeats 3200000
namespace VL
open PySem PySem.Spec L2
open PyProof.Rows hiding St
end VL
set_option Elab.async false
set_option linter.all false
set_option maxRecDepth 100000
set_option maxHeartbeats 3200000
namespace VL
open PySem PySem.Spec L2 PySem.Froz PySem.W
open PyProof.Rows hiding St
def isT : PyData → Bool
  | .tuple _ => true
  | _ => false
end VL
set_option Elab.async false
set_option linter.all false
set_option maxRecDepth 100000
namespace VL
open PySem PySem.Spec L2
open PyProof.Rows hiding St
theorem Wx_of {X : Cx} {W : WX} (tk : Takes X W) {cls : Value} {d : Option Addr} {σ : L2.St} {H : Hp} (h : W cls d σ H) : Wx X cls d σ H :=
  fun u s' ⟨a, B, sI, pins, σ', H', cls', d', e, I, nb, up, sky, na, os, ag, q1, q2, q3, q4⟩ => tk u s' ⟨a, B, sI, pins, σ', H', cls', d', e, I, nb, up, sky, na, os, ag, by subst q1 q2 q3 q4; exact h⟩
/-- what comes of a def: a value, or an exception by its class's name and its fields -/
abbrev XR := PyData ⊕ (Str × List (Str × PyData))
def XEnd [NTb] (X : Cx) (dk : Option Dk) (F H : Hp) (δ : DS) (σ : L2.St) (Q : VK) : XR → Prop
  | .inl d => ∀ v F' H', Ext dk F H F' H' → DeckOk dk δ F' H' → Dv X.K F' v d → Q v H'
  | .inr (c, fs) => ∀ C d F' H', NTb.E c = some C → Ext dk F H F' H' → DeckOk dk δ F' H' → ExOk X.K F' H' d fs → Wx X (.ref C) d σ H'
def tX [NTb] (X : Cx) (f : AS → M XR) : TE := fun σ H Q => ∃ dk F z δ r δ', f z δ = some (r, δ') ∧ Ok X.K dk z δ σ F H ∧ XEnd X dk F H δ' σ Q r
abbrev JX [NTb] (X : Cx) (f : AS → M XR) (e : Expr) : Prop := PE X e (tX X f)
theorem XEnd.later [NTb] {X : Cx} {dk : Option Dk} {F H F1 H1 : Hp} {δ : DS} {σ : L2.St} {Q : VK} (x : Ext dk F H F1 H1) : ∀ {r : XR}, XEnd X dk F H δ σ Q r → XEnd X dk F1 H1 δ σ Q r
  | .inl _, k => fun v F' H' x1 => k v F' H' (x.trans x1)
  | .inr _, k => fun C d F' H' e x1 => k C d F' H' e (x.trans x1)
def xV (f : AS → M PyData) : AS → M XR := fun z => M.bnd (f z) fun d => M.pur (.inl d)
section
variable {X : Cx} {e a b c : Expr} {es : List Expr} {fa fb fc : AS → M PyData} {fx : AS → M XR} {pos : Pos}
/-- what comes next, if there is no exception -/
def xThen {α : Type} (x : M XR) (k : PyData → M α) (k2 : Str → List (Str × PyData) → M α) : M α := M.bnd x fun r => match r with
  | .inl d => k d
  | .inr (c, fs) => k2 c fs
/-- [a, f(..)] -/
def xLst2 (fa : AS → M PyData) (fx : AS → M XR) : AS → M XR := fun z => M.bnd (fa z) fun d => xThen (fx z) (fun e => M.pur (.inl (.list [d, e]))) fun c fs => M.pur (.inr (c, fs))
theorem jx_lst2 [NTb] (ha : JE X fa a) (hb : JX X fx b) (hs : starEach [a, b] X.env = (false, eval a X.env) :: starEach [b] X.env := by rfl) (hs2 : starEach [b] X.env = (false, eval b X.env) :: starEach [] X.env := by rfl) : JX X (xLst2 fa fx) (.List [a, b] pos) :=
  PE_imp (pe_lst (pa_cons ha (pa_cons hb pa_nil hs2) hs)) fun σ H Q ⟨dk, F, z, δ, r, δ', hf, ok, k⟩ => by
    obtain ⟨d, δ1, h1, hf⟩ := M.bnd_some hf
    obtain ⟨r1, δ2, h2, hf⟩ := M.bnd_some hf
    refine ⟨dk, F, z, δ, d, δ1, h1, ok, fun v1 F1 H1 x1 d1 q1 => ⟨dk, F1, z, δ1, r1, δ2, h2, ok.ext x1 d1, ?_⟩⟩
    cases r1 with
    | inl e =>
      obtain ⟨rfl, rfl⟩ := M.pur_some hf
      intro v2 F2 H2 x2 d2 q2
      refine ⟨by show 2 ≤ sizeLine; decide, fun p hp => k _ (upd F2 p _) _ (x1.trans (x2.trans (.new x2.fh hp))) (d2.new hp x2.fh) (.lst upd_same ?_)⟩
      exact DvAll.mono (Grow.new (dk := dk) x2.fh hp).x.ff (.cons (Dv.mono x2.ff q1) (.cons q2 .nil))
    | inr ex =>
      obtain ⟨c, fs⟩ := ex
      obtain ⟨rfl, rfl⟩ := M.pur_some hf
      exact fun C dd F2 H2 e2 x2 => k C dd F2 H2 e2 (x1.trans x2)
/-- statements -/
def sSetX (i : Nat) (fx : AS → M XR) : AS → M Fl := fun z => xThen (fx z) (fun d => M.pur (.nx (z.set i (.dat d)))) fun c fs => M.pur (.ex c fs z)
def sRetX (fx : AS → M XR) : AS → M Fl := fun z => xThen (fx z) (fun d => M.pur (.rt d)) fun c fs => M.pur (.ex c fs z)
def sDropX (fx : AS → M XR) : AS → M Fl := fun z => xThen (fx z) (fun _ => M.pur (.nx z)) fun c fs => M.pur (.ex c fs z)
theorem js_setX [NTb] {i : Nat} {x : Str} {p' : Pos} (hN : X.N.Nodup) (hi : X.N[i]? = some x) (hx : Loc X.env.scope x) (h : JX X fx a) (hs : swapsWith a (some (.Name x p')) pos.line X.env = pure false := by rfl)
    (hf : X.fn x = true ∨ X.env.scope.names.lookup x = some .local := by first | exact .inl rfl | exact .inr rfl | assumption) : JS X (sSetX i fx) (.Assign [.Name x p'] a pos) :=
  PS_imp (ps_set hN hi hx h hs hf) fun D σ H ⟨dk, F0, H0, F, z, δ, fl, δ', hf, x, ok, fr, k⟩ => by
    obtain ⟨r, δ1, h1, hf⟩ := M.bnd_some hf
    refine ⟨dk, F, z, δ, r, δ1, h1, ok, ?_⟩
    cases r with
    | inl d =>
      obtain ⟨rfl, rfl⟩ := M.pur_some hf
      exact fun v F' H' x1 d1 r1 => k _ F' H' (x.trans x1) x1.ff ((ok.ext x1 d1).setDat i (sv := .dat d) r1 (fun _ q => nomatch q)) (fr.setDat i (fun _ q => nomatch q))
    | inr ex =>
      obtain ⟨c, fs⟩ := ex
      obtain ⟨rfl, rfl⟩ := M.pur_some hf
      exact fun C d F' H' e x1 d1 eo => k C σ F' H' d e (x.trans x1) x1.ff (ok.ext x1 d1) fr eo
theorem js_retX [NTb] (h : JX X fx a) : JS X (sRetX fx) (.Return (some a) pos) := PS_imp (ps_ret h) fun D σ H ⟨dk, F0, H0, F, z, δ, fl, δ', hf, x, ok, fr, k⟩ => by
    obtain ⟨r, δ1, h1, hf⟩ := M.bnd_some hf
    refine ⟨dk, F, z, δ, r, δ1, h1, ok, ?_⟩
    cases r with
    | inl d =>
      obtain ⟨rfl, rfl⟩ := M.pur_some hf
      exact fun v F' H' x1 d1 r1 => k v F' H' (x.trans x1) d1 r1
    | inr ex =>
      obtain ⟨c, fs⟩ := ex
      obtain ⟨rfl, rfl⟩ := M.pur_some hf
      exact fun C d F' H' e x1 d1 eo => k C σ F' H' d e (x.trans x1) x1.ff (ok.ext x1 d1) fr eo
theorem js_exprX [NTb] (h : JX X fx a) (hs : swapsWith a none pos.line X.env = pure false := by rfl) : JS X (sDropX fx) (.Expr a pos) := PS_imp (ps_expr h hs) fun D σ H ⟨dk, F0, H0, F, z, δ, fl, δ', hf, x, ok, fr, k⟩ => by
    obtain ⟨r, δ1, h1, hf⟩ := M.bnd_some hf
    refine ⟨dk, F, z, δ, r, δ1, h1, ok, ?_⟩
    cases r with
    | inl d =>
      obtain ⟨rfl, rfl⟩ := M.pur_some hf
      exact fun v F' H' x1 d1 r1 => k σ F' H' (x.trans x1) x1.ff (ok.ext x1 d1) fr
    | inr ex =>
      obtain ⟨c, fs⟩ := ex
      obtain ⟨rfl, rfl⟩ := M.pur_some hf
      exact fun C d F' H' e x1 d1 eo => k C σ F' H' d e (x.trans x1) x1.ff (ok.ext x1 d1) fr eo
end
/-- __init__(self, v): self.f = v -/
def spIni (K : PySem.W.Frag) (f : Str) : Sp := fun vs H Q _ => ∃ (a C : Addr) (v : V), vs = [.ref a, v] ∧ OexC K C ∧ PySem.W.findIn K (.ref C) f = some none ∧ H a = some (exo a C none) ∧ ∀ dx, H dx = none → dx ≠ a → Q .non (upd (upd H dx (exd dx [(f, v)])) a (exo a C (some dx)))
/-- what is wanted of such a class: x its name, f its field -/
structure Exn1 (P : Program) (w : World) (K : PySem.W.Frag) (mg : Str → Option Value) (base : Heap) (x f : Str) (C fI : Addr) (fd : FuncData) (ps : List Str) : Prop where
  T : OexC K C
  iC : PySem.W.findIn K (.ref C) "__init__" = some (some (.ref fI))
  tI : PySem.W.typeIn K (.ref fI) = some (.type "function")
  F1 : FnOk P w K mg base CX0 1 fI fd ps (spIni K f)
  hb : Binds K fd ps []
  hm : mg x = some (.ref C)
  hno : PySem.W.findIn K (.ref C) f = some none
def sRaise1 (c f : Str) (fa : AS → M PyData) : AS → M Fl := fun z => M.bnd (fa z) fun d => M.pur (.ex c [(f, d)] z)
section
variable {X : Cx} {e a b c : Expr} {es : List Expr} {fa fb fc : AS → M PyData} {fx : AS → M XR} {pos : Pos}
theorem js_raise1 [NTb] {x f : Str} {C fI : Addr} {fd : FuncData} {ps : List Str} {k : Nat} {p pos2 : Pos} (E : Exn1 X.prog X.w X.K X.mg X.base x f C fI fd ps) (hE : NTb.E x = some C) (hc : X.calm = true) (hr : Room k X.A) (hk : 2 ≤ k) (hg : Gl X x) (ha : JE X fa a) (hdb : (x == ("__debug__" : Str)) = false := by decide)
    (he : starEach (a :: []) X.env = (false, eval a X.env) :: starEach [] X.env := by rfl) (hpl : (backTo pos (starEach [] X.env)).any (·.1) = false := by rfl) : JS X (sRaise1 x f fa) (.Raise (some (.Call (.Name x p) [a] [] pos)) none pos2) :=
  PS_imp (ps_raise hc takes_Wx (pmk_oex (CX := CX0) E.T E.iC E.tI E.F1 (hr.mono hk) E.hb .nil pass0 hg E.hm (pa_cons ha pa_nil he) hdb he hpl)) fun D σ H ⟨dk, F0, H0, F, z, δ, fl, δ', hf, x0, ok, fr, k⟩ => by
    obtain ⟨d, δ1, h1, hf⟩ := M.bnd_some hf
    obtain ⟨rfl, rfl⟩ := M.pur_some hf
    refine ⟨dk, F, z, δ, d, _, h1, ok, fun v F1 H1 x1 d1 r1 => ⟨by show 1 ≤ 1000; decide, fun ae hae => ⟨ae, C, v, rfl, E.T, E.hno, upd_same, fun dx hdx hne => ⟨rfl, dx, [(f, v)], upd_same, ?_, ?_, ?_⟩⟩⟩⟩
    · rw [upd_ne hne, upd_same]
    · rw [upd_ne hne] at hdx; exact hdx
    · have hd1 : H1 dx = none := by rw [upd_ne hne] at hdx; exact hdx
      have e1 : upd (L2.del (upd (upd (upd H1 ae (exo ae C none)) dx (exd dx [(f, v)])) ae (exo ae C (some dx))) ae) dx (.xd [(f, v)]) = upd H1 dx (.xd [(f, v)]) := by
        funext q
        by_cases q1 : q = dx
        · subst q1; rw [upd_same, upd_same]
        · rw [upd_ne q1, upd_ne q1]
          by_cases q2 : q = ae
          · subst q2; rw [del_same, hae]
          · rw [del_ne q2, upd_ne q2, upd_ne q1, upd_ne q2]
      rw [e1]
      have g : Grow dk F1 H1 F1 (upd H1 dx (.xd [(f, v)])) := .open x1.fh hd1
      exact k C σ F1 _ (some dx) hE ((x0.trans x1).trans g.x) x1.ff ((ok.ext x1 d1).ext g.x (g.d _ d1)) fr (.inr ⟨dx, f, v, d, rfl, rfl, upd_same, r1⟩)
end
def spX [NTb] (K : PySem.W.Frag) (fn : List AV → M XR) : Sp := fun vs H Q E => ∃ dk F as δ r δ', fn as δ = some (r, δ') ∧ Same F H ∧ DeckOk dk δ F H ∧ AVs K dk F vs as ∧ match r with
  | .inl d => ∀ v F' H', Ext dk F H F' H' → DeckOk dk δ' F' H' → Dv K F' v d → Q v H'
  | .inr (c, fs) => ∀ C d F' H', NTb.E c = some C → Ext dk F H F' H' → DeckOk dk δ' F' H' → ExOk K F' H' d fs → E (.ref C) d H'
def flX (fl : Fl) : M XR := match fl with
  | .rt d => M.pur (.inl d)
  | .nx _ => M.pur (.inl .none)
  | .ex c fs _ => M.pur (.inr (c, fs))
  | _ => M.no
def runX (n N : Nat) (g : AS → M Fl) : List AV → M XR := fun as => if as.length = n then M.bnd (g (startA N as)) flX else M.no
structure FnX (P : Program) (w : World) (K : PySem.W.Frag) (mg : Str → Option Value) (base : Heap) (k : Nat) (f : Addr) (fd : FuncData) (ps : List Str) (sp : Sp) : Prop where
  len : ∀ vs H Q E, sp vs H Q E → vs.length = ps.length
  run : ∀ (A : Around) (outer : List Env) (s : Shared) (H : Hp) (args : Args) (us : List Value) (vs : List V) (Q : VK) (E : XK), A.guards = some [] → Room k A → Env0 P w K mg base A outer s H → BindsTo s fd args (ps.zip us) → Vals vs us → sp vs H Q E →
    codeAny (model P w) A (.call (.ref f) args) (CR (L2.CX P w) outer P w H s Q E) s
section
variable {P : Program} {w : World} {K : PySem.W.Frag} {mg : Str → Option Value} {base : Heap}
theorem fnX_of {x qual : Str} {st : Stmt} {f : Addr} {fd : FuncData} {N ps : List Str} {k : Nat} {sp : Sp} (F : Fun K x qual st f fd) (S : FnScope N ps (defScope st)) (len : ∀ vs H Q E, sp vs H Q E → vs.length = ps.length)
    (body : ∀ (cdv : Value) (A : Around) (outer : List Env) (s : Shared) (H : Hp) (vs : List V) (Q : VK) (E : XK), A.guards = some [] → Room k (A.deeper (envOfC qual (defScope st) s.heap.objs.size f cdv)) → sp vs H Q E →
      ∃ t, PSs (cxOf (L2.CX P w) P w K mg base N qual (defScope st) f cdv A outer s H E) (defBody st) t ∧ t { nx := fun _ H' => Q .non H', rt := Q } (L2.start N vs) H) : FnX P w K mg base (k + 1) f fd ps sp := by
  obtain ⟨oc, od, kV, doc, pm, an, cdv, ct, osl, efd, at_f, cdOk⟩ := F.ex
  subst efd
  constructor
  · exact len
  intro A outer s H args us vs Q E hg room env bind vals want
  have inK : K.In s.heap := env.mod.kin.keeps fun b o q => (env.bs b o q).1
  refine codeAny_call_function room.depth (inK _ _ at_f) rfl S.co S.gen rfl (PySem.W.codeRec_of inK cdOk) (bind _ _ _ _ ?_)
  refine wpAny_newFunctionEnv_cells S.kind (fun y hy => ?_) fun e2 he s1 new => ?_
  · rcases S.par y.1 (List.of_mem_zip (a := y.1) (b := y.2) hy).1 with q | q
    · exact Or.inl q
    · exact Or.inr ⟨q, PySem.W.cellsFrom_some _ _ _ (Or.inl q)⟩
  · subst he
    have noLim : s.heap.NoLimit := env.mod.nolimit.keeps fun b o q => (env.bs b o q).1
    refine ⟨noLim.keeps new.toInCall.keep, codeAny_func ?_⟩
    obtain ⟨t, ht, hq⟩ := body cdv A outer s H vs Q E hg (room.deeper _) want
    have I := inv_start (CX := L2.CX P w) (E := E) (qual := qual) (f := f) (cd := cdv) S room.hd env (len _ _ _ _ want) vals new
    refine wpAny_mono (ht.run [] s1 _ H _ I hq) (fun fl s2 ends => ?_) (fun _ _ z => z)
    cases fl with
    | ret u =>
      obtain ⟨v, _, H2, J, rv, q⟩ := ends
      exact ⟨v, H2, J.os, J.bare, J.base, J.hok, rv, q⟩
    | next =>
      obtain ⟨_, H2, J, q⟩ := ends
      exact ⟨.non, H2, J.os, J.bare, J.base, J.hok, rfl, q⟩
    | brk =>
      obtain ⟨_, _, _, q⟩ := ends
      exact q.elim
    | cont =>
      obtain ⟨_, _, _, q⟩ := ends
      exact q.elim
theorem ok_defX [NTb] {x qual : Str} {st : Stmt} {f : Addr} {fd : FuncData} {N ps : List Str} {k : Nat} {g : AS → M Fl} (F : Fun K x qual st f fd) (S : FnScope N ps (defScope st))
    (hb : ∀ (cdv : Value) (A : Around) (outer : List Env) (s : Shared) (H : Hp) (E : XK), A.guards = some [] → Room k (A.deeper (envOfC qual (defScope st) s.heap.objs.size f cdv)) → JSs (cxOf (L2.CX P w) P w K mg base N qual (defScope st) f cdv A outer s H E) g (defBody st)) :
    FnX P w K mg base (k + 1) f fd ps (spX K (runX ps.length N.length g)) := by
  have hlen : ∀ {as δ r}, runX ps.length N.length g as δ = some r → as.length = ps.length := fun {as δ r} h => by
    unfold runX at h
    by_cases q : as.length = ps.length
    · exact q
    · rw [if_neg q] at h; cases h
  refine fnX_of F S (fun vs H Q E h => ?_) (fun cdv A outer s H vs Q E hg hr h => ⟨_, hb cdv A outer s H E hg hr, ?_⟩)
  · obtain ⟨dk, F, as, δ, d, δ', hf, sm, dd, r, q⟩ := h
    rw [r.length]
    exact hlen hf
  · obtain ⟨dk, F, as, δ, d, δ', hf, sm, dd, r, q⟩ := h
    have hl := hlen hf
    unfold runX at hf
    rw [if_pos hl] at hf
    obtain ⟨fl, δ1, h1, h2⟩ := M.bnd_some hf
    refine ⟨dk, F, H, F, startA N.length as, δ, fl, δ1, h1, .refl sm, .start sm dd r, .start, ?_⟩
    cases fl with
    | nx z =>
      obtain ⟨rfl, rfl⟩ := M.pur_some h2
      exact fun σ F' H' x s ok fr => q .non F' H' x ok.deck .non
    | rt d' =>
      obtain ⟨rfl, rfl⟩ := M.pur_some h2
      exact fun v F' H' x dd' r' => q v F' H' x dd' r'
    | ex c fs z =>
      obtain ⟨rfl, rfl⟩ := M.pur_some h2
      exact fun C σ F' H' d e x s ok fr eo => Wx_of (takes_of rfl rfl rfl rfl) (q C d F' H' e x ok.deck eo)
    | bk _ => cases h2
    | ct _ => cases h2
end
def xCall (fn : List AV → M XR) (g : AS → M (List AV)) : AS → M XR := fun z => M.bnd (g z) fn
section
variable {X : Cx} {e a b c : Expr} {es : List Expr} {fa fb fc : AS → M PyData} {fx : AS → M XR} {pos : Pos}
theorem runFX {k : Nat} {f : Addr} {fd : FuncData} {ps : List Str} {sp : Sp} {pins : List (Addr × Obj)} {σ : L2.St} {H : Hp} {s : Shared} {Q : VK} {us : List Value} {vs : List V} (G : FnX X.prog X.w X.K X.mg X.base k f fd ps sp) (hg : X.A.guards = some []) (hr : Room k X.A) (hb : Binds X.K fd ps [])
    (I : Inv X pins σ H s) (r : Vals vs us) (h : sp vs H Q (fun cls d H' => Wx X cls d σ H')) : wpAny (model X.prog X.w) X.A (call (.ref f) us) (EP X pins σ Q) X.xe s := by
  have el : (us ++ []).length = ps.length := by
    rw [List.append_nil, ← r.length]
    exact G.len vs H Q _ h
  have bd := hb s us I.kIn el
  rw [List.append_nil] at bd
  refine wpAny_call (codeAny_mono (G.run X.A X.stack s H ⟨us, []⟩ us vs Q _ hg hr I.env0 bd r h) fun res s2 hres => ?_)
  cases res with
  | error er => exact passAt takes_Wx σ pins H s er s2 I hres
  | ok fl =>
    cases fl with
    | ret u => exact I.after hres
    | next => exact hres.elim
    | brk => exact hres.elim
    | cont => exact hres.elim
theorem peX {k : Nat} {f : Addr} {fd : FuncData} {ps : List Str} {sp : Sp} {t : TA} {x : Str} {p : Pos} (G : FnX X.prog X.w X.K X.mg X.base k f fd ps sp) (hu : X.A.guards = some []) (hr : Room k X.A) (hg : Gl X x) (hm : X.mg x = some (.ref f)) (hk : PySem.W.keepIn X.K (.ref f) = true) (hb : Binds X.K fd ps [])
    (ha : PA X (a :: es) t) (hdb : (x == ("__debug__" : Str)) = false) (he : starEach (a :: es) X.env = (false, eval a X.env) :: starEach es X.env) (hpl : (backTo pos (starEach es X.env)).any (·.1) = false) :
    PE X (.Call (.Name x p) (a :: es) [] pos) (fun σ H Q => t σ H fun vs H1 => sp vs H1 Q (fun cls d H' => Wx X cls d σ H')) := by
  constructor
  intro pins s σ H Q I h
  refine wpAny_Call_Name_kw (ld_glob I hg hm (PySem.W.callWith_K (h₀ := X.base) I.ok.mod.kin hk ?_ he hpl) hdb)
  refine thn (ha.run pos pins s σ H _ I h) fun us s1 hq => ?_
  obtain ⟨vs, H1, I1, r, q⟩ := hq
  exact ⟨I1.kIn, runFX G hu hr hb I1 r q⟩
theorem jx_call [NTb] {j k : Nat} {f : Addr} {fd : FuncData} {ps : List Str} {x : Str} {p : Pos} {fn : List AV → M XR} {g : AS → M (List AV)} (F : FnX X.prog X.w X.K X.mg X.base k f fd ps (spX X.K fn)) (hu : X.A.guards = some []) (hr : Room j X.A) (hk : k ≤ j) (hg : Gl X x) (hm : X.mg x = some (.ref f))
    (hkp : PySem.W.keepIn X.K (.ref f) = true) (hb : Binds X.K fd ps []) (ha : JA X g (a :: es)) (hdb : (x == ("__debug__" : Str)) = false := by decide) (he : starEach (a :: es) X.env = (false, eval a X.env) :: starEach es X.env := by rfl) (hpl : (backTo pos (starEach es X.env)).any (·.1) = false := by rfl) : JX X (xCall fn g) (.Call (.Name x p) (a :: es) [] pos) :=
  PE_imp (peX F hu (hr.mono hk) hg hm hkp hb ha hdb he hpl) fun σ H Q ⟨dk, F0, z, δ, r, δ', hf, ok, q⟩ => by
    obtain ⟨as, δ1, h1, h2⟩ := M.bnd_some hf
    refine ⟨dk, F0, z, δ, as, δ1, h1, ok, fun vs F1 H1 x1 d1 r1 => ⟨dk, F1, as, δ1, r, δ', h2, x1.fh, d1, r1, ?_⟩⟩
    cases r with
    | inl d => exact fun v F' H' x dd rv => q v F' H' (x1.trans x) dd rv
    | inr ex => exact fun C d F' H' e x dd eo => q C d F' H' e (x1.trans x) dd eo
end
end VL
set_option Elab.async false
set_option linter.all false
set_option maxRecDepth 100000
namespace VL
open PySem PySem.Spec L2
open PyProof.Rows hiding St
def EndW [NTb] (K : PySem.W.Frag) (W : WX) (dk : Option Dk) (F0 H0 F : Hp) (δ : DS) (D : Ends) : Fl → Prop
  | .nx z => ∀ σ F' H, Ext dk F0 H0 F' H → Same F F' → Ok K dk z δ σ F' H → Fresh z σ H0 → D.nx σ H
  | .bk z => ∀ σ F' H, Ext dk F0 H0 F' H → Same F F' → Ok K dk z δ σ F' H → Fresh z σ H0 → D.bk σ H
  | .ct z => ∀ σ F' H, Ext dk F0 H0 F' H → Same F F' → Ok K dk z δ σ F' H → Fresh z σ H0 → D.ct σ H
  | .rt d => ∀ v F' H, Ext dk F0 H0 F' H → DeckOk dk δ F' H → Dv K F' v d → D.rt v H
  | .ex c fs z => ∀ C σ F' H d, NTb.E c = some C → Ext dk F0 H0 F' H → Same F F' → Ok K dk z δ σ F' H → Fresh z σ H0 → ExOk K F' H d fs → W (.ref C) d σ H
def tStW [NTb] (K : PySem.W.Frag) (W : WX) (g : AS → M Fl) : TS := fun D σ H => ∃ dk F0 H0 F z δ fl δ', g z δ = some (fl, δ') ∧ Ext dk F0 H0 F H ∧ Ok K dk z δ σ F H ∧ Fresh z σ H0 ∧ EndW K W dk F0 H0 F δ' D fl
theorem tr_imp [NTb] {X : Cx} {pn : List (Addr × Obj)} {xe : Value → Shared → Prop} {W : WX} {g : AS → M Fl} (tk : Takes (X.tr pn xe) W) (D : Ends) (σ : L2.St) (H : Hp) : tStW X.K W g D σ H → tSt (X.tr pn xe) g D σ H :=
  fun ⟨dk, F0, H0, F, z, δ, fl, δ', hf, x, ok, fr, k⟩ => ⟨dk, F0, H0, F, z, δ, fl, δ', hf, x, ok, fr, by
    cases fl with
    | nx z => exact k
    | bk z => exact k
    | ct z => exact k
    | rt d => exact k
    | ex c fs z => exact fun C σ F' H d e x s ok fr eo => Wx_of tk (k C σ F' H d e x s ok fr eo)⟩
theorem Ok.setUn [NTb] {K : PySem.W.Frag} {dk : Option Dk} {z : AS} {δ : DS} {σ : L2.St} {F H : Hp} (ok : Ok K dk z δ σ F H) (i : Nat) (w : Option V) : Ok K dk (z.set i .un) δ (σ.set i w) F H := by
  refine ⟨ok.fh, ok.deck, by simp [ok.len], fun j s e ne => ?_, fun j l a ds es hjl e1 e2 e3 => ?_, fun j l a ds es hjl e1 e2 e3 => ?_⟩
  · rcases get_set e with ⟨rfl, rfl, hl⟩ | ⟨hj, e⟩
    · exact absurd rfl ne
    · obtain ⟨u, h1, h2⟩ := ok.sl j s e ne
      exact ⟨u, by rw [List.getElem?_set_ne (fun q => hj q.symm)]; exact h1, h2⟩
  · rcases get_set e1 with ⟨rfl, q, _⟩ | ⟨hj, e1⟩
    · cases q
    · rcases get_set e2 with ⟨rfl, q, _⟩ | ⟨hl, e2⟩
      · cases q
      · rw [List.getElem?_set_ne (fun q => hj q.symm)] at e3
        rw [List.getElem?_set_ne (fun q => hl q.symm)]
        exact ok.dis j l a ds es hjl e1 e2 e3
  · rcases get_set e1 with ⟨rfl, q, _⟩ | ⟨hj, e1⟩
    · cases q
    · rcases get_set e2 with ⟨rfl, q, _⟩ | ⟨hl, e2⟩
      · cases q
      · rw [List.getElem?_set_ne (fun q => hj q.symm)] at e3
        rw [List.getElem?_set_ne (fun q => hl q.symm)]
        exact ok.dit j l a ds es hjl e1 e2 e3
theorem Fresh.setUn {z : AS} {σ : L2.St} {H0 : Hp} (fr : Fresh z σ H0) (i : Nat) (w : Option V) : Fresh (z.set i .un) (σ.set i w) H0 := fun j s a m e1 e2 => by
  rcases get_set e1 with ⟨rfl, q, _⟩ | ⟨hj, e1⟩
  · subst q; exact m.elim
  · rw [List.getElem?_set_ne (fun q => hj q.symm)] at e2
    exact fr j s a m e1 e2
theorem ExOk.ext [NTb] {K : PySem.W.Frag} {dk : Option Dk} {δ : DS} {F H F' H' : Hp} (x : Ext dk F H F' H') (dd : DeckOk dk δ F H) {d : Option Addr} {fs : List (Str × PyData)} (h : ExOk K F H d fs) : ExOk K F' H' d fs := by
  rcases h with h | ⟨b, f, v, a, h1, h2, h3, h4⟩
  · exact .inl h
  · refine .inr ⟨b, f, v, a, h1, h2, x.hh b _ h3 (fun q => ?_) (fun _ q => nomatch q), Dv.mono x.ff h4⟩
    have dp := dd.1
    cases dk with
    | none => exact q
    | some k =>
      obtain ⟨_, h⟩ := DeckAt.kind dp q
      rcases h with ⟨vs, h⟩ | ⟨C, dx, vs, h⟩
      · rw [h] at h3; cases h3
      · rw [h] at h3; cases h3
/-- the exception's slot is i; c its class's name, fs its fields -/
def tU [NTb] (K : PySem.W.Frag) (i : Nat) (a : Addr) (cls : Value) (d : Option Addr) (h : Str → List (Str × PyData) → Option PyData) : TE := fun σ H Q => ∃ dk δ F c C fs u, h c fs = some u ∧ NTb.E c = some C ∧ cls = .ref C ∧ σ[i]? = some (some (.ref a)) ∧ Same F H ∧ DeckOk dk δ F H ∧ ExOk K F H d fs ∧
  ∀ v F' H', Ext dk F H F' H' → DeckOk dk δ F' H' → Dv K F' v u → Q v H'
def tUs [NTb] (K : PySem.W.Frag) (i : Nat) (a : Addr) (cls : Value) (d : Option Addr) (h : Str → List (Str × PyData) → Option (List PyData)) : TA := fun σ H Q => ∃ dk δ F c C fs u, h c fs = some u ∧ NTb.E c = some C ∧ cls = .ref C ∧ σ[i]? = some (some (.ref a)) ∧ Same F H ∧ DeckOk dk δ F H ∧ ExOk K F H d fs ∧
  ∀ vs F' H', Ext dk F H F' H' → DeckOk dk δ F' H' → DvAll K F' vs u → Q vs H'
def uC (d : PyData) : Str → List (Str × PyData) → Option PyData := fun _ _ => some d
def uNil : Str → List (Str × PyData) → Option (List PyData) := fun _ _ => some []
def uCons (h : Str → List (Str × PyData) → Option PyData) (t : Str → List (Str × PyData) → Option (List PyData)) : Str → List (Str × PyData) → Option (List PyData) := fun c fs => (h c fs).bind fun d => (t c fs).map (d :: ·)
def uLst (t : Str → List (Str × PyData) → Option (List PyData)) : Str → List (Str × PyData) → Option PyData := fun c fs => (t c fs).bind fun ds => if ds.length ≤ sizeLine then some (.list ds) else none
/-- isinstance(e, T), by the class's name -/
def uIs (m : List (Str × Bool)) : Str → List (Str × PyData) → Option PyData := fun c _ => (m.lookup c).map .bool
def uIf (t h1 h2 : Str → List (Str × PyData) → Option PyData) : Str → List (Str × PyData) → Option PyData := fun c fs => (t c fs).bind fun b => match b with
  | .bool true => h1 c fs
  | .bool false => h2 c fs
  | _ => none
section
variable {X : Cx} {i : Nat} {a : Addr} {oe : Obj} {cls : Value} {d : Option Addr} {pn : List (Addr × Obj)} {e e1 e2 : Expr} {es : List Expr} {pos : Pos} {h h1 h2 : Str → List (Str × PyData) → Option PyData} {t : Str → List (Str × PyData) → Option (List PyData)}
abbrev JU [NTb] (X : Cx) (i : Nat) (a : Addr) (oe : Obj) (cls : Value) (d : Option Addr) (pn : List (Addr × Obj)) (h : Str → List (Str × PyData) → Option PyData) (e : Expr) : Prop := PE (X.suite a ((a, oe) :: pn)) e (tU X.K i a cls d h)
abbrev JUs [NTb] (X : Cx) (i : Nat) (a : Addr) (oe : Obj) (cls : Value) (d : Option Addr) (pn : List (Addr × Obj)) (h : Str → List (Str × PyData) → Option (List PyData)) (es : List Expr) : Prop := PA (X.suite a ((a, oe) :: pn)) es (tUs X.K i a cls d h)
theorem ju_const [NTb] {v : V} {u : PyData} (p : PE (X.suite a ((a, oe) :: pn)) e (L2.tC v)) (r : ∀ F, Dv X.K F v u) : JU X i a oe cls d pn (uC u) e := PE_imp p fun σ H Q ⟨dk, δ, F, c, C, fs, w, e1, e2, e3, e4, sm, dd, eo, k⟩ => by
  cases e1
  exact k v F H (.refl sm) dd (r F)
theorem ju_str [NTb] {x j p} : JU X i a oe cls d pn (uC (.str x)) (.Constant (.str x) j p) := ju_const pe_str fun _ => .str x
theorem jus_nil [NTb] : JUs X i a oe cls d pn uNil [] := PA_imp pa_nil fun σ H Q ⟨dk, δ, F, c, C, fs, u, e1, e2, e3, e4, sm, dd, eo, k⟩ => by
  cases e1
  exact k [] F H (.refl sm) dd .nil
theorem jus_cons [NTb] (p : JU X i a oe cls d pn h e) (r : JUs X i a oe cls d pn t es) (hs : starEach (e :: es) X.env = (false, eval e X.env) :: starEach es X.env := by rfl) : JUs X i a oe cls d pn (uCons h t) (e :: es) :=
  PA_imp (pa_cons p r hs) fun σ H Q ⟨dk, δ, F, c, C, fs, u, e1, e2, e3, e4, sm, dd, eo, k⟩ => by
    obtain ⟨w, q1, q2⟩ := Option.bind_eq_some_iff.mp e1
    obtain ⟨ws, q3, rfl⟩ := Option.map_eq_some_iff.mp q2
    refine ⟨dk, δ, F, c, C, fs, w, q1, e2, e3, e4, sm, dd, eo, fun v F1 H1 x1 d1 r1 => ⟨dk, δ, F1, c, C, fs, ws, q3, e2, e3, e4, x1.fh, d1, eo.ext x1 dd, fun vs F2 H2 x2 d2 r2 => ?_⟩⟩
    exact k _ F2 H2 (x1.trans x2) d2 (.cons (Dv.mono x2.ff r1) r2)
theorem ju_lst [NTb] (p : JUs X i a oe cls d pn t es) : JU X i a oe cls d pn (uLst t) (.List es pos) := PE_imp (pe_lst p) fun σ H Q ⟨dk, δ, F, c, C, fs, u, e1, e2, e3, e4, sm, dd, eo, k⟩ => by
  obtain ⟨ws, q1, q2⟩ := Option.bind_eq_some_iff.mp e1
  refine ⟨dk, δ, F, c, C, fs, ws, q1, e2, e3, e4, sm, dd, eo, fun vs F1 H1 x1 d1 r1 => ?_⟩
  split at q2
  · rename_i hl
    injection q2 with q2
    subst q2
    refine ⟨by rw [r1.length]; exact hl, fun p hp => k _ (upd F1 p _) _ (x1.trans (.new x1.fh hp)) (d1.new hp x1.fh) (.lst upd_same (DvAll.mono (Grow.new (dk := dk) x1.fh hp).x.ff r1))⟩
  · cases q2
theorem ju_if [NTb] {b1 : Expr} {ht : Str → List (Str × PyData) → Option PyData} (pb : JU X i a oe cls d pn ht b1) (p1 : JU X i a oe cls d pn h1 e1) (p2 : JU X i a oe cls d pn h2 e2)
    (hv : ∀ whole, isTrue b1 (X.suite a ((a, oe) :: pn)).env whole = (do let v ← whole; standAt b1.pos; holding [v] (truthy v)) := by intro _; rfl) : JU X i a oe cls d pn (uIf ht h1 h2) (.IfExp b1 e1 e2 pos) :=
  PE_imp (pe_ifExp (pt_val pb hv) p1 p2) fun σ H Q ⟨dk, δ, F, c, C, fs, u, q, q2, e3, e4, sm, dd, eo, k⟩ => by
    obtain ⟨b, r1, r2⟩ := Option.bind_eq_some_iff.mp q
    refine ⟨dk, δ, F, c, C, fs, b, r1, q2, e3, e4, sm, dd, eo, fun v F1 H1 x1 d1 rv => ?_⟩
    cases b with
    | bool b =>
      cases rv
      refine ⟨b, rfl, ?_⟩
      cases b with
      | true =>
        refine iteT ?_
        exact ⟨dk, δ, F1, c, C, fs, u, r2, q2, e3, e4, x1.fh, d1, eo.ext x1 dd, fun v F2 H2 x2 d2 rv => k v F2 H2 (x1.trans x2) d2 rv⟩
      | false =>
        refine iteF ?_
        exact ⟨dk, δ, F1, c, C, fs, u, r2, q2, e3, e4, x1.fh, d1, eo.ext x1 dd, fun v F2 H2 x2 d2 rv => k v F2 H2 (x1.trans x2) d2 rv⟩
    | _ => cases r2
/-- what isinstance wants of an exception class of the program -/
structure IsiC (K : PySem.W.Frag) (C : Addr) : Prop where
  hcl : (PySem.W.clsIn K C).isSome = true
  hga : PySem.W.findIn K (.ref C) "__getattribute__" = some (some (.builtin "BaseException.__getattribute__"))
  hgt : PySem.W.findIn K (.ref C) "__getattr__" = some none
  hs : PySem.W.subIn K (.ref C) (.type "BaseException") = some true
  ha : PySem.W.findIn K (.ref C) "__class__" = some (some (.builtin "object.__class__"))
  hn : PySem.W.specialIn K (.builtin "object.__class__") "__get__" = some (some (.builtin "getset_descriptor.__get__"))
  ht : PySem.W.takesIn K (.builtin "object.__class__") = some true
  hm : PySem.W.mroIn K C (.type "object") = some true
def rIsU [NTb] (K : PySem.W.Frag) (a : Addr) (cls : Value) (d : Option Addr) (cv : Value) (m : List (Str × Bool)) : List V → Hp → VK → Prop := fun xs H Q => ∃ (c : Str) (C : Addr) (fs : List (Str × PyData)) (F : Hp) (k : V) (b : Bool), xs = [.ref a, k] ∧ (∀ u, RelV k u → u = cv) ∧ NTb.E c = some C ∧ cls = .ref C ∧ ExOk K F H d fs ∧ m.lookup c = some b ∧ Q (.bl b) H
theorem call_isU [NTb] {cv : Value} {m : List (Str × Bool)} (T : ∀ c C b, NTb.E c = some C → m.lookup c = some b → IsiC X.K C ∧ PySem.W.kitOne X.K (.ref C) cv = some b) (hz : Zc cls d oe) (hf : ∃ vs, oe.data = .fields vs) : CallR (X.suite a ((a, oe) :: pn)) (.builtin "isinstance") (rIsU X.K a cls d cv m) := by
  intro pins s σ H xs us Q I r hh
  obtain ⟨c, C, fs, F, kv, b, rfl, hcv, e2, e3, eo, ml, q⟩ := hh
  obtain ⟨T1, T2⟩ := T c C b e2 ml
  subst e3
  match us, r with
  | [u0, u1], .cons rx (.cons rt .nil) =>
    cases rx
    have ec := hcv _ rt
    subst ec
    obtain ⟨hget, _⟩ := I.pin (a, oe) (List.mem_append.mpr (.inl List.mem_cons_self))
    obtain ⟨vs, hv⟩ := hf
    obtain ⟨od2, J⟩ : ∃ od2, PySem.W.InstAt s.heap a oe C od2 := by
      rcases eo with ⟨rfl, _⟩ | ⟨dd, f, v, w, rfl, _, h3, _⟩
      · exact ⟨none, hget, hz.1, by unfold PySem.W.notCls; rw [hv] <;> rfl, by rw [hz.2]; exact True.intro⟩
      · have hx : ObjOk X.prog X.w H s.heap dd (.xd [(f, v)]) := I.hok dd _ h3
        obtain ⟨mA, hns, hr⟩ := hx
        obtain ⟨od, ho, hl⟩ := lookIn_ns hns
        exact ⟨some od, hget, hz.1, by unfold PySem.W.notCls; rw [hv] <;> rfl, by rw [hz.2]; exact ho⟩
    exact PySem.W.kia_one (PySem.W.kitx_exc T1.hcl T1.hga T1.hgt T1.hs T1.ha T1.hn T1.ht T1.hm) I.kIn J T2 (fun z => nomatch z) fun tk => ⟨.bl b, H, I.kept (t' := tk) fun _ _ z => z, rfl, q⟩
theorem ju_is [NTb] {p : Pos} {cv : Value} {kv : V} {m : List (Str × Bool)} (T : ∀ c C b, NTb.E c = some C → m.lookup c = some b → IsiC X.K C ∧ PySem.W.kitOne X.K (.ref C) cv = some b) (hz : Zc cls d oe) (hf : ∃ vs, oe.data = .fields vs) (hg : Gl X "isinstance") (hm : X.mg "isinstance" = none)
    (he : PE (X.suite a ((a, oe) :: pn)) e (tVar i)) (hk : PE (X.suite a ((a, oe) :: pn)) e1 (L2.tC kv)) (hkv : ∀ u, RelV kv u → u = cv)
    (hs : starEach [e, e1] X.env = (false, eval e X.env) :: starEach [e1] X.env := by rfl) (hs2 : starEach [e1] X.env = (false, eval e1 X.env) :: starEach [] X.env := by rfl) (hpl : (backTo pos (starEach [e1] X.env)).any (·.1) = false := by rfl) : JU X i a oe cls d pn (uIs m) (.Call (.Name "isinstance" p) [e, e1] [] pos) :=
  PE_imp (pe_callB (call_isU T hz hf) hg hm (by decide +kernel) (pa_cons he (pa_cons hk pa_nil hs2) hs) (by decide) (by decide) hs hpl) fun σ H Q ⟨dk, δ, F, c, C, fs, u, q, q2, e3, e4, sm, dd, eo, k⟩ => by
    obtain ⟨b, ml, rfl⟩ := Option.map_eq_some_iff.mp q
    exact ⟨_, e4, c, C, fs, F, kv, b, rfl, hkv, q2, e3, eo, ml, k _ F H (.refl sm) dd (.bl b)⟩
end
/-- try: g, except c as n: x = h (i the slot of n, j that of x) -/
def sTry1 (c : Str) (i j : Nat) (h : Str → List (Str × PyData) → Option PyData) (g : AS → M Fl) : AS → M Fl := fun z => M.bnd (g z) fun fl => match fl with
  | .ex c' fs z' => if c' = c ∧ i < z'.length then M.bnd (M.opt (h c' fs)) fun u => M.pur (.nx (((z'.set i .un).set j (.dat u)).set i .un)) else M.no
  | fl => M.pur fl
end VL
set_option Elab.async false
set_option linter.all false
set_option maxRecDepth 100000
namespace VL
open PySem PySem.Spec L2
open PyProof.Rows hiding St
def clsS (st : Stmt) (j : Nat) : Stmt := match st with
  | .ClassDef _ _ _ body _ _ _ _ _ _ _ => body.getD j (.Pass ⟨0, 0, 0, 0⟩)
  | _ => .Pass ⟨0, 0, 0, 0⟩
def unX (fn : List AV → M XR) : List AV → M PyData := fun as => M.bnd (fn as) fun r => match r with
  | .inl d => M.pur d
  | .inr _ => M.no
section
variable {P : Program} {w : World} {K : PySem.W.Frag} {mg : Str → Option Value} {base : Heap}
theorem ok_ini {x qual f : Str} {st : Stmt} {fI : Addr} {fd : FuncData} (F : Fun K x qual st fI fd) (S : FnScope [Str.ofString "self", f] [Str.ofString "self", f] (defScope st))
    (hb : ∀ X : Cx, X.N = [Str.ofString "self", f] → X.env.scope = defScope st → X.K = K → PSs X (defBody st) (tOst K f (tVar 0) (tVar 1))) : FnOk P w K mg base CX0 1 fI fd [Str.ofString "self", f] (spIni K f) := by
  refine F.ok S (fun vs H Q E h => ?_) (fun cdv A outer s H vs Q E hr h => ⟨_, hb _ rfl rfl rfl, ?_⟩)
  · obtain ⟨a, C, v, rfl, _⟩ := h; rfl
  · obtain ⟨a, C, v, rfl, T, no, ha, k⟩ := h
    exact ⟨v, rfl, .ref a, rfl, a, C, rfl, T, no, .inl ⟨ha, fun dx h1 h2 => k dx h1 h2⟩⟩
theorem FnX.g [NTb] {k : Nat} {f : Addr} {fd : FuncData} {ps : List Str} {fn : List AV → M XR} (G : FnX P w K mg base k f fd ps (spX K fn)) : FnG P w K mg base k f fd ps (spF K (unX fn)) := by
  have key : ∀ {vs : List V} {H : Hp} {Q : VK} {E : XK}, spF K (unX fn) vs H Q E → spX K fn vs H Q (fun _ _ _ => False) := fun {vs H Q E} ⟨dk, F, as, δ, d, δ', hf, sm, dd, r, q⟩ => by
    obtain ⟨x, δ1, h1, h2⟩ := M.bnd_some hf
    cases x with
    | inl d' =>
      obtain ⟨rfl, rfl⟩ := M.pur_some h2
      exact ⟨dk, F, as, δ, .inl d, _, h1, sm, dd, r, q⟩
    | inr ex => cases h2
  refine ⟨fun vs H Q E h => G.len vs H Q _ (key h), fun A outer s H args us vs Q hg hr e0 b rv h => codeAny_mono (G.run A outer s H args us vs Q _ hg hr e0 b rv (key h)) fun r s' hq => ?_⟩
  cases r with
  | ok fl =>
    cases fl with
    | ret u => exact hq
    | next => exact hq
    | brk => exact hq
    | cont => exact hq
  | error er =>
    obtain ⟨_, _, _, _, _, _, _, _, _, _, _, _, z⟩ := hq
    exact z.elim
end
theorem lookup_all {α : Type} {R : Str → α → Prop} : ∀ {l : List (Str × α)}, (∀ p ∈ l, R p.1 p.2) → ∀ c a, l.lookup c = some a → R c a
  | [], _, _, _, e => by cases e
  | (x, y) :: l, h, c, a, e => by
    rw [List.lookup_cons] at e
    by_cases q : c = x
    · subst q
      simp only [beq_self_eq_true] at e
      cases e
      exact h _ List.mem_cons_self
    · have q2 : (c == x) = false := by simpa using q
      rw [q2] at e
      exact lookup_all (fun p hp => h p (List.mem_cons_of_mem _ hp)) c a e
theorem exm_own {K : PySem.W.Frag} {S : Addr} (h1 : PySem.W.subIn K (.ref S) (.type "BaseException") = some true) (h2 : PySem.W.isClsIn K S = true) (h3 : PySem.W.typeIn K (.ref S) = some (.type "type")) (h4 : PySem.W.subIn K (.ref S) (.ref S) = some true) :
    PySem.W.exmOne K (.ref S) (.ref S) = some true := by
  unfold PySem.W.isClsIn at h2
  unfold PySem.W.exmOne
  rw [if_pos (by rw [h1]; rfl)]
  simp only [PySem.W.kitCls, h2, h3, h4]
  rfl
theorem kit_own {K : PySem.W.Frag} {S T : Addr} {b : Bool} (h2 : PySem.W.isClsIn K T = true) (h3 : PySem.W.typeIn K (.ref T) = some (.type "type")) (h4 : PySem.W.subIn K (.ref S) (.ref T) = some b) (hs : PySem.W.subIn K (.ref S) (.ref S) = some true) :
    PySem.W.kitOne K (.ref S) (.ref T) = some b := by
  unfold PySem.W.isClsIn at h2
  unfold PySem.W.kitOne
  by_cases q : S = T
  · subst q
    rw [hs] at h4
    rw [if_pos (by simp)]
    exact h4
  · rw [if_neg (by simp [q])]
    simp only [PySem.W.kitCls, h2, h3, h4]
    rfl
end VL
set_option Elab.async false
set_option linter.all false
set_option maxRecDepth 100000
namespace VL
open PySem PySem.Spec L2
open PyProof.Rows hiding St
def odAt (z : AS) (i : Nat) : Option (List (Key × PyData)) := match z[i]? with
  | some (.od ds) => some ds
  | _ => none
def oneOd (z : AS) (i : Nat) : Bool := (List.range z.length).all fun j => j == i || (match z[j]? with
  | some (.od _) => false
  | _ => true)
/-- x = {} -/
def sSetD (i : Nat) : AS → M Fl := fun z => M.pur (.nx (z.set i (.od [])))
section
variable {X : Cx} {e a b c o : Expr} {es : List Expr} {fa fb fc : AS → M PyData} {pos : Pos}
/-- d[k] = v -/
def sPutD (i : Nat) (fk fv : AS → M PyData) : AS → M Fl := fun z => M.bnd (fv z) fun v => M.bnd (fk z) fun k => M.bnd (M.opt (odAt z i)) fun ds => M.bnd (M.opt (keyOf k)) fun j => if ds.length < sizeLine ∧ oneOd z i = true then M.pur (.nx (z.set i (.od (putV ds j v)))) else M.no
/-- from now on it stays -/
def sFrzD (i : Nat) (g : AS → M Fl) : AS → M Fl := fun z => M.bnd (M.opt (odAt z i)) fun ds => if oneOd z i = true then g (z.set i (.dat (dK ds))) else M.no
def keysC (d : PyData) : Option (List PyData) := match d with
  | .dict ds => some (ds.map (·.1))
  | _ => none
def oKeys (f : AS → M PyData) : AS → M (List PyData) := fun z => M.bnd (f z) fun d => M.opt (keysC d)
/-- nothing of one's own among the slots -/
def noMine (z : AS) : Bool := z.all fun s => match s with
  | .own _ => false
  | .od _ => false
  | .ot _ => false
  | _ => true
end
end VL
namespace VL
open PySem PySem.Spec L2
open PyProof.Rows hiding St
end VL
set_option Elab.async false
set_option linter.all false
set_option maxRecDepth 100000
namespace VL
open PySem PySem.Spec L2
open PyProof.Rows hiding St
def odOf : AS → Nat → Option (List (Key × PyData))
  | [], _ => none
  | .od ds :: _, 0 => some ds
  | _ :: _, 0 => none
  | _ :: z, i + 1 => odOf z i
@[simp] theorem odOf_0 {d : List (Key × PyData)} {z : AS} : odOf (.od d :: z) 0 = some d := rfl
@[simp] theorem odOf_s {s : SV} {z : AS} {i : Nat} : odOf (s :: z) (i + 1) = odOf z i := by cases s <;> rfl
theorem odAt_of : ∀ (z : AS) (i : Nat), odAt z i = odOf z i
  | [], _ => rfl
  | s :: z, 0 => by cases s <;> rfl
  | s :: z, i + 1 => by
    rw [odOf_s, ← odAt_of z i]
    rfl
section
variable {z : AS} {δ : DS} {i : Nat} {fa fk fv : AS → M PyData} {g : AS → M Fl}
@[simp] theorem W_sSetD {Q : Fl → DS → Prop} : W (sSetD i z) δ Q ↔ Q (.nx (z.set i (.od []))) δ := W_pur
@[simp] theorem W_sPutD {Q : Fl → DS → Prop} : W (sPutD i fk fv z) δ Q ↔ W (fv z) δ fun v δ => W (fk z) δ fun k δ => oW (odOf z i) fun ds => oW (keyOf k) fun j => (ds.length < sizeLine ∧ oneOd z i = true) ∧ Q (.nx (z.set i (.od (putV ds j v)))) δ := by
  unfold sPutD
  simp only [W_bnd, W_opt, odAt_of]
  constructor <;> exact fun h => h.mono fun d δ q => q.mono fun k δ q => oW_mono q fun ds q => oW_mono q fun j q => by
    by_cases l : ds.length < sizeLine ∧ oneOd z i = true
    · first | exact ⟨l, W_pur.mp (by rw [if_pos l] at q; exact q)⟩ | (rw [if_pos l]; exact W_pur.mpr q.2)
    · first | (rw [if_neg l] at q; exact (W_no.mp q).elim) | exact absurd q.1 l
@[simp] theorem W_sFrzD {Q : Fl → DS → Prop} : W (sFrzD i g z) δ Q ↔ oW (odOf z i) fun ds => oneOd z i = true ∧ W (g (z.set i (.dat (dK ds)))) δ Q := by
  unfold sFrzD
  simp only [W_bnd, W_opt, odAt_of]
  constructor <;> exact fun h => oW_mono h fun ds q => by
    by_cases l : oneOd z i = true
    · first | exact ⟨l, by rw [if_pos l] at q; exact q⟩ | (rw [if_pos l]; exact q.2)
    · first | (rw [if_neg l] at q; exact (W_no.mp q).elim) | exact absurd q.1 l
@[simp] theorem W_oKeys {Q : List PyData → DS → Prop} : W (oKeys fa z) δ Q ↔ W (fa z) δ fun d δ => oW (keysC d) fun ds => Q ds δ := by unfold oKeys; simp
end
end VL
set_option Elab.async false
set_option linter.all false
set_option maxRecDepth 100000
namespace VL
open PySem PySem.Spec L2
open PyProof.Rows hiding St
theorem DvKv.length {K : PySem.W.Frag} {F : Hp} : ∀ {vs : List (Key × V)} {ds : List (PyData × PyData)}, DvKv K F vs ds → vs.length = ds.length
  | _, _, .nil => rfl
  | _, _, .cons _ t => by simp [DvKv.length t]
end VL
set_option Elab.async false
set_option linter.all false
set_option maxRecDepth 100000
namespace VL
open PySem PySem.Spec L2
open PyProof.Rows hiding St
end VL
set_option Elab.async false
set_option linter.all false
set_option maxRecDepth 100000
namespace VL
open PySem PySem.Spec L2
open PyProof.Rows hiding St
abbrev TSX := Addr → Value → Option Addr → TS
/-- the clauses' wish, one behind the other -/
def wAsL (K : PySem.W.Frag) (i : Nat) (Wout : WX) (D : Ends) : List (Value × TSX) → WX
  | [] => Wout
  | p :: r => wAs K p.1 i p.2 (wAsL K i Wout D r) D
inductive HdsAs (X : Cx) (n : Str) : List ExceptHandler → List (Value × TSX) → Prop
  | nil : HdsAs X n [] []
  | cons {x : Str} {c : Value} {ts : TSX} {b₀ : Stmt} {suite : List Stmt} {np pos' : Pos} {hds : List ExceptHandler} {l : List (Value × TSX)} (hc : Names X x c)
      (hsu : ∀ (a : Addr) (oe : Obj) (cls : Value) (d : Option Addr) (pn : List (Addr × Obj)), Zc cls d oe → (∃ vs, oe.data = .fields vs) → PSs (X.suite a ((a, oe) :: pn)) (b₀ :: suite) (ts a cls d)) (r : HdsAs X n hds l) :
      HdsAs X n (.ExceptHandler (some (.Name x np)) (some n) (b₀ :: suite) pos' :: hds) ((c, ts) :: l)
/-- the exception at a has come down at this frame -/
structure Down (X : Cx) (pins : List (Addr × Obj)) (a : Addr) (B : Heap) (sI s : Shared) (σ : L2.St) (H : Hp) (cls : Value) (d : Option Addr) (h : Heap) : Prop where
  J : Inv X pins σ H sI
  nb : ∀ b o, sI.heap.get? b = some o → b ∉ frs X.stack → B.get? b = some o
  up : sI.heap.UpToSlots h
  fl : HandSPX.FlyingZ B (X.env :: X.outer) a (Zc cls d) h
  na : H a = none
  os : s.os = sI.os
  ag : AllBare s.gens
section
variable {X : Cx} {pins : List (Addr × Obj)} {a : Addr} {B : Heap} {sI s : Shared} {σ : L2.St} {H : Hp} {cls : Value} {d : Option Addr} {h : Heap}
theorem Down.inv (C : Down X pins a B sI s σ H cls d h) : Inv X pins σ H { s with heap := h } := C.J.landed C.nb C.fl.1 C.up C.os C.ag
theorem Down.apart (C : Down X pins a B sI s σ H cls d h) (hf : X.env.frame = some X.env.locals) : a ≠ X.env.locals ∧ a ∉ X.fs := by
  obtain ⟨oe, vs, he, hz, hd⟩ := C.fl.there
  have far : a ∉ frs (X.env :: X.outer) := fun hm => by
    obtain ⟨_, o, e, nf⟩ := C.fl.2.2.1.mem hm
    rw [he] at e
    cases e
    exact nf _ hd
  refine ⟨fun q => far (List.mem_filterMap.mpr ⟨X.env, List.mem_cons_self, by rw [hf, q]⟩), fun hm => ?_⟩
  obtain ⟨e, he2, q⟩ := List.mem_filterMap.mp hm
  exact far (List.mem_filterMap.mpr ⟨e, List.mem_cons_of_mem _ he2, q⟩)
/-- no clause was for it: it goes on -/
theorem Down.on {W : WX} {D : Ends} (C : Down X pins a B sI s σ H cls d h) (hs : X.stack = X.env :: X.outer) (hf : X.env.frame = some X.env.locals) (tk : Takes X W) (w : W cls d σ H) :
    wpAny (model X.prog X.w) X.A (handleBy (.ref a) X.env []) (SP X pins D) X.xe { s with heap := h } := by
  refine wpAny_handleBy_nil ?_
  obtain ⟨_, _, _, oe, vs, T, oT, ts', he, hz, hd, h1, hr⟩ := id C.fl
  unfold PySem.passOn
  refine wpAny_bind (wpAny_field he hd h1 ?_)
  rw [if_neg (show ¬ ((Value.ref T == Value.none) = true) from by simp)]
  have last : wpAny (model X.prog X.w) X.A (setFlight (.ref a) X.env.frame) (fun _ s4 => wpAny (model X.prog X.w) X.A (throw (.ref a) : Sem Flow) (SP X pins D) X.xe s4) X.xe { s with heap := h } := by
    rw [hf]
    refine HandSPX.setFlight_upZ C.fl fun h4 hh4 up4 => wpAny_throw (tk _ _ ?_)
    exact ⟨a, B, sI, pins, σ, H, cls, d, rfl, C.J, C.nb, C.up.trans up4, .inr (.inr (by rw [hs]; exact hh4)), C.na, C.os, C.ag, w⟩
  first
    | exact wpAny_bind (wpAny_pure (wpAny_bind last))
    | exact wpAny_bind last
theorem Down.clauses {W : WX} {D : Ends} {i : Nat} {n : Str} (hs : X.stack = X.env :: X.outer) (hf : X.env.frame = some X.env.locals) (hN : X.N.Nodup) (hi : X.N[i]? = some n) (hln : X.env.kindOf n = some .local) (tk : Takes X W) {hds : List ExceptHandler} {l : List (Value × TSX)} (hh : HdsAs X n hds l) :
    ∀ {h : Heap}, Down X pins a B sI s σ H cls d h → wAsL X.K i W D l cls d σ H → wpAny (model X.prog X.w) X.A (handleBy (.ref a) X.env hds) (SP X pins D) X.xe { s with heap := h } := by
  induction hh with
  | nil => exact fun C w => C.on hs hf tk w
  | @cons x c ts b₀ suite np pos' hds l hc hsu r ih =>
    intro h C w
    obtain ⟨b, hb1, hyes, hno⟩ := w
    have ok := C.J.ok
    obtain ⟨nL, nF⟩ := C.apart hf
    obtain ⟨oe, vs, he, hz, hd⟩ := C.fl.there
    have S := C.inv.suite he hd C.na nL nF
    refine wpAny_handleBy_cons (codeAny_handlers_test ?_) (by intro q; cases q)
    have LT : PySem.W.Looks (model X.prog X.w) h (typeOf (.ref a)) cls := fun A Q E s k q => wpAny_typeOf_ref (k _ _ he) (by rw [hz.1]; exact q)
    have LM := PySem.W.exm_one (M := model X.prog X.w) (C.inv.kIn) LT hb1
    have named : ∀ {Q : Value → Shared → Prop} {E : Value → Shared → Prop}, Q c { s with heap := h } → wpAny (model X.prog X.w) (X.A.mark (some (.ref a))) (eval (.Name x np) X.env) Q E { s with heap := h } := fun {Q E} q => by
      obtain ⟨hg, hdbg, hm | ⟨hm, hv, hnn⟩⟩ := hc
      · exact ld_glob (X := X.suite a ((a, oe) :: (X.pn ++ pins))) S hg hm q hdbg
      · exact ld_blt (X := X.suite a ((a, oe) :: (X.pn ++ pins))) S hg hm hv q hnn hdbg
    refine named (LM.here ?_)
    cases b with
    | false => exact ih C (hno rfl)
    | true =>
      refine codeAny_handlers_suite_as ?_
      refine HandSPX.lands_againZ C.fl fun h4 fl4 up4 => ?_
      have C4 : Down X pins a B sI s σ H cls d h4 := ⟨C.J, C.nb, C.up.trans up4, fl4, C.na, C.os, C.ag⟩
      obtain ⟨oe4, vs4, he4, hz4, hd4⟩ := fl4.there
      have S4 := C4.inv.suite he4 hd4 C.na nL nF
      refine store_ok (X := X.suite a ((a, oe4) :: (X.pn ++ pins))) (v := .ref a) S4 hN hi (.inl hln) rfl (fun s5 S5 => ?_) (.inr hln)
      refine wpAny_mono ((hsu a oe4 cls d (X.pn ++ pins) hz4 ⟨_, hd4⟩).run [] s5 _ H _ S5 (hyes rfl a C.na)) (fun f s6 q => ?_) (fun _ _ z => False.elim z)
      have out : ∀ {σ6 : L2.St} {H6 : Hp} {Q : Shared → Prop}, Inv (X.suite a ((a, oe4) :: (X.pn ++ pins))) [] σ6 H6 s6 → (∀ s7, Inv X pins (σ6.set i none) H6 s7 → Q s7) →
          wpAny (model X.prog X.w) X.A (do bindName X.env n .none; unbindBehindTheSuite X.env n pos') (fun _ s7 => Q s7) X.xe s6 := fun {σ6 H6 Q} S6 hq => gone_ok (S6.unsuite ok) hN hi hln hq
      cases f with
      | next => obtain ⟨σ6, H6, S6, q6⟩ := q; exact out S6 fun s7 J7 => ⟨_, _, J7, q6⟩
      | brk => obtain ⟨σ6, H6, S6, q6⟩ := q; exact out S6 fun s7 J7 => ⟨_, _, J7, q6⟩
      | cont => obtain ⟨σ6, H6, S6, q6⟩ := q; exact out S6 fun s7 J7 => ⟨_, _, J7, q6⟩
      | ret u => obtain ⟨v6, σ6, H6, S6, r6, q6⟩ := q; exact out S6 fun s7 J7 => ⟨_, _, _, J7, r6, q6⟩
end
section
variable {X : Cx} {body : List Stmt} {h₀ : ExceptHandler} {hds : List ExceptHandler} {l : List (Value × TSX)} {pos : Pos} {tb : WX → TS} {W : WX} {i : Nat} {n : Str}
theorem ps_tryL (hs : X.stack = X.env :: X.outer) (hf : X.env.frame = some X.env.locals) (hN : X.N.Nodup) (hi : X.N[i]? = some n) (hln : X.env.kindOf n = some .local) (tk : Takes X W)
    (hb : ∀ (W : WX) (pn : List (Addr × Obj)) (xe : Value → Shared → Prop), Takes (X.tr pn xe) W → PassesOwn (model X.prog X.w) X.A X.env xe → PSs (X.tr pn xe) body (tb W))
    (hh : HdsAs X n (h₀ :: hds) l) : PS X (.Try body (h₀ :: hds) [] [] pos) (fun D σ H => tb (wAsL X.K i W D l) D σ H) := by
  refine ⟨fun pins s σ H D I h => ?_⟩
  have ok := I.ok
  have hfr : X.A.frames = some (X.env :: X.outer) := by rw [ok.frames, hs]
  refine wpAny_Try_except ?_
  refine wpAny_mono ((hb (wAsL X.K i W D l) (X.pn ++ pins) (fun e s₁ => wpAny (model X.prog X.w) X.A (noteFrame e X.env) (fun _ s₂ => wpAny (model X.prog X.w) X.A (setFlight e none) (fun _ s₃ =>
    wpAny (model X.prog X.w) X.A (handleBy e X.env (h₀ :: hds)) (SP X pins D) X.xe s₃) X.xe s₂) X.xe s₁) (fun u s' xx => ?_) PassesOwn.looking).run [] s σ H D (I.toTry _) h) (fun f s1 q => ?_) (fun e s1 he => he)
  · obtain ⟨a, B, sI, pins', σ', H', cls, d, rfl, J', nb, up, sky, na, os, ag, w⟩ := xx
    have sky' : Sky B (X.env :: X.outer) a (Zc cls d) X.env.locals s'.heap := by rw [← hs]; exact sky
    show wpAny (model X.prog X.w) X.A (noteFrame (.ref a) X.env) _ _ _
    refine Sky.land Zc.steady hfr hf sky' fun h3 fl3 up3 => ?_
    exact Down.clauses hs hf hN hi hln tk hh ⟨J'.ofTry ok, nb, up.trans up3, fl3, na, os, ag⟩ w
  · cases f with
    | next => obtain ⟨σ', H', J', q⟩ := q; exact wpAny_execs_nil ⟨σ', H', J'.ofTry ok, q⟩
    | brk => obtain ⟨σ', H', J', q⟩ := q; exact ⟨σ', H', J'.ofTry ok, q⟩
    | cont => obtain ⟨σ', H', J', q⟩ := q; exact ⟨σ', H', J'.ofTry ok, q⟩
    | ret u => obtain ⟨v, σ', H', J', r, q⟩ := q; exact ⟨v, σ', H', J'.ofTry ok, r, q⟩
end
end VL
set_option Elab.async false
set_option linter.all false
set_option maxRecDepth 100000
namespace VL
open PySem PySem.Spec L2
open PyProof.Rows hiding St
theorem exm_of {K : PySem.W.Frag} {S T : Addr} {b : Bool} (h1 : PySem.W.subIn K (.ref T) (.type "BaseException") = some true) (h2 : PySem.W.isClsIn K T = true) (h3 : PySem.W.typeIn K (.ref T) = some (.type "type")) (h4 : PySem.W.subIn K (.ref S) (.ref T) = some b) :
    PySem.W.exmOne K (.ref S) (.ref T) = some b := by
  unfold PySem.W.isClsIn at h2
  unfold PySem.W.exmOne
  rw [if_pos (by rw [h1]; rfl)]
  simp only [PySem.W.kitCls, h2, h3, h4]
  rfl
/-- try: g, except c1 as n: x = h1, except c2 as n: x = h2 -/
def sTry2 (c1 c2 : Str) (i j : Nat) (h1 h2 : Str → List (Str × PyData) → Option PyData) (g : AS → M Fl) : AS → M Fl := fun z => M.bnd (g z) fun fl => match fl with
  | .ex c' fs z' => if (c' = c1 ∨ c' = c2) ∧ i < z'.length then M.bnd (M.opt ((if c' = c1 then h1 else h2) c' fs)) fun u => M.pur (.nx (((z'.set i .un).set j (.dat u)).set i .un)) else M.no
  | fl => M.pur fl
section
variable {X : Cx} {i j : Nat} {h1 h2 : Str → List (Str × PyData) → Option PyData} {g : AS → M Fl} {x1 x2 n y c1 c2 : Str} {C1 C2 : Addr} {body : List Stmt} {np1 np2 py1 py2 pos pos1 pos2 apos1 apos2 : Pos} {e1 e2 : Expr}
theorem js_try2 [NTb] (hs : X.stack = X.env :: X.outer) (hf : X.env.frame = some X.env.locals) (hN : X.N.Nodup) (hi : X.N[i]? = some n) (hln : X.env.kindOf n = some .local) (hj : X.N[j]? = some y) (hy : Loc X.env.scope y) (hc1 : Names X x1 (.ref C1)) (hc2 : Names X x2 (.ref C2)) (hE1 : NTb.E c1 = some C1) (hE2 : NTb.E c2 = some C2)
    (m11 : PySem.W.exmOne X.K (.ref C1) (.ref C1) = some true) (m21 : PySem.W.exmOne X.K (.ref C2) (.ref C1) = some false) (m22 : PySem.W.exmOne X.K (.ref C2) (.ref C2) = some true) (ne : c1 ≠ c2)
    (hb : ∀ (pn : List (Addr × Obj)) (xe : Value → Shared → Prop), PassesOwn (model X.prog X.w) X.A X.env xe → JSs (X.tr pn xe) g body)
    (he1 : ∀ (a : Addr) (oe : Obj) (cls : Value) (d : Option Addr) (pn : List (Addr × Obj)), Zc cls d oe → (∃ vs, oe.data = .fields vs) → JU X i a oe cls d pn h1 e1)
    (he2 : ∀ (a : Addr) (oe : Obj) (cls : Value) (d : Option Addr) (pn : List (Addr × Obj)), Zc cls d oe → (∃ vs, oe.data = .fields vs) → JU X i a oe cls d pn h2 e2)
    (hsw1 : swapsWith e1 (some (.Name y py1)) apos1.line X.env = pure false := by rfl) (hsw2 : swapsWith e2 (some (.Name y py2)) apos2.line X.env = pure false := by rfl)
    (hfn : X.fn y = true ∨ X.env.scope.names.lookup y = some .local := by first | exact .inl rfl | exact .inr rfl | assumption) :
    JS X (sTry2 c1 c2 i j h1 h2 g) (.Try body [.ExceptHandler (some (.Name x1 np1)) (some n) [.Assign [.Name y py1] e1 apos1] pos1, .ExceptHandler (some (.Name x2 np2)) (some n) [.Assign [.Name y py2] e2 apos2] pos2] [] [] pos) :=
  PS_imp (ps_tryL (W := Wx X) (tb := fun W => tStW X.K W g) (l := [(.ref C1, fun a cls d => fun D σ H => tU X.K i a cls d h1 σ H fun v H' => D.nx (σ.set j (some v)) H'), (.ref C2, fun a cls d => fun D σ H => tU X.K i a cls d h2 σ H fun v H' => D.nx (σ.set j (some v)) H')]) hs hf hN hi hln takes_Wx
    (fun W pn xe tk po => PSs_imp (hb pn xe po) fun D σ H => tr_imp tk D σ H)
    (.cons hc1 (fun a oe cls d pn hz hfl => pss_one (PS_imp (ps_set hN hj hy (he1 a oe cls d pn hz hfl) hsw1 hfn) fun D σ H q => q)) (.cons hc2 (fun a oe cls d pn hz hfl => pss_one (PS_imp (ps_set hN hj hy (he2 a oe cls d pn hz hfl) hsw2 hfn) fun D σ H q => q)) .nil))) fun D σ H ⟨dk, F0, H0, F, z, δ, fl, δ', hf, x, ok, fr, k⟩ => by
    obtain ⟨f1, δ1, q1, q2⟩ := M.bnd_some hf
    refine ⟨dk, F0, H0, F, z, δ, f1, δ1, q1, x, ok, fr, ?_⟩
    cases f1 with
    | nx z1 => obtain ⟨rfl, rfl⟩ := M.pur_some q2; exact k
    | rt z1 => obtain ⟨rfl, rfl⟩ := M.pur_some q2; exact k
    | bk z1 => obtain ⟨rfl, rfl⟩ := M.pur_some q2; exact k
    | ct z1 => obtain ⟨rfl, rfl⟩ := M.pur_some q2; exact k
    | ex c' fs z1 =>
      have q2' : (if (c' = c1 ∨ c' = c2) ∧ i < z1.length then M.bnd (M.opt ((if c' = c1 then h1 else h2) c' fs)) (fun u => M.pur (Fl.nx (((z1.set i .un).set j (.dat u)).set i .un))) else M.no) δ1 = some (fl, δ') := q2
      by_cases q : (c' = c1 ∨ c' = c2) ∧ i < z1.length
      · rw [if_pos q] at q2'
        obtain ⟨qc, ql⟩ := q
        obtain ⟨u, δ2, h4, h5⟩ := M.bnd_some q2'
        obtain ⟨h6, rfl⟩ := M.opt_some h4
        obtain ⟨rfl, rfl⟩ := M.pur_some h5
        intro C' σ' F' H' d e0 xx s1 ok1 fr1 eo
        have key : ∀ (h : Str → List (Str × PyData) → Option PyData), h c' fs = some u → ∀ a, tU X.K i a (.ref C') d h (σ'.set i (some (.ref a))) H' fun v H'' => D.nx (((σ'.set i (some (.ref a))).set j (some v)).set i none) H'' := fun h hh a => by
          have ok2 := ok1.setUn i (some (.ref a))
          have fr2 := fr1.setUn i (some (.ref a))
          refine ⟨dk, δ', F', c', C', fs, u, hh, e0, rfl, List.getElem?_set_self (by rw [← ok1.len]; exact ql), xx.fh, ok1.deck, eo, fun v F2 H2 x2 d2 r2 => ?_⟩
          exact k _ F2 H2 (xx.trans x2) (s1.trans x2.ff) ((((ok2.ext x2 d2).setDat j (sv := .dat u) r2 (fun _ q => nomatch q))).setUn i none) ((fr2.setDat (sv := .dat u) j (fun _ q => nomatch q)).setUn i none)
        by_cases qq : c' = c1
        · rw [if_pos qq] at h6
          rw [qq] at e0
          rw [hE1] at e0
          cases e0
          have e0' : NTb.E c' = some C1 := by rw [qq]; exact hE1
          exact ⟨true, m11, fun _ a ha => key h1 h6 a, fun q => Bool.noConfusion q⟩
        · rw [if_neg qq] at h6
          rcases qc with qc | qc
          · exact absurd qc qq
          · rw [qc] at e0
            rw [hE2] at e0
            cases e0
            exact ⟨false, m21, fun q => Bool.noConfusion q, fun _ => ⟨true, m22, fun _ a ha => key h2 h6 a, fun q => Bool.noConfusion q⟩⟩
      · rw [if_neg q] at q2'; cases q2'
end
end VL
set_option Elab.async false
set_option linter.all false
set_option maxRecDepth 100000
namespace VL
open PySem PySem.Spec L2
open PyProof.Rows hiding St
end VL
set_option Elab.async false
set_option linter.all false
set_option maxRecDepth 100000
namespace VL
open PySem PySem.Spec L2
open PyProof.Rows hiding St
def obAt (z : AS) (i : Nat) : Option (Str × List (Str × PyData)) := match z[i]? with
  | some (.ob c fs) => some (c, fs)
  | _ => none
theorem DFs.at_ {K : PySem.W.Frag} {F : Hp} {f : Str} : ∀ {vs : List (Str × V)} {ds : List (Str × PyData)}, DFs K F vs ds → (∀ d, ds.lookup f = some d → ∃ v, vs.lookup f = some v ∧ Dv K F v d) ∧ (ds.lookup f = none → vs.lookup f = none)
  | _, _, .nil => ⟨(fun d h => by cases h), fun _ => rfl⟩
  | _, _, .cons (f := g) (v := v) (d := d) r _ t => by
    obtain ⟨a, b⟩ := DFs.at_ (f := f) t
    refine ⟨fun x h => ?_, fun h => ?_⟩
    · rw [List.lookup_cons] at h ⊢
      cases q : f == g with
      | true => rw [q] at h; cases h; exact ⟨v, rfl, r⟩
      | false => rw [q] at h; exact a x h
    · rw [List.lookup_cons] at h ⊢
      cases q : f == g with
      | true => rw [q] at h; cases h
      | false => rw [q] at h; exact b h
/-- x.f, x an object of the class named c in slot i -/
def eFld (i : Nat) (c f : Str) : AS → M PyData := fun z => M.bnd (M.opt (obAt z i)) fun p => if p.1 = c then M.opt (p.2.lookup f) else M.no
section
variable {X : Cx} {o a : Expr} {es : List Expr} {i : Nat} {c f m : Str} {pos apos : Pos}
/-- an object handed on -/
def aOb (i : Nat) (g : AS → M (List AV)) : AS → M (List AV) := fun z => M.bnd (M.opt (obAt z i)) fun p => M.bnd (g z) fun r => M.pur (.ob p.1 p.2 :: r)
/-- x.m(..), x an object of the class named c in slot i; the method's mirror takes the object first -/
def eMeth (i : Nat) (c m : Str) (fn : List AV → M PyData) (g : AS → M (List AV)) : AS → M PyData := fun z => M.bnd (M.opt (obAt z i)) fun p => if p.1 = c ∧ p.2.lookup m = none then M.bnd (g z) fun as => fn (.ob p.1 p.2 :: as) else M.no
end
end VL
set_option Elab.async false
set_option linter.all false
set_option maxRecDepth 100000
namespace VL
open PySem PySem.Spec L2
open PyProof.Rows hiding St
/-- what no data are told by -/
def isObj : HO → Bool
  | .ins _ _ _ => true
  | .own _ => true
  | _ => false
mutual
theorem obj_dv {K : PySem.W.Frag} {F : Hp} {a : Addr} {o : HO} (h : F a = some o) (io : isObj o = true) : ∀ {v : V} {d : PyData}, Dv K F v d → Dv K (forget F a) v d
  | _, _, .non => .non
  | _, _, .bl b => .bl b
  | _, _, .int i => .int i
  | _, _, .str x => .str x
  | _, _, .lst (a := b) g1 g2 => .lst (by rw [forget_ne (fun e => by rw [e, h] at g1; cases g1; cases io)]; exact g1) (obj_all h io g2)
  | _, _, .tup (a := b) g1 g2 => .tup (by
      rcases g1 with (g | ⟨p, g⟩) | g
      · exact .inl (.inl (by rw [forget_ne (fun e => by rw [e, h] at g; cases g; cases io)]; exact g))
      · exact .inl (.inr ⟨p, by rw [forget_ne (fun e => by rw [e, h] at g; cases g; cases io)]; exact g⟩)
      · exact .inr g) (obj_all h io g2)
  | _, _, .dct (a := b) g1 g2 => .dct (by rw [forget_ne (fun e => by rw [e, h] at g1; cases g1; cases io)]; exact g1) (obj_kv h io g2)
theorem obj_all {K : PySem.W.Frag} {F : Hp} {a : Addr} {o : HO} (h : F a = some o) (io : isObj o = true) : ∀ {vs : List V} {ds : List PyData}, DvAll K F vs ds → DvAll K (forget F a) vs ds
  | _, _, .nil => .nil
  | _, _, .cons g1 g2 => .cons (obj_dv h io g1) (obj_all h io g2)
theorem obj_kv {K : PySem.W.Frag} {F : Hp} {a : Addr} {o : HO} (h : F a = some o) (io : isObj o = true) : ∀ {vs : List (Key × V)} {ds : List (PyData × PyData)}, DvKv K F vs ds → DvKv K (forget F a) vs ds
  | _, _, .nil => .nil
  | _, _, .cons g1 g2 => .cons (obj_dv h io g1) (obj_kv h io g2)
end
theorem DeckOk.forgetO [NTb] {dk : Option Dk} {δ : DS} {F H : Hp} {a : Addr} {o : HO} (d : DeckOk dk δ F H) (h : F a = some o) (io : isObj o = true) (no : ∀ b, o = .own b → ¬ inDk dk b) : DeckOk dk δ (forget F a) H := by
  obtain ⟨d1, d2, d3⟩ := d
  have fn : ∀ {b}, F b = none → forget F a b = none := fun {b} e => by
    by_cases q : b = a
    · subst q; exact forget_same
    · rw [forget_ne q]; exact e
  refine ⟨?_, fun p hp => ?_, fun p hp => fn (d3 p hp)⟩
  · cases dk with
    | none => exact d1
    | some k => exact DeckAt.toG d1 ⟨fun b xs e => by rw [forget_ne (fun q => by rw [q, h] at e; cases e; cases io)]; exact e, fun b o xs e => by rw [forget_ne (fun q => by rw [q, h] at e; cases e; cases io)]; exact e⟩ (fun a m dx e => by rw [forget_ne (fun q => by rw [q, h] at e; cases e; exact no _ rfl m)]; exact e) (fun _ _ e => fn e) (fun _ _ _ _ _ e => e) (fun _ _ _ e => e)
  · obtain ⟨ps, h1, h2, h3⟩ := d2 p hp
    refine ⟨ps, h1, h2, fun pos cv e => ?_⟩
    obtain ⟨c, e1, e2⟩ := h3 pos cv e
    refine ⟨c, e1, ?_⟩
    rw [forget_ne]
    · exact e2
    · intro z
      subst z
      rw [h] at e2
      injection e2 with e2
      cases o with
      | ins _ _ _ => exact codeO_ins e2
      | own _ => exact codeO_own e2
      | _ => cases io
/-- the object that __init__ makes: at a, its dict at dx; nobody else knows it -/
structure SelfAt [NTb] (K : PySem.W.Frag) (dk : Option Dk) (F H : Hp) (c : Str) (C a dx : Addr) (vs : List (Str × V)) (fs : List (Str × PyData)) : Prop where
  e : NTb.E c = some C
  ne : dx ≠ a
  fa : F a = none
  fx : F dx = none
  da : ¬ inDk dk a
  dd : ¬ inDk dk dx
  ha : H a = some (.ins C dx vs)
  hx : H dx = some (.own a)
  r : DFs K F vs fs
section
variable [nt : NTb] {K : PySem.W.Frag} {dk : Option Dk} {z : AS} {δ : DS} {σ : L2.St} {F H : Hp} {c : Str} {C a dx : Addr} {vs : List (Str × V)} {fs : List (Str × PyData)}
/-- lent: while an expression is worked out, the object is known -/
abbrev lentF (F : Hp) (C a dx : Addr) (vs : List (Str × V)) : Hp := L2.upd (L2.upd F dx (.own a)) a (.ins C dx vs)
theorem lent_dx (ne : dx ≠ a) : lentF F C a dx vs dx = some (.own a) := by
  show L2.upd (L2.upd F dx (.own a)) a (.ins C dx vs) dx = _
  rw [upd_ne ne]
  exact upd_same
theorem SelfAt.kept (S : SelfAt K dk F H c C a dx vs fs) {F' H' : Hp} (x : Ext dk F H F' H') : SelfAt K dk F' H' c C a dx vs fs :=
  ⟨S.e, S.ne, x.nf a S.fa ⟨_, S.ha, fun _ => codeO_ins⟩, x.nf dx S.fx ⟨_, S.hx, fun _ => codeO_own⟩, S.da, S.dd, x.hh a _ S.ha S.da (fun _ q => nomatch q), x.hh dx _ S.hx S.dd (fun _ q => nomatch q), S.r.mono x.ff⟩
theorem SelfAt.data (S : SelfAt K dk F H c C a dx vs fs) {F' H' : Hp} (x : Ext dk (lentF F C a dx vs) H F' H') {v : V} {d : PyData} (r : Dv K F' v d) : Dv K (forget (forget F' a) dx) v d := by
  have e1 : F' a = some (.ins C dx vs) := x.ff _ _ upd_same
  have e2 : F' dx = some (.own a) := x.ff _ _ (lent_dx S.ne)
  exact obj_dv (o := .own a) (by rw [forget_ne S.ne]; exact e2) rfl (obj_dv e1 rfl r)
theorem SelfAt.deck (S : SelfAt K dk F H c C a dx vs fs) {F' H' : Hp} {δ' : DS} (x : Ext dk (lentF F C a dx vs) H F' H') (d : DeckOk dk δ' F' H') : DeckOk dk δ' (forget (forget F' a) dx) H' := by
  have e1 : F' a = some (.ins C dx vs) := x.ff _ _ upd_same
  have e2 : F' dx = some (.own a) := x.ff _ _ (lent_dx S.ne)
  exact (d.forgetO e1 rfl (fun _ q => nomatch q)).forgetO (o := .own a) (by rw [forget_ne S.ne]; exact e2) rfl (fun b q => by cases q; exact S.da)
/-- the fields, one put -/
def putFd (f : Str) (d : PyData) : List (Str × PyData) → List (Str × PyData)
  | [] => [(f, d)]
  | (g, x) :: r => if g = f then (g, d) :: r else (g, x) :: putFd f d r
theorem DFs.put : ∀ {vs : List (Str × V)} {fs : List (Str × PyData)} (f : Str) {v : V} {d : PyData}, DFs K F vs fs → Dv K F v d → (markF f = true → NoDV F v) → DFs K F (putF f v vs) (putFd f d fs)
  | _, _, f, v, d, .nil, r, n => .cons r n .nil
  | _, _, f, v, d, .cons (f := g) q m t, r, n => by
    unfold putF putFd
    by_cases h : g = f
    · rw [if_pos h, if_pos h]; exact .cons r (h ▸ n) t
    · rw [if_neg h, if_neg h]; exact .cons q m (DFs.put f t r n)
end
end VL
set_option Elab.async false
set_option linter.all false
set_option maxRecDepth 100000
namespace VL
open PySem PySem.Spec L2
open PyProof.Rows hiding St
abbrev Fs := List (Str × PyData)
theorem DFs.len {K : PySem.W.Frag} {F : Hp} : ∀ {vs : List (Str × V)} {fs : Fs}, DFs K F vs fs → vs.length = fs.length
  | _, _, .nil => rfl
  | _, _, .cons _ _ t => by simp [DFs.len t]
/-- self.f = e -/
def sfFld (c f : Str) (fe : AS → M PyData) : AS → Fs → M (AS × Fs) := fun z fs => if noMine z = true ∧ fs.length < 1000 then M.bnd (fe (z.set 0 (.ob c fs))) fun d => M.pur (z, putFd f d fs) else M.no
def sfSeq (g1 g2 : AS → Fs → M (AS × Fs)) : AS → Fs → M (AS × Fs) := fun z fs => M.bnd (g1 z fs) fun p => g2 p.1 p.2
def sfNil : AS → Fs → M (AS × Fs) := fun z fs => M.pur (z, fs)
section
variable {X : Cx} {o e : Expr} {c f : Str} {pos pos' : Pos} {fe : AS → M PyData} {st : Stmt} {sts : List Stmt} {g1 g2 : AS → Fs → M (AS × Fs)}
/-- x = e, e may look at self -/
def sfSet (c : Str) (i : Nat) (fe : AS → M PyData) : AS → Fs → M (AS × Fs) := fun z fs => if i ≠ 0 ∧ noMine z = true then M.bnd (fe (z.set 0 (.ob c fs))) fun d => M.pur (z.set i (.dat d), fs) else M.no
end
end VL
set_option Elab.async false
set_option linter.all false
set_option maxRecDepth 100000
namespace VL
open PySem PySem.Spec L2
open PyProof.Rows hiding St
def isUn : Option SV → Bool
  | some .un => true
  | _ => false
def okI (z : AS) : Bool := noMine z && isUn z[0]?
def sfForL (t : PyData → AS → Option AS) (g : AS → Fs → M (AS × Fs)) : List PyData → AS → Fs → M (AS × Fs)
  | [], z, fs => M.pur (z, fs)
  | d :: ds, z, fs => M.bnd (M.opt (t d z)) fun z1 => if okI z1 = true then M.bnd (g z1 fs) fun p => sfForL t g ds p.1 p.2 else M.no
def sfFor (f : AS → M (List PyData)) (t : PyData → AS → Option AS) (g : AS → Fs → M (AS × Fs)) : AS → Fs → M (AS × Fs) := fun z fs => M.bnd (f z) fun ds => sfForL t g ds z fs
end VL
set_option Elab.async false
set_option linter.all false
set_option maxRecDepth 100000
namespace VL
open PySem PySem.Spec L2
open PyProof.Rows hiding St
theorem under_guards {A : Around} {C : Addr} {us : List Value} {kw : List (Str × Value)} (h : A.guards = some []) : (A.under (.builtin "type.__call__" ⟨.ref C :: us, kw⟩)).guards = some [] := by
  first
    | simpa [Around.under, Code.guards, pushGuards] using h
    | (simp [Around.under, h]; rfl)
end VL
set_option Elab.async false
set_option linter.all false
set_option maxRecDepth 100000
namespace VL
open PySem PySem.Spec L2
open PyProof.Rows hiding St
def eMake (c : Str) (ini : List AV → M Fs) (g : AS → M (List AV)) : AS → M (Str × Fs) := fun z => M.bnd (g z) fun as => M.bnd (ini as) fun fs => M.pur (c, fs)
section
variable {X : Cx} {c : Str} {e : Expr} {es : List Expr} {pos : Pos}
/-- x = C(..) -/
def sSetOb (i : Nat) (fo : AS → M (Str × Fs)) : AS → M Fl := fun z => M.bnd (fo z) fun p => M.pur (.nx (z.set i (.ob p.1 p.2)))
/-- C(..) straight as an argument -/
def aObE (fo : AS → M (Str × Fs)) (g : AS → M (List AV)) : AS → M (List AV) := fun z => M.bnd (fo z) fun p => M.bnd (g z) fun r => M.pur (.ob p.1 p.2 :: r)
end
end VL
set_option Elab.async false
set_option linter.all false
set_option maxRecDepth 100000
namespace VL
open PySem PySem.Spec L2
open PyProof.Rows hiding St
def obOf : AS → Nat → Option (Str × Fs)
  | [], _ => none
  | .ob c fs :: _, 0 => some (c, fs)
  | _ :: _, 0 => none
  | _ :: z, i + 1 => obOf z i
@[simp] theorem obOf_0 {c : Str} {fs : Fs} {z : AS} : obOf (.ob c fs :: z) 0 = some (c, fs) := rfl
@[simp] theorem obOf_s {s : SV} {z : AS} {i : Nat} : obOf (s :: z) (i + 1) = obOf z i := by cases s <;> rfl
theorem obAt_of : ∀ (z : AS) (i : Nat), obAt z i = obOf z i
  | [], _ => rfl
  | s :: z, 0 => by cases s <;> rfl
  | s :: z, i + 1 => by
    rw [obOf_s, ← obAt_of z i]
    rfl
def noFld (fs : Fs) (m : Str) : Bool := (fs.lookup m).isNone
theorem noFld_iff {fs : Fs} {m : Str} : noFld fs m = true ↔ fs.lookup m = none := by unfold noFld; cases fs.lookup m <;> simp
section
variable {z : AS} {δ : DS} {i : Nat} {c f m : Str} {ga : AS → M (List AV)} {fe : AS → M PyData} {g1 g2 : AS → Fs → M (AS × Fs)} {fs : Fs}
@[simp] theorem W_eFld {Q : PyData → DS → Prop} : W (eFld i c f z) δ Q ↔ oW (obOf z i) fun p => p.1 = c ∧ oW (p.2.lookup f) fun d => Q d δ := by
  unfold eFld
  simp only [W_bnd, W_opt, obAt_of]
  constructor <;> exact fun h => oW_mono h fun p q => by
    by_cases l : p.1 = c
    · first | exact ⟨l, by rw [if_pos l] at q; simpa using q⟩ | (rw [if_pos l]; simpa using q.2)
    · first | (rw [if_neg l] at q; exact (W_no.mp q).elim) | exact absurd q.1 l
@[simp] theorem W_aOb {Q : List AV → DS → Prop} : W (aOb i ga z) δ Q ↔ oW (obOf z i) fun p => W (ga z) δ fun r δ => Q (.ob p.1 p.2 :: r) δ := by unfold aOb; simp [obAt_of]
@[simp] theorem W_eMeth {fn : List AV → M PyData} {Q : PyData → DS → Prop} : W (eMeth i c m fn ga z) δ Q ↔ oW (obOf z i) fun p => (p.1 = c ∧ noFld p.2 m = true) ∧ W (ga z) δ fun as δ => W (fn (.ob p.1 p.2 :: as)) δ Q := by
  unfold eMeth
  simp only [W_bnd, W_opt, obAt_of, noFld_iff]
  constructor <;> exact fun h => oW_mono h fun p q => by
    by_cases l : p.1 = c ∧ p.2.lookup m = none
    · first | exact ⟨l, W_bnd.mp (by rw [if_pos l] at q; exact q)⟩ | (rw [if_pos l]; exact W_bnd.mpr q.2)
    · first | (rw [if_neg l] at q; exact (W_no.mp q).elim) | exact absurd q.1 l
@[simp] theorem W_eMake {ini : List AV → M Fs} {Q : Str × Fs → DS → Prop} : W (eMake c ini ga z) δ Q ↔ W (ga z) δ fun as δ => W (ini as) δ fun fs δ => Q (c, fs) δ := by unfold eMake; simp
@[simp] theorem W_aObE {fo : AS → M (Str × Fs)} {Q : List AV → DS → Prop} : W (aObE fo ga z) δ Q ↔ W (fo z) δ fun p δ => W (ga z) δ fun r δ => Q (.ob p.1 p.2 :: r) δ := by unfold aObE; simp
@[simp] theorem W_sSetOb {fo : AS → M (Str × Fs)} {Q : Fl → DS → Prop} : W (sSetOb i fo z) δ Q ↔ W (fo z) δ fun p δ => Q (.nx (z.set i (.ob p.1 p.2))) δ := by unfold sSetOb; simp
@[simp] theorem W_sfFld {Q : AS × Fs → DS → Prop} : W (sfFld c f fe z fs) δ Q ↔ (noMine z = true ∧ fs.length < 1000) ∧ W (fe (z.set 0 (.ob c fs))) δ fun d δ => Q (z, putFd f d fs) δ := by
  unfold sfFld
  by_cases l : noMine z = true ∧ fs.length < 1000
  · rw [if_pos l]; simp [l]
  · rw [if_neg l]; simp [l]
@[simp] theorem W_sfSeq {Q : AS × Fs → DS → Prop} : W (sfSeq g1 g2 z fs) δ Q ↔ W (g1 z fs) δ fun p δ => W (g2 p.1 p.2) δ Q := by unfold sfSeq; simp
@[simp] theorem W_sfNil {Q : AS × Fs → DS → Prop} : W (sfNil z fs) δ Q ↔ Q (z, fs) δ := W_pur
@[simp] theorem W_sfSet {Q : AS × Fs → DS → Prop} : W (sfSet c i fe z fs) δ Q ↔ (i ≠ 0 ∧ noMine z = true) ∧ W (fe (z.set 0 (.ob c fs))) δ fun d δ => Q (z.set i (.dat d), fs) δ := by
  unfold sfSet
  by_cases l : i ≠ 0 ∧ noMine z = true
  · rw [if_pos l]; simp [l]
  · rw [if_neg l]
    constructor
    · exact fun h => (W_no.mp h).elim
    · exact fun h => absurd h.1 l
end
end VL
set_option Elab.async false
set_option linter.all false
set_option maxRecDepth 100000
namespace VL
open PySem PySem.Spec L2
open PyProof.Rows hiding St
section
variable {X : Cx} {e a b tg : Expr} {es : List Expr} {fa fb : AS → M PyData} {pos : Pos}
def rng2 (d e : PyData) : Option (List PyData) := match d, e with
  | .int i, .int j => if -(2 ^ 62) ≤ i ∧ i < 2 ^ 62 ∧ -(2 ^ 62) ≤ j ∧ j < 2 ^ 62 then some (rangeD i (j - i).toNat) else none
  | _, _ => none
def iRange2 (fa fb : AS → M PyData) : AS → M (List PyData) := fun z => M.bnd (fa z) fun d => M.bnd (fb z) fun e => M.opt (rng2 d e)
end
end VL
set_option Elab.async false
set_option linter.all false
set_option maxRecDepth 100000
set_option maxHeartbeats 2000000
namespace VL
open PySem PySem.Spec L2 RZ
open PyProof.Rows hiding St
open PySem.Sem (wp)
/-- pairs, as long as both last -/
def zipD : List PyData → List PyData → List PyData
  | a :: as, b :: bs => .tuple [a, b] :: zipD as bs
  | _, _ => []
def tupOf : PyData → Option (List PyData)
  | .tuple ds => some ds
  | _ => none
def lstOf : PyData → Option (List PyData)
  | .list ds => some ds
  | _ => none
/-- zip(a, b), a tuple and a list -/
def iZip (fa fb : AS → M PyData) : AS → M (List PyData) := fun z => M.bnd (fa z) fun d => M.bnd (fb z) fun e => M.bnd (M.opt (tupOf d)) fun ds => M.bnd (M.opt (lstOf e)) fun es => M.pur (zipD ds es)
end VL
set_option Elab.async false
set_option linter.all false
set_option maxRecDepth 100000
namespace VL
open PySem PySem.Spec L2
open PyProof.Rows hiding St
def pairI (d e : PyData) : Option (Int × Int) := match d, e with
  | .int i, .int j => some (i, j)
  | _, _ => none
def rRng (fa fb : AS → M PyData) : AS → M (Int × Int) := fun z => M.bnd (fa z) fun d => M.bnd (fb z) fun e => M.opt (pairI d e)
section
variable {X : Cx} {c : Str} {a b e : Expr} {fa fb : AS → M PyData} {pos : Pos}
/-- in an __init__ -/
def sfRng (c : Str) (i : Nat) (fr : AS → M (Int × Int)) : AS → Fs → M (AS × Fs) := fun z fs => if i ≠ 0 ∧ noMine z = true then M.bnd (fr (z.set 0 (.ob c fs))) fun p => M.pur (z.set i (.kn (.rng p.1 p.2)), fs) else M.no
end
end VL
set_option Elab.async false
set_option linter.all false
set_option maxRecDepth 100000
namespace VL
open PySem PySem.Spec L2
open PyProof.Rows hiding St
end VL
set_option Elab.async false
set_option linter.all false
set_option maxRecDepth 100000
namespace VL
open PySem PySem.Spec L2
open PyProof.Rows hiding St
def knOf : AS → Nat → Option HO
  | [], _ => none
  | .kn o :: _, 0 => some o
  | _ :: _, 0 => none
  | _ :: z, i + 1 => knOf z i
@[simp] theorem knOf_0 {o : HO} {z : AS} : knOf (.kn o :: z) 0 = some o := rfl
@[simp] theorem knOf_s {s : SV} {z : AS} {i : Nat} : knOf (s :: z) (i + 1) = knOf z i := by cases s <;> rfl
section
variable {z : AS} {δ : DS} {i : Nat} {c f : Str} {fa fb : AS → M PyData} {fs : Fs} {fi : AS → M (List PyData)} {fr : AS → M (Int × Int)} {t : PyData → AS → Option AS} {g : AS → Fs → M (AS × Fs)}
@[simp] theorem W_iRange2 {Q : List PyData → DS → Prop} : W (iRange2 fa fb z) δ Q ↔ W (fa z) δ fun d δ => W (fb z) δ fun e δ => oW (rng2 d e) fun ds => Q ds δ := by unfold iRange2; simp
@[simp] theorem W_iZip {Q : List PyData → DS → Prop} : W (iZip fa fb z) δ Q ↔ W (fa z) δ fun d δ => W (fb z) δ fun e δ => oW (tupOf d) fun ds => oW (lstOf e) fun es => Q (zipD ds es) δ := by unfold iZip; simp
@[simp] theorem tupOf_t {ds : List PyData} : tupOf (.tuple ds) = some ds := rfl
@[simp] theorem lstOf_l {ds : List PyData} : lstOf (.list ds) = some ds := rfl
@[simp] theorem W_rRng {Q : Int × Int → DS → Prop} : W (rRng fa fb z) δ Q ↔ W (fa z) δ fun d δ => W (fb z) δ fun e δ => oW (pairI d e) fun p => Q p δ := by unfold rRng; simp
@[simp] theorem pairI_ii {a b : Int} : pairI (.int a) (.int b) = some (a, b) := rfl
@[simp] theorem avSV_ob {fs : Fs} : avSV (.ob c fs) = .ob c fs := rfl
@[simp] theorem W_sfRng {Q : AS × Fs → DS → Prop} : W (sfRng c i fr z fs) δ Q ↔ (i ≠ 0 ∧ noMine z = true) ∧ W (fr (z.set 0 (.ob c fs))) δ fun p δ => Q (z.set i (.kn (.rng p.1 p.2)), fs) δ := by
  unfold sfRng
  by_cases l : i ≠ 0 ∧ noMine z = true
  · rw [if_pos l]; simp [l]
  · rw [if_neg l]
    exact ⟨fun h => (W_no.mp h).elim, fun h => absurd h.1 l⟩
@[simp] theorem W_sfFor {Q : AS × Fs → DS → Prop} : W (sfFor fi t g z fs) δ Q ↔ W (fi z) δ fun ds δ => W (sfForL t g ds z fs) δ Q := by unfold sfFor; simp
end
end VL
set_option Elab.async false
set_option linter.all false
set_option maxRecDepth 100000
namespace VL
open PySem PySem.Spec L2 PySem.W
open PyProof.Rows hiding St
abbrev NX := List (NestedKey × Addr × V)
abbrev NDs := List (NestedKey × PyData)
def valN (xs : NX) (k : NestedKey) : Option V := (xs.find? fun x => decide (x.1 = k)).map (·.2.2)
def putN (xs : NX) (k : NestedKey) (b : Addr) (v : V) : NX := if (valN xs k).isSome then xs.map (fun x => if x.1 = k then (x.1, x.2.1, v) else x) else xs ++ [(k, b, v)]
def getNd (ds : NDs) (k : NestedKey) : Option PyData := (ds.find? fun p => decide (p.1 = k)).map (·.2)
def putNd (ds : NDs) (k : NestedKey) (e : PyData) : NDs := if (getNd ds k).isSome then ds.map (fun p => if p.1 = k then (p.1, e) else p) else ds ++ [(k, e)]
abbrev NRel : NX → List (NestedKey × Addr × Value) → Prop := Paired fun x y => x.1 = y.1 ∧ x.2.1 = y.2.1 ∧ RelV x.2.2 y.2.2
theorem NRel.val : ∀ {xs : NX} {ys : List (NestedKey × Addr × Value)}, NRel xs ys → ∀ k, RelO (valN xs k) ((atKey ys k).map (·.2))
  | _, _, .nil, _ => True.intro
  | _, _, .cons (a := x) (b := y) h t, k => by
    by_cases e : x.1 = k
    · have e' : y.1 = k := h.1 ▸ e
      simp only [valN, atKey, List.find?_cons, e, e', decide_true, Option.map_some]
      exact h.2.2
    · have e' : y.1 ≠ k := h.1 ▸ e
      have := NRel.val t k
      simp only [valN, atKey, List.find?_cons, e, e', decide_false] at this ⊢
      exact this
theorem NRel.put {xs : NX} {ys : List (NestedKey × Addr × Value)} (r : NRel xs ys) (k : NestedKey) (b : Addr) {v : V} {u : Value} (rv : RelV v u) : NRel (putN xs k b v) (storedH ys k b u) := by
  have hs : (valN xs k).isSome = (atKey ys k).isSome := by
    have := (r.val k).isSome_eq
    rw [Option.isSome_map] at this
    exact this
  unfold putN storedH
  rw [hs]
  split
  · have go : ∀ {xs : NX} {ys : List (NestedKey × Addr × Value)}, NRel xs ys → NRel (xs.map (fun x => if x.1 = k then (x.1, x.2.1, v) else x)) (ys.map (putAt k u)) := by
      intro xs ys r
      induction r with
      | nil => exact .nil
      | @cons p q l1 l2 h t ih =>
        refine .cons ?_ ih
        show (if p.1 = k then (p.1, p.2.1, v) else p).1 = (putAt k u q).1 ∧ (if p.1 = k then (p.1, p.2.1, v) else p).2.1 = (putAt k u q).2.1 ∧ RelV (if p.1 = k then (p.1, p.2.1, v) else p).2.2 (putAt k u q).2.2
        unfold putAt
        by_cases z : p.1 = k
        · rw [if_pos z, if_pos (h.1 ▸ z)]
          exact ⟨h.1, h.2.1, rv⟩
        · rw [if_neg z, if_neg (h.1 ▸ z)]
          exact h
    exact go r
  · exact Paired.snoc r ⟨rfl, rfl, rv⟩
section
variable {K : PySem.W.Frag} {F : Hp}
theorem NKv.val {xs : NX} {ds : NDs} (r : NKv K F xs ds) (k : NestedKey) : (∀ d, getNd ds k = some d → ∃ v, valN xs k = some v ∧ Dv K F v d) ∧ (getNd ds k = none → valN xs k = none) := by
  induction r with
  | nil => exact ⟨fun d q => (nomatch q), fun _ => rfl⟩
  | @cons k' a v e xs ds h1 h2 h3 t ih =>
    by_cases q : k' = k
    · simp only [valN, getNd, List.find?_cons, q, decide_true, Option.map_some, Option.some.injEq]
      exact ⟨fun d z => ⟨v, rfl, z ▸ h3⟩, fun z => nomatch z⟩
    · simp only [valN, getNd, List.find?_cons, q, decide_false] at ih ⊢
      exact ih
theorem NKv.put {xs : NX} {ds : NDs} (r : NKv K F xs ds) {k : NestedKey} {b : Addr} {v : V} {e : PyData} (h1 : Dv K F (.ref b) k.data) (h2 : k.depth ≤ 8) (h3 : Dv K F v e) : NKv K F (putN xs k b v) (putNd ds k e) := by
  have hs : (valN xs k).isSome = (getNd ds k).isSome := by
    have q := r.val k
    cases g : getNd ds k with
    | none => rw [q.2 g]; rfl
    | some d => obtain ⟨v, z, _⟩ := q.1 d g; rw [z]; rfl
  unfold putN putNd
  rw [hs]
  split
  · clear hs
    rename_i hh
    clear hh
    induction r with
    | nil => exact .nil
    | @cons k' a v' e' xs ds g1 g2 g3 t ih =>
      rw [List.map_cons, List.map_cons]
      by_cases q : k' = k
      · rw [if_pos q, if_pos q]
        exact .cons g1 g2 h3 ih
      · rw [if_neg q, if_neg q]
        exact .cons g1 g2 g3 ih
  · clear hs
    rename_i hh
    clear hh
    induction r with
    | nil => exact .cons h1 h2 h3 .nil
    | @cons k' a v' e' xs ds g1 g2 g3 t ih => exact .cons g1 g2 g3 ih
end
def otAt (z : AS) (i : Nat) : Option NDs := match z[i]? with
  | some (.ot ds) => some ds
  | _ => none
/-- x = {} -/
def sSetT (i : Nat) : AS → M Fl := fun z => M.pur (.nx (z.set i (.ot [])))
def eTGet (i : Nat) (fk : AS → M PyData) : AS → M PyData := fun z => M.bnd (fk z) fun d => M.bnd (M.opt (otAt z i)) fun ds => M.bnd (M.opt (tpN d)) fun k => M.opt (getNd ds k)
def eTGet2 (i : Nat) (fk fx : AS → M PyData) : AS → M PyData := fun z => M.bnd (fk z) fun d => M.bnd (fx z) fun x => M.bnd (M.opt (otAt z i)) fun ds => M.bnd (M.opt (tpN d)) fun k => M.pur ((getNd ds k).getD x)
def sPutT (i : Nat) (fk fv : AS → M PyData) : AS → M Fl := fun z => M.bnd (fv z) fun v => M.bnd (fk z) fun d => M.bnd (M.opt (otAt z i)) fun ds => M.bnd (M.opt (tpN d)) fun k => if ds.length < sizeLine then M.pur (.nx (z.set i (.ot (putNd ds k v)))) else M.no
end VL
set_option Elab.async false
set_option linter.all false
set_option maxRecDepth 100000
namespace VL
open PySem PySem.Spec L2 PySem.W
open PyProof.Rows hiding St
def idxTC (d e : PyData) : Option PyData := match d with
  | .tuple ds => (nks ds).bind fun ks => (nk e).bind fun k => if k.depth ≤ 8 then (ks.findIdx? fun y => decide (y = k)).map fun (j : Nat) => PyData.int (j : Int) else none
  | _ => none
def eIdxT (fo fa : AS → M PyData) : AS → M PyData := fun z => M.bnd (fo z) fun d => M.bnd (fa z) fun e => M.opt (idxTC d e)
end VL
set_option Elab.async false
set_option linter.all false
set_option maxRecDepth 100000
namespace VL
open PySem PySem.Spec L2
open PyProof.Rows hiding St
def listD : PyData → Option (List PyData)
  | .list ds => some ds
  | _ => none
def sfForS (c : Str) (fe : AS → M PyData) (t : PyData → AS → Option AS) (g : AS → Fs → M (AS × Fs)) : AS → Fs → M (AS × Fs) := fun z fs => M.bnd (fe (z.set 0 (.ob c fs))) fun d => M.bnd (M.opt (listD d)) fun ds => sfForL t g ds z fs
end VL
set_option Elab.async false
set_option linter.all false
set_option maxRecDepth 100000
namespace VL
open PySem PySem.Spec L2
open PyProof.Rows hiding St
def otOf : AS → Nat → Option NDs
  | [], _ => none
  | .ot ds :: _, 0 => some ds
  | _ :: _, 0 => none
  | _ :: z, i + 1 => otOf z i
@[simp] theorem otOf_0 {ds : NDs} {z : AS} : otOf (.ot ds :: z) 0 = some ds := rfl
@[simp] theorem otOf_s {s : SV} {z : AS} {i : Nat} : otOf (s :: z) (i + 1) = otOf z i := by cases s <;> rfl
theorem otAt_of : ∀ (z : AS) (i : Nat), otAt z i = otOf z i
  | [], _ => rfl
  | s :: z, 0 => by cases s <;> rfl
  | s :: z, i + 1 => by
    rw [otOf_s, ← otAt_of z i]
    rfl
section
variable {z : AS} {δ : DS} {i : Nat} {c : Str} {fa fb fe fk : AS → M PyData} {fs : Fs} {t : PyData → AS → Option AS} {g : AS → Fs → M (AS × Fs)}
@[simp] theorem W_eTGet {Q : PyData → DS → Prop} : W (eTGet i fk z) δ Q ↔ W (fk z) δ fun d δ => oW (otOf z i) fun ds => oW (tpN d) fun k => oW (getNd ds k) fun e => Q e δ := by unfold eTGet; simp [otAt_of]
@[simp] theorem W_eTGet2 {Q : PyData → DS → Prop} : W (eTGet2 i fk fb z) δ Q ↔ W (fk z) δ fun d δ => W (fb z) δ fun x δ => oW (otOf z i) fun ds => oW (tpN d) fun k => Q ((getNd ds k).getD x) δ := by unfold eTGet2; simp [otAt_of]
@[simp] theorem W_sSetT {Q : Fl → DS → Prop} : W (sSetT i z) δ Q ↔ Q (.nx (z.set i (.ot []))) δ := by unfold sSetT; simp
@[simp] theorem W_sPutT {Q : Fl → DS → Prop} : W (sPutT i fk fb z) δ Q ↔ W (fb z) δ fun v δ => W (fk z) δ fun d δ => oW (otOf z i) fun ds => oW (tpN d) fun k => ds.length < sizeLine ∧ Q (.nx (z.set i (.ot (putNd ds k v)))) δ := by
  unfold sPutT
  simp only [W_bnd, W_opt, otAt_of]
  have e : ∀ (ds : NDs) (k : NestedKey) (v : PyData) (δ : DS), W (if ds.length < sizeLine then M.pur (Fl.nx (z.set i (.ot (putNd ds k v)))) else M.no) δ Q ↔ ds.length < sizeLine ∧ Q (.nx (z.set i (.ot (putNd ds k v)))) δ := fun ds k v δ => by
    by_cases l : ds.length < sizeLine
    · rw [if_pos l]; simp [l]
    · rw [if_neg l]
      exact ⟨fun h => (W_no.mp h).elim, fun h => absurd h.1 l⟩
  simp only [e]
@[simp] theorem W_eIdxT {Q : PyData → DS → Prop} : W (eIdxT fa fb z) δ Q ↔ W (fa z) δ fun d δ => W (fb z) δ fun e δ => oW (idxTC d e) fun r => Q r δ := by unfold eIdxT; simp
@[simp] theorem W_sfForS {Q : AS × Fs → DS → Prop} : W (sfForS c fe t g z fs) δ Q ↔ W (fe (z.set 0 (.ob c fs))) δ fun d δ => oW (listD d) fun ds => W (sfForL t g ds z fs) δ Q := by unfold sfForS; simp
@[simp] theorem listD_l {ds : List PyData} : listD (.list ds) = some ds := rfl
end
end VL
set_option Elab.async false
set_option linter.all false
set_option maxRecDepth 100000
set_option maxHeartbeats 3200000
namespace VL
open PySem PySem.Spec L2 PySem.Froz PySem.W
open PyProof.Rows hiding St
def lenLn : PyData → Int
  | .tuple ds => (ds.length : Nat)
  | _ => 0
abbrev leLn (x y : PyData) : Bool := sortLe (listOrd itemOrd) false (fun d => keyToks (.int (lenLn d))) x y
def sortLn (ds : List PyData) : List PyData := ds.mergeSort leLn
def okLn (ds : List PyData) : Bool := decide (ds.length ≤ 4096) && ds.all isT
def slnC (d : PyData) : Option (List PyData) := match d with
  | .list ds => if okLn ds = true then some (sortLn ds) else none
  | _ => none
def oSN (f : AS → M PyData) : AS → M (List PyData) := fun z => M.bnd (f z) fun d => M.opt (slnC d)
end VL
set_option Elab.async false
set_option linter.all false
set_option maxRecDepth 100000
set_option maxHeartbeats 3200000
namespace VL
open PySem PySem.Spec L2 PySem.W
open PyProof.Rows hiding St
section
variable {X : Cx} {o : Expr} {pos apos cpos : Pos} {td : TE}
/-- list(d.values()) -/
def oVals (i : Nat) : AS → M (List PyData) := fun z => M.bnd (M.opt (otAt z i)) fun ds => if ds.length ≤ sizeLine then M.pur (ds.map (·.2)) else M.no
end
end VL
set_option Elab.async false
set_option linter.all false
set_option maxRecDepth 100000
namespace VL
open PySem PySem.Spec L2
open PyProof.Rows hiding St
section
variable {δ : DS} {z : AS} {i : Nat} {fa : AS → M PyData}
@[simp] theorem W_oSN {Q : List PyData → DS → Prop} : W (oSN fa z) δ Q ↔ W (fa z) δ fun d δ => oW (slnC d) fun ds => Q ds δ := by unfold oSN; simp
@[simp] theorem W_oVals {Q : List PyData → DS → Prop} : W (oVals i z) δ Q ↔ oW (otOf z i) fun ds => ds.length ≤ sizeLine ∧ Q (ds.map (·.2)) δ := by
  unfold oVals
  rw [W_bnd, W_opt, otAt_of]
  constructor <;> exact fun h => oW_mono h fun ds q => by
    by_cases l : ds.length ≤ sizeLine
    · first | exact ⟨l, W_pur.mp (by rw [if_pos l] at q; exact q)⟩ | (rw [if_pos l]; exact W_pur.mpr q.2)
    · first | (rw [if_neg l] at q; exact (W_no.mp q).elim) | exact absurd q.1 l
end
end VL
set_option Elab.async false
set_option linter.all false
set_option maxRecDepth 100000
set_option maxHeartbeats 3200000
namespace VL
open PySem PySem.Spec L2
open PyProof.Rows hiding St
abbrev PrD := PyData × Str × Fs
def PrV [NTb] (K : PySem.W.Frag) (F : Hp) (v : V) (p : PrD) : Prop := ∃ b v1 v2, v = .ref b ∧ SqT K F b [v1, v2] ∧ Dv K F v1 p.1 ∧ ObAt K F v2 p.2.1 p.2.2
theorem PrV.mono [NTb] {K : PySem.W.Frag} {F F' : Hp} {v : V} {p : PrD} (e : Same F F') (h : PrV K F v p) : PrV K F' v p := by
  obtain ⟨b, v1, v2, h1, h2, h3, h4⟩ := h
  exact ⟨b, v1, v2, h1, same_seqT e h2, Dv.mono e h3, h4.mono e⟩
/-- (e, C(..)) -/
def ePr (fa : AS → M PyData) (fo : AS → M (Str × Fs)) : AS → M PrD := fun z => M.bnd (fa z) fun d => M.bnd (fo z) fun p => M.pur (d, p.1, p.2)
end VL
set_option Elab.async false
set_option linter.all false
set_option maxRecDepth 100000
set_option maxHeartbeats 3200000
namespace VL
open PySem PySem.Spec L2 PySem.W
open PyProof.Rows hiding St
/-- return d -/
def tRetT (i : Nat) : AS → M NDs := fun z => M.opt (otAt z i)
section
variable {X : Cx} {e a o : Expr} {es : List Expr} {pos cpos : Pos}
/-- x = f(..), f such a def -/
def sCallT (i : Nat) (fn : List AV → M NDs) (g : AS → M (List AV)) : AS → M Fl := fun z => M.bnd (g z) fun as => M.bnd (fn as) fun ds => M.pur (.nx (z.set i (.ot ds)))
/-- list(d) -/
def oTKeys (i : Nat) : AS → M (List PyData) := fun z => M.bnd (M.opt (otAt z i)) fun ds => if ds.length ≤ sizeLine then M.pur (ds.map fun p => p.1.data) else M.no
end
end VL
set_option Elab.async false
set_option linter.all false
set_option maxRecDepth 100000
namespace VL
open PySem PySem.Spec L2
open PyProof.Rows hiding St
section
variable {δ : DS} {z : AS} {i : Nat} {fa : AS → M PyData} {fo : AS → M (Str × Fs)} {ga : AS → M (List AV)}
@[simp] theorem W_tRetT {Q : NDs → DS → Prop} : W (tRetT i z) δ Q ↔ oW (otOf z i) fun ds => Q ds δ := by unfold tRetT; rw [W_opt, otAt_of]
@[simp] theorem W_sCallT {fn : List AV → M NDs} {Q : Fl → DS → Prop} : W (sCallT i fn ga z) δ Q ↔ W (ga z) δ fun as δ => W (fn as) δ fun ds δ => Q (.nx (z.set i (.ot ds))) δ := by unfold sCallT; simp
@[simp] theorem W_oTKeys {Q : List PyData → DS → Prop} : W (oTKeys i z) δ Q ↔ oW (otOf z i) fun ds => ds.length ≤ sizeLine ∧ Q (ds.map fun p => p.1.data) δ := by
  unfold oTKeys
  rw [W_bnd, W_opt, otAt_of]
  constructor <;> exact fun h => oW_mono h fun ds q => by
    by_cases l : ds.length ≤ sizeLine
    · first | exact ⟨l, W_pur.mp (by rw [if_pos l] at q; exact q)⟩ | (rw [if_pos l]; exact W_pur.mpr q.2)
    · first | (rw [if_neg l] at q; exact (W_no.mp q).elim) | exact absurd q.1 l
@[simp] theorem W_ePr {Q : PrD → DS → Prop} : W (ePr fa fo z) δ Q ↔ W (fa z) δ fun d δ => W (fo z) δ fun p δ => Q (d, p.1, p.2) δ := by unfold ePr; simp
end
end VL
set_option Elab.async false
set_option linter.all false
set_option maxRecDepth 100000
namespace VL
open PySem PySem.Spec L2 PySem.W
open PyProof.Rows hiding St
end VL
set_option Elab.async false
set_option linter.all false
set_option maxRecDepth 100000
namespace VL
open PySem PySem.Spec L2 PySem.W
open PyProof.Rows hiding St
def s3O (i j k : Nat) (fa fb : AS → M PyData) (fo : AS → M (List PyData)) : AS → M Fl := fun z => M.bnd (fa z) fun d => M.bnd (fb z) fun e => M.bnd (fo z) fun ds => M.pur (.nx (((z.set i (.dat d)).set j (.dat e)).set k (.own ds)))
end VL
set_option Elab.async false
set_option linter.all false
set_option maxRecDepth 100000
namespace VL
open PySem PySem.Spec L2
open PyProof.Rows hiding St
section
variable {δ : DS} {z : AS} {i j k : Nat} {fa fb fk fv fw : AS → M PyData} {fo : AS → M (List PyData)} {op : PyData → PyData → Option Bool} {g1 g2 : AS → M Fl}
@[simp] theorem W_s3O {Q : Fl → DS → Prop} : W (s3O i j k fa fb fo z) δ Q ↔ W (fa z) δ fun d δ => W (fb z) δ fun e δ => W (fo z) δ fun ds δ => Q (.nx (((z.set i (.dat d)).set j (.dat e)).set k (.own ds))) δ := by unfold s3O; simp
end
end VL
set_option Elab.async false
set_option linter.all false
set_option maxRecDepth 100000
namespace VL
open PySem PySem.Spec L2 PySem.W
open PyProof.Rows hiding St
def cTNin (i : Nat) (fa : AS → M PyData) : AS → M Bool := fun z => M.bnd (fa z) fun d => M.bnd (M.opt (otAt z i)) fun ds => M.bnd (M.opt (tpN d)) fun k => M.pur (!(getNd ds k).isSome)
def s3OT (i j k : Nat) (fa : AS → M PyData) (fo : AS → M (List PyData)) : AS → M Fl := fun z => M.bnd (fa z) fun d => M.bnd (fo z) fun ds => M.pur (.nx (((z.set i (.dat d)).set j (.own ds)).set k (.ot [])))
end VL
set_option Elab.async false
set_option linter.all false
set_option maxRecDepth 100000
namespace VL
open PySem PySem.Spec L2
open PyProof.Rows hiding St
section
variable {δ : DS} {z : AS} {i j k : Nat} {fa : AS → M PyData} {fo : AS → M (List PyData)}
@[simp] theorem W_s3OT {Q : Fl → DS → Prop} : W (s3OT i j k fa fo z) δ Q ↔ W (fa z) δ fun d δ => W (fo z) δ fun ds δ => Q (.nx (((z.set i (.dat d)).set j (.own ds)).set k (.ot []))) δ := by unfold s3OT; simp
@[simp] theorem W_cTNin {Q : Bool → DS → Prop} : W (cTNin i fa z) δ Q ↔ W (fa z) δ fun d δ => oW (otOf z i) fun ds => oW (tpN d) fun k => Q (!(getNd ds k).isSome) δ := by unfold cTNin; simp [otAt_of]
end
end VL
set_option Elab.async false
set_option linter.all false
set_option maxRecDepth 100000
namespace VL
open PySem PySem.Spec L2
open PyProof.Rows hiding St
end VL
set_option Elab.async false
set_option linter.all false
set_option maxRecDepth 100000
set_option maxHeartbeats 2000000
namespace VL
open PySem PySem.Spec L2
open PyProof.Rows hiding St
end VL
set_option Elab.async false
set_option linter.all false
set_option maxRecDepth 100000
namespace VL
open PySem PySem.Spec L2
open PyProof.Rows hiding St
def mgD (l : List (Key × PyData)) : List (Key × PyData) → List (Key × PyData)
  | [] => l
  | p :: ps => mgD (putV l p.1 p.2) ps
def zipKD : List Str → List PyData → List (Key × PyData)
  | x :: xs, d :: ds => (.inr x, d) :: zipKD xs ds
  | _, _ => []
def sSetDZ (i : Nat) (fa fb : AS → M PyData) : AS → M Fl := fun z => M.bnd (fa z) fun d => M.bnd (fb z) fun e => M.bnd (M.opt (lstOf d)) fun ds => M.bnd (M.opt (lstOf e)) fun es => M.bnd (M.opt (strsOf ds)) fun ks => M.pur (.nx (z.set i (.od (mgD [] (zipKD ks es)))))
end VL
set_option Elab.async false
set_option linter.all false
set_option maxRecDepth 100000
namespace VL
open PySem PySem.Spec L2
open PyProof.Rows hiding St
def iZipL (fa fb : AS → M PyData) : AS → M (List PyData) := fun z => M.bnd (fa z) fun d => M.bnd (fb z) fun e => M.bnd (M.opt (lstOf d)) fun ds => M.bnd (M.opt (lstOf e)) fun es => M.pur (zipD ds es)
end VL
set_option Elab.async false
set_option linter.all false
set_option maxRecDepth 100000
namespace VL
open PySem PySem.Spec L2
open PyProof.Rows hiding St
section
variable {δ : DS} {z : AS} {i : Nat} {fa fb : AS → M PyData}
@[simp] theorem W_sSetDZ {Q : Fl → DS → Prop} : W (sSetDZ i fa fb z) δ Q ↔ W (fa z) δ fun d δ => W (fb z) δ fun e δ => oW (lstOf d) fun ds => oW (lstOf e) fun es => oW (strsOf ds) fun ks => Q (.nx (z.set i (.od (mgD [] (zipKD ks es))))) δ := by unfold sSetDZ; simp
@[simp] theorem W_iZipL {Q : List PyData → DS → Prop} : W (iZipL fa fb z) δ Q ↔ W (fa z) δ fun d δ => W (fb z) δ fun e δ => oW (lstOf d) fun ds => oW (lstOf e) fun es => Q (zipD ds es) δ := by unfold iZipL; simp
end
end VL
set_option Elab.async false
set_option linter.all false
set_option maxRecDepth 100000
set_option maxHeartbeats 2000000
namespace VL
open PySem PySem.Spec L2
open PyProof.Rows hiding St
section
variable {X : Cx} {a b o : Expr} {fa fb fo fi : AS → M PyData} {pos apos cpos : Pos}
def natI (ds : List PyData) (n : PyData) : Option (Nat × Int) := match n with
  | .int i => if 0 ≤ i then (match ds[i.toNat]? with
    | some (.int a) => some (i.toNat, a)
    | _ => none) else none
  | _ => none
theorem DvAll.at {K : PySem.W.Frag} {F : Hp} {d : PyData} : ∀ {vs : List V} {ds : List PyData} (j : Nat), DvAll K F vs ds → ds[j]? = some d → ∃ v, vs[j]? = some v ∧ Dv K F v d
  | _, _, _, .nil, e => by simp at e
  | _, _, 0, .cons h _, e => by
    simp at e
    subst e
    exact ⟨_, rfl, h⟩
  | _, _, j + 1, .cons _ t, e => by
    simp at e
    obtain ⟨v, h1, h2⟩ := DvAll.at j t e
    exact ⟨v, by simpa using h1, h2⟩
def sAugI (i : Nat) (fi fa : AS → M PyData) : AS → M Fl := fun z => M.bnd (fi z) fun n => M.bnd (M.opt (ownAt z i)) fun ds => M.bnd (M.opt (natI ds n)) fun p => M.bnd (fa z) fun e => M.bnd (M.opt (augC (.int p.2) e)) fun w => M.pur (.nx (z.set i (.own (ds.set p.1 w))))
/-- [e] * n, a list of one's own -/
def lmC (d e : PyData) : Option (List PyData) := match d, e with
  | .list ds, .int k => if 0 ≤ k ∧ k ≤ 1000 ∧ ds.length ≤ 1000 then some ((List.replicate k.toNat ds).flatten) else none
  | _, _ => none
def oMul (fa fb : AS → M PyData) : AS → M (List PyData) := fun z => M.bnd (fa z) fun d => M.bnd (fb z) fun e => M.opt (lmC d e)
end
end VL
set_option Elab.async false
set_option linter.all false
set_option maxRecDepth 100000
namespace VL
open PySem PySem.Spec L2
open PyProof.Rows hiding St
section
variable {δ : DS} {z : AS} {i : Nat} {fi fa fb : AS → M PyData}
@[simp] theorem W_sAugI {Q : Fl → DS → Prop} : W (sAugI i fi fa z) δ Q ↔ W (fi z) δ fun n δ => oW (ownOf z i) fun ds => oW (natI ds n) fun p => W (fa z) δ fun e δ => oW (augC (.int p.2) e) fun w => Q (.nx (z.set i (.own (ds.set p.1 w)))) δ := by unfold sAugI; simp [ownAt_of]
@[simp] theorem W_oMul {Q : List PyData → DS → Prop} : W (oMul fa fb z) δ Q ↔ W (fa z) δ fun d δ => W (fb z) δ fun e δ => oW (lmC d e) fun ws => Q ws δ := by unfold oMul; simp
end
end VL
set_option Elab.async false
set_option linter.all false
set_option maxRecDepth 100000
set_option maxHeartbeats 3200000
namespace VL
open PySem PySem.Spec L2 PySem.W
open PyProof.Rows hiding St
def sFrzT (i : Nat) (g : AS → M Fl) : AS → M Fl := fun z => M.bnd (M.opt (otAt z i)) fun ds => g (z.set i (.gx (.nt ds)))
section
variable {X : Cx} {e a b c o tg : Expr} {es : List Expr} {fa fb fc : AS → M PyData} {pos apos cpos : Pos}
def ntAt (z : AS) (i : Nat) : Option NDs := match z[i]? with
  | some (.gx (.nt ds)) => some ds
  | _ => none
/-- d[k] -/
def eZGet (i : Nat) (fk : AS → M PyData) : AS → M PyData := fun z => M.bnd (fk z) fun d => M.bnd (M.opt (ntAt z i)) fun ds => M.bnd (M.opt (tpN d)) fun k => M.opt (getNd ds k)
def iNtK (i : Nat) : AS → M (List PyData) := fun z => M.bnd (M.opt (ntAt z i)) fun ds => M.pur (ds.map fun p => p.1.data)
end
end VL
set_option Elab.async false
set_option linter.all false
set_option maxRecDepth 100000
namespace VL
open PySem PySem.Spec L2
open PyProof.Rows hiding St
def ntOf : AS → Nat → Option NDs
  | [], _ => none
  | .gx (.nt ds) :: _, 0 => some ds
  | _ :: _, 0 => none
  | _ :: z, i + 1 => ntOf z i
@[simp] theorem ntOf_0 {ds : NDs} {z : AS} : ntOf (.gx (.nt ds) :: z) 0 = some ds := rfl
@[simp] theorem ntOf_s {s : SV} {z : AS} {i : Nat} : ntOf (s :: z) (i + 1) = ntOf z i := by
  cases s with
  | gx x => cases x <;> rfl
  | _ => rfl
theorem ntAt_of : ∀ (z : AS) (i : Nat), ntAt z i = ntOf z i
  | [], _ => rfl
  | s :: z, 0 => by
    cases s with
    | gx x => cases x <;> rfl
    | _ => rfl
  | s :: z, i + 1 => by
    rw [ntOf_s, ← ntAt_of z i]
    rfl
section
variable {z : AS} {δ : DS} {i : Nat} {fk : AS → M PyData} {g : AS → M Fl}
@[simp] theorem W_eZGet {Q : PyData → DS → Prop} : W (eZGet i fk z) δ Q ↔ W (fk z) δ fun d δ => oW (ntOf z i) fun ds => oW (tpN d) fun k => oW (getNd ds k) fun e => Q e δ := by unfold eZGet; simp [ntAt_of]
@[simp] theorem W_iNtK {Q : List PyData → DS → Prop} : W (iNtK i z) δ Q ↔ oW (ntOf z i) fun ds => Q (ds.map fun p => p.1.data) δ := by unfold iNtK; simp [ntAt_of]
@[simp] theorem W_sFrzT {Q : Fl → DS → Prop} : W (sFrzT i g z) δ Q ↔ oW (otOf z i) fun ds => W (g (z.set i (.gx (.nt ds)))) δ Q := by unfold sFrzT; simp [otAt_of]
end
end VL
set_option Elab.async false
set_option linter.all false
set_option maxRecDepth 100000
namespace VL
open PySem PySem.Spec L2
open PyProof.Rows hiding St
section
variable {fa fb : AS → M PyData} {fx : AS → M XR} {ga : AS → M (List AV)} {g1 : AS → M Fl} {z : AS} {δ : DS} {i j n N : Nat} {c f : Str}
@[simp] theorem W_sRaise1 {Q : Fl → DS → Prop} : W (sRaise1 c f fa z) δ Q ↔ W (fa z) δ fun d δ => Q (.ex c [(f, d)] z) δ := by unfold sRaise1; simp
theorem W_xThen {α : Type} {x : M XR} {k : PyData → M α} {k2 : Str → List (Str × PyData) → M α} {Q : α → DS → Prop} : W (xThen x k k2) δ Q ↔ W x δ fun r δ => match r with
  | .inl d => W (k d) δ Q
  | .inr (c, fs) => W (k2 c fs) δ Q := by
  unfold xThen
  rw [W_bnd]
  constructor <;> exact fun h => h.mono fun r δ q => by
    cases r with
    | inl d => exact q
    | inr e => obtain ⟨c, fs⟩ := e; exact q
@[simp] theorem W_sSetX {Q : Fl → DS → Prop} : W (sSetX i fx z) δ Q ↔ W (fx z) δ fun r δ => match r with
  | .inl d => Q (.nx (z.set i (.dat d))) δ
  | .inr (c, fs) => Q (.ex c fs z) δ := by
  unfold sSetX
  rw [W_xThen]
  constructor <;> exact fun h => h.mono fun r δ q => by
    cases r with
    | inl d => first | exact W_pur.mp q | exact W_pur.mpr q
    | inr e => obtain ⟨c, fs⟩ := e; first | exact W_pur.mp q | exact W_pur.mpr q
@[simp] theorem W_sRetX {Q : Fl → DS → Prop} : W (sRetX fx z) δ Q ↔ W (fx z) δ fun r δ => match r with
  | .inl d => Q (.rt d) δ
  | .inr (c, fs) => Q (.ex c fs z) δ := by
  unfold sRetX
  rw [W_xThen]
  constructor <;> exact fun h => h.mono fun r δ q => by
    cases r with
    | inl d => first | exact W_pur.mp q | exact W_pur.mpr q
    | inr e => obtain ⟨c, fs⟩ := e; first | exact W_pur.mp q | exact W_pur.mpr q
@[simp] theorem W_sDropX {Q : Fl → DS → Prop} : W (sDropX fx z) δ Q ↔ W (fx z) δ fun r δ => match r with
  | .inl d => Q (.nx z) δ
  | .inr (c, fs) => Q (.ex c fs z) δ := by
  unfold sDropX
  rw [W_xThen]
  constructor <;> exact fun h => h.mono fun r δ q => by
    cases r with
    | inl d => first | exact W_pur.mp q | exact W_pur.mpr q
    | inr e => obtain ⟨c, fs⟩ := e; first | exact W_pur.mp q | exact W_pur.mpr q
@[simp] theorem W_xV {Q : XR → DS → Prop} : W (xV fa z) δ Q ↔ W (fa z) δ fun d δ => Q (.inl d) δ := by unfold xV; simp
@[simp] theorem W_xCall {fn : List AV → M XR} {Q : XR → DS → Prop} : W (xCall fn ga z) δ Q ↔ W (ga z) δ fun as δ => W (fn as) δ Q := by unfold xCall; simp
@[simp] theorem W_xLst2 {Q : XR → DS → Prop} : W (xLst2 fa fx z) δ Q ↔ W (fa z) δ fun d δ => W (fx z) δ fun r δ => match r with
  | .inl e => Q (.inl (.list [d, e])) δ
  | .inr e => Q (.inr e) δ := by
  unfold xLst2
  rw [W_bnd]
  constructor <;> exact fun h => h.mono fun d δ q => by
    first | rw [W_xThen] at q | rw [W_xThen]
    refine q.mono fun r δ q => ?_
    cases r with
    | inl d => first | exact W_pur.mp q | exact W_pur.mpr q
    | inr e => obtain ⟨c, fs⟩ := e; first | exact W_pur.mp q | exact W_pur.mpr q
@[simp] theorem W_sTry1 {h : Str → List (Str × PyData) → Option PyData} {Q : Fl → DS → Prop} : W (sTry1 c i j h g1 z) δ Q ↔ W (g1 z) δ fun fl δ => match fl with
  | .ex c' fs z' => (c' = c ∧ i < z'.length) ∧ oW (h c' fs) fun u => Q (.nx (((z'.set i .un).set j (.dat u)).set i .un)) δ
  | fl => Q fl δ := by
  unfold sTry1
  rw [W_bnd]
  constructor
  · exact fun h => h.mono fun fl δ q => by
      cases fl with
      | ex c' fs z' =>
        by_cases q1 : c' = c ∧ i < z'.length
        · simp only [if_pos q1, W_bnd, W_opt] at q
          exact ⟨q1, oW_mono q fun u q => W_pur.mp q⟩
        · simp only [if_neg q1, W_no] at q
      | nx _ => exact W_pur.mp q
      | rt _ => exact W_pur.mp q
      | bk _ => exact W_pur.mp q
      | ct _ => exact W_pur.mp q
  · exact fun h => h.mono fun fl δ q => by
      cases fl with
      | ex c' fs z' =>
        obtain ⟨q1, q⟩ := q
        simp only [if_pos q1, W_bnd, W_opt]
        exact oW_mono q fun u q => W_pur.mpr q
      | nx _ => exact W_pur.mpr q
      | rt _ => exact W_pur.mpr q
      | bk _ => exact W_pur.mpr q
      | ct _ => exact W_pur.mpr q
theorem W_runX {as : List AV} {Q : XR → DS → Prop} (h : as.length = n) : W (runX n N g1 as) δ Q ↔ W (g1 (startA N as)) δ fun fl δ => W (flX fl) δ Q := by
  unfold runX
  rw [if_pos h, W_bnd]
@[simp] theorem W_Xrt {d : PyData} {Q : XR → DS → Prop} : W (flX (.rt d)) δ Q ↔ Q (.inl d) δ := W_pur
@[simp] theorem W_Xnx {Q : XR → DS → Prop} : W (flX (.nx z)) δ Q ↔ Q (.inl .none) δ := W_pur
@[simp] theorem W_Xex {fs : List (Str × PyData)} {Q : XR → DS → Prop} : W (flX (.ex c fs z)) δ Q ↔ Q (.inr (c, fs)) δ := W_pur
end
end VL
set_option Elab.async false
set_option linter.all false
set_option maxRecDepth 100000
namespace VL
open PySem PySem.Spec L2
open PyProof.Rows hiding St
def M.st : M DS := fun δ => some (δ, δ)
theorem M.st_some {δ δ' d : DS} (h : M.st δ = some (d, δ')) : d = δ ∧ δ' = δ := by
  injection h with h
  injection h with h1 h2
  exact ⟨h1.symm, h2.symm⟩
def amAt (z : AS) (i : Nat) : Option Nat := match z[i]? with
  | some (.gx (.am j)) => some j
  | _ => none
theorem amAt_some {z : AS} {i j : Nat} (h : amAt z i = some j) : z[i]? = some (.gx (.am j)) := by
  unfold amAt at h
  cases hz : z[i]? with
  | none => rw [hz] at h; cases h
  | some sv =>
    rw [hz] at h
    cases sv with
    | gx x => cases x with
      | am k => injection h with h; rw [h]
      | nt _ => cases h
    | _ => cases h
abbrev ObP := Str × List (Str × PyData)
/-- the object in slot i: its place, its class's name, its fields -/
def amOb (z : AS) (i : Nat) : M (Nat × ObP) := fun δ => (amAt z i).bind fun j => (δ.obs[j]?).map fun p => ((j, p), δ)
theorem amOb_some {z : AS} {i : Nat} {δ δ' : DS} {q : Nat × ObP} (h : amOb z i δ = some (q, δ')) : z[i]? = some (.gx (.am q.1)) ∧ δ.obs[q.1]? = some q.2 ∧ δ' = δ := by
  unfold amOb at h
  cases e : amAt z i with
  | none => rw [e] at h; cases h
  | some j =>
    rw [e] at h
    cases e2 : δ.obs[j]? with
    | none => simp only [Option.bind_some, e2] at h; cases h
    | some p =>
      simp only [Option.bind_some, e2, Option.map_some] at h
      injection h with h
      injection h with h1 h2
      subst h1 h2
      exact ⟨amAt_some e, e2, rfl⟩
section
variable {E : Str → Option Addr} {G : PySem.W.Frag} {F H F' H' : Hp} {os : List Addr} {ps : List ObP} {a : Addr} {p : ObP}
theorem ObsAt.get (h : ObsAt E G F H os ps) : ∀ {j : Nat}, os[j]? = some a → ps[j]? = some p → OneAt E G F H a p.1 p.2 := by
  induction h with
  | nil => intro j e _; simp at e
  | cons h _ ih =>
    intro j e1 e2
    cases j with
    | zero => simp at e1 e2; subst e1 e2; exact h
    | succ j => exact ih (by simpa using e1) (by simpa using e2)
theorem ObsAt.len (h : ObsAt E G F H os ps) : os.length = ps.length := by
  induction h with
  | nil => rfl
  | cons _ _ ih => simp [ih]
/-- one of them is another one now -/
theorem ObsAt.put (h : ObsAt E G F H os ps) (nd : os.Nodup) (k : ∀ b, b ≠ a → ∀ C dx vs, H b = some (.ins C dx vs) → H' b = some (.ins C dx vs)) (o : OneAt E G F H' a p.1 p.2) : ∀ {j : Nat}, os[j]? = some a → ObsAt E G F H' os (ps.set j p) := by
  induction h with
  | nil => intro j e; simp at e
  | @cons b c fs os ps h t ih =>
    intro j e
    rw [List.nodup_cons] at nd
    cases j with
    | zero =>
      simp at e
      subst e
      exact .cons o (t.to (Same.refl _) (fun _ _ e => e) fun b' m => k b' (fun q => nd.1 (by rw [← q]; exact m)))
    | succ j =>
      have e' : os[j]? = some a := by simpa using e
      refine .cons (h.toG (keepT_of (Same.refl _)) (fun _ e => e) h.fa (k b (fun q => nd.1 ?_))) (ih nd.2 e')
      rw [q]
      exact List.mem_of_getElem? e'
theorem ObsAt.add (h : ObsAt E G F H os ps) (o : OneAt E G F H a p.1 p.2) : ObsAt E G F H (os ++ [a]) (ps ++ [p]) := by
  induction h with
  | nil => exact .cons o .nil
  | cons h _ ih => exact .cons h ih
theorem ObsAt.cut : ∀ {os1 : List Addr} {ps : List ObP}, ObsAt E G F H (os1 ++ [a]) ps → ps.length = os1.length + 1 ∧ ObsAt E G F H os1 (ps.take os1.length)
  | [], _, .cons h t => by cases t; exact ⟨rfl, .nil⟩
  | b :: os1, _, .cons h t => by
    obtain ⟨e, r⟩ := ObsAt.cut (os1 := os1) t
    exact ⟨by simp [e], .cons h r⟩
end
theorem Ok.am_at [NTb] {K : PySem.W.Frag} {dk : Option Dk} {z : AS} {δ : DS} {σ : L2.St} {F H : Hp} {i j : Nat} {p : ObP} (ok : Ok K dk z δ σ F H) (hz : z[i]? = some (.gx (.am j))) (hp : δ.obs[j]? = some p) :
    ∃ k a, dk = some k ∧ k.os[j]? = some a ∧ σ[i]? = some (some (.ref a)) ∧ OneAt NTb.E NTb.G F H a p.1 p.2 := by
  obtain ⟨v, h1, k, a, rfl, h2, rfl⟩ := ok.sl i _ hz (fun q => nomatch q)
  exact ⟨k, a, rfl, h2, h1, ok.deck.1.ob.get h2 hp⟩
/-- an object of the deck's frame, changed -/
theorem ext_dkO {k : Dk} {F H : Hp} {p : Addr} {o : HO} (fh : Same F H) (hp : inDk (some k) p) (hF : F p = none) (hH : H p ≠ none) (hc : ∀ q, o ≠ LamX.CodeO p q) : Ext (some k) F H F (upd H p o) := by
  refine ⟨Same.refl _, fun b o' e => ?_, fun b o' e n _ => ?_, fun b e => ?_, fun b ⟨o', e, n⟩ => ?_, fun b e _ => e⟩
  · rw [upd_ne (ne_of_none e hF)]; exact fh b o' e
  · rw [upd_ne (fun q => n (by rw [q]; exact hp))]; exact e
  · by_cases q : b = p
    · subst q; rw [upd_same]; exact fun z => nomatch z
    · rw [upd_ne q]; exact e
  · by_cases q : b = p
    · subst q; exact ⟨_, upd_same, hc⟩
    · exact ⟨o', by rw [upd_ne q]; exact e, n⟩
/-- x.f -/
def eAFld (i : Nat) (cs : List Str) (f : Str) : AS → M PyData := fun z => M.bnd (amOb z i) fun q => if q.2.1 ∈ cs then M.opt (q.2.2.lookup f) else M.no
/-- x.f, the same for all objects of the class -/
def eACon (i : Nat) (cs : List Str) (f : Str) (d : PyData) : AS → M PyData := fun z => M.bnd (amOb z i) fun q => if q.2.1 ∈ cs ∧ q.2.2.lookup f = none then M.pur d else M.no
def setOb (j : Nat) (p : ObP) : M Unit := fun δ => some ((), { δ with obs := δ.obs.set j p })
/-- x.f = e -/
def sAFld (i : Nat) (cs : List Str) (f : Str) (fe : AS → M PyData) : AS → M Fl := fun z => M.bnd (fe z) fun d => M.bnd (amOb z i) fun q => if q.2.1 ∈ cs ∧ q.2.2.length < 1000 ∧ flatD d = true then M.bnd (setOb q.1 (q.2.1, putFd f d q.2.2)) fun _ => M.pur (.nx z) else M.no
/-- handed on -/
def aAm (i : Nat) (g : AS → M (List AV)) : AS → M (List AV) := fun z => M.bnd (amOb z i) fun q => M.bnd (g z) fun r => M.pur (.am q.1 :: r)
theorem okFs_put {f : Str} {d : PyData} (hd : flatD d = true) (hf : markF f = false) : ∀ {fs : List (Str × PyData)}, okFs fs = true → okFs (putFd f d fs) = true
  | [], _ => by simp [putFd, okFs, hd, hf]
  | (g, x) :: r, h => by
    unfold okFs at h
    rw [List.all_cons, Bool.and_eq_true] at h
    unfold putFd
    by_cases q : g = f
    · rw [if_pos q]
      subst q
      unfold okFs
      rw [List.all_cons, Bool.and_eq_true]
      exact ⟨by simp [hd, hf], h.2⟩
    · rw [if_neg q]
      unfold okFs
      rw [List.all_cons, Bool.and_eq_true]
      exact ⟨h.1, okFs_put hd hf (fs := r) h.2⟩
section
variable {X : Cx} {o a b e : Expr} {es : List Expr} {fe : AS → M PyData} {i : Nat} {f : Str} {cs : List Str} {pos pos' : Pos}
theorem je_afld [NTb] (hK : NTb.G = X.K) (T : ∀ c ∈ cs, ∀ C, NTb.E c = some C → Cls X.K C ∧ NoAttr X.K C f) (ho : PE X o (tVar i)) (hb : attributeBase o f X.env (eval o X.env) = eval o X.env := by rfl) : JE X (eAFld i cs f) (.Attribute o f pos) :=
  PE_imp (pe_fld ho hb) fun σ H Q ⟨dk, F, z, δ, d, δ', hf, ok, k⟩ => by
    obtain ⟨q, δ1, h1, hf1⟩ := M.bnd_some hf
    obtain ⟨hz, hp, rfl⟩ := amOb_some h1
    by_cases c : q.2.1 ∈ cs
    · rw [if_pos c] at hf1
      obtain ⟨h3, rfl⟩ := M.opt_some hf1
      obtain ⟨kk, a, rfl, ho, e1, one⟩ := ok.am_at hz hp
      obtain ⟨C, dx, vs, e2, e3, e4, r⟩ := one.ex
      obtain ⟨w, e5, rw_⟩ := r.at_.1 d h3
      rw [hK] at rw_
      exact ⟨_, e1, a, C, dx, vs, w, rfl, e3, (T _ c C e2).1, (T _ c C e2).2, e5, k w F H (.refl ok.fh) ok.deck rw_⟩
    · rw [if_neg c] at hf1; cases hf1
theorem je_acon [NTb] {d : PyData} {v : V} {u : Value} (T : ∀ c ∈ cs, ∀ C, NTb.E c = some C → Cls X.K C ∧ Con X.K C f v u) (hd : ∀ F, Dv X.K F v d) (ho : PE X o (tVar i)) (hb : attributeBase o f X.env (eval o X.env) = eval o X.env := by rfl) : JE X (eACon i cs f d) (.Attribute o f pos) :=
  PE_imp (pe_con ho hb) fun σ H Q ⟨dk, F, z, δ, d', δ', hf, ok, k⟩ => by
    obtain ⟨q, δ1, h1, hf1⟩ := M.bnd_some hf
    obtain ⟨hz, hp, rfl⟩ := amOb_some h1
    by_cases c : q.2.1 ∈ cs ∧ q.2.2.lookup f = none
    · rw [if_pos c] at hf1
      obtain ⟨rfl, rfl⟩ := M.pur_some hf1
      obtain ⟨kk, a, rfl, ho, e1, one⟩ := ok.am_at hz hp
      obtain ⟨C, dx, vs, e2, e3, e4, r⟩ := one.ex
      exact ⟨_, e1, a, C, dx, vs, v, u, rfl, e3, (T _ c.1 C e2).1, (T _ c.1 C e2).2, r.at_.2 c.2, k v F H (.refl ok.fh) ok.deck (hd F)⟩
    · rw [if_neg c] at hf1; cases hf1
theorem js_afld [NTb] (hK : NTb.G = X.K) (T : ∀ c ∈ cs, ∀ C, NTb.E c = some C → Cls X.K C ∧ NoAttr X.K C f) (ho : PE X o (tVar i)) (hv : JE X fe e) (hs : swapsWith e (some (.Attribute o f pos')) pos.line X.env = pure false := by rfl) (nm : markF f = false := by decide +kernel) : JS X (sAFld i cs f fe) (.Assign [.Attribute o f pos'] e pos) :=
  PS_imp (ps_fld ho hv hs) fun D σ H ⟨dk, F0, H0, F, z, δ, fl, δ', hf, x, ok, fr, k⟩ => by
    obtain ⟨d, δ1, h1, hf1⟩ := M.bnd_some hf
    obtain ⟨q, δ2, h2, hf2⟩ := M.bnd_some hf1
    obtain ⟨hz, hp, rfl⟩ := amOb_some h2
    by_cases c : q.2.1 ∈ cs ∧ q.2.2.length < 1000 ∧ flatD d = true
    · rw [if_pos c] at hf2
      have e0 : M.pur (Fl.nx z) { δ2 with obs := δ2.obs.set q.1 (q.2.1, putFd f d q.2.2) } = some (fl, δ') := hf2
      obtain ⟨rfl, rfl⟩ := M.pur_some e0
      refine ⟨dk, F, z, δ, d, _, h1, ok, fun v F' H' x1 d1 r1 => ?_⟩
      have ok1 := ok.ext x1 d1
      obtain ⟨kk, a, rfl, ho, e1, one⟩ := ok1.am_at hz hp
      obtain ⟨C, dx, vs, e2, e3, e4, r⟩ := one.ex
      have hd : inDk (some kk) a := .inr (.inr (.inr (List.mem_of_getElem? ho)))
      have x2 : Ext (some kk) F' H' F' (upd H' a (.ins C dx (putF f v vs))) := ext_dkO ok1.fh hd one.fa (by rw [e3]; exact fun z => nomatch z) (fun _ => codeO_ins)
      refine ⟨_, e1, a, C, dx, vs, rfl, e3, (T _ c.1 C e2).1, (T _ c.1 C e2).2, by rw [r.len]; exact c.2.1, ?_⟩
      rw [← hK] at r1
      have dA : DeckAt NTb.E NTb.G kk δ2 F' H' := ok1.deck.1
      have ne : ∀ {b vs'}, H' b = some (.lst vs') → b ≠ a := fun {b vs'} e q => by rw [q, e3] at e; cases e
      refine k σ F' _ (x.trans (x1.trans x2)) x1.ff (ok1.ext x2 (δ' := { δ2 with obs := δ2.obs.set q.1 (q.2.1, putFd f d q.2.2) }) ⟨?_, tabs_keep ok1.deck.2.1 fun b o' e q => ?_, ok1.deck.2.2⟩) fr
      · refine ⟨by rw [upd_ne (ne dA.hl)]; exact dA.hl, by rw [upd_ne (ne dA.hg)]; exact dA.hg, by rw [upd_ne (ne dA.hc)]; exact dA.hc, dA.fl, dA.fg, dA.fc, dA.lg, dA.lc, dA.gc, ?_, dA.nd⟩
        refine dA.ob.put dA.nd (a := a) (p := (q.2.1, putFd f d q.2.2)) (fun b nb C' dx' vs' e => by rw [upd_ne nb]; exact e) ?_ ho
        exact ⟨one.fa, ⟨C, dx, putF f v vs, e2, upd_same, e4, DFs.put f r r1 (fun q => by rw [nm] at q; cases q)⟩, okFs_put c.2.2 nm one.ok⟩
      · obtain ⟨ps, q⟩ := q
        rw [upd_ne (fun z => by rw [z, e3, q] at e; cases e)]
        exact e
    · rw [if_neg c] at hf2; cases hf2
theorem ja_am [NTb] {g : AS → M (List AV)} (h : PE X a (tVar i)) (hr : JA X g es) (hs : starEach (a :: es) X.env = (false, eval a X.env) :: starEach es X.env := by rfl) : JA X (aAm i g) (a :: es) :=
  PA_imp (pa_cons h hr hs) fun σ H Q ⟨dk, F, z, δ, d, δ', hf, ok, k⟩ => by
    obtain ⟨q, δ1, h1, hf1⟩ := M.bnd_some hf
    obtain ⟨hz, hp, rfl⟩ := amOb_some h1
    obtain ⟨r, δ2, h3, hf2⟩ := M.bnd_some hf1
    obtain ⟨rfl, rfl⟩ := M.pur_some hf2
    obtain ⟨v, e1, am⟩ := ok.sl i _ hz (fun z => nomatch z)
    exact ⟨_, e1, dk, F, z, _, _, _, h3, ok, fun vs F2 H2 x2 dd2 r2 => k _ F2 H2 x2 dd2 (.cons am r2)⟩
end
end VL
set_option Elab.async false
set_option linter.all false
set_option maxRecDepth 100000
namespace VL
open PySem PySem.Spec L2
open PyProof.Rows hiding St
def pushOb (c : Str) : M Unit := fun δ => some ((), { δ with obs := δ.obs ++ [(c, [])] })
def popOb (n : Nat) : M Unit := fun δ => some ((), { δ with obs := δ.obs.take n })
def dropSV (n : Nat) : SV → SV
  | .gx (.am j) => if j < n then .gx (.am j) else .un
  | sv => sv
def dropA (n : Nat) (z : AS) : AS := z.map (dropSV n)
def dropFl (n : Nat) : Fl → Fl
  | .nx z => .nx (dropA n z)
  | .bk z => .bk (dropA n z)
  | .ct z => .ct (dropA n z)
  | .rt d => .rt d
  | .ex c fs z => .ex c fs (dropA n z)
def nDk (k : Dk) (b : Addr) : Dk := ⟨k.l, k.g, k.c, k.os ++ [b]⟩
theorem in_wide {k : Dk} {a b : Addr} (h : inDk (some k) a) : inDk (some (nDk k b)) a := by
  rcases h with h | h | h | h
  · exact .inl h
  · exact .inr (.inl h)
  · exact .inr (.inr (.inl h))
  · exact .inr (.inr (.inr (List.mem_append.mpr (.inl h))))
theorem in_slim {k : Dk} {a b : Addr} (h : inDk (some (nDk k b)) a) : inDk (some k) a ∨ a = b := by
  rcases h with h | h | h | h
  · exact .inl (.inl h)
  · exact .inl (.inr (.inl h))
  · exact .inl (.inr (.inr (.inl h)))
  · rcases List.mem_append.mp h with h | h
    · exact .inl (.inr (.inr (.inr h)))
    · exact .inr (List.mem_singleton.mp h)
section
variable {K : PySem.W.Frag} {k : Dk} {b : Addr} {F H F' H' : Hp} {δ δ' : DS} {z : AS} {σ : L2.St}
theorem Ext.wide (x : Ext (some k) F H F' H') : Ext (some (nDk k b)) F H F' H' := ⟨x.ff, x.fh, fun c o e n t => x.hh c o e (fun q => n (in_wide q)) t, x.lv, x.lc, x.nf⟩
theorem Ext.slim (x : Ext (some (nDk k b)) F H F' H') (hb : H b = none) : Ext (some k) F H F' H' := ⟨x.ff, x.fh, fun c o e n t => x.hh c o e (fun q => by
  rcases in_slim q with q | rfl
  · exact n q
  · rw [hb] at e; cases e) t, x.lv, x.lc, x.nf⟩
theorem nin_wide {a : Addr} {o : HO} (hd : ¬ inDk (some k) a) (hb : H b = none) (hh : H a = some o) : ¬ inDk (some (nDk k b)) a := fun q => by
  rcases in_slim q with q | q
  · exact hd q
  · rw [q, hb] at hh
    cases hh
theorem SlotV.wide [NTb] (hb : H b = none) {v : V} : ∀ {sv : SV}, SlotV K (some k) F H v sv → SlotV K (some (nDk k b)) F H v sv
  | .un, _ => True.intro
  | .dat _, h => h
  | .own _, ⟨a, vs, e, hf, hd, hh, hv⟩ => ⟨a, vs, e, hf, nin_wide hd hb hh, hh, hv⟩
  | .deck, ⟨k', e, h⟩ => ⟨nDk k b, rfl, by cases e; exact h⟩
  | .scr _, h => h
  | .fn _, h => h
  | .od _, ⟨a, vs, e, hf, hd, hh, hv⟩ => ⟨a, vs, e, hf, nin_wide hd hb hh, hh, hv⟩
  | .ob _ _, h => h
  | .kn _, h => h
  | .gx (.nt _), h => h
  | .gx (.am j), ⟨k', a, e, h, e2⟩ => ⟨nDk k b, a, rfl, by
      cases e
      show (k.os ++ [b])[j]? = some a
      rw [List.getElem?_append_left (List.getElem?_eq_some_iff.mp h).1]
      exact h, e2⟩
  | .ot _, ⟨a, xs, e, hf, hd, hh, hv⟩ => ⟨a, xs, e, hf, nin_wide hd hb hh, hh, hv⟩
theorem Ok.wide [NTb] (ok : Ok K (some k) z δ σ F H) (hb : H b = none) (x : Ext (some (nDk k b)) F H F' H') (d : DeckOk (some (nDk k b)) δ' F' H') : Ok K (some (nDk k b)) z δ' σ F' H' :=
  ⟨x.fh, d, ok.len, fun i sv e n => let ⟨v, h1, h2⟩ := ok.sl i sv e n; ⟨v, h1, (h2.wide hb).ext x⟩, ok.dis, ok.dit⟩
theorem drop_get {n i : Nat} : (dropA n z)[i]? = (z[i]?).map (dropSV n) := by
  unfold dropA
  rw [List.getElem?_map]
theorem drop_own {n i : Nat} {sv : SV} (m : sv.mine) (h : (dropA n z)[i]? = some sv) : z[i]? = some sv := by
  rw [drop_get] at h
  cases e : z[i]? with
  | none => rw [e] at h; cases h
  | some s =>
    rw [e] at h
    have h' : dropSV n s = sv := by injection h
    subst h'
    cases s with
    | gx x => cases x with
      | nt _ => exact m.elim
      | am j =>
        exfalso
        by_cases q : j < n
        · rw [show dropSV n (.gx (.am j)) = .gx (.am j) from if_pos q] at m; exact m
        · rw [show dropSV n (.gx (.am j)) = .un from if_neg q] at m; exact m
    | _ => rfl
theorem SlotV.slim [NTb] {v : V} : ∀ {sv : SV}, SlotV K (some (nDk k b)) F H v sv → SlotV K (some k) F H v (dropSV k.os.length sv)
  | .un, _ => True.intro
  | .dat _, h => h
  | .own _, ⟨a, vs, e, hf, hd, hh, hv⟩ => ⟨a, vs, e, hf, fun q => hd (in_wide q), hh, hv⟩
  | .deck, ⟨k', e, h⟩ => ⟨k, rfl, by cases e; exact h⟩
  | .scr _, h => h
  | .fn _, h => h
  | .od _, ⟨a, vs, e, hf, hd, hh, hv⟩ => ⟨a, vs, e, hf, fun q => hd (in_wide q), hh, hv⟩
  | .ob _ _, h => h
  | .kn _, h => h
  | .gx (.nt _), h => h
  | .gx (.am j), ⟨k', a, e, h, e2⟩ => by
      cases e
      show SlotV K (some k) F H v (if j < k.os.length then .gx (.am j) else .un)
      by_cases q : j < k.os.length
      · rw [if_pos q]
        refine ⟨k, a, rfl, ?_, e2⟩
        have h' : (k.os ++ [b])[j]? = some a := h
        rwa [List.getElem?_append_left q] at h'
      · rw [if_neg q]; exact True.intro
  | .ot _, ⟨a, xs, e, hf, hd, hh, hv⟩ => ⟨a, xs, e, hf, fun q => hd (in_wide q), hh, hv⟩
theorem DeckOk.slim [NTb] (d : DeckOk (some (nDk k b)) δ F H) : DeckOk (some k) { δ with obs := δ.obs.take k.os.length } F H := by
  have dA : DeckAt NTb.E NTb.G (nDk k b) δ F H := d.1
  exact ⟨(⟨dA.hl, dA.hg, dA.hc, dA.fl, dA.fg, dA.fc, dA.lg, dA.lc, dA.gc, (ObsAt.cut (os1 := k.os) dA.ob).2, (List.nodup_append.mp dA.nd).1⟩ : DeckAt NTb.E NTb.G k { δ with obs := δ.obs.take k.os.length } F H), d.2⟩
theorem Ok.slim [NTb] (ok : Ok K (some (nDk k b)) z δ σ F H) : Ok K (some k) (dropA k.os.length z) { δ with obs := δ.obs.take k.os.length } σ F H := by
  refine ⟨ok.fh, ok.deck.slim, by unfold dropA; rw [List.length_map]; exact ok.len, fun i sv e n => ?_, fun i j a ds es hij e1 e2 => ok.dis i j a ds es hij (drop_own True.intro e1) (drop_own True.intro e2), fun i j a ds es hij e1 e2 => ok.dit i j a ds es hij (drop_own True.intro e1) (drop_own True.intro e2)⟩
  rw [drop_get] at e
  cases e0 : z[i]? with
  | none => rw [e0] at e; cases e
  | some s =>
    rw [e0] at e
    have e' : dropSV k.os.length s = sv := by injection e
    have n0 : s ≠ .un := fun q => n (by rw [← e', q]; rfl)
    obtain ⟨v, h1, h2⟩ := ok.sl i s e0 n0
    exact ⟨v, h1, by rw [← e']; exact h2.slim⟩
theorem Fresh.slim {n : Nat} {H0 : Hp} (fr : Fresh z σ H0) : Fresh (dropA n z) σ H0 := fun i sv a m e1 e2 => fr i sv a m (drop_own m e1) e2
theorem AVs.wide [NTb] : ∀ {vs : List V} {as : List AV}, AVs K (some k) F vs as → AVs K (some (nDk k b)) F vs as
  | _, _, .nil => .nil
  | _, _, .cons (a := a) h t => .cons (by
      cases a with
      | d _ => exact h
      | deck => obtain ⟨k', e, h⟩ := h; cases e; exact ⟨nDk k b, rfl, h⟩
      | fn _ => exact h
      | ob _ _ => exact h
      | am j =>
        obtain ⟨k', a, e, h, e2⟩ := h
        cases e
        refine ⟨nDk k b, a, rfl, ?_, e2⟩
        show (k.os ++ [b])[j]? = some a
        rw [List.getElem?_append_left (List.getElem?_eq_some_iff.mp h).1]
        exact h) (AVs.wide t)
theorem made_ext {dk : Option Dk} {dx C : Addr} (sm : Same F H) (hb : H b = none) (hx : H dx = none) (ne : dx ≠ b) : Ext dk F H (upd F dx (.own b)) (upd (upd H dx (.own b)) b (.ins C dx [])) := by
  have x1 : Ext dk F H (upd F dx (.own b)) (upd H dx (.own b)) := .new sm hx
  exact x1.trans (.open x1.fh (by rw [upd_ne (fun q => ne q.symm)]; exact hb))
theorem DeckOk.push [NTb] {c : Str} {dx C : Addr} (d : DeckOk (some k) δ F H) (sm : Same F H) (hE : NTb.E c = some C) (hb : H b = none) (hx : H dx = none) (ne : dx ≠ b) :
    DeckOk (some (nDk k b)) { δ with obs := δ.obs ++ [(c, [])] } (L2.upd F dx (.own b)) (L2.upd (L2.upd H dx (.own b)) b (.ins C dx [])) := by
  have x1 : Ext (some k) F H (L2.upd F dx (.own b)) (L2.upd H dx (.own b)) := .new sm hx
  have hb1 : L2.upd H dx (.own b) b = none := by rw [upd_ne (fun q => ne q.symm)]; exact hb
  have d2 : DeckOk (some k) δ (L2.upd F dx (.own b)) (L2.upd (L2.upd H dx (.own b)) b (.ins C dx [])) := (Grow.open (dk := some k) x1.fh hb1).d _ (d.new hx sm)
  have dA : DeckAt NTb.E NTb.G k δ _ _ := d2.1
  have fb : L2.upd F dx (.own b) b = none := by rw [upd_ne (fun q => ne q.symm)]; exact sm.free hb
  have one : OneAt NTb.E NTb.G (L2.upd F dx (.own b)) (L2.upd (L2.upd H dx (.own b)) b (.ins C dx [])) b c [] := ⟨fb, ⟨C, dx, [], hE, upd_same, upd_same, .nil⟩, rfl⟩
  have nb : b ∉ k.os := fun m => (d.some_of (dk := some k) (b := b) (.inr (.inr (.inr m)))).1 hb
  refine ⟨(⟨dA.hl, dA.hg, dA.hc, dA.fl, dA.fg, dA.fc, dA.lg, dA.lc, dA.gc, dA.ob.add (p := (c, [])) one, ?_⟩ : DeckAt NTb.E NTb.G (nDk k b) { δ with obs := δ.obs ++ [(c, [])] } _ _), d2.2⟩
  exact List.nodup_append.mpr ⟨dA.nd, by simp, fun x hx y hy q => by
    rw [List.mem_singleton] at hy
    subst q hy
    exact nb hx⟩
end
section
variable {X : Cx} {k : Nat} {f C : Addr} {fd : FuncData} {ps : List Str} {sp : Sp}
theorem run_makeX {pins : List (Addr × Obj)} {σ : L2.St} {H : Hp} {s : Shared} {Q : VK} {us : List Value} {vs : List V} (M : Mk X.K C f) (G : FnX X.prog X.w X.K X.mg X.base k f fd ps sp) (hu : X.A.guards = some []) (hr : Room (k + 1) X.A) (hb : Binds X.K fd ps [])
    (I : Inv X pins σ H s) (r : Vals vs us) (h : ∀ x dx, H x = none → H dx = none → dx ≠ x → sp (.ref x :: vs) (L2.upd (L2.upd H dx (.own x)) x (.ins C dx [])) (fun v H2 => v = .non ∧ Q (.ref x) H2) (fun cls d H' => Wx X cls d σ H')) :
    wpAny (model X.prog X.w) X.A (call (.ref C) us) (EP X pins σ Q) X.xe s := by
  have want := h (s.heap.objs.size + 1) s.heap.objs.size (I.hok.fresh (Nat.le_succ _)) (I.hok.fresh (Nat.le_refl _)) (Nat.ne_of_lt (Nat.lt_succ_self _))
  have J := Inv.made (C := C) I
  have rv : Vals (V.ref (s.heap.objs.size + 1) :: vs) (Value.ref (s.heap.objs.size + 1) :: us) := .cons rfl r
  have hl : ((Value.ref (s.heap.objs.size + 1) :: us) ++ []).length = ps.length := by
    rw [List.append_nil, ← rv.length]
    exact G.len _ _ _ _ want
  have bd := hb _ (Value.ref (s.heap.objs.size + 1) :: us) J.kIn hl
  rw [List.append_nil] at bd
  refine wpAny_call (make_map (f := f) I.kIn M.makes M.init (beq_iff_eq.mp M.fn) (codeAny_mono (G.run _ X.stack _ _ ⟨Value.ref (s.heap.objs.size + 1) :: us, []⟩ _ _ _ _ (under_guards hu) (hr.make C us []) (J.env0.make C us []) bd rv want) fun res s' q => ?_))
  cases res with
  | error e => exact passAt takes_Wx σ pins _ _ e s' J q
  | ok fl =>
    cases fl with
    | ret u =>
      obtain ⟨v, H', I3, rv, ev, q3⟩ := J.after q
      subst ev
      exact ⟨rv, ⟨V.ref (s.heap.objs.size + 1), H', I3, rfl, q3⟩⟩
    | next => exact q.elim
    | brk => exact q.elim
    | cont => exact q.elim
theorem pe_makeX {x : Str} {p pos : Pos} {e : Expr} {es : List Expr} {t : TA} (M : Mk X.K C f) (G : FnX X.prog X.w X.K X.mg X.base k f fd ps sp) (hu : X.A.guards = some []) (hr : Room (k + 1) X.A) (hg : Gl X x) (hm : X.mg x = some (.ref C)) (hb : Binds X.K fd ps [])
    (ha : PA X (e :: es) t) (hdb : (x == ("__debug__" : Str)) = false := by decide) (he : starEach (e :: es) X.env = (false, eval e X.env) :: starEach es X.env := by rfl) (hpl : (backTo pos (starEach es X.env)).any (·.1) = false := by rfl) :
    PE X (.Call (.Name x p) (e :: es) [] pos) (fun σ H Q => t σ H fun vs H1 => ∀ b dx, H1 b = none → H1 dx = none → dx ≠ b → sp (.ref b :: vs) (L2.upd (L2.upd H1 dx (.own b)) b (.ins C dx [])) (fun v H2 => v = .non ∧ Q (.ref b) H2) (fun cls d H' => Wx X cls d σ H')) := by
  refine ⟨fun pins s σ H Q I h => ?_⟩
  refine wpAny_Call_Name_kw (ld_glob I hg hm ?_ hdb)
  refine PySem.W.callWith_K (h₀ := X.base) I.ok.mod.kin M.kp (thn (ha.run pos pins s σ H _ I h) fun us s1 ⟨vs, H1, I1, r, q⟩ => ⟨I1.kIn, ?_⟩) he hpl
  exact run_makeX M G hu hr hb I1 r q
end
/-- x = C(..), and what comes behind it in the block -/
def sNew (i : Nat) (c : Str) (ini : List AV → M XR) (ga : AS → M (List AV)) (g : AS → M Fl) : AS → M Fl := fun z => M.bnd (ga z) fun as => M.bnd M.st fun δ =>
  if δ.cells = [] then M.no else
  M.bnd (pushOb c) fun _ => M.bnd (ini (.am δ.obs.length :: as)) fun r => match r with
    | .inr (c', fs) => M.bnd (popOb δ.obs.length) fun _ => M.pur (.ex c' fs (dropA δ.obs.length z))
    | .inl .none => M.bnd (g (z.set i (.gx (.am δ.obs.length)))) fun fl => M.bnd (popOb δ.obs.length) fun _ => M.pur (dropFl δ.obs.length fl)
    | .inl _ => M.no
section
variable {X : Cx} {c : Str} {e : Expr} {es : List Expr} {pos pos2 : Pos}
theorem jss_new [NTb] {i : Nat} {y x : Str} {p p' : Pos} {C f : Addr} {fd : FuncData} {ps : List Str} {j k : Nat} {ini : List AV → M XR} {ga : AS → M (List AV)} {g : AS → M Fl} {rest : List Stmt}
    (hC : NTb.E c = some C) (M_ : Mk X.K C f) (G : FnX X.prog X.w X.K X.mg X.base k f fd ps (spX X.K ini)) (hu : X.A.guards = some []) (hr : Room j X.A) (hk : k + 1 ≤ j) (hg : Gl X x) (hm : X.mg x = some (.ref C)) (hb : Binds X.K fd ps [])
    (hN : X.N.Nodup) (hi : X.N[i]? = some y) (hy : Loc X.env.scope y) (ha : JA X ga (e :: es)) (hrest : JSs X g rest)
    (hs : swapsWith (.Call (.Name x p) (e :: es) [] pos) (some (.Name y p')) pos2.line X.env = pure false := by rfl) (hdb : (x == ("__debug__" : Str)) = false := by decide)
    (he : starEach (e :: es) X.env = (false, eval e X.env) :: starEach es X.env := by rfl) (hpl : (backTo pos (starEach es X.env)).any (·.1) = false := by rfl)
    (hf : X.fn y = true ∨ X.env.scope.names.lookup y = some .local := by first | exact .inl rfl | exact .inr rfl | assumption) :
    JSs X (sNew i c ini ga g) (.Assign [.Name y p'] (.Call (.Name x p) (e :: es) [] pos) pos2 :: rest) :=
  PSs_imp (pss_cons (ps_set hN hi hy (pe_makeX M_ G hu (hr.mono hk) hg hm hb ha hdb he hpl) hs hf) hrest) fun D σ H ⟨dk, F0, H0, F, z, δ, fl, δ', hf, x0, ok, fr, kk⟩ => by
    obtain ⟨as, δ1, h1, hf1⟩ := M.bnd_some hf
    obtain ⟨δs, δ2, h2, hf2⟩ := M.bnd_some hf1
    obtain ⟨e1, e2⟩ := M.st_some h2
    subst e1 e2
    by_cases hc : δ2.cells = []
    · rw [if_pos hc] at hf2; cases hf2
    rw [if_neg hc] at hf2
    obtain ⟨u, δ3, h3, hf3⟩ := M.bnd_some hf2
    obtain ⟨r, δ4, h4, hf4⟩ := M.bnd_some hf3
    have e3 : δ3 = { δ2 with obs := δ2.obs ++ [(c, [])] } := by injection h3 with q; injection q with _ q; exact q.symm
    refine ⟨dk, F, z, δ, as, _, h1, ok, fun vs F1 H1 x1 d1 r1 => ?_⟩
    intro b dx nb ndx ne
    cases dk with
    | none =>
      have : δ2 = noDS := d1.1
      exact absurd (by rw [this]; rfl) hc
    | some kd =>
    have ln : kd.os.length = δ2.obs.length := (show DeckAt NTb.E NTb.G kd δ2 F1 H1 from d1.1).ob.len
    have dP := d1.push (c := c) (C := C) x1.fh hC nb ndx ne
    rw [← e3] at dP
    have xm := made_ext (dk := some (nDk kd b)) (C := C) x1.fh nb ndx ne
    have nbH : H b = none := back_none x1 nb
    have nb0 : H0 b = none := back_none x0 nbH
    have xx := (x0.trans x1).wide (b := b) |>.trans xm
    have ok1 := ok.ext x1 d1
    have okw := ok1.wide nb xm dP
    have av : AVs X.K (some (nDk kd b)) (upd F1 dx (.own b)) (.ref b :: vs) (.am δ2.obs.length :: as) := .cons ⟨nDk kd b, b, rfl, by
      show (kd.os ++ [b])[δ2.obs.length]? = some b
      rw [← ln, List.getElem?_append_right (Nat.le_refl _)]
      simp, rfl⟩ ((r1.ext xm.ff).wide)
    refine ⟨some (nDk kd b), _, _, δ3, r, δ4, h4, xm.fh, dP, av, ?_⟩
    cases r with
    | inr ex =>
      obtain ⟨c', fs⟩ := ex
      obtain ⟨u5, δ5, h5, hf5⟩ := M.bnd_some hf4
      obtain ⟨rfl, rfl⟩ := M.pur_some hf5
      have e5 : δ' = { δ4 with obs := δ4.obs.take δ2.obs.length } := by injection h5 with q; injection q with _ q; exact q.symm
      subst e5
      intro C' d F' H' hE x2 d2 eo
      have okf := (okw.ext x2 d2).slim
      rw [ln] at okf
      exact kk C' σ F' H' d hE ((xx.trans x2).slim nb0) ((x1.ff.trans xm.ff).trans x2.ff) okf fr.slim eo
    | inl d0 =>
      cases d0 with
      | none =>
        obtain ⟨fl1, δ5, h5, hf5⟩ := M.bnd_some hf4
        obtain ⟨u6, δ6, h6, hf6⟩ := M.bnd_some hf5
        obtain ⟨rfl, rfl⟩ := M.pur_some hf6
        have e6 : δ' = { δ5 with obs := δ5.obs.take δ2.obs.length } := by injection h6 with q; injection q with _ q; exact q.symm
        subst e6
        intro v F' H' x2 d2 rv
        cases rv
        refine ⟨rfl, ?_⟩
        have ok2 := okw.ext x2 d2
        have ok3 := ok2.setDat i (sv := .gx (.am δ2.obs.length)) (v := .ref b) (⟨nDk kd b, b, rfl, by
          show (kd.os ++ [b])[δ2.obs.length]? = some b
          rw [← ln, List.getElem?_append_right (Nat.le_refl _)]
          simp, rfl⟩) (fun _ q => nomatch q)
        have sF : Same F F' := (x1.ff.trans xm.ff).trans x2.ff
        refine ⟨some (nDk kd b), F0, H0, F', z.set i (.gx (.am δ2.obs.length)), δ4, fl1, δ5, h5, xx.trans x2, ok3, fr.setDat i (fun _ q => nomatch q), ?_⟩
        have sl : ∀ {z' σ' F2 H2}, Ok X.K (some (nDk kd b)) z' δ5 σ' F2 H2 → Ok X.K (some kd) (dropA δ2.obs.length z') { δ5 with obs := δ5.obs.take δ2.obs.length } σ' F2 H2 := fun o => by
          have := o.slim
          rw [ln] at this
          exact this
        cases fl1 with
        | nx z' => exact fun σ' F2 H2 x3 s3 o3 f3 => kk σ' F2 H2 (x3.slim nb0) (sF.trans s3) (sl o3) f3.slim
        | bk z' => exact fun σ' F2 H2 x3 s3 o3 f3 => kk σ' F2 H2 (x3.slim nb0) (sF.trans s3) (sl o3) f3.slim
        | ct z' => exact fun σ' F2 H2 x3 s3 o3 f3 => kk σ' F2 H2 (x3.slim nb0) (sF.trans s3) (sl o3) f3.slim
        | rt d' => exact fun v F2 H2 x3 d3 r3 => kk v F2 H2 (x3.slim nb0) (by
            have := d3.slim
            rw [ln] at this
            exact this) r3
        | ex c' fs z' => exact fun C' σ' F2 H2 d hE x3 s3 o3 f3 eo => kk C' σ' F2 H2 d hE (x3.slim nb0) (sF.trans s3) (sl o3) f3.slim eo
      | _ => cases hf4
end
end VL
set_option Elab.async false
set_option linter.all false
set_option maxRecDepth 100000
namespace VL
open PySem PySem.Spec L2
open PyProof.Rows hiding St
theorem in1_guards {A : Around} (h : A.guards = some []) : A.in1.guards = some [] := h
section
variable {X : Cx} {o a e : Expr} {es : List Expr} {C : Addr} {k : Nat} {fd : FuncData} {ps : List Str} {sp : Sp} {f m : Str} {pos apos : Pos} {ta : TE} {t : TA}
/-- what a property's getter gives, handed out -/
theorem out_G {pins : List (Addr × Obj)} {σ : L2.St} {H : Hp} {s s' : Shared} {Q : VK} {E' : Value → Shared → Prop} {r : Result} (I : Inv X pins σ H s) (h : CR CX0 X.stack X.prog X.w H s Q E0 r s') : ∃ u, r = .ok (.ret u) ∧ wpAny (model X.prog X.w) X.A (handedOut u) (EP X pins σ Q) E' s' := by
  match r, h with
  | .ok (.ret u), h => exact ⟨u, rfl, let ⟨v, H', I3, rv, q3⟩ := I.after h; (PySem.W.handedOut_of (handed_of rv)) ▸ wpAny_pure ⟨v, H', I3, rv, q3⟩⟩
  | .ok .next, h => exact h.elim
  | .ok .brk, h => exact h.elim
  | .ok .cont, h => exact h.elim
  | .error _, h => exact h.elim
theorem getprop_G {pins : List (Addr × Obj)} {σ : L2.St} {H : Hp} {s : Shared} {Q : VK} {b : Bool} {E' : Value → Shared → Prop} {p g a dx : Addr} {fs : List (Str × V)} (I : Inv X pins σ H s) (ea : H a = some (.ins C dx fs)) (c : Cls X.K C) (hp : PropOf X.K C f p g)
    (G : FnG X.prog X.w X.K X.mg X.base k g fd ps sp) (hu : X.A.guards = some []) (hr : Room (k + 1) X.A) (hb : Binds X.K fd ps []) (h : sp [.ref a] H Q E0) : wpAny (model X.prog X.w) X.A (getAttr (.ref a) f b) (EP X pins σ Q) E' s := by
  have I1 := I.tok (s.toks + 1)
  have pc := PySem.W.plainGet_of (c.get f)
  have kn : (PySem.W.clsIn X.K C).isSome = true := (PySem.W.any_some c.hd).elim fun cd q => q.1 ▸ rfl
  exact (ins_get I.hok ea).elim fun mA O => O.1.look.elim fun od J => hp.rec_.elim fun rest hrec =>
    PySem.W.get_bind I.kIn J.1 pc.1 (PySem.W.findObj_data kn hp.at_ hp.get hp.tak) pc.2 (wpAny_call (PySem.W.prop_get (s := { s with toks := s.toks + 1 }) I.kIn hrec
      (codeAny_mono (G.run X.A.in1 X.stack { s with toks := s.toks + 1 } H ⟨[.ref a], []⟩ [.ref a] [.ref a] Q (in1_guards hu) hr.in1 I1.env0.in1 (hb _ [.ref a] I1.kIn (G.len _ _ _ _ h)) (.cons rfl .nil) h) fun r s' hq => by
        obtain ⟨u, e, w⟩ := out_G (E' := E') I1 hq
        subst e
        exact w)))
theorem pe_propG {p g : Addr} (he : PE X e ta) (c : Cls X.K C) (hp : PropOf X.K C f p g) (G : FnG X.prog X.w X.K X.mg X.base k g fd ps sp) (hu : X.A.guards = some []) (hr : Room (k + 1) X.A) (hb : Binds X.K fd ps [])
    (hab : attributeBase e f X.env (eval e X.env) = eval e X.env := by rfl) : PE X (.Attribute e f pos) (fun σ H Q => ta σ H fun x H1 => ∃ a dx fs, x = .ref a ∧ H1 a = some (.ins C dx fs) ∧ sp [.ref a] H1 Q E0) :=
  ⟨fun pins s σ H Q I h => attr_of hab (thn (he.run pins s σ H _ I h) fun u s1 ⟨x, H1, I1, rx, a, dx, fs, ex, ea, q⟩ => by
    subst ex
    cases rx
    exact getprop_G I1 ea c hp G hu hr hb q)⟩
/-- x.f, a property -/
def eAProp (i : Nat) (c : Str) (fn : List AV → M PyData) : AS → M PyData := fun z => M.bnd (amOb z i) fun q => if q.2.1 = c then fn [.am q.1] else M.no
theorem je_aprop [NTb] {i j : Nat} {c : Str} {p g : Addr} {fn : List AV → M PyData} (hC : NTb.E c = some C) (cl : Cls X.K C) (hp : PropOf X.K C f p g) (G : FnG X.prog X.w X.K X.mg X.base k g fd ps (spF X.K fn)) (hu : X.A.guards = some []) (hr : Room j X.A) (hk : k + 1 ≤ j) (hb : Binds X.K fd ps []) (ho : PE X o (tVar i))
    (hab : attributeBase o f X.env (eval o X.env) = eval o X.env := by rfl) : JE X (eAProp i c fn) (.Attribute o f pos) :=
  PE_imp (pe_propG ho cl hp G hu (hr.mono hk) hb hab) fun σ H Q ⟨dk, F, z, δ, d, δ', hf, ok, k⟩ => by
    obtain ⟨q, δ1, h1, hf1⟩ := M.bnd_some hf
    obtain ⟨hz, hq, rfl⟩ := amOb_some h1
    by_cases cc : q.2.1 = c
    · rw [if_pos cc] at hf1
      obtain ⟨kk, a, rfl, ho, e1, one⟩ := ok.am_at hz hq
      obtain ⟨C', dx, vs, e2, e3, e4, r⟩ := one.ex
      rw [cc, hC] at e2
      cases e2
      exact ⟨_, e1, a, dx, vs, rfl, e3, some kk, F, _, _, d, δ', hf1, ok.fh, ok.deck, .cons ⟨kk, a, rfl, ho, rfl⟩ .nil, fun v F' H' x dd r => k v F' H' x dd r⟩
    · rw [if_neg cc] at hf1; cases hf1
/-- o.m(..), the method may raise -/
theorem pe_methX {pl : Sem Bool} {fm : Addr} (he : PE X o ta) (cl : Cls X.K C) (hm : Meth X.K C m fm) (G : FnX X.prog X.w X.K X.mg X.base k fm fd ps sp) (hu : X.A.guards = some []) (hr : Room k X.A) (hb : Binds X.K fd ps []) (ha : PA X (a :: es) t)
    (hst : starEach (a :: es) X.env = (false, eval a X.env) :: starEach es X.env := by rfl) (hpl : (backTo pos (starEach es X.env)).any (·.1) = false := by rfl)
    (ht : eval (.Call (.Attribute o m apos) (a :: es) [] pos) X.env = (do
      let ov ← eval o X.env
      standAt apos.atName
      let (f, first) ← holding [ov] (getMethod ov m pl)
      callWith pos f first (backTo pos (starEach (a :: es) X.env)) (backToKw pos (keywordEach [] X.env))) := by rfl) :
    PE X (.Call (.Attribute o m apos) (a :: es) [] pos) (fun σ H Q => ta σ H fun x H1 => ∃ b dx fs, x = .ref b ∧ H1 b = some (.ins C dx fs) ∧ fs.lookup m = none ∧ t σ H1 fun vs H2 => sp (x :: vs) H2 Q (fun cls d H' => Wx X cls d σ H')) := by
  refine ⟨fun pins s σ H Q I h => ?_⟩
  refine PySem.W.methodCall_KW (pl := pl) (thn (he.run pins s σ H _ I h) fun u s1 ⟨x, H1, I1, rx, b, dx, fs, ex, ea, l, q⟩ => ?_) ht
  subst ex
  obtain rfl : u = Value.ref b := rx
  refine getmeth_ok I1 ea cl hm l ?_
  refine PySem.W.callWith_K (first := [.ref b]) (h₀ := X.base) I.ok.mod.kin hm.kp (thn (ha.run pos pins s1 σ H1 _ I1 q) fun us s2 ⟨vs, H2, I2, r, q2⟩ => ⟨I2.kIn, ?_⟩) hst hpl
  exact runFX (us := .ref b :: us) (vs := .ref b :: vs) G hu hr hb I2 (.cons rfl r) q2
theorem pe_methX0 {pl : Sem Bool} {fm : Addr} (he : PE X o ta) (cl : Cls X.K C) (hm : Meth X.K C m fm) (G : FnX X.prog X.w X.K X.mg X.base k fm fd ps sp) (hu : X.A.guards = some []) (hr : Room k X.A) (hb : Binds X.K fd ps [])
    (ht : eval (.Call (.Attribute o m apos) [] [] pos) X.env = (do
      let ov ← eval o X.env
      standAt apos.atName
      let (f, first) ← holding [ov] (getMethod ov m pl)
      callWith pos f first (backTo pos (starEach [] X.env)) (backToKw pos (keywordEach [] X.env))) := by rfl) :
    PE X (.Call (.Attribute o m apos) [] [] pos) (fun σ H Q => ta σ H fun x H1 => ∃ b dx fs, x = .ref b ∧ H1 b = some (.ins C dx fs) ∧ fs.lookup m = none ∧ sp [x] H1 Q (fun cls d H' => Wx X cls d σ H')) := by
  refine ⟨fun pins s σ H Q I h => ?_⟩
  refine PySem.W.methodCall_KW (pl := pl) (thn (he.run pins s σ H _ I h) fun u s1 ⟨x, H1, I1, rx, b, dx, fs, ex, ea, l, q⟩ => ?_) ht
  subst ex
  obtain rfl : u = Value.ref b := rx
  refine getmeth_ok I1 ea cl hm l ?_
  exact PySem.W.callWith_K0 (first := [.ref b]) I1.kIn hm.kp (runFX (us := [.ref b]) (vs := [.ref b]) G hu hr hb I1 (.cons rfl .nil) q)
def xAMeth (i : Nat) (c m : Str) (fn : List AV → M XR) (g : AS → M (List AV)) : AS → M XR := fun z => M.bnd (amOb z i) fun q => if q.2.1 = c ∧ q.2.2.lookup m = none then M.bnd (g z) fun as => fn (.am q.1 :: as) else M.no
theorem jx_ameth [NTb] {pl : Sem Bool} {fm : Addr} {i j : Nat} {c : Str} {fn : List AV → M XR} {g : AS → M (List AV)} (hC : NTb.E c = some C) (cl : Cls X.K C) (hm : Meth X.K C m fm) (G : FnX X.prog X.w X.K X.mg X.base k fm fd ps (spX X.K fn)) (hu : X.A.guards = some []) (hr : Room j X.A) (hk : k ≤ j) (hb : Binds X.K fd ps []) (ho : PE X o (tVar i)) (ha : JA X g (a :: es))
    (hst : starEach (a :: es) X.env = (false, eval a X.env) :: starEach es X.env := by rfl) (hpl : (backTo pos (starEach es X.env)).any (·.1) = false := by rfl)
    (ht : eval (.Call (.Attribute o m apos) (a :: es) [] pos) X.env = (do
      let ov ← eval o X.env
      standAt apos.atName
      let (f, first) ← holding [ov] (getMethod ov m pl)
      callWith pos f first (backTo pos (starEach (a :: es) X.env)) (backToKw pos (keywordEach [] X.env))) := by rfl) :
    JX X (xAMeth i c m fn g) (.Call (.Attribute o m apos) (a :: es) [] pos) :=
  PE_imp (pe_methX (pl := pl) ho cl hm G hu (hr.mono hk) hb ha hst hpl ht) fun σ H Q ⟨dk, F, z, δ, r, δ', hf, ok, k⟩ => by
    obtain ⟨q, δ1, h1, hf1⟩ := M.bnd_some hf
    obtain ⟨hz, hq, rfl⟩ := amOb_some h1
    by_cases cc : q.2.1 = c ∧ q.2.2.lookup m = none
    · rw [if_pos cc] at hf1
      obtain ⟨as, δ2, h3, h4⟩ := M.bnd_some hf1
      obtain ⟨kk, a', rfl, ho, e1, one⟩ := ok.am_at hz hq
      obtain ⟨C', dx, vs, e2, e3, e4, rr⟩ := one.ex
      rw [cc.1, hC] at e2
      cases e2
      refine ⟨_, e1, a', dx, vs, rfl, e3, rr.at_.2 cc.2, some kk, F, z, _, as, δ2, h3, ok, fun us F2 H2 x2 dd2 r2 => ?_⟩
      refine ⟨some kk, F2, _, δ2, r, δ', h4, x2.fh, dd2, .cons ⟨kk, a', rfl, ho, rfl⟩ r2, ?_⟩
      cases r with
      | inl d => exact fun v F' H' x dd rv => k v F' H' (x2.trans x) dd rv
      | inr ex => exact fun C d F' H' e x dd eo => k C d F' H' e (x2.trans x) dd eo
    · rw [if_neg cc] at hf1; cases hf1
theorem jx_ameth0 [NTb] {pl : Sem Bool} {fm : Addr} {i j : Nat} {c : Str} {fn : List AV → M XR} (hC : NTb.E c = some C) (cl : Cls X.K C) (hm : Meth X.K C m fm) (G : FnX X.prog X.w X.K X.mg X.base k fm fd ps (spX X.K fn)) (hu : X.A.guards = some []) (hr : Room j X.A) (hk : k ≤ j) (hb : Binds X.K fd ps []) (ho : PE X o (tVar i))
    (ht : eval (.Call (.Attribute o m apos) [] [] pos) X.env = (do
      let ov ← eval o X.env
      standAt apos.atName
      let (f, first) ← holding [ov] (getMethod ov m pl)
      callWith pos f first (backTo pos (starEach [] X.env)) (backToKw pos (keywordEach [] X.env))) := by rfl) :
    JX X (xAMeth i c m fn aNil) (.Call (.Attribute o m apos) [] [] pos) :=
  PE_imp (pe_methX0 (pl := pl) ho cl hm G hu (hr.mono hk) hb ht) fun σ H Q ⟨dk, F, z, δ, r, δ', hf, ok, k⟩ => by
    obtain ⟨q, δ1, h1, hf1⟩ := M.bnd_some hf
    obtain ⟨hz, hq, rfl⟩ := amOb_some h1
    by_cases cc : q.2.1 = c ∧ q.2.2.lookup m = none
    · rw [if_pos cc] at hf1
      obtain ⟨as, δ2, h3, h4⟩ := M.bnd_some hf1
      obtain ⟨rfl, rfl⟩ := M.pur_some h3
      obtain ⟨kk, a', rfl, ho, e1, one⟩ := ok.am_at hz hq
      obtain ⟨C', dx, vs, e2, e3, e4, rr⟩ := one.ex
      rw [cc.1, hC] at e2
      cases e2
      refine ⟨_, e1, a', dx, vs, rfl, e3, rr.at_.2 cc.2, some kk, F, _, _, r, δ', h4, ok.fh, ok.deck, .cons ⟨kk, a', rfl, ho, rfl⟩ .nil, ?_⟩
      cases r with
      | inl d => exact fun v F' H' x dd rv => k v F' H' x dd rv
      | inr ex => exact fun C d F' H' e x dd eo => k C d F' H' e x dd eo
    · rw [if_neg cc] at hf1; cases hf1
/-- such an expression where nothing is raised -/
def eX (fx : AS → M XR) : AS → M PyData := fun z => M.bnd (fx z) fun r => match r with
  | .inl d => M.pur d
  | .inr _ => M.no
theorem je_ofX [NTb] {fx : AS → M XR} (h : JX X fx e) : JE X (eX fx) e := PE_imp h fun σ H Q ⟨dk, F, z, δ, d, δ', hf, ok, k⟩ => by
  obtain ⟨r, δ1, h1, h2⟩ := M.bnd_some hf
  cases r with
  | inl d' =>
    obtain ⟨rfl, rfl⟩ := M.pur_some h2
    exact ⟨dk, F, z, δ, .inl d, _, h1, ok, k⟩
  | inr ex => cases h2
end
def rLenO (C : Addr) (sp : Sp) : List V → Hp → VK → Prop := fun xs H Q => ∃ a dx fs, xs = [.ref a] ∧ H a = some (.ins C dx fs) ∧ sp [.ref a] H (fun v H' => ∃ n : Int, v = .int n ∧ 0 ≤ n ∧ n < 2 ^ 63 ∧ Q (.int n) H') E0
theorem cr_lenO {X : Cx} {C fl : Addr} {k : Nat} {fd : FuncData} {ps : List Str} {sp : Sp} (hs : PySem.W.findIn X.K (.ref C) "__len__" = some (some (.ref fl))) (hf : PySem.W.isFn X.K (.ref fl) = true) (G : FnG X.prog X.w X.K X.mg X.base k fl fd ps sp) (hu : X.A.guards = some []) (hr : Room (k + 1) X.A) (hb : Binds X.K fd ps []) :
    CallR X (.builtin "len") (rLenO C sp) := by
  intro pins s σ H xs us Q I r h
  obtain ⟨a, dx, fs, rfl, ea, want⟩ := h
  cases r with
  | cons r1 r2 =>
    cases r2
    obtain rfl : _ = Value.ref a := r1
    obtain ⟨mA, O, _, _, _, _⟩ := ins_get I.hok ea
    obtain ⟨od, J, _⟩ := O.look
    obtain ⟨m, Fr⟩ := I.fr
    have hl : ([Value.ref a] ++ []).length = ps.length := (G.len _ _ _ _ want)
    refine PySem.W.len_K Fr I.ok.mod.kin J hs hf ?_
    refine wpAny_call (codeAny_mono (G.run X.A.in1 X.stack s H ⟨[.ref a], []⟩ [.ref a] [.ref a] _ (in1_guards hu) hr.in1 I.env0.in1 (hb _ [.ref a] I.kIn hl) (.cons rfl .nil) want) fun res s2 hres => ?_)
    cases res with
    | error _ => exact hres.elim
    | ok flw =>
      cases flw with
      | ret u =>
        obtain ⟨v, H', I3, rv, n, ev, h0, h1, q⟩ := I.after hres
        subst ev
        obtain ⟨tk, rfl⟩ := rv
        exact ⟨⟨h0, h1⟩, ⟨.int n, H', I3.tok _, ⟨_, rfl⟩, q⟩⟩
      | next => exact hres.elim
      | brk => exact hres.elim
      | cont => exact hres.elim
def eALen (i : Nat) (c : Str) (fn : List AV → M PyData) : AS → M PyData := fun z => M.bnd (amOb z i) fun q => if q.2.1 = c then M.bnd (fn [.am q.1]) fun d => match d with
  | .int n => if 0 ≤ n ∧ n < 2 ^ 63 then M.pur (.int n) else M.no
  | _ => M.no
  else M.no
theorem je_alen [NTb] {X : Cx} {o : Expr} {i j k : Nat} {c : Str} {C fl : Addr} {fd : FuncData} {ps : List Str} {fn : List AV → M PyData} {p pos : Pos} (hC : NTb.E c = some C) (hs : PySem.W.findIn X.K (.ref C) "__len__" = some (some (.ref fl))) (hf : PySem.W.isFn X.K (.ref fl) = true) (G : FnG X.prog X.w X.K X.mg X.base k fl fd ps (spF X.K fn)) (hu : X.A.guards = some []) (hr : Room j X.A) (hk : k + 1 ≤ j) (hb : Binds X.K fd ps [])
    (hg : Gl X "len") (hm : X.mg "len" = none) (ho : PE X o (tVar i)) (he : starEach [o] X.env = (false, eval o X.env) :: starEach [] X.env := by rfl) (hpl : (backTo pos (starEach [] X.env)).any (·.1) = false := by rfl) : JE X (eALen i c fn) (.Call (.Name "len" p) [o] [] pos) :=
  PE_imp (pe_callB (cr_lenO (C := C) hs hf G hu (hr.mono hk) hb) hg hm (by decide +kernel) (pa_cons ho pa_nil he) (by decide) (by decide) he hpl) fun σ H Q ⟨dk, F, z, δ, d, δ', hf, ok, k⟩ => by
    obtain ⟨q, δ1, h1, hf1⟩ := M.bnd_some hf
    obtain ⟨hz, hq, rfl⟩ := amOb_some h1
    by_cases cc : q.2.1 = c
    · rw [if_pos cc] at hf1
      obtain ⟨d1, δ2, h3, hf2⟩ := M.bnd_some hf1
      obtain ⟨kk, a, rfl, ho, e1, one⟩ := ok.am_at hz hq
      obtain ⟨C', dx, vs, e2, e3, e4, r⟩ := one.ex
      rw [cc, hC] at e2
      cases e2
      cases d1 with
      | int n =>
        have hf3 : (if 0 ≤ n ∧ n < 2 ^ 63 then M.pur (PyData.int n) else M.no) δ2 = some (d, δ') := hf2
        by_cases hn : 0 ≤ n ∧ n < 2 ^ 63
        · rw [if_pos hn] at hf3
          obtain ⟨rfl, rfl⟩ := M.pur_some hf3
          exact ⟨_, e1, a, dx, vs, rfl, e3, some kk, F, _, _, .int n, _, h3, ok.fh, ok.deck, .cons ⟨kk, a, rfl, ho, rfl⟩ .nil, fun v F' H' x dd r => by
            cases r
            exact ⟨n, rfl, hn.1, hn.2, k _ F' H' x dd (.int n)⟩⟩
        · rw [if_neg hn] at hf3; cases hf3
      | _ => cases hf2
    · rw [if_neg cc] at hf1; cases hf1
end VL
set_option Elab.async false
set_option linter.all false
set_option maxRecDepth 100000
namespace VL
open PySem PySem.Spec L2
open PyProof.Rows hiding St
def pfA (i : Nat) (cs : List Str) (f : Str) (d : PyData) : AS → M Unit := fun z => M.bnd (amOb z i) fun q => if q.2.1 ∈ cs ∧ q.2.2.length < 1000 ∧ flatD d = true then setOb q.1 (q.2.1, putFd f d q.2.2) else M.no
def pfAs (i : Nat) (cs : List Str) : List Str → List PyData → AS → M Unit
  | [], [], _ => M.pur ()
  | f :: fs, d :: ds, z => M.bnd (pfA i cs f d z) fun _ => pfAs i cs fs ds z
  | _, _, _ => M.no
theorem Ok.put_am [NTb] {K : PySem.W.Frag} {dk : Option Dk} {z : AS} {δ δ' : DS} {u : Unit} {σ : L2.St} {F H : Hp} {i : Nat} {cs : List Str} {f : Str} {v : V} {d : PyData} (hK : NTb.G = K) (T : ∀ c ∈ cs, ∀ C, NTb.E c = some C → Cls K C ∧ NoAttr K C f) (nm : markF f = false) (ok : Ok K dk z δ σ F H) (r1 : Dv K F v d) (h : pfA i cs f d z δ = some (u, δ')) :
    ∃ a C dx vs, σ[i]? = some (some (.ref a)) ∧ H a = some (.ins C dx vs) ∧ Cls K C ∧ NoAttr K C f ∧ vs.length < 1000 ∧ Ext dk F H F (L2.upd H a (.ins C dx (putF f v vs))) ∧ DeckOk dk δ' F (L2.upd H a (.ins C dx (putF f v vs))) := by
  obtain ⟨q, δ2, h2, hf2⟩ := M.bnd_some h
  obtain ⟨hz, hp, rfl⟩ := amOb_some h2
  by_cases c : q.2.1 ∈ cs ∧ q.2.2.length < 1000 ∧ flatD d = true
  · rw [if_pos c] at hf2
    have e0 : δ' = { δ2 with obs := δ2.obs.set q.1 (q.2.1, putFd f d q.2.2) } := by injection hf2 with w; injection w with _ w; exact w.symm
    subst e0
    obtain ⟨kk, a, rfl, ho, e1, one⟩ := ok.am_at hz hp
    obtain ⟨C, dx, vs, e2, e3, e4, r⟩ := one.ex
    have hd : inDk (some kk) a := .inr (.inr (.inr (List.mem_of_getElem? ho)))
    have x2 : Ext (some kk) F H F (L2.upd H a (.ins C dx (putF f v vs))) := ext_dkO ok.fh hd one.fa (by rw [e3]; exact fun z => nomatch z) (fun _ => codeO_ins)
    rw [← hK] at r1
    have dA : DeckAt NTb.E NTb.G kk δ2 F H := ok.deck.1
    have ne : ∀ {b vs'}, H b = some (.lst vs') → b ≠ a := fun {b vs'} e q => by rw [q, e3] at e; cases e
    refine ⟨a, C, dx, vs, e1, e3, (T _ c.1 C e2).1, (T _ c.1 C e2).2, by rw [r.len]; exact c.2.1, x2, ⟨?_, tabs_keep ok.deck.2.1 fun b o' e q => ?_, ok.deck.2.2⟩⟩
    · show DeckAt NTb.E NTb.G kk _ F _
      refine ⟨by rw [upd_ne (ne dA.hl)]; exact dA.hl, by rw [upd_ne (ne dA.hg)]; exact dA.hg, by rw [upd_ne (ne dA.hc)]; exact dA.hc, dA.fl, dA.fg, dA.fc, dA.lg, dA.lc, dA.gc, ?_, dA.nd⟩
      refine dA.ob.put dA.nd (a := a) (p := (q.2.1, putFd f d q.2.2)) (fun b nb C' dx' vs' e => by rw [upd_ne nb]; exact e) ?_ ho
      exact ⟨one.fa, ⟨C, dx, putF f v vs, e2, upd_same, e4, DFs.put f r r1 (fun q => by rw [nm] at q; cases q)⟩, okFs_put c.2.2 nm one.ok⟩
    · obtain ⟨ps, q⟩ := q
      rw [upd_ne (fun z => by rw [z, e3, q] at e; cases e)]
      exact e
  · rw [if_neg c] at hf2; cases hf2
def tPA [NTb] (K : PySem.W.Frag) (i : Nat) (cs : List Str) (f : Str) : TG := fun v σ H Q => ∃ dk F z δ d u δ', pfA i cs f d z δ = some (u, δ') ∧ Ok K dk z δ σ F H ∧ Dv K F v d ∧ ∀ H', Ext dk F H F H' → DeckOk dk δ' F H' → Q σ H'
def tPAs [NTb] (K : PySem.W.Frag) (i : Nat) (cs fs : List Str) : TGs := fun vs σ H Q => ∃ dk F z δ ds u δ', pfAs i cs fs ds z δ = some (u, δ') ∧ Ok K dk z δ σ F H ∧ DvAll K F vs ds ∧ ∀ H', Ext dk F H F H' → DeckOk dk δ' F H' → Q σ H'
section
variable {X : Cx} {o e : Expr} {es : List Expr} {i : Nat} {f : Str} {cs fs : List Str} {pos : Pos} {fe : AS → M PyData}
theorem pg_afld [NTb] (hK : NTb.G = X.K) (T : ∀ c ∈ cs, ∀ C, NTb.E c = some C → Cls X.K C ∧ NoAttr X.K C f) (ho : PE X o (tVar i)) (nm : markF f = false := by decide +kernel)
    (ha : ∀ v, assign (.Attribute o f pos) X.env v = (do
      let ov ← holding [v] (eval o X.env)
      standAt pos.atName
      holding [v, ov] (setAttr ov f v)
      release [v, ov] []) := by intro _; rfl) : PG X (.Attribute o f pos) (tPA X.K i cs f) := by
  refine ⟨fun pins s σ H v u Q I r ⟨dk, F, z, δ, d, u', δ', hf, ok, rv, k⟩ => ?_⟩
  obtain ⟨a, C, dx, vs, e1, e3, c, n, l, x, dd⟩ := ok.put_am hK T nm rv hf
  rw [ha]
  refine wpAny_bind (wpAny_holding (thn (ho.run pins s σ H (fun x H1 => x = .ref a ∧ H1 = H) I ⟨_, e1, rfl, rfl⟩) fun ov s1 ⟨x', H1, I1, rx, ex, eH⟩ => ?_))
  subst ex eH
  obtain rfl : ov = Value.ref a := rx
  refine wpAny_bind (wpAny_standAt (wpAny_bind (wpAny_holding (setattr_ok I1 e3 c n l r fun s3 I3 => ?_))))
  exact wpAny_release ⟨σ, _, I3, k _ x dd⟩
theorem pgs_anil [NTb] : PGs X [] (tPAs X.K i cs []) := PGs_imp pgs_nil fun vs σ H Q ⟨dk, F, z, δ, ds, u, δ', hf, ok, r, k⟩ => by
  cases r with
  | nil =>
    obtain ⟨_, rfl⟩ := M.pur_some hf
    exact ⟨rfl, k H (.refl ok.fh) ok.deck⟩
  | cons _ _ => cases hf
theorem pgs_acons [NTb] {a : Expr} (h1 : PG X a (tPA X.K i cs f)) (h2 : PGs X es (tPAs X.K i cs fs))
    (hs : (assignEach (a :: es) X.env).map (·.2) = assign a X.env :: (assignEach es X.env).map (·.2) := by rfl) : PGs X (a :: es) (tPAs X.K i cs (f :: fs)) :=
  PGs_imp (pgs_cons h1 h2 hs) fun vs σ H Q ⟨dk, F, z, δ, ds, u, δ', hf, ok, r, k⟩ => by
    cases r with
    | nil => cases hf
    | cons r1 r2 =>
      obtain ⟨u1, δ1, q1, q2⟩ := M.bnd_some hf
      exact ⟨_, _, rfl, dk, F, z, δ, _, u1, δ1, q1, ok, r1, fun H' x d1 => ⟨dk, F, z, δ1, _, u, δ', q2, ok.ext x d1, r2, fun H2 x2 d2 => k H2 (x.trans x2) d2⟩⟩
/-- x.f, x.g, .. = e -/
def sAFlds (i : Nat) (cs fs : List Str) (fe : AS → M PyData) : AS → M Fl := fun z => M.bnd (fe z) fun d => match d with
  | .tuple ds => M.bnd (pfAs i cs fs ds z) fun _ => M.pur (.nx z)
  | _ => M.no
theorem pfAs_len : ∀ {fs : List Str} {ds : List PyData} {z : AS} {δ δ' : DS} {u : Unit}, pfAs i cs fs ds z δ = some (u, δ') → ds.length = fs.length
  | [], [], _, _, _, _, _ => rfl
  | f :: fs, d :: ds, z, δ, δ', u, h => by
    obtain ⟨u1, δ1, _, q2⟩ := M.bnd_some h
    simp [pfAs_len q2]
  | [], _ :: _, _, _, _, _, h => by cases h
  | _ :: _, [], _, _, _, _, h => by cases h
theorem js_aflds [NTb] {k : Nat} {n : Nat} {tpos : Pos} (hc : X.calm = true) (h : JE X fe e) (hg : PGs X es (tPAs X.K i cs fs)) (hl : fs.length = n := by rfl) (hn : (assignEach es X.env).length = n := by rfl) (hst : (assignEach es X.env).findIdx? (·.1) = none := by rfl)
    (hs : swapsWithSole [.Tuple es k tpos] e pos.line X.env = pure false := by rfl) (hw : swappedStores [.Tuple es k tpos] e X.env = pure none := by rfl)
    (h1 : (assignEach [.Tuple es k tpos] X.env).map (·.2) = [assign (.Tuple es k tpos) X.env] := by rfl) : JS X (sAFlds i cs fs fe) (.Assign [.Tuple es k tpos] e pos) :=
  PS_imp (ps_asg h (pg_tup hc hg hn hst) hs hw h1) fun D σ H ⟨dk, F0, H0, F, z, δ, fl, δ', hf, x, ok, fr, k⟩ => by
    obtain ⟨d, δ1, q1, q2⟩ := M.bnd_some hf
    cases d with
    | tuple ds =>
      obtain ⟨u, δ2, q3, q4⟩ := M.bnd_some (x := pfAs i cs fs ds z) q2
      obtain ⟨rfl, rfl⟩ := M.pur_some q4
      refine ⟨dk, F, z, δ, _, δ1, q1, ok, fun v F' H' x1 d1 r1 => ?_⟩
      cases r1 with
      | tup r1 r2 =>
        refine ⟨_, _, rfl, same_seqT x1.fh r1, by rw [r2.length, pfAs_len q3]; exact hl, dk, F', z, δ1, ds, u, _, q3, ok.ext x1 d1, r2, fun H2 x2 d2 => ?_⟩
        exact k σ F' H2 (x.trans (x1.trans x2)) x1.ff ((ok.ext x1 d1).ext x2 d2) fr
    | _ => cases q2
end
end VL
set_option Elab.async false
set_option linter.all false
set_option maxRecDepth 100000
namespace VL
open PySem PySem.Spec L2
open PyProof.Rows hiding St
end VL
set_option Elab.async false
set_option linter.all false
set_option maxRecDepth 100000
namespace VL
open PySem PySem.Spec L2
open PyProof.Rows hiding St
def uFc (cs : List Str) (f : Str) : Str → List (Str × PyData) → Option PyData := fun c fs => if c ∈ cs then fs.lookup f else none
section
variable {X : Cx} {i : Nat} {a : Addr} {oe : Obj} {cls : Value} {d : Option Addr} {pn : List (Addr × Obj)} {e : Expr} {cs : List Str}
theorem ju_fieldC [NTb] {n : Str} {pos : Pos} (T : ∀ c ∈ cs, ∀ C, NTb.E c = some C → XfC X.K C ∧ PySem.W.findIn X.K (.ref C) n = some none) (hz : Zc cls d oe) (hf : ∃ vs, oe.data = .fields vs) (he : PE (X.suite a ((a, oe) :: pn)) e (tVar i)) (hb : attributeBase e n X.env (eval e X.env) = eval e X.env := by rfl) :
    JU X i a oe cls d pn (uFc cs n) (.Attribute e n pos) := by
  refine ⟨fun pins s σ H Q I ⟨dk, δ, F, c, C, fs, u, e1, e2, e3, e4, sm, dd, eo, k⟩ => ?_⟩
  unfold uFc at e1
  by_cases qc : c ∈ cs
  · rw [if_pos qc] at e1
    obtain ⟨T1, T2⟩ := T c qc C e2
    refine (pe_xf T1 T2 hz hf he hb).run pins s σ H Q I ⟨_, e4, rfl, e3, ?_⟩
    rcases eo with ⟨_, rfl⟩ | ⟨b, f, v, w, rfl, rfl, h3, h4⟩
    · cases e1
    · have q : n = f ∧ w = u := by
        rw [List.lookup_cons] at e1
        by_cases q : n = f
        · subst q; simp at e1; exact ⟨rfl, e1⟩
        · have q2 : (n == f) = false := by simpa using q
          rw [q2] at e1; cases e1
      obtain ⟨rfl, rfl⟩ := q
      exact ⟨b, _, v, rfl, h3, by simp [List.lookup], k v F H (.refl sm) dd h4⟩
  · rw [if_neg qc] at e1; cases e1
end
/-- a if c else b -/
def xIf (c : AS → M Bool) (f1 f2 : AS → M XR) : AS → M XR := fun z => M.bnd (c z) fun b => if b then f1 z else f2 z
theorem jx_if [NTb] {X : Cx} {t a b : Expr} {pos : Pos} {c : AS → M Bool} {f1 f2 : AS → M XR} (h : JC X c t) (h1 : JX X f1 a) (h2 : JX X f2 b) : JX X (xIf c f1 f2) (.IfExp t a b pos) :=
  PE_imp (pe_ifExp h h1 h2) fun σ H Q ⟨dk, F, z, δ, r, δ', hf, ok, k⟩ => by
    obtain ⟨q, δ1, h1, hf1⟩ := M.bnd_some hf
    refine ⟨dk, F, z, δ, q, δ1, h1, ok, fun F1 H1 x1 d1 => ?_⟩
    cases q with
    | true => exact ⟨dk, F1, z, δ1, r, δ', hf1, ok.ext x1 d1, k.later x1⟩
    | false => exact ⟨dk, F1, z, δ1, r, δ', hf1, ok.ext x1 d1, k.later x1⟩
end VL
set_option Elab.async false
set_option linter.all false
set_option maxRecDepth 100000
namespace VL
open PySem PySem.Spec L2
open PyProof.Rows hiding St
def amOf : AS → Nat → Option Nat
  | [], _ => none
  | .gx (.am j) :: _, 0 => some j
  | _ :: _, 0 => none
  | _ :: z, i + 1 => amOf z i
@[simp] theorem amOf_0 {j : Nat} {z : AS} : amOf (.gx (.am j) :: z) 0 = some j := rfl
@[simp] theorem amOf_s {s : SV} {z : AS} {i : Nat} : amOf (s :: z) (i + 1) = amOf z i := by
  cases s with
  | gx x => cases x <;> rfl
  | _ => rfl
theorem amAt_of : ∀ (z : AS) (i : Nat), amAt z i = amOf z i
  | [], _ => rfl
  | s :: z, 0 => by
    cases s with
    | gx x => cases x <;> rfl
    | _ => rfl
  | s :: z, i + 1 => by
    rw [amOf_s, ← amAt_of z i]
    rfl
theorem ite_F {c : Prop} [Decidable c] {P : Prop} : (if c then P else False) ↔ c ∧ P := by
  by_cases h : c
  · simp [h]
  · simp [h]
/-- one shelf there is, with these fields -/
def sh (δ : DS) (c : Str) (fs : List (Str × PyData)) : DS := ⟨δ.great, δ.cells, δ.n, [(c, fs)]⟩
section
variable {z : AS} {δ : DS} {i j n : Nat} {cs : List Str} {c f : Str} {fs : List (Str × PyData)} {fe : AS → M PyData} {ga : AS → M (List AV)} {g : AS → M Fl} {d : PyData} {p : ObP}
@[simp] theorem sh_obs : (sh δ c fs).obs = [(c, fs)] := rfl
@[simp] theorem W_st {Q : DS → DS → Prop} : W M.st δ Q ↔ Q δ δ := ⟨fun ⟨_, _, e, q⟩ => by obtain ⟨rfl, rfl⟩ := M.st_some e; exact q, fun q => ⟨δ, δ, rfl, q⟩⟩
@[simp] theorem W_amOb {Q : Nat × ObP → DS → Prop} : W (amOb z i) δ Q ↔ oW (amOf z i) fun j => oW (δ.obs[j]?) fun p => Q (j, p) δ := by
  unfold W amOb
  rw [amAt_of]
  cases amOf z i with
  | none => simp
  | some j =>
    show (∃ a δ', ((δ.obs[j]?).map fun p => ((j, p), δ)) = some (a, δ') ∧ Q a δ') ↔ oW (δ.obs[j]?) fun p => Q (j, p) δ
    cases e : δ.obs[j]? with
    | none => simp [e]
    | some p =>
      show (∃ a δ', ((some p).map fun p => ((j, p), δ)) = some (a, δ') ∧ Q a δ') ↔ Q (j, p) δ
      exact ⟨fun ⟨a, δ', e', q⟩ => by injection e' with e'; injection e' with e1 e2; subst e1 e2; exact q, fun q => ⟨(j, p), δ, rfl, q⟩⟩
@[simp] theorem W_setOb {Q : Unit → DS → Prop} : W (setOb j p) δ Q ↔ Q () { δ with obs := δ.obs.set j p } := ⟨fun ⟨_, _, e, q⟩ => by injection e with e; injection e with e1 e2; subst e2; exact q, fun q => ⟨(), _, rfl, q⟩⟩
@[simp] theorem W_pushOb {Q : Unit → DS → Prop} : W (pushOb c) δ Q ↔ Q () { δ with obs := δ.obs ++ [(c, [])] } := ⟨fun ⟨_, _, e, q⟩ => by injection e with e; injection e with e1 e2; subst e2; exact q, fun q => ⟨(), _, rfl, q⟩⟩
@[simp] theorem W_popOb {Q : Unit → DS → Prop} : W (popOb n) δ Q ↔ Q () { δ with obs := δ.obs.take n } := ⟨fun ⟨_, _, e, q⟩ => by injection e with e; injection e with e1 e2; subst e2; exact q, fun q => ⟨(), _, rfl, q⟩⟩
@[simp] theorem W_eAFld {Q : PyData → DS → Prop} : W (eAFld i cs f z) δ Q ↔ oW (amOf z i) fun j => oW (δ.obs[j]?) fun p => p.1 ∈ cs ∧ oW (p.2.lookup f) fun d => Q d δ := by
  unfold eAFld
  simp only [W_bnd, W_amOb, W_ite, W_opt, W_no]
  simp only [ite_F]
@[simp] theorem W_eACon {Q : PyData → DS → Prop} : W (eACon i cs f d z) δ Q ↔ oW (amOf z i) fun j => oW (δ.obs[j]?) fun p => (p.1 ∈ cs ∧ p.2.lookup f = none) ∧ Q d δ := by
  unfold eACon
  simp only [W_bnd, W_amOb, W_ite, W_pur, W_no]
  simp only [ite_F]
@[simp] theorem W_sAFld {Q : Fl → DS → Prop} : W (sAFld i cs f fe z) δ Q ↔ W (fe z) δ fun d δ => oW (amOf z i) fun j => oW (δ.obs[j]?) fun p => (p.1 ∈ cs ∧ p.2.length < 1000 ∧ flatD d = true) ∧ Q (.nx z) { δ with obs := δ.obs.set j (p.1, putFd f d p.2) } := by
  unfold sAFld
  simp only [W_bnd, W_amOb, W_ite, W_pur, W_no, W_setOb]
  simp only [ite_F]
@[simp] theorem W_aAm {Q : List AV → DS → Prop} : W (aAm i ga z) δ Q ↔ oW (amOf z i) fun j => oW (δ.obs[j]?) fun _ => W (ga z) δ fun r δ => Q (.am j :: r) δ := by
  unfold aAm
  simp only [W_bnd, W_amOb, W_pur]
@[simp] theorem W_eAProp {fn : List AV → M PyData} {Q : PyData → DS → Prop} : W (eAProp i c fn z) δ Q ↔ oW (amOf z i) fun j => oW (δ.obs[j]?) fun p => p.1 = c ∧ W (fn [.am j]) δ Q := by
  unfold eAProp
  simp only [W_bnd, W_amOb, W_ite, W_no]
  simp only [ite_F]
@[simp] theorem W_xAMeth {m : Str} {fn : List AV → M XR} {Q : XR → DS → Prop} : W (xAMeth i c m fn ga z) δ Q ↔ oW (amOf z i) fun j => oW (δ.obs[j]?) fun p => (p.1 = c ∧ p.2.lookup m = none) ∧ W (ga z) δ fun as δ => W (fn (.am j :: as)) δ Q := by
  unfold xAMeth
  simp only [W_bnd, W_amOb, W_ite, W_no]
  simp only [ite_F]
theorem W_eX {fx : AS → M XR} {Q : PyData → DS → Prop} (h : W (fx z) δ fun r δ => ∃ d, r = .inl d ∧ Q d δ) : W (eX fx z) δ Q := by
  unfold eX
  rw [W_bnd]
  exact h.mono fun r δ' ⟨d, e, q⟩ => by subst e; exact W_pur.mpr q
@[simp] theorem W_xIf {c : AS → M Bool} {f1 f2 : AS → M XR} {Q : XR → DS → Prop} : W (xIf c f1 f2 z) δ Q ↔ W (c z) δ fun b δ => if b then W (f1 z) δ Q else W (f2 z) δ Q := by
  unfold xIf
  rw [W_bnd]
  constructor <;> exact fun h => h.mono fun b δ q => by cases b <;> simpa using q
theorem W_eALen {fn : List AV → M PyData} {Q : PyData → DS → Prop} (h : oW (amOf z i) fun j => oW (δ.obs[j]?) fun p => p.1 = c ∧ W (fn [.am j]) δ fun d δ => ∃ n : Int, d = .int n ∧ 0 ≤ n ∧ n < 2 ^ 63 ∧ Q (.int n) δ) : W (eALen i c fn z) δ Q := by
  unfold eALen
  simp only [W_bnd, W_amOb]
  refine oW_mono h fun j h => oW_mono h fun p ⟨e, h⟩ => ?_
  rw [if_pos e, W_bnd]
  exact h.mono fun d δ' ⟨n, e, h0, h1, q⟩ => by
    subst e
    show W (if 0 ≤ n ∧ n < 2 ^ 63 then M.pur (.int n) else M.no) δ' Q
    rw [if_pos ⟨h0, h1⟩]
    exact W_pur.mpr q
theorem W_sNew {ini : List AV → M XR} {Q : Fl → DS → Prop} (h : W (ga z) δ fun as δ => δ.cells ≠ [] ∧ W (ini (.am δ.obs.length :: as)) { δ with obs := δ.obs ++ [(c, [])] } fun r δ2 => match r with
    | .inr (c', fs) => Q (.ex c' fs (dropA δ.obs.length z)) { δ2 with obs := δ2.obs.take δ.obs.length }
    | .inl .none => W (g (z.set i (.gx (.am δ.obs.length)))) δ2 fun fl δ3 => Q (dropFl δ.obs.length fl) { δ3 with obs := δ3.obs.take δ.obs.length }
    | .inl _ => False) : W (sNew i c ini ga g z) δ Q := by
  unfold sNew
  rw [W_bnd]
  refine h.mono fun as δ1 ⟨hc, h⟩ => ?_
  rw [W_bnd, W_st, if_neg hc, W_bnd, W_pushOb, W_bnd]
  refine h.mono fun r δ2 h => ?_
  cases r with
  | inr ex =>
    obtain ⟨c', fs⟩ := ex
    simp only [W_bnd, W_popOb, W_pur]
    exact h
  | inl d =>
    cases d with
    | none =>
      simp only [W_bnd]
      refine W.mono h fun fl δ3 q => ?_
      simp only [W_popOb, W_pur]
      exact q
    | _ => exact h.elim
@[simp] theorem pfAs_nil : pfAs i cs [] [] z = M.pur () := rfl
@[simp] theorem pfAs_cons {ds : List PyData} {fl : List Str} : pfAs i cs (f :: fl) (d :: ds) z = M.bnd (pfA i cs f d z) fun _ => pfAs i cs fl ds z := rfl
@[simp] theorem W_pfA {Q : Unit → DS → Prop} : W (pfA i cs f d z) δ Q ↔ oW (amOf z i) fun j => oW (δ.obs[j]?) fun p => (p.1 ∈ cs ∧ p.2.length < 1000 ∧ flatD d = true) ∧ Q () { δ with obs := δ.obs.set j (p.1, putFd f d p.2) } := by
  unfold pfA
  simp only [W_bnd, W_amOb, W_ite, W_no, W_setOb]
  simp only [ite_F]
end
end VL
set_option Elab.async false
set_option linter.all false
set_option maxRecDepth 100000
set_option maxHeartbeats 4000000
namespace PySem
namespace LEX
open PySem.W PySem.Calls PyProof.Rows PySem.HandSPX
open Builtin Builtin.ObjectAttr
def leTail : List Value := [.type "LookupError", .type "Exception", .type "BaseException", .type "object"]
theorem over_of {K : W.Frag} {C : Addr} {cd : ClassData} {bm : List Value} (h : W.clsIn K C = some cd) (e : cd.mro = .ref C :: bm) (t : W.excTail leTail bm = true) : W.excOver K C leTail = true := by
  unfold W.excOver
  rw [h]
  simp only [Option.any_some, e, t, beq_self_eq_true, Bool.and_self]
section
variable {prog : Program} {w : World} {A : Around} {R : Result → Shared → Prop} {hp : Heap} {g : Array GenState} {d : Drawn} {t : Nat} {os : OsState}
/-- the first store into such an exception -/
theorem first_store {K : W.Frag} {f : Str} {tk : Tok} {y : Value} {e C : Addr} {fv : Array Value} {cd : ClassData} (k : K.In hp) (he : hp.get? e = some { cls := .ref C, data := .fields fv }) (hcd : W.clsIn K C = some cd) (ov : W.excOver K C leTail = true) (hh : cd.hasDict = true) (no : W.findIn K (.ref C) f = some none)
    (q : ∀ (h2 : Heap) (t2 : Nat) (b : Addr), (∀ x o, x ≠ e → hp.get? x = some o → h2.get? x = some o) → hp.objs.size ≤ b → b ≠ e → h2.get? e = some { cls := .ref C, dict := some b, data := .fields fv } →
      h2.Ns1 b (fun n => if n = f then some y else none) → R (.ok (.ret .none)) ⟨h2, g, d, t2, os⟩) : codeAny (model prog w) A (.call (.builtin "object.__setattr__") ⟨[.ref e, .str f tk, y], []⟩) R ⟨hp, g, d, t, os⟩ := by
  refine W.osa_openX F.store_LookupError k (od := none) (r := none) ⟨he, rfl, rfl, trivial⟩ ov (by unfold W.takerIn; rw [no]; rfl) fun ib => ?_
  have nes : e ≠ hp.objs.size := Nat.ne_of_lt (Heap.lt_size he)
  have lc : W.Looks (model prog w) hp (classData C) cd := W.looks_clsIn k hcd
  obtain ⟨nm, bs, mro, ns, qn, hd, sn, sb, ab, col, del⟩ := cd
  obtain rfl : hd = true := hh
  simp only [storeInOwnDict, ownDictForStores]
  repeat first
    | with_reducible refine wpAny_loadPart_at he ?_
    | with_reducible refine lc.at ?_
    | with_reducible refine store_in_new ?_ ?_
    | wp_step
  · exact ⟨_, #[], _, (Heap.get?_update_ne _ _ _ _ nes.symm).trans (Heap.get?_push_at rfl rfl), rfl, fun _ z => absurd z (by simp), fun _ => rfl⟩
  · intro h2 t2 hn sm
    have up : (hp.push { cls := .type "dict", data := .dict #[] }).get? e = some { cls := .ref C, data := .fields fv } := Heap.get?_push_of_some _ he
    exact q h2 t2 hp.objs.size (fun x o hx ho => (sm.2 x (Nat.ne_of_lt (Heap.lt_size ho))).trans ((Heap.get?_update_ne _ _ _ _ hx).trans (Heap.get?_push_of_some _ ho))) (Nat.le_refl _) nes.symm
      ((sm.2 e nes).trans (Heap.get?_update_self _ up rfl)) hn
end
end LEX
end PySem
namespace VL
open PySem PySem.Spec L2
open PyProof.Rows hiding St
open PySem.LEX (leTail)
structure OexL (K : PySem.W.Frag) (C : Addr) : Prop where
  cls : ∃ nm q N bs bm sn sub ab col dd k0 k1 k2 k3 k5, K.lookup C = some (excClassObj nm q C N bs bm true sn sub ab col dd k0 k1 k2 k3 k5 "LookupError.__new__") ∧ PySem.W.excTail leTail bm = true
  sA : PySem.W.findIn K (.ref C) "__setattr__" = some (some (.builtin "object.__setattr__"))
  eC : PySem.W.subIn K (.ref C) (.type "BaseException") = some true
  tC : PySem.W.typeIn K (.ref C) = some (.type "type")
  kC : PySem.W.keepIn K (.ref C) = true
section
variable {X : Cx} {pins : List (Addr × Obj)} {σ : L2.St} {H : Hp} {s : Shared} {a C : Addr} {f : Str} {y : V} {u : Value} {Q : Unit → Shared → Prop} {E : Value → Shared → Prop} {A : Around}
theorem ost_newL (T : OexL X.K C) (I : Inv X pins σ H s) (e : H a = some (exo a C none)) (hno : PySem.W.findIn X.K (.ref C) f = some none) (ry : RelV y u)
    (h : ∀ b s', H b = none → b ≠ a → Inv X pins σ (upd (upd H b (exd b [(f, y)])) a (exo a C (some b))) s' → Q () s') : wpAny (model X.prog X.w) A (setAttr (.ref a) f u) Q E s := by
  obtain ⟨nm, q, N, bs, bm, sn, sub, ab, col, dd, k0, k1, k2, k3, k5, hC, hbm⟩ := T.cls
  have hcl : PySem.W.clsIn X.K C = some { name := nm, bases := bs, mro := .ref C :: bm, ns := N, qualname := q, hasDict := true, slotNames := sn, subclasses := sub, abstract := ab, collection := col, hasDel := false } := by
    unfold PySem.W.clsIn
    rw [hC] <;> rfl
  obtain ⟨t1, ho⟩ := exo_at I.hok e
  obtain ⟨hp, g, d, t, os⟩ := s
  refine PySem.W.set_plain I.kIn (od := none) (ox := { cls := .ref C, dict := none, data := .fields #[.ref t1, .none, .none, .none, .bool false, .none] }) ⟨ho, rfl, rfl, trivial⟩ T.sA (PySem.LEX.first_store I.kIn ho hcl (PySem.LEX.over_of hcl rfl hbm) rfl hno fun h2 t2 b kp db nb hx hn => ?_)
  have free : H b = none := I.hok.fresh db
  have off : ∀ {c : Addr} {o : Obj}, hp.get? c = some o → c ≠ b := fun z => Nat.ne_of_lt (Nat.lt_of_lt_of_le (Heap.lt_size z) db)
  have noa : ∀ {c : Addr}, H c = none → c ≠ a := fun n z => by subst z; rw [e] at n; cases n
  have same : ∀ {c : Addr} {o : HO}, exo a C none ≠ o → H c = some o → upd (upd H b (exd b [(f, y)])) a (exo a C (some b)) c = H c := fun ne z => by
    rw [upd_ne (at_ne e z ne), upd_ne (ne_of_none z free)]
  have J := I.un (t' := t2) (H' := upd (upd H b (exd b [(f, y)])) a (exo a C (some b))) (h' := h2)
    ⟨fun c o z n _ _ => kp c o (noa n) z, fun c o z n _ _ => ⟨o.slots, kp c o (noa n) z⟩, fun c o z n _ => by rw [upd_ne (noa n), upd_ne (off z)]; exact n,
      fun c o z _ => (Classical.em (c = a)).elim (fun r => ⟨_, r ▸ hx⟩) (fun r => ⟨o, kp c o r z⟩), fun c xs z => (same exo_tup z).trans z, fun c o v z => (same exo_frz z).trans z, fun c ps z => ⟨#[], by rw [same exo_tbl z, z]; simp⟩⟩ fun c o z => ?_
  · exact h b _ free nb J
  by_cases r : c = a
  · subst r
    rw [upd_same] at z
    cases z
    exact exo_ok hx
  rw [upd_ne r] at z
  by_cases r2 : c = b
  · subst r2
    rw [upd_same] at z
    cases z
    exact exd_ok hn (relO_put (fs := []) ry fun _ => trivial)
  rw [upd_ne r2] at z
  refine (I.hok c o z).stay (fun x v hx2 z2 => kp x v ?_ z2) (fun x hx2 => (same exo_own hx2).trans hx2) (fun x xs hx2 => (same exo_tup hx2).trans hx2)
  rcases hx2 with rfl | hx2
  · exact r
  · exact at_ne e hx2 exo_own
end
/-- self.f = e, self such an exception without a dict yet -/
def tOstL (K : PySem.W.Frag) (f : Str) (to te : TE) : TS := fun D σ H => te σ H fun y H1 => to σ H1 fun x H2 => ∃ a C : Addr, x = .ref a ∧ OexL K C ∧ PySem.W.findIn K (.ref C) f = some none ∧ H2 a = some (exo a C none) ∧
  ∀ b, H2 b = none → b ≠ a → D.nx σ (upd (upd H2 b (exd b [(f, y)])) a (exo a C (some b)))
theorem ps_ostL {X : Cx} {o e : Expr} {to te : TE} {f : Str} {p' pos : Pos} (ho : PE X o to) (he : PE X e te) (hs : swapsWith e (some (.Attribute o f p')) pos.line X.env = pure false := by rfl) : PS X (.Assign [.Attribute o f p'] e pos) (tOstL X.K f to te) :=
  ⟨fun pins s σ H D I h => plainObj_wpAny_Assign_Attribute (thn (he.run pins s σ H _ I h) fun v s1 ⟨y, H1, I1, r1, q1⟩ => thn (ho.run pins s1 σ H1 _ I1 q1) fun u s2 ⟨x, H2, I2, r2, a, C, ex, T, hno, ea, q⟩ => by
    subst ex
    cases r2
    exact ost_newL T I2 ea hno r1 fun b s' n ne J => ⟨σ, _, J, q b n ne⟩) hs⟩
def spIniL (K : PySem.W.Frag) (f : Str) : Sp := fun vs H Q _ => ∃ (a C : Addr) (v : V), vs = [.ref a, v] ∧ OexL K C ∧ PySem.W.findIn K (.ref C) f = some none ∧ H a = some (exo a C none) ∧ ∀ b, H b = none → b ≠ a → Q .non (upd (upd H b (exd b [(f, v)])) a (exo a C (some b)))
theorem ok_iniL {P : Program} {w : World} {K : PySem.W.Frag} {mg : Str → Option Value} {base : Heap} {x qual f : Str} {st : Stmt} {fI : Addr} {fd : FuncData} (F : Fun K x qual st fI fd) (S : FnScope [Str.ofString "self", f] [Str.ofString "self", f] (defScope st))
    (hb : ∀ X : Cx, X.N = [Str.ofString "self", f] → X.env.scope = defScope st → X.K = K → PSs X (defBody st) (tOstL K f (tVar 0) (tVar 1))) : FnOk P w K mg base CX0 1 fI fd [Str.ofString "self", f] (spIniL K f) :=
  F.ok S (fun vs H Q E ⟨_, _, _, ev, _⟩ => by subst ev; rfl) fun cdv A outer s H vs Q E hr ⟨a, C, v, ev, T, no, ha, k⟩ => ⟨_, hb _ rfl rfl rfl, by
    subst ev
    exact ⟨v, rfl, .ref a, rfl, a, C, rfl, T, no, ha, k⟩⟩
def tMkL (C : Addr) (sp : Sp) (ta : TA) : L2.St → Hp → XK → Prop := fun σ H Q => ta σ H fun vs H1 => vs.length ≤ 1000 ∧ ∀ a, H1 a = none → sp (.ref a :: vs) (upd H1 a (exo a C none))
  (fun v H2 => v = .non ∧ ∃ (b : Addr) (fs : List (Str × V)), H2 a = some (exo a C (some b)) ∧ H2 b = some (exd b fs) ∧ H1 b = none ∧ Q (.ref C) (some b) (upd (L2.del H2 a) b (.xd fs))) (fun _ _ _ => False)
theorem pmk_oexL {X : Cx} {e : Expr} {es : List Expr} {ta : TA} {x : Str} {p pos : Pos} {C fI : Addr} {k : Nat} {fd : FuncData} {ps : List Str} {sp : Sp} (T : OexL X.K C) (iC : PySem.W.findIn X.K (.ref C) "__init__" = some (some (.ref fI))) (tI : PySem.W.typeIn X.K (.ref fI) = some (.type "function"))
    (F1 : FnOk X.prog X.w X.K X.mg X.base CX0 k fI fd ps sp) (hr : Room (k + 1) X.A) (hb : Binds X.K fd ps []) (hg : Gl X x) (hm : X.mg x = some (.ref C)) (ha : PA X (e :: es) ta)
    (hdb : (x == ("__debug__" : Str)) = false) (he : starEach (e :: es) X.env = (false, eval e X.env) :: starEach es X.env) (hpl : (backTo pos (starEach es X.env)).any (·.1) = false) :
    PMk X (.Call (.Name x p) (e :: es) [] pos) (tMkL C sp ta) := fun pins s σ H Q I h => by
  obtain ⟨nm, q, N, bs, bm, sn, sub, ab, col, dd, k0, k1, k2, k3, k5, hC, hbm⟩ := T.cls
  refine wpAny_Call_Name_kw (ld_glob I hg hm (PySem.W.callWith_K (h₀ := X.base) I.ok.mod.kin T.kC ?_ he hpl) hdb)
  refine thn (ha.run pos pins s σ H _ I h) fun us s1 ⟨vs, H1, I1, r1, hz, q1⟩ => ⟨I1.kIn, ?_⟩
  obtain ⟨hp, g, dr, tk, os⟩ := s1
  have up : hp.objs.size ≤ hp.objs.size + 1 := Nat.le_succ _
  have hq := q1 (hp.objs.size + 1) (I1.hok.fresh up)
  have kept : ∀ c o, hp.get? c = some o → ((hp.push (PySem.W.kdv_tup us)).push (PySem.HandSPX.excO C hp.objs.size)).get? c = some o := fun c o z => Heap.get?_push_of_some _ (Heap.get?_push_of_some _ z)
  have there : ((hp.push (PySem.W.kdv_tup us)).push (PySem.HandSPX.excO C hp.objs.size)).get? (hp.objs.size + 1) = some (PySem.HandSPX.excO C hp.objs.size) := by heap_get
  have I2 := I1.laid (t' := tk) (a := hp.objs.size + 1) (o := exo (hp.objs.size + 1) C none) kept up (exo_ok there)
  have rr : Vals (V.ref (hp.objs.size + 1) :: vs) (Value.ref (hp.objs.size + 1) :: us) := .cons rfl r1
  have el : ((Value.ref (hp.objs.size + 1) :: us) ++ []).length = ps.length := by
    rw [List.append_nil, ← rr.length]
    exact F1.len _ _ _ _ hq
  have bd := hb _ (Value.ref (hp.objs.size + 1) :: us) I2.kIn el
  rw [List.append_nil] at bd
  have few : us.length ≤ sizeLine := by
    rw [sizeLine_eq, ← r1.length]
    omega
  refine wpAny_call (PySem.HandSPX.call_own F.excBase_LookupError (fun Y => PySem.W.excTail_contains Y bm hbm) (I1.kIn _ _ hC) (PySem.W.looks_findIn I1.kIn iC) (fun self => PySem.W.bind_fn I1.kIn self tI) few ?_)
  refine codeAny_mono (F1.run _ X.stack _ _ ⟨_, []⟩ _ _ _ (fun _ _ _ => False) (hr.make C us []) (I2.env0.make C us []) bd rr hq) fun r s' hq' => ?_
  match r, hq' with
  | .ok (.ret u), ⟨v, H2, os2, bare2, un2, hok2, rv, ev, b, fs, ea, eb, hb1, q2⟩ =>
    subst ev
    exact ⟨rv, mk_end (raises_own T.eC T.tC) I1 up kept un2 hok2 os2 bare2 ea eb hb1 q2⟩
  | .ok .next, z => exact z.elim
  | .ok .brk, z => exact z.elim
  | .ok .cont, z => exact z.elim
  | .error er, z => exact (pass0 pins σ _ _ er s' I2 z)
structure Exn1L (P : Program) (w : World) (K : PySem.W.Frag) (mg : Str → Option Value) (base : Heap) (x f : Str) (C fI : Addr) (fd : FuncData) (ps : List Str) : Prop where
  T : OexL K C
  iC : PySem.W.findIn K (.ref C) "__init__" = some (some (.ref fI))
  tI : PySem.W.typeIn K (.ref fI) = some (.type "function")
  F1 : FnOk P w K mg base CX0 1 fI fd ps (spIniL K f)
  hb : Binds K fd ps []
  hm : mg x = some (.ref C)
  hno : PySem.W.findIn K (.ref C) f = some none
section
variable {X : Cx} {a : Expr} {fa : AS → M PyData} {pos : Pos}
theorem js_raise1L [NTb] {x f : Str} {C fI : Addr} {fd : FuncData} {ps : List Str} {k : Nat} {p pos2 : Pos} (E : Exn1L X.prog X.w X.K X.mg X.base x f C fI fd ps) (hE : NTb.E x = some C) (hc : X.calm = true) (hr : Room k X.A) (hk : 2 ≤ k) (hg : Gl X x) (ha : JE X fa a) (hdb : (x == ("__debug__" : Str)) = false := by decide)
    (he : starEach (a :: []) X.env = (false, eval a X.env) :: starEach [] X.env := by rfl) (hpl : (backTo pos (starEach [] X.env)).any (·.1) = false := by rfl) : JS X (sRaise1 x f fa) (.Raise (some (.Call (.Name x p) [a] [] pos)) none pos2) :=
  PS_imp (ps_raise hc takes_Wx (pmk_oexL E.T E.iC E.tI E.F1 (hr.mono hk) E.hb hg E.hm (pa_cons ha pa_nil he) hdb he hpl)) fun D σ H ⟨dk, F0, H0, F, z, δ, fl, δ', hf, x0, ok, fr, k⟩ => by
    obtain ⟨d, δ1, h1, hf⟩ := M.bnd_some hf
    obtain ⟨rfl, rfl⟩ := M.pur_some hf
    refine ⟨dk, F, z, δ, d, _, h1, ok, fun v F1 H1 x1 d1 r1 => ⟨by show 1 ≤ 1000; decide, fun ae hae => ⟨ae, C, v, rfl, E.T, E.hno, upd_same, fun dx hdx hne => ⟨rfl, dx, [(f, v)], upd_same, ?_, ?_, ?_⟩⟩⟩⟩
    · rw [upd_ne hne, upd_same]
    · rw [upd_ne hne] at hdx; exact hdx
    · have hd1 : H1 dx = none := by rw [upd_ne hne] at hdx; exact hdx
      have e1 : upd (L2.del (upd (upd (upd H1 ae (exo ae C none)) dx (exd dx [(f, v)])) ae (exo ae C (some dx))) ae) dx (.xd [(f, v)]) = upd H1 dx (.xd [(f, v)]) := by
        funext q
        by_cases q1 : q = dx
        · subst q1; rw [upd_same, upd_same]
        · rw [upd_ne q1, upd_ne q1]
          by_cases q2 : q = ae
          · subst q2; rw [del_same, hae]
          · rw [del_ne q2, upd_ne q2, upd_ne q1, upd_ne q2]
      rw [e1]
      have g : Grow dk F1 H1 F1 (upd H1 dx (.xd [(f, v)])) := .open x1.fh hd1
      exact k C σ F1 _ (some dx) hE ((x0.trans x1).trans g.x) x1.ff ((ok.ext x1 d1).ext g.x (g.d _ d1)) fr (.inr ⟨dx, f, v, d, rfl, rfl, upd_same, r1⟩)
end
end VL
set_option Elab.async false
set_option linter.all false
set_option maxRecDepth 100000
namespace VL
open PySem PySem.Spec L2
open PyProof.Rows hiding St
def sNo : AS → M Fl := fun _ => M.no
theorem js_no [NTb] {X : Cx} {st : Stmt} : JS X sNo st := PS_imp ps_never fun _ _ _ ⟨_, _, _, _, _, _, _, _, hf, _⟩ => by cases hf
theorem kit_blt {K : PySem.W.Frag} {C : Addr} {n : String} {b : Bool} (m : PySem.W.kitMeta n = true) (h : PySem.W.subIn K (.ref C) (.type n) = some b) : PySem.W.kitOne K (.ref C) (.type n) = some b := by
  have ne : ((Value.ref C == Value.type n) = true) = False := by simp
  unfold PySem.W.kitOne
  rw [if_neg (by rw [ne]; exact id)]
  simp only [PySem.W.kitCls, m, h, if_true]
/-- x, y, u = a, b, c, names of the frame alone -/
def sPar3 (i j l : Nat) (f g h : AS → M PyData) : AS → M Fl := fun z => M.bnd (f z) fun d => M.bnd (g z) fun e => M.bnd (h z) fun c => M.pur (.nx (((z.set i (.dat d)).set j (.dat e)).set l (.dat c)))
theorem js_par3 [NTb] {X : Cx} {a b c : Expr} {fa fb fc : AS → M PyData} {pos : Pos} {i j l : Nat} {x y u : Str} {px py pu pt : Pos} {kt k2 pt2} (hc : X.calm = true) (hN : X.N.Nodup) (hi : X.N[i]? = some x) (hj : X.N[j]? = some y) (hl : X.N[l]? = some u) (hij : i ≠ j) (hil : i ≠ l) (hjl : j ≠ l)
    (hx : X.env.scope.names.lookup x = some .local) (hy : X.env.scope.names.lookup y = some .local) (hu : X.env.scope.names.lookup u = some .local) (ha : JE X fa a) (hb : JE X fb b) (hc3 : JE X fc c)
    (hw : swappedStores [.Tuple [.Name x px, .Name y py, .Name u pu] kt pt] (.Tuple [a, b, c] k2 pt2) X.env = pure (some [x, y, u]))
    (h1 : starEach [a, b, c] X.env = (false, eval a X.env) :: starEach [b, c] X.env := by rfl) (h2 : starEach [b, c] X.env = (false, eval b X.env) :: starEach [c] X.env := by rfl) (h3 : starEach [c] X.env = (false, eval c X.env) :: starEach [] X.env := by rfl)
    (hs : swapsWithSole [.Tuple [.Name x px, .Name y py, .Name u pu] kt pt] (.Tuple [a, b, c] k2 pt2) pos.line X.env = pure false := by rfl) :
    JS X (sPar3 i j l fa fb fc) (.Assign [.Tuple [.Name x px, .Name y py, .Name u pu] kt pt] (.Tuple [a, b, c] k2 pt2) pos) :=
  PS_imp (ps_par3 hc hN hi hj hl hij hil hjl hx hy hu (pa_cons ha (pa_cons hb (pa_cons hc3 pa_nil h3) h2) h1) hw hs) fun D σ H ⟨dk, F0, H0, F, z, δ, fl, δ', hf, xx, ok, fr, k⟩ => by
    obtain ⟨d1, δ1, e1, hf⟩ := M.bnd_some hf
    obtain ⟨d2, δ2, e2, hf⟩ := M.bnd_some hf
    obtain ⟨d3, δ3, e3, hf⟩ := M.bnd_some hf
    obtain ⟨rfl, rfl⟩ := M.pur_some hf
    refine ⟨dk, F, z, δ, d1, δ1, e1, ok, fun v1 F1 H1 x1 k1 r1 => ⟨dk, F1, z, δ1, d2, δ2, e2, ok.ext x1 k1, fun v2 F2 H2 x2 k2 r2 => ⟨dk, F2, z, δ2, d3, _, e3, (ok.ext x1 k1).ext x2 k2, fun v3 F3 H3 x3 k3 r3 => ⟨v1, v2, v3, rfl, ?_⟩⟩⟩⟩
    have x13 := (x1.trans x2).trans x3
    refine k _ F3 H3 (xx.trans x13) x13.ff (Ok.setDat (sv := .dat d3) (Ok.setDat (sv := .dat d2) (Ok.setDat (sv := .dat d1) (ok.ext x13 k3) i (Dv.mono (x2.trans x3).ff r1) fun _ q => nomatch q) j (Dv.mono x3.ff r2) fun _ q => nomatch q) l r3 fun _ q => nomatch q) ?_
    exact Fresh.setDat (sv := .dat d3) (Fresh.setDat (sv := .dat d2) (Fresh.setDat (sv := .dat d1) fr i fun _ q => nomatch q) j fun _ q => nomatch q) l fun _ q => nomatch q
end VL
set_option Elab.async false
set_option linter.all false
set_option maxRecDepth 100000
namespace VL
open PySem PySem.Spec L2
open PyProof.Rows hiding St
@[simp] theorem W_sNo {z : AS} {δ : DS} {Q : Fl → DS → Prop} : W (sNo z) δ Q ↔ False := by
  unfold sNo
  exact W_no
theorem W_sTry2 {c1 c2 : Str} {i j : Nat} {h1 h2 : Str → List (Str × PyData) → Option PyData} {g1 : AS → M Fl} {z : AS} {δ : DS} {Q : Fl → DS → Prop} (h : W (g1 z) δ fun fl δ => match fl with
  | .ex c' fs z' => ((c' = c1 ∨ c' = c2) ∧ i < z'.length) ∧ oW ((if c' = c1 then h1 else h2) c' fs) fun u => Q (.nx (((z'.set i .un).set j (.dat u)).set i .un)) δ
  | fl => Q fl δ) : W (sTry2 c1 c2 i j h1 h2 g1 z) δ Q := by
  unfold sTry2
  rw [W_bnd]
  exact h.mono fun fl δ q => by
    cases fl with
    | ex c' fs z' =>
      obtain ⟨q1, q2⟩ := q
      simp only [if_pos q1, W_bnd, W_opt]
      exact oW_mono q2 fun u q => W_pur.mpr q
    | nx _ => exact W_pur.mpr q
    | rt _ => exact W_pur.mpr q
    | bk _ => exact W_pur.mpr q
    | ct _ => exact W_pur.mpr q
@[simp] theorem W_sPar3 {i j l : Nat} {fa fb fc : AS → M PyData} {z : AS} {δ : DS} {Q : Fl → DS → Prop} : W (sPar3 i j l fa fb fc z) δ Q ↔ W (fa z) δ fun d δ => W (fb z) δ fun e δ => W (fc z) δ fun c δ => Q (.nx (((z.set i (.dat d)).set j (.dat e)).set l (.dat c))) δ := by
  unfold sPar3
  simp
end VL
set_option Elab.async false
set_option linter.all false
set_option maxRecDepth 100000
namespace VL.cm
open PySem PySem.Spec L2 VL
open PyProof.Rows hiding St
def d_KINDS : PyData := (.tuple [(.str "A"), (.str "B"), (.str "C")])
def d_LETTERS : PyData := (.tuple [(.str "p"), (.str "q")])
def m_words_of : List AV → M PyData := runB 2 6
  (sSeq (sSet 2 (oE (oComp (iEnumD (eC d_KINDS)) (gT 2 (gsCons (gN 4) (gsCons (gN 5) gsNil))) (cBin ltC (eVar 4) (eVar 0)) (eVar 5) [4, 5])))
      (sSeq (sSet 3 (oE (oComp (iEnumD (eC d_LETTERS)) (gT 2 (gsCons (gN 4) (gsCons (gN 5) gsNil))) (cBin ltC (eVar 4) (eVar 1)) (eVar 5) [4, 5])))
      (sRet (eTup (aStar (eVar 2) (aStar (eVar 3) aNil))))))
def d_MAX_KINDS : PyData := (.int 3)
def d_MAX_LETTERS : PyData := (.int 2)
def d_MAX_SIGNS : PyData := (.int 40)
def d_MAX_RULES : PyData := (.int 6)
def m_is_node : List AV → M PyData := runB 1 1
  (sSeq (sIf (cOr (cNot (cTru (eUn (isiC "tuple") (eVar 0)))) (cBin eqC (eUn lenC (eVar 0)) (eC (.int 0)))) (sRet (eC (.bool false))) sNil)
      (sSeq (sIf (cBin inC (eBin ixC (eVar 0) (eC (.int 0))) (eTup (aCons (eC (.str "and")) (aCons (eC (.str "or")) aNil)))) (sRet (eC (.bool true))) sNil)
      (sRet (eAnd (eBin (bl inC) (eBin ixC (eVar 0) (eC (.int 0))) (eTup (aCons (eC (.str "not")) (aCons (eC (.str "some")) (aCons (eC (.str "all")) aNil))))) (eBin (bl eqC) (eUn lenC (eVar 0)) (eC (.int 2)))))))
def m_formula_error : List AV → M PyData := runB 3 7
  (sSeq (sSet 3 (eCall m_words_of (aCons (eVar 0) (aCons (eVar 1) aNil))))
      (sSeq (sSetO 4 (oLst (aCons (eVar 2) aNil)))
      (sSeq (sSet 5 (eC (.int 0)))
      (sSeq (whileL (cTru (eOwn 4)) (sSeq (sPopTo 6 4)
      (sSeq (sAug 5 (eC (.int 1)))
      (sIf (cTru (eCall m_is_node (aCons (eVar 6) aNil))) (sExt 4 (eSl (eVar 6) (pSo (eC (.int 1))) pNo)) (sIf (cBin notInC (eVar 6) (eVar 3)) (sRet (eC (.str "formula"))) sNil)))) bigN)
      (sRet (eIf (cBin gtC (eVar 5) (eC d_MAX_SIGNS)) (eC (.str "signs")) (eC .none)))))))
def m_is_sentence : List AV → M PyData := runB 1 3
  (sSeq (sSetO 1 (oLst (aCons (eVar 0) aNil)))
      (sSeq (whileL (cTru (eOwn 1)) (sSeq (sPopTo 2 1)
      (sIf (cTru (eUn (isiC "str") (eVar 2))) (sIf (cBin inC (eVar 2) (eC d_KINDS)) (sRet (eC (.bool false))) sNil) (sIf (cBin notInC (eBin ixC (eVar 2) (eC (.int 0))) (eTup (aCons (eC (.str "some")) (aCons (eC (.str "all")) aNil)))) (sExt 1 (eSl (eVar 2) (pSo (eC (.int 1))) pNo)) sNil))) bigN)
      (sRet (eC (.bool true)))))
def m_is_number_to : List AV → M PyData := runB 2 2
  (sRet (eAnd (eUn isiIC (eVar 1)) (eAnd (eNot (eUn (isiC "bool") (eVar 1))) (eChain leC leC (eC (.int 0)) (eVar 1) (eVar 0)))))
def m_rule_error : List AV → M PyData := runB 3 4
  (sSeq (sSet 3 (eCall m_formula_error (aCons (eVar 0) (aCons (eVar 1) (aCons (eVar 2) aNil)))))
      (sSeq (sIf (cAnd (cBin isC (eVar 3) (eC .none)) (cNot (cTru (eCall m_is_sentence (aCons (eVar 2) aNil))))) (sRet (eC (.str "sentence"))) sNil)
      (sRet (eVar 3))))
def m_book_error : List AV → M PyData := runB 1 7
  (sSeq (sIf (cOr (cNot (cTru (eUn (isiC "tuple") (eVar 0)))) (cBin neC (eUn lenC (eVar 0)) (eC (.int 3)))) (sRet (eTup (aCons (eC .none) (aCons (eC (.str "book")) aNil)))) sNil)
      (sSeq (sAsg (gT 3 (gsCons (gN 1) (gsCons (gN 2) (gsCons (gN 3) gsNil)))) (eVar 0))
      (sSeq (sIf (cNot (cTru (eCall m_is_number_to (aCons (eC d_MAX_KINDS) (aCons (eVar 1) aNil))))) (sRet (eTup (aCons (eC .none) (aCons (eC (.str "kinds")) aNil)))) sNil)
      (sSeq (sIf (cNot (cTru (eCall m_is_number_to (aCons (eC d_MAX_LETTERS) (aCons (eVar 2) aNil))))) (sRet (eTup (aCons (eC .none) (aCons (eC (.str "letters")) aNil)))) sNil)
      (sSeq (sIf (cAnd (cBin eqC (eVar 1) (eC (.int 0))) (cBin eqC (eVar 2) (eC (.int 0)))) (sRet (eTup (aCons (eC .none) (aCons (eC (.str "words")) aNil)))) sNil)
      (sSeq (sIf (cOr (cNot (cTru (eUn (isiC "tuple") (eVar 3)))) (cBin gtC (eUn lenC (eVar 3)) (eC d_MAX_RULES))) (sRet (eTup (aCons (eC .none) (aCons (eC (.str "rules")) aNil)))) sNil)
      (sSeq (sFor (iEnumD (eVar 3)) (gT 2 (gsCons (gN 4) (gsCons (gN 5) gsNil))) (sSeq (sSet 6 (eCall m_rule_error (aCons (eVar 1) (aCons (eVar 2) (aCons (eVar 5) aNil)))))
      (sIf (cBin isNotC (eVar 6) (eC .none)) (sRet (eTup (aCons (eVar 4) (aCons (eVar 6) aNil)))) sNil)))
      (sRet (eC .none)))))))))
end VL.cm
set_option Elab.async false
set_option linter.all false
set_option maxRecDepth 100000
set_option maxHeartbeats 1000000
namespace VL.cm
open PySem PySem.Spec L2 VL
open PyProof.Rows hiding St
theorem isN_law (hd : PyData) (tl : List PyData) : isN (.tuple (hd :: tl)) = ((tyN hd == "str") && (inS nsao hd && (!(inS nsa hd) || tl.length + 1 == 2))) := by
  have e0 : isN (.tuple (hd :: tl)) = (inS ao hd || (inS nsa hd && tl.length == 1)) := rfl
  have e1 : inS nsao hd = (inS nsa hd || inS ao hd) := by
    unfold inS nsao nsa ao
    simp only [List.any_cons, List.any_nil, Bool.or_false, Bool.or_assoc]
  have e2 : (tl.length + 1 == 2) = (tl.length == 1) := by
    by_cases q : tl.length = 1
    · rw [q]; rfl
    · rw [beq_eq_false_iff_ne.mpr q, beq_eq_false_iff_ne.mpr (by omega)]
  by_cases s : tyN hd = "str"
  · cases hd with
    | str x =>
      rw [e0, e1, e2]
      have e3 : inS ao (.str x) = true → inS nsa (.str x) = false := fun q => by
        simp only [inS, ao, nsa, List.any_cons, List.any_nil, PyData.eqv, Bool.or_false, Bool.or_eq_true, beq_iff_eq] at q ⊢
        rcases q with q | q <;> subst q <;> decide
      cases q1 : inS ao (.str x) with
      | true => rw [e3 q1]; rfl
      | false =>
        cases inS nsa (.str x) <;> simp [tyN]
    | none => exact absurd s (by decide)
    | bool _ => exact absurd s (by simp [tyN])
    | int _ => exact absurd s (by simp [tyN])
    | list _ => exact absurd s (by simp [tyN])
    | tuple _ => exact absurd s (by simp [tyN])
    | dict _ => exact absurd s (by simp [tyN])
  · have f1 : inS ao hd = false := Bool.eq_false_iff.mpr fun q => s (inS_str (by decide) q)
    have f2 : inS nsa hd = false := Bool.eq_false_iff.mpr fun q => s (inS_str (by decide) q)
    rw [e0, f1, f2, beq_eq_false_iff_ne.mpr s]
    rfl
theorem ev_ix0 {z : AS} {i : Nat} {hd : PyData} {tl : List PyData} (h : z[i]? = some (.dat (.tuple (hd :: tl)))) : Ev (eBin ixC (eVar i) (eC (.int 0)) z) hd := ev_bin (ev_var h) ev_c (by
  show atI (hd :: tl) 0 = _
  exact atI_nat (j := 0) rfl)
theorem filter_none {p : PyData → Bool} : ∀ {l : List PyData}, (l.filter fun d => !p d).isEmpty = l.all p
  | [] => rfl
  | d :: l => by
    rw [List.all_cons, ← filter_none (l := l)]
    cases q : p d with
    | true => rw [List.filter_cons_of_neg (by simp [q])]; rfl
    | false => rw [List.filter_cons_of_pos (by simp [q])]; rfl
theorem tup_ao {z : AS} : Ev (eTup (aCons (eC (.str "and")) (aCons (eC (.str "or")) aNil)) z) (.tuple ao) := ev_tup (ds := ao) (fun _ => rfl) (by decide)
theorem tup_nsa {z : AS} : Ev (eTup (aCons (eC (.str "not")) (aCons (eC (.str "some")) (aCons (eC (.str "all")) aNil))) z) (.tuple nsa) := ev_tup (ds := nsa) (fun _ => rfl) (by decide)
theorem tup_of {d : PyData} (t : tyN d = "tuple") : ∃ ds, d = .tuple ds := by
  cases d with
  | tuple ds => exact ⟨ds, rfl⟩
  | none => exact absurd t (by decide)
  | bool _ => exact absurd t (by simp [tyN])
  | int _ => exact absurd t (by simp [tyN])
  | str _ => exact absurd t (by simp [tyN])
  | list _ => exact absurd t (by simp [tyN])
  | dict _ => exact absurd t (by simp [tyN])
theorem isN_tup {d : PyData} (h : isN d = true) : ∃ hd tl, d = .tuple (hd :: tl) := by
  cases d with
  | tuple ds =>
    cases ds with
    | nil => cases h
    | cons hd tl => exact ⟨hd, tl, rfl⟩
  | none => cases h
  | bool _ => cases h
  | int _ => cases h
  | str _ => cases h
  | list _ => cases h
  | dict _ => cases h
theorem ev_node (d : PyData) : Ev (m_is_node [.d d]) (.bool (isN d)) := by
  refine ev_run rfl ?_
  by_cases t : tyN d = "tuple"
  · obtain ⟨ds, rfl⟩ := tup_of t
    cases ds with
    | nil => exact ev_seq_rt (ev_sif (b := true) (ev_or (b := false) (b2 := true) (ev_not (b := true) (ev_isi (ev_var rfl) rfl)) fun _ => ev_cbin (ev_len_t (ev_var rfl)) ev_c rfl) (fun _ => ev_ret ev_c) fun q => by cases q)
    | cons hd tl =>
      refine ev_seq (ev_sif (b := false) (ev_or (b := false) (b2 := false) (ev_not (b := true) (ev_isi (ev_var rfl) rfl)) fun _ => ev_cbin (ev_len_t (ev_var rfl)) ev_c ?_) (fun q => by cases q) fun _ => .pur) ?_
      · rw [eqC_int, beq_eq_false_iff_ne.mpr (by rw [List.length_cons]; omega)]
      have e0 : isN (.tuple (hd :: tl)) = (inS ao hd || (inS nsa hd && tl.length == 1)) := rfl
      have c2 : Ev (cBin inC (eBin ixC (eVar 0) (eC (.int 0))) (eTup (aCons (eC (.str "and")) (aCons (eC (.str "or")) aNil))) [.dat (.tuple (hd :: tl))]) (inS ao hd) := ev_cbin (ev_ix0 rfl) tup_ao (inC_t (by decide) hd)
      cases q : inS ao hd with
      | true =>
        rw [q] at c2
        rw [e0, q]
        exact ev_seq_rt (ev_sif c2 (fun _ => ev_ret ev_c) fun q => by cases q)
      | false =>
        rw [q] at c2
        rw [e0, q, Bool.false_or]
        refine ev_seq (ev_sif c2 (fun q => by cases q) fun _ => .pur) (ev_ret ?_)
        have c3 : Ev (toB (eBin (bl inC) (eBin ixC (eVar 0) (eC (.int 0))) (eTup (aCons (eC (.str "not")) (aCons (eC (.str "some")) (aCons (eC (.str "all")) aNil))))) [.dat (.tuple (hd :: tl))]) (inS nsa hd) :=
          .bnd (ev_bin (w := .bool (inS nsa hd)) (ev_ix0 rfl) tup_nsa (by unfold bl; rw [inC_t (by decide)]; rfl)) .pur
        cases q2 : inS nsa hd with
        | true =>
          rw [q2] at c3
          refine .bnd c3 (ev_bin (ev_len_t (ev_var rfl)) ev_c ?_)
          unfold bl
          rw [eqC_int, Bool.true_and]
          show some (PyData.bool _) = _
          congr 2
          by_cases e : tl.length = 1
          · rw [List.length_cons, e]; rfl
          · rw [beq_eq_false_iff_ne.mpr e, beq_eq_false_iff_ne.mpr (by rw [List.length_cons]; omega)]
        | false =>
          rw [q2] at c3
          exact .bnd c3 .pur
  · have e : isN d = false := Bool.eq_false_iff.mpr fun q => by
      obtain ⟨_, _, rfl⟩ := isN_tup q
      exact t rfl
    rw [e]
    exact ev_seq_rt (ev_sif (b := true) (ev_or (b := true) (b2 := false) (ev_not (b := false) (ev_isi (ev_var rfl) (beq_eq_false_iff_ne.mpr t))) fun q => by cases q) (fun _ => ev_ret ev_c) fun q => by cases q)
abbrev zl (k l : Int) (v : PyData) (ws st : List PyData) (c : Int) (s6 : SV) : AS := [.dat (.int k), .dat (.int l), .dat v, .dat (.tuple ws), .own st, .dat (.int c), s6]
abbrev feC : AS → M Bool := cTru (eOwn 4)
abbrev feB : AS → M Fl := sSeq (sPopTo 6 4) (sSeq (sAug 5 (eC (.int 1))) (sIf (cTru (eCall m_is_node (aCons (eVar 6) aNil))) (sExt 4 (eSl (eVar 6) (pSo (eC (.int 1))) pNo)) (sIf (cBin notInC (eVar 6) (eVar 3)) (sRet (eC (.str "formula"))) sNil)))
theorem all_snoc (p : PyData → Bool) (init : List PyData) (d : PyData) : (init ++ [d]).all p = (init.all p && p d) := by simp
theorem ev_loop {k l : Int} {v : PyData} {ws : List PyData} (hw : allS ws = true) : ∀ (n : Nat) (st : List PyData) (c : Int) (s6 : SV), cnts st < n → cnts st ≤ 1000000 →
    (st.all (isF ws) = true → ∃ s', Ev (whileL feC feB n (zl k l v ws st c s6)) (.nx (zl k l v ws [] (c + (sgns st : Int)) s'))) ∧ (st.all (isF ws) = false → Ev (whileL feC feB n (zl k l v ws st c s6)) (.rt (.str "formula")))
  | 0, _, _, _, h, _ => absurd h (Nat.not_lt_zero _)
  | n + 1, st, c, s6, h, hc => by
    rcases List.eq_nil_or_concat st with rfl | ⟨init, d, rfl⟩
    · refine ⟨fun _ => ⟨s6, ?_⟩, fun q => by cases q⟩
      refine Ev.bnd (a := false) (ev_tru (ev_own rfl) rfl) ?_
      have e : c + ((sgns [] : Nat) : Int) = c := by show c + ((0 : Nat) : Int) = c; omega
      rw [e]
      exact .pur
    · rw [List.concat_eq_append] at h hc ⊢
      rw [cnts_app] at h hc
      have hd1 : cnts [d] = cnt d := by simp [cnts]
      have hp := cnt_pos d
      have sg : sgns (init ++ [d]) = sgns init + sgn d := by
        rw [sgns_sum, sgns_sum, List.map_append, List.sum_append]
        simp
      have e1 : Ev (feC (zl k l v ws (init ++ [d]) c s6)) true := ev_tru (d := .list (init ++ [d])) (ev_own rfl) (by
        show some (!(init ++ [d]).isEmpty) = _
        rw [List.isEmpty_eq_false_iff.mpr (by simp)]
        rfl)
      have pop : Ev (sPopTo 6 4 (zl k l v ws (init ++ [d]) c s6)) (.nx (zl k l v ws init c (.dat d))) := by
        refine .bnd (a := init ++ [d]) (.opt rfl) (.bnd (a := d) (.opt List.getLast?_concat) ?_)
        have e : (init ++ [d]).dropLast = init := List.dropLast_concat
        rw [e]
        exact .pur
      have aug : Ev (sAug 5 (eC (.int 1)) (zl k l v ws init c (.dat d))) (.nx (zl k l v ws init (c + 1) (.dat d))) := fun _ => rfl
      -- one turn, and the rest
      have step : ∀ {fl : Fl} {fr : Fl}, Ev (sIf (cTru (eCall m_is_node (aCons (eVar 6) aNil))) (sExt 4 (eSl (eVar 6) (pSo (eC (.int 1))) pNo)) (sIf (cBin notInC (eVar 6) (eVar 3)) (sRet (eC (.str "formula"))) sNil) (zl k l v ws init (c + 1) (.dat d))) fl →
          (∀ z2, fl = .nx z2 → Ev (whileL feC feB n z2) fr) → (∀ r, fl = .rt r → fr = .rt r) → (∀ z2, fl ≠ .bk z2 ∧ fl ≠ .ct z2) → (∀ c fs z2, fl ≠ .ex c fs z2) → Ev (whileL feC feB (n + 1) (zl k l v ws (init ++ [d]) c s6)) fr := by
        intro fl fr hb h1 h2 h3 h4
        refine Ev.bnd e1 ?_
        refine Ev.bnd (x := feB (zl k l v ws (init ++ [d]) c s6)) (a := fl) (ev_seq pop (ev_seq aug hb)) ?_
        cases fl with
        | nx z2 => exact h1 z2 rfl
        | rt r => rw [h2 r rfl]; exact .pur
        | bk z2 => exact absurd rfl (h3 z2).1
        | ct z2 => exact absurd rfl (h3 z2).2
        | ex c fs z2 => exact absurd rfl (h4 c fs z2)
      have node : Ev (cTru (eCall m_is_node (aCons (eVar 6) aNil)) (zl k l v ws init (c + 1) (.dat d))) (isN d) := ev_tru (ev_call (ev_acons (ev_var rfl) ev_anil) (ev_node d)) rfl
      by_cases q : isN d = true
      · obtain ⟨hd, tl, rfl⟩ := isN_tup q
        rw [q] at node
        have cd : cnt (.tuple (hd :: tl)) = 1 + (cnt hd + cnts tl) := rfl
        have ch := cnt_pos hd
        have fF : isF ws (.tuple (hd :: tl)) = tl.all (isF ws) := by rw [isF, q, isF1, isFs_all]; rfl
        have fS : sgn (.tuple (hd :: tl)) = 1 + sgns tl := by rw [sgn, sgn1]
        have ext : Ev (sExt 4 (eSl (eVar 6) (pSo (eC (.int 1))) pNo) (zl k l v ws init (c + 1) (.dat (.tuple (hd :: tl))))) (.nx (zl k l v ws (init ++ tl) (c + 1) (.dat (.tuple (hd :: tl))))) := by
          refine .bnd (ev_from (ds := hd :: tl) 1 (ev_var rfl)) (.bnd (a := tl) (.opt rfl) (.bnd (a := init) (.opt rfl) ?_))
          have hl : init.length + tl.length ≤ sizeLine := by
            have h1 := len_cnts init
            have h2 := len_cnts tl
            exact Nat.le_trans (m := 1000000) (by omega) (by decide)
          show Ev (if init.length + tl.length ≤ sizeLine then (_ : M Fl) else _) _
          rw [if_pos hl]
          exact .pur
        have ih := ev_loop hw n (init ++ tl) (c + 1) (.dat (.tuple (hd :: tl))) (k := k) (l := l) (v := v) (by rw [cnts_app]; omega) (by rw [cnts_app]; omega)
        have ea : (init ++ tl).all (isF ws) = (init ++ [PyData.tuple (hd :: tl)]).all (isF ws) := by rw [all_snoc, fF, List.all_append]
        rw [ea] at ih
        refine ⟨fun t => ?_, fun t => ?_⟩
        · obtain ⟨s', e⟩ := ih.1 t
          refine ⟨s', step (ev_sif node (fun _ => ext) fun q => by cases q) (fun z2 e2 => ?_) (fun r e2 => by cases e2) (fun z2 => ⟨(fun q => nomatch q), (fun q => nomatch q)⟩) (fun _ _ _ q => nomatch q)⟩
          injection e2 with e2
          subst e2
          have e3 : c + ((sgns (init ++ [PyData.tuple (hd :: tl)]) : Nat) : Int) = c + 1 + ((sgns (init ++ tl) : Nat) : Int) := by
            rw [sg, fS, show sgns (init ++ tl) = sgns init + sgns tl by rw [sgns_sum, sgns_sum, sgns_sum, List.map_append, List.sum_append]]
            omega
          rw [e3]
          exact e
        · refine step (ev_sif node (fun _ => ext) fun q => by cases q) (fun z2 e2 => ?_) (fun r e2 => by cases e2) (fun z2 => ⟨(fun q => nomatch q), (fun q => nomatch q)⟩) (fun _ _ _ q => nomatch q)
          injection e2 with e2
          subst e2
          exact ih.2 t
      · have q' : isN d = false := Bool.eq_false_iff.mpr q
        rw [q'] at node
        have fF : isF ws d = inS ws d := by
          cases d with
          | tuple ds =>
            rw [isF, q']
            exact (Bool.eq_false_iff.mpr fun z => absurd (inS_str hw z) (by simp [tyN])).symm
          | str x => rw [isF]
          | none => exact (Bool.eq_false_iff.mpr fun z => absurd (inS_str hw z) (by decide)).symm
          | bool _ => exact (Bool.eq_false_iff.mpr fun z => absurd (inS_str hw z) (by simp [tyN])).symm
          | int _ => exact (Bool.eq_false_iff.mpr fun z => absurd (inS_str hw z) (by simp [tyN])).symm
          | list _ => exact (Bool.eq_false_iff.mpr fun z => absurd (inS_str hw z) (by simp [tyN])).symm
          | dict _ => exact (Bool.eq_false_iff.mpr fun z => absurd (inS_str hw z) (by simp [tyN])).symm
        have c2 : Ev (cBin notInC (eVar 6) (eVar 3) (zl k l v ws init (c + 1) (.dat d))) (!inS ws d) := ev_cbin (ev_var rfl) (ev_var rfl) (by unfold notInC; rw [inC_t hw]; rfl)
        rw [all_snoc, fF]
        cases q2 : inS ws d with
        | true =>
          rw [q2] at c2
          have s1 : sgn d = 1 := by
            have := inS_str hw q2
            cases d with
            | str x => rfl
            | tuple ds => exact absurd this (by simp [tyN])
            | none => rfl
            | bool _ => rfl
            | int _ => rfl
            | list _ => rfl
            | dict _ => rfl
          have ih := ev_loop hw n init (c + 1) (.dat d) (k := k) (l := l) (v := v) (by omega) (by omega)
          rw [Bool.and_true]
          refine ⟨fun t => ?_, fun t => ?_⟩
          · obtain ⟨s', e⟩ := ih.1 t
            refine ⟨s', step (ev_sif node (fun q => by cases q) fun _ => ev_sif c2 (fun q => by cases q) fun _ => .pur) (fun z2 e2 => ?_) (fun r e2 => by cases e2) (fun z2 => ⟨(fun q => nomatch q), (fun q => nomatch q)⟩) (fun _ _ _ q => nomatch q)⟩
            injection e2 with e2
            subst e2
            have e3 : c + ((sgns (init ++ [d]) : Nat) : Int) = c + 1 + ((sgns init : Nat) : Int) := by
              rw [sg, s1]
              omega
            rw [e3]
            exact e
          · refine step (ev_sif node (fun q => by cases q) fun _ => ev_sif c2 (fun q => by cases q) fun _ => .pur) (fun z2 e2 => ?_) (fun r e2 => by cases e2) (fun z2 => ⟨(fun q => nomatch q), (fun q => nomatch q)⟩) (fun _ _ _ q => nomatch q)
            injection e2 with e2
            subst e2
            exact ih.2 t
        | false =>
          rw [q2] at c2
          rw [Bool.and_false]
          refine ⟨(fun t => nomatch t), fun _ => ?_⟩
          exact step (ev_sif node (fun q => by cases q) fun _ => ev_sif c2 (fun _ => ev_ret ev_c) fun q => by cases q) (fun z2 e2 => by cases e2) (fun r e2 => by injection e2 with e2; rw [← e2]) (fun z2 => ⟨(fun q => nomatch q), (fun q => nomatch q)⟩) (fun _ _ _ q => nomatch q)
def wsD (k l : Nat) : List PyData := [PyData.str "A", .str "B", .str "C"].take k ++ [PyData.str "p", .str "q"].take l
def prs : List (Nat × Nat) := [(0, 0), (0, 1), (0, 2), (1, 0), (1, 1), (1, 2), (2, 0), (2, 1), (2, 2), (3, 0), (3, 1), (3, 2)]
theorem prs_all {P : Nat × Nat → Prop} (h : P (0, 0) ∧ P (0, 1) ∧ P (0, 2) ∧ P (1, 0) ∧ P (1, 1) ∧ P (1, 2) ∧ P (2, 0) ∧ P (2, 1) ∧ P (2, 2) ∧ P (3, 0) ∧ P (3, 1) ∧ P (3, 2)) : ∀ p ∈ prs, P p := by
  intro p hp
  obtain ⟨h1, h2, h3, h4, h5, h6, h7, h8, h9, h10, h11, h12⟩ := h
  simp only [prs, List.mem_cons, List.not_mem_nil, or_false] at hp
  rcases hp with rfl | rfl | rfl | rfl | rfl | rfl | rfl | rfl | rfl | rfl | rfl | rfl <;> assumption
theorem mem_prs {k l : Nat} (hk : k ≤ 3) (hl : l ≤ 2) : (k, l) ∈ prs := by
  have h : ∀ a : Fin 4, ∀ b : Fin 3, (a.val, b.val) ∈ prs := by decide
  exact h ⟨k, by omega⟩ ⟨l, by omega⟩
theorem allS_ws : ∀ p ∈ prs, allS (wsD p.1 p.2) = true := prs_all (by decide)
theorem ev_words_of : ∀ p ∈ prs, Ev (m_words_of [.d (.int (p.1 : Int)), .d (.int (p.2 : Int))]) (.tuple (wsD p.1 p.2)) :=
  prs_all ⟨fun _ => rfl, fun _ => rfl, fun _ => rfl, fun _ => rfl, fun _ => rfl, fun _ => rfl, fun _ => rfl, fun _ => rfl, fun _ => rfl, fun _ => rfl, fun _ => rfl, fun _ => rfl⟩
def feR (ws : List PyData) (d : PyData) : PyData := if isF ws d = true then (if 40 < sgn d then .str "signs" else .none) else .str "formula"
theorem ev_fe : ∀ p ∈ prs, ∀ d, cnt d < 300000 → Ev (m_formula_error [.d (.int (p.1 : Int)), .d (.int (p.2 : Int)), .d d]) (feR (wsD p.1 p.2) d) := by
  intro p hp d hc
  have hw := allS_ws p hp
  have c1 : cnts [d] = cnt d := by simp [cnts]
  have a1 : [d].all (isF (wsD p.1 p.2)) = isF (wsD p.1 p.2) d := by simp
  have s1 : sgns [d] = sgn d := by simp [sgns]
  have L := ev_loop (k := (p.1 : Int)) (l := (p.2 : Int)) (v := d) hw bigN [d] 0 .un (by rw [bigN_eq]; omega) (by omega)
  rw [a1, s1] at L
  refine ev_run rfl ?_
  refine ev_seq (ev_set (ev_call (ev_acons (ev_var rfl) (ev_acons (ev_var rfl) ev_anil)) (ev_words_of p hp))) ?_
  refine ev_seq (z1 := [.dat (.int (p.1 : Int)), .dat (.int (p.2 : Int)), .dat d, .dat (.tuple (wsD p.1 p.2)), .own [d], .un, .un]) (fun _ => rfl) ?_
  refine ev_seq (z1 := zl (p.1 : Int) (p.2 : Int) d (wsD p.1 p.2) [d] 0 .un) (fun _ => rfl) ?_
  unfold feR
  cases q : isF (wsD p.1 p.2) d with
  | false =>
    rw [if_neg Bool.false_ne_true]
    exact ev_seq_rt (L.2 q)
  | true =>
    rw [if_pos rfl]
    obtain ⟨s', e⟩ := L.1 q
    refine ev_seq e (ev_ret ?_)
    have cmp : Ev (cBin gtC (eVar 5) (eC d_MAX_SIGNS) (zl (p.1 : Int) (p.2 : Int) d (wsD p.1 p.2) [] (0 + (sgn d : Int)) s')) (decide (40 < sgn d)) := ev_cbin (ev_var rfl) ev_c (by
      show some (decide ((40 : Int) < 0 + (sgn d : Int))) = _
      congr 1
      exact decide_eq_decide.mpr (by omega))
    refine ev_if cmp (fun t => ?_) fun t => ?_
    · rw [if_pos (of_decide_eq_true t)]; exact ev_c
    · rw [if_neg (of_decide_eq_false t)]; exact ev_c
end VL.cm
set_option Elab.async false
set_option linter.all false
set_option maxRecDepth 100000
set_option maxHeartbeats 1000000
namespace VL.cm
open PySem PySem.Spec L2 VL
open PyProof.Rows hiding St
mutual
/-- the words met -/
def wrd : PyData → List Str
  | .str x => [x]
  | .tuple ds => wrd1 ds
  | _ => []
def wrd1 : List PyData → List Str
  | [] => []
  | _ :: ds => wrds ds
def wrds : List PyData → List Str
  | [] => []
  | d :: ds => wrd d ++ wrds ds
end
abbrev apC : AS → M Bool := cTru (eOwn 1)
theorem isF_kind {ws : List PyData} {d : PyData} (h : isF ws d = true) : (∃ x, d = .str x) ∨ ∃ x tl, d = .tuple (.str x :: tl) ∧ (∀ e ∈ tl, isF ws e = true) := by
  cases d with
  | str x => exact .inl ⟨x, rfl⟩
  | tuple ds =>
    obtain ⟨x, tl, e, hp, _⟩ := isF_tup h
    exact .inr ⟨x, tl, by rw [e], hp⟩
  | none => cases h
  | bool _ => cases h
  | int _ => cases h
  | list _ => cases h
  | dict _ => cases h
mutual
theorem wrd_sgn : ∀ d : PyData, (wrd d).length ≤ sgn d
  | .tuple ds => by
    rw [sgn, wrd]
    have := wrd1_sgn ds
    omega
  | .str x => by simp [wrd, sgn]
  | .none => by simp [wrd]
  | .bool _ => by simp [wrd]
  | .int _ => by simp [wrd]
  | .list _ => by simp [wrd]
  | .dict _ => by simp [wrd]
theorem wrd1_sgn : ∀ ds : List PyData, (wrd1 ds).length ≤ sgn1 ds
  | [] => Nat.le_refl _
  | d :: ds => by simp only [wrd1, sgn1]; exact wrds_sgn ds
theorem wrds_sgn : ∀ ds : List PyData, (wrds ds).length ≤ sgns ds
  | [] => Nat.le_refl _
  | d :: ds => by
    have h1 := wrd_sgn d
    have h2 := wrds_sgn ds
    simp only [wrds, sgns, List.length_append]
    omega
end
def pq : List PyData := [.str "p", .str "q"]
def sa : List PyData := [.str "some", .str "all"]
def abc : List PyData := [.str "A", .str "B", .str "C"]
mutual
def sen : PyData → Bool
  | .str x => inS pq (.str x)
  | .tuple ds => sen1 ds
  | _ => false
def sen1 : List PyData → Bool
  | [] => false
  | h :: ds => inS sa h || sens ds
def sens : List PyData → Bool
  | [] => true
  | d :: ds => sen d && sens ds
end
theorem sens_all : ∀ ds : List PyData, sens ds = ds.all sen
  | [] => rfl
  | d :: ds => by rw [sens, sens_all ds]; rfl
/-- words of the five -/
def Five (ws : List PyData) : Prop := ∀ x, inS ws (.str x) = true → inS abc (.str x) = !inS pq (.str x)
theorem five_of {ws : List PyData} (hw : allS ws = true) (h : (ws.all fun d => inS abc d == !inS pq d) = true) : Five ws := fun x hx => by
  obtain ⟨y, hy, e⟩ := List.any_eq_true.mp hx
  have e1 := List.all_eq_true.mp h y hy
  have e2 : (tyN y == "str") = true := List.all_eq_true.mp hw y hy
  cases y with
  | str w =>
    have e3 : w = x := by simpa [PyData.eqv] using e
    subst e3
    exact beq_iff_eq.mp e1
  | none => exact absurd e2 (by decide)
  | bool _ => exact absurd e2 (by simp [tyN])
  | int _ => exact absurd e2 (by simp [tyN])
  | list _ => exact absurd e2 (by simp [tyN])
  | tuple _ => exact absurd e2 (by simp [tyN])
  | dict _ => exact absurd e2 (by simp [tyN])
abbrev sp (f : PyData) (st : List PyData) (s2 : SV) : AS := [.dat f, .own st, s2]
abbrev spB : AS → M Fl := sSeq (sPopTo 2 1) (sIf (cTru (eUn (isiC "str") (eVar 2))) (sIf (cBin inC (eVar 2) (eC d_KINDS)) (sRet (eC (.bool false))) sNil) (sIf (cBin notInC (eBin ixC (eVar 2) (eC (.int 0))) (eTup (aCons (eC (.str "some")) (aCons (eC (.str "all")) aNil)))) (sExt 1 (eSl (eVar 2) (pSo (eC (.int 1))) pNo)) sNil))
theorem ev_ix0' {z : AS} {i : Nat} {hd : PyData} {tl : List PyData} (h : z[i]? = some (.dat (.tuple (hd :: tl)))) : Ev (eBin ixC (eVar i) (eC (.int 0)) z) hd := ev_bin (ev_var h) ev_c (by
  show atI (hd :: tl) 0 = _
  exact atI_nat (j := 0) rfl)
theorem sp_loop {f : PyData} {ws : List PyData} (h5 : Five ws) : ∀ (n : Nat) (st : List PyData) (s2 : SV), (∀ d ∈ st, isF ws d = true) → cnts st < n → cnts st ≤ 300000 →
    (st.all sen = true → ∃ s', Ev (whileL apC spB n (sp f st s2)) (.nx (sp f [] s'))) ∧ (st.all sen = false → Ev (whileL apC spB n (sp f st s2)) (.rt (.bool false)))
  | 0, _, _, _, h, _ => absurd h (Nat.not_lt_zero _)
  | n + 1, st, s2, hF, h, hc => by
    rcases List.eq_nil_or_concat st with rfl | ⟨init, d, rfl⟩
    · exact ⟨fun _ => ⟨s2, Ev.bnd (a := false) (ev_tru (ev_own rfl) rfl) .pur⟩, fun q => by cases q⟩
    · rw [List.concat_eq_append] at hF h hc ⊢
      rw [cnts_app] at h hc
      have hd1 : cnts [d] = cnt d := by simp [cnts]
      have hp := cnt_pos d
      have fi : ∀ e ∈ init, isF ws e = true := fun e he => hF e (List.mem_append_left _ he)
      have fd := hF d (List.mem_append_right _ (List.mem_singleton.mpr rfl))
      have all : (init ++ [d]).all sen = (init.all sen && sen d) := by simp
      rw [all]
      have e1 : Ev (apC (sp f (init ++ [d]) s2)) true := ev_tru (d := .list (init ++ [d])) (ev_own rfl) (by
        show some (!(init ++ [d]).isEmpty) = _
        rw [List.isEmpty_eq_false_iff.mpr (by simp)]
        rfl)
      have pop : Ev (sPopTo 2 1 (sp f (init ++ [d]) s2)) (.nx (sp f init (.dat d))) := by
        refine .bnd (a := init ++ [d]) (.opt rfl) (.bnd (a := d) (.opt List.getLast?_concat) ?_)
        have e : (init ++ [d]).dropLast = init := List.dropLast_concat
        rw [e]
        exact .pur
      have goN : ∀ {st2 : List PyData} {fr : Fl}, Ev (sIf (cTru (eUn (isiC "str") (eVar 2))) (sIf (cBin inC (eVar 2) (eC d_KINDS)) (sRet (eC (.bool false))) sNil) (sIf (cBin notInC (eBin ixC (eVar 2) (eC (.int 0))) (eTup (aCons (eC (.str "some")) (aCons (eC (.str "all")) aNil)))) (sExt 1 (eSl (eVar 2) (pSo (eC (.int 1))) pNo)) sNil) (sp f init (.dat d))) (.nx (sp f st2 (.dat d))) →
          Ev (whileL apC spB n (sp f st2 (.dat d))) fr → Ev (whileL apC spB (n + 1) (sp f (init ++ [d]) s2)) fr := fun {st2 fr} hb hr =>
        Ev.bnd e1 (Ev.bnd (x := spB (sp f (init ++ [d]) s2)) (a := .nx (sp f st2 (.dat d))) (ev_seq pop hb) hr)
      rcases isF_kind fd with ⟨x, rfl⟩ | ⟨x, tl, rfl, ht⟩
      · have hx : inS ws (.str x) = true := by rw [isF] at fd; exact fd
        have k := h5 x hx
        have sx : sen (.str x) = inS pq (.str x) := by rw [sen]
        have c2 : Ev (cBin inC (eVar 2) (eC d_KINDS) (sp f init (.dat (.str x)))) (inS abc (.str x)) := ev_cbin (ev_var rfl) ev_c (inC_t (l := abc) (by decide) _)
        have ih := sp_loop h5 n init (.dat (.str x)) (f := f) fi (by omega) (by omega)
        rw [sx]
        cases q : inS pq (.str x) with
        | true =>
          rw [k, q] at c2
          have hb := ev_sif (z := sp f init (.dat (.str x))) (c := cTru (eUn (isiC "str") (eVar 2))) (g1 := sIf (cBin inC (eVar 2) (eC d_KINDS)) (sRet (eC (.bool false))) sNil) (g2 := sIf (cBin notInC (eBin ixC (eVar 2) (eC (.int 0))) (eTup (aCons (eC (.str "some")) (aCons (eC (.str "all")) aNil)))) (sExt 1 (eSl (eVar 2) (pSo (eC (.int 1))) pNo)) sNil) (fl := .nx (sp f init (.dat (.str x)))) (b := true) (ev_isi (ev_var rfl) rfl) (fun _ => ev_sif c2 (fun q => by cases q) fun _ => .pur) fun q => by cases q
          rw [Bool.and_true]
          refine ⟨fun t => ?_, fun t => goN hb (ih.2 t)⟩
          obtain ⟨s', e⟩ := ih.1 t
          exact ⟨s', goN hb e⟩
        | false =>
          rw [k, q] at c2
          rw [Bool.and_false]
          refine ⟨(fun t => nomatch t), fun _ => ?_⟩
          have hb : Ev (spB (sp f (init ++ [.str x]) s2)) (.rt (.bool false)) := ev_seq pop (ev_sif (b := true) (ev_isi (ev_var rfl) rfl) (fun _ => ev_sif c2 (fun _ => ev_ret ev_c) fun q => by cases q) fun q => by cases q)
          refine Ev.bnd e1 ?_
          refine Ev.bnd (x := spB (sp f (init ++ [.str x]) s2)) (a := .rt (.bool false)) hb ?_
          exact .pur
      · have cd : cnt (.tuple (.str x :: tl)) = 1 + (1 + cnts tl) := rfl
        have sx : sen (.tuple (.str x :: tl)) = (inS sa (.str x) || tl.all sen) := by rw [sen, sen1, sens_all]
        have c2 : Ev (cBin notInC (eBin ixC (eVar 2) (eC (.int 0))) (eTup (aCons (eC (.str "some")) (aCons (eC (.str "all")) aNil))) (sp f init (.dat (.tuple (.str x :: tl))))) (!inS sa (.str x)) := ev_cbin (ev_ix0' rfl) (ev_tup (ds := sa) (fun _ => rfl) (show 2 ≤ sizeLine by decide)) (by unfold notInC; rw [inC_t (by decide)]; rfl)
        have lt := len_cnts tl
        have li := len_cnts init
        have ext : Ev (sExt 1 (eSl (eVar 2) (pSo (eC (.int 1))) pNo) (sp f init (.dat (.tuple (.str x :: tl))))) (.nx (sp f (init ++ tl) (.dat (.tuple (.str x :: tl))))) := by
          refine .bnd (ev_from (ds := .str x :: tl) 1 (ev_var rfl)) (.bnd (a := tl) (.opt rfl) (.bnd (a := init) (.opt rfl) ?_))
          show Ev (if init.length + tl.length ≤ sizeLine then (_ : M Fl) else _) _
          rw [if_pos (Nat.le_trans (m := 300000) (by omega) (by decide))]
          exact .pur
        rw [sx]
        cases q : inS sa (.str x) with
        | true =>
          rw [q] at c2
          have ih := sp_loop h5 n init (.dat (.tuple (.str x :: tl))) (f := f) fi (by omega) (by omega)
          rw [Bool.true_or, Bool.and_true]
          have hb : Ev (sIf (cTru (eUn (isiC "str") (eVar 2))) (sIf (cBin inC (eVar 2) (eC d_KINDS)) (sRet (eC (.bool false))) sNil) (sIf (cBin notInC (eBin ixC (eVar 2) (eC (.int 0))) (eTup (aCons (eC (.str "some")) (aCons (eC (.str "all")) aNil)))) (sExt 1 (eSl (eVar 2) (pSo (eC (.int 1))) pNo)) sNil) (sp f init (.dat (.tuple (.str x :: tl))))) (.nx (sp f init (.dat (.tuple (.str x :: tl))))) := ev_sif (b := false) (ev_isi (ev_var rfl) rfl) (fun q => by cases q) fun _ => ev_sif c2 (fun q => by cases q) fun _ => .pur
          refine ⟨fun t => ?_, fun t => goN hb (ih.2 t)⟩
          obtain ⟨s', e⟩ := ih.1 t
          exact ⟨s', goN hb e⟩
        | false =>
          rw [q] at c2
          have ih := sp_loop h5 n (init ++ tl) (.dat (.tuple (.str x :: tl))) (f := f) (fun e he => (List.mem_append.mp he).elim (fi e) (ht e)) (by rw [cnts_app]; omega) (by rw [cnts_app]; omega)
          rw [List.all_append] at ih
          rw [Bool.false_or]
          have hb : Ev (sIf (cTru (eUn (isiC "str") (eVar 2))) (sIf (cBin inC (eVar 2) (eC d_KINDS)) (sRet (eC (.bool false))) sNil) (sIf (cBin notInC (eBin ixC (eVar 2) (eC (.int 0))) (eTup (aCons (eC (.str "some")) (aCons (eC (.str "all")) aNil)))) (sExt 1 (eSl (eVar 2) (pSo (eC (.int 1))) pNo)) sNil) (sp f init (.dat (.tuple (.str x :: tl))))) (.nx (sp f (init ++ tl) (.dat (.tuple (.str x :: tl))))) := ev_sif (b := false) (ev_isi (ev_var rfl) rfl) (fun q => by cases q) fun _ => ev_sif c2 (fun _ => ext) fun q => by cases q
          refine ⟨fun t => ?_, fun t => goN hb (ih.2 t)⟩
          obtain ⟨s', e⟩ := ih.1 t
          exact ⟨s', goN hb e⟩
theorem ev_sent {ws : List PyData} (h5 : Five ws) {d : PyData} (h : isF ws d = true) (hc : cnt d < 300000) : Ev (m_is_sentence [.d d]) (.bool (sen d)) := by
  have c1 : cnts [d] = cnt d := by simp [cnts]
  have a1 : [d].all sen = sen d := by simp
  have L := sp_loop h5 (f := d) bigN [d] .un (fun e he => by rw [List.mem_singleton.mp he]; exact h) (by rw [bigN_eq]; omega) (by omega)
  rw [a1] at L
  refine ev_run rfl (ev_seq (z1 := sp d [d] .un) (fun _ => rfl) ?_)
  cases q : sen d with
  | true =>
    obtain ⟨s', e⟩ := L.1 q
    exact ev_seq e (ev_ret ev_c)
  | false => exact ev_seq_rt (L.2 q)
end VL.cm
set_option Elab.async false
set_option linter.all false
set_option maxRecDepth 100000
set_option maxHeartbeats 1000000
namespace VL.cm
variable [Ob]
open PySem PySem.Spec L2 VL
open PyProof.Rows hiding St
def odd1 : List PyData := [.none, .bool true, .bool false, .int 0, .int 1, .int 2, .int 3, .int 4, .int (-1), .int (10 ^ 30), .str "", .str "A", .str "B", .str "C", .str "D", .str "p", .str "q", .str "r", .str "a", .str "AB", .str "not"]
def leaf0 : List PyData := odd1 ++ [.str "and", .str "some", .str "All", .dict [], .str "all", .str "nor", .str "or", .str "Not", .str "xor", .str "0"]
theorem leaf0_ok : ∀ d ∈ leaf0, leafOk d = true := by
  have h : leaf0.all leafOk = true := by decide +kernel
  exact fun d hd => List.all_eq_true.mp h d hd
theorem leaf0_flat : ∀ d ∈ leaf0, tyN d ≠ "tuple" ∧ tyN d ≠ "list" := by
  have h : leaf0.all (fun d => decide (tyN d ≠ "tuple" ∧ tyN d ≠ "list")) = true := by decide +kernel
  exact fun d hd => of_decide_eq_true (List.all_eq_true.mp h d hd)
/-- made of leaves, no row of more than L -/
inductive Mk (L : Nat) : PyData → Prop
  | at {d : PyData} : d ∈ leaf0 → Mk L d
  | tup {ds : List PyData} : ds.length ≤ L → (∀ d, d ∈ ds → Mk L d) → Mk L (.tuple ds)
  | lst {ds : List PyData} : ds.length ≤ L → (∀ d, d ∈ ds → Mk L d) → Mk L (.list ds)
theorem Mk.mono {L L' : Nat} (h : L ≤ L') {d : PyData} (m : Mk L d) : Mk L' d := by
  induction m with
  | «at» q => exact .at q
  | tup l _ ih => exact .tup (by omega) ih
  | lst l _ ih => exact .lst (by omega) ih
theorem Mk.fine {L : Nat} {d : PyData} (m : Mk L d) : Fine leaf0 d := by
  induction m with
  | «at» q => exact .at q
  | tup _ _ ih => exact .tup ih
  | lst _ _ ih => exact .lst ih
theorem Mk.parts {L : Nat} {ds : List PyData} (m : Mk L (.tuple ds)) : ∀ d ∈ ds, Mk L d := by
  cases m with
  | «at» q => exact absurd rfl (leaf0_flat _ q).1
  | tup _ h => exact h
theorem Mk.len {L : Nat} {ds : List PyData} (m : Mk L (.tuple ds)) : ds.length ≤ L := by
  cases m with
  | «at» q => exact absurd rfl (leaf0_flat _ q).1
  | tup h _ => exact h
theorem Mk.kind {L : Nat} {d : PyData} (_m : Mk L d) : (tyN d == "tuple") = false ∨ ∃ ds, d = .tuple ds := by
  cases d <;> first | exact .inl rfl | exact .inr ⟨_, rfl⟩
theorem Mk.repr {L : Nat} {d : PyData} (m : Mk L d) (hd : d.depth ≤ 100) (hc : cnt d ≤ 300000) : reprOk d = true := m.fine.repr leaf0_ok hd hc
/-- whether d is such, by looking -/
def mkB (L : Nat) : Nat → PyData → Bool
  | 0, _ => false
  | n + 1, d => leaf0.any (fun e => match d, e with
    | .none, .none => true
    | .bool a, .bool b => a == b
    | .int a, .int b => a == b
    | .str a, .str b => a == b
    | .dict [], .dict [] => true
    | _, _ => false) || match d with
    | .tuple ds => decide (ds.length ≤ L) && ds.all (mkB L n)
    | .list ds => decide (ds.length ≤ L) && ds.all (mkB L n)
    | _ => false
theorem mk_by {L : Nat} : ∀ {n : Nat} {d : PyData}, mkB L n d = true → Mk L d
  | 0, _, h => by cases h
  | n + 1, d, h => by
    unfold mkB at h
    rcases Bool.or_eq_true_iff.mp h with h | h
    · obtain ⟨e, he, q⟩ := List.any_eq_true.mp h
      refine .at ?_
      split at q
      · exact he
      · rw [eq_of_beq q]; exact he
      · rw [eq_of_beq q]; exact he
      · rw [eq_of_beq q]; exact he
      · exact he
      · cases q
    · cases d with
      | tuple ds =>
        rw [Bool.and_eq_true, decide_eq_true_eq] at h
        exact .tup h.1 fun d hd => mk_by (List.all_eq_true.mp h.2 d hd)
      | list ds =>
        rw [Bool.and_eq_true, decide_eq_true_eq] at h
        exact .lst h.1 fun d hd => mk_by (List.all_eq_true.mp h.2 d hd)
      | none => cases h
      | bool _ => cases h
      | int _ => cases h
      | str _ => cases h
      | dict _ => cases h
end VL.cm
set_option Elab.async false
set_option linter.all false
set_option maxRecDepth 100000
set_option maxHeartbeats 1000000
namespace VL.cm
open PySem PySem.Spec L2 VL
open PyProof.Rows hiding St
theorem eqv_str (d : PyData) (x : Str) : PyData.eqv d (.str x) = true ↔ d = .str x := by
  cases d <;> simp [PyData.eqv]
end VL.cm
set_option Elab.async false
set_option linter.all false
set_option maxRecDepth 100000
set_option maxHeartbeats 1000000
namespace VL.cm
open PySem PySem.Spec L2 VL
open PyProof.Rows hiding St
theorem ixT0 (d : PyData) (ds : List PyData) : ixC (.tuple (d :: ds)) (.int 0) = some d := by
  show atI (d :: ds) 0 = _
  exact atI_nat (j := 0) rfl
theorem ixT1 (c d : PyData) (ds : List PyData) : ixC (.tuple (c :: d :: ds)) (.int 1) = some d := by
  show atI (c :: d :: ds) 1 = _
  exact atI_nat (j := 1) rfl
end VL.cm
set_option Elab.async false
set_option linter.all false
set_option maxRecDepth 100000
set_option maxHeartbeats 1000000
namespace VL.cm
variable [Ob]
open PySem PySem.Spec L2 VL
open PyProof.Rows hiding St
theorem W_pk {as : List AV} {xs : List PyData} {δ : DS} {Q : PyData → DS → Prop} (g : Good δ) (e : as = [.deck, .d (.list xs)]) (h0 : xs ≠ []) (h1 : xs.length < 1073741824) (k : ∀ d δ', Good δ' → d ∈ xs → Q d δ') : W (pickM as) δ Q := by
  subst e
  exact W_pick h0 h1 g k
end VL.cm
set_option Elab.async false
set_option linter.all false
set_option maxRecDepth 100000
set_option maxHeartbeats 2000000
namespace VL
variable [Ob]
open PySem PySem.Spec L2
open PyProof.Rows hiding St
theorem W_seq {g1 g2 : AS → M Fl} {z : AS} {δ : DS} {Q : Fl → DS → Prop} (A : AS → DS → Prop) (h : W (g1 z) δ fun fl δ => ∃ z1, fl = .nx z1 ∧ A z1 δ) (k : ∀ z1 δ, A z1 δ → W (g2 z1) δ Q) : W (sSeq g1 g2 z) δ Q := by
  rw [W_sSeq]
  exact h.mono fun fl δ ⟨z1, e, q⟩ => by subst e; exact k z1 δ q
/-- if .. : return -/
theorem W_ifret {c : AS → M Bool} {g1 g2 : AS → M Fl} {z : AS} {δ : DS} {Q : Fl → DS → Prop} (P : Bool → DS → Prop) (h : W (c z) δ P) (h1 : ∀ δ, P true δ → W (g1 z) δ fun fl δ => ∃ d, fl = .rt d ∧ Q (.rt d) δ) (h2 : ∀ δ, P false δ → W (g2 z) δ Q) : W (sSeq (sIf c g1 sNil) g2 z) δ Q := by
  rw [W_sSeq, W_sIf]
  refine h.mono fun b δ p => ?_
  cases b with
  | true =>
    rw [if_pos rfl]
    exact (h1 δ p).mono fun fl δ ⟨d, e, q⟩ => by subst e; exact q
  | false =>
    rw [if_neg Bool.false_ne_true, W_sNil]
    exact h2 δ p
end VL
namespace VL.cm
variable [Ob]
open PySem PySem.Spec L2 VL
open PyProof.Rows hiding St
mutual
theorem isF_mono {w1 w2 : List PyData} (h : ∀ x, inS w1 (.str x) = true → inS w2 (.str x) = true) : ∀ d : PyData, isF w1 d = true → isF w2 d = true
  | .tuple [], q => by cases q
  | .tuple (x :: tl), q => by
    rw [isF, Bool.and_eq_true] at q ⊢
    exact ⟨q.1, isFs_mono h tl q.2⟩
  | .str x, q => by rw [isF] at q ⊢; exact h x q
  | .none, q => by cases q
  | .bool _, q => by cases q
  | .int _, q => by cases q
  | .list _, q => by cases q
  | .dict _, q => by cases q
theorem isFs_mono {w1 w2 : List PyData} (h : ∀ x, inS w1 (.str x) = true → inS w2 (.str x) = true) : ∀ ds : List PyData, isFs w1 ds = true → isFs w2 ds = true
  | [], _ => rfl
  | d :: ds, q => by
    rw [isFs, Bool.and_eq_true] at q ⊢
    exact ⟨isF_mono h d q.1, isFs_mono h ds q.2⟩
end
theorem inS_sub {l m : List PyData} (h : ∀ d ∈ l, d ∈ m) (x : Str) (q : inS l (.str x) = true) : inS m (.str x) = true := by
  obtain ⟨y, hy, e⟩ := List.any_eq_true.mp q
  exact List.any_eq_true.mpr ⟨y, h y hy, e⟩
theorem isF_sub {l m : List PyData} (h : ∀ d ∈ l, d ∈ m) {d : PyData} (q : isF l d = true) : isF m d = true := isF_mono (fun x => inS_sub h x) d q
/-- letters alone make sentences -/
theorem sen_letters {ws : List PyData} (h : ∀ d ∈ ws, d ∈ pq) : ∀ d : PyData, isF ws d = true → sen d = true
  | .tuple [], q => by cases q
  | .tuple (x :: tl), q => by
    rw [isF, Bool.and_eq_true, isF1, isFs_all] at q
    rw [sen, sen1, sens_all, Bool.or_eq_true]
    exact .inr (List.all_eq_true.mpr fun d hd => sen_letters h d (List.all_eq_true.mp q.2 d hd))
  | .str x, q => by
    rw [isF] at q
    rw [sen]
    exact inS_sub h x q
  | .none, q => by cases q
  | .bool _, q => by cases q
  | .int _, q => by cases q
  | .list _, q => by cases q
  | .dict _, q => by cases q
/-- a sentence of k kinds and l letters with at most B signs -/
def Sn (k l : Nat) (B : Int) (d : PyData) : Prop := isF (wsD k l) d = true ∧ sen d = true ∧ (sgn d : Int) ≤ B
theorem own_pq (l : Nat) : ∀ d ∈ wsD 0 l, d ∈ pq := fun d hd => by
  rcases List.mem_append.mp hd with q | q
  · simp at q
  · exact List.mem_of_mem_take q
theorem own_sub (k l : Nat) : ∀ d ∈ wsD 0 l, d ∈ wsD k l := fun d hd => by
  rcases List.mem_append.mp hd with q | q
  · simp at q
  · exact List.mem_append_right _ q
theorem kin_sub (k l : Nat) : ∀ d ∈ wsD k 0, d ∈ wsD k l := fun d hd => by
  rcases List.mem_append.mp hd with q | q
  · exact List.mem_append_left _ q
  · simp at q
theorem wsD_all (k l : Nat) : allS (wsD k l) = true := by
  refine List.all_eq_true.mpr fun d hd => ?_
  rcases List.mem_append.mp hd with q | q
  · have := List.mem_of_mem_take q
    simp only [List.mem_cons, List.not_mem_nil, or_false] at this
    rcases this with rfl | rfl | rfl <;> rfl
  · have := List.mem_of_mem_take q
    simp only [List.mem_cons, List.not_mem_nil, or_false] at this
    rcases this with rfl | rfl <;> rfl
theorem wsD_len (k l : Nat) : (wsD k l).length = min k 3 + min l 2 := by simp [wsD]
theorem mem_own {l : Nat} {d : PyData} (h : d ∈ wsD 0 l) (k : Nat) : Sn k l 1 d := by
  obtain ⟨h1, h2⟩ := ws_F (wsD_all 0 l) d h
  exact ⟨isF_sub (own_sub k l) h1, sen_letters (own_pq l) d h1, by omega⟩
end VL.cm
set_option Elab.async false
set_option linter.all false
set_option maxRecDepth 100000
set_option maxHeartbeats 2000000
namespace VL.cm
open PySem PySem.Spec L2 VL
open PyProof.Rows hiding St
def numB (m : Nat) : PyData → Bool
  | .int i => decide (0 ≤ i ∧ i ≤ m)
  | _ => false
theorem numB_of {m : Nat} {d : PyData} (h : numB m d = true) : ∃ n : Nat, d = .int (n : Int) ∧ n ≤ m := by
  cases d with
  | int i =>
    obtain ⟨h1, h2⟩ := of_decide_eq_true (show decide (0 ≤ i ∧ i ≤ (m : Int)) = true from h)
    exact ⟨i.toNat, by rw [Int.toNat_of_nonneg h1], by omega⟩
  | _ => cases h
theorem ev_num (m : Nat) (v : PyData) : Ev (m_is_number_to [.d (.int (m : Int)), .d v]) (.bool (numB m v)) := by
  refine ev_runW rfl fun δ => ?_
  cases v with
  | int i =>
    simp [numB]
    by_cases h1 : 0 ≤ i
    · simp [h1]
    · simp [h1]
  | _ => simp [numB]
/-- what is wrong with a rule -/
def ruR (ws : List PyData) (d : PyData) : PyData := if isF ws d = true then (if 40 < sgn d then .str "signs" else if sen d = true then .none else .str "sentence") else .str "formula"
theorem five_ws (k l : Nat) : Five (wsD k l) := five_of (wsD_all k l) (by
  refine List.all_eq_true.mpr fun d hd => ?_
  rcases List.mem_append.mp hd with q | q
  · have := List.mem_of_mem_take q
    simp only [List.mem_cons, List.not_mem_nil, or_false] at this
    rcases this with rfl | rfl | rfl <;> decide +kernel
  · have := List.mem_of_mem_take q
    simp only [List.mem_cons, List.not_mem_nil, or_false] at this
    rcases this with rfl | rfl <;> decide +kernel)
theorem isC_none (d : PyData) : isC d .none = some (isNone d) := rfl
theorem isNotC_none (d : PyData) : isNotC d .none = some (!isNone d) := rfl
theorem ev_rule {k l : Nat} (hk : k ≤ 3) (hl : l ≤ 2) (v : PyData) (hc : cnt v < 300000) : Ev (m_rule_error [.d (.int (k : Int)), .d (.int (l : Int)), .d v]) (ruR (wsD k l) v) := by
  have fe : Ev (m_formula_error [.d (.int (k : Int)), .d (.int (l : Int)), .d v]) _ := ev_fe (k, l) (mem_prs hk hl) v hc
  refine ev_runW rfl fun δ => ?_
  simp [W_ev fe, isC_none]
  unfold ruR feR
  by_cases q : isF (wsD k l) v = true
  · simp only [if_pos q]
    by_cases s : 40 < sgn v
    · simp [if_pos s, isNone]
    · simp [if_neg s, isNone, W_ev (ev_sent (five_ws k l) q hc)]
      try (cases sen v <;> simp)
  · simp [if_neg q, isNone]
/-- the rows of an enumeration -/
def enF : Nat → List PyData → List PyData
  | _, [] => []
  | i, d :: ds => .tuple [.int (i : Int), d] :: enF (i + 1) ds
theorem enF_eq : ∀ (ds : List PyData) (i : Nat), enF i ds = (List.range ds.length).map fun (j : Nat) => .tuple [.int ((i + j : Nat) : Int), ds.getD j .none]
  | [], i => rfl
  | d :: ds, i => by
    rw [enF, enF_eq ds (i + 1), List.length_cons, List.range_succ_eq_map, List.map_cons, List.map_map]
    congr 1
    apply List.map_congr_left
    intro j hj
    simp only [Function.comp_apply, List.getD_cons_succ]
    congr 3
    omega
theorem enumD_eq (ds : List PyData) : enumD ds = enF 0 ds := by
  rw [enF_eq]
  unfold enumD
  simp
def loopR (ws : List PyData) : Nat → List PyData → PyData
  | _, [] => .none
  | i, r :: rs => if isNone (ruR ws r) = true then loopR ws (i + 1) rs else .tuple [.int (i : Int), ruR ws r]
def bkR : PyData → PyData
  | .tuple [a, b, c] => if numB 3 a = true then (if numB 2 b = true then (match a, b with
    | .int k, .int l => if k = 0 ∧ l = 0 then .tuple [.none, .str "words"] else (match c with
      | .tuple rs => if 6 < rs.length then .tuple [.none, .str "rules"] else loopR (wsD k.toNat l.toNat) 0 rs
      | _ => .tuple [.none, .str "rules"])
    | _, _ => .none) else .tuple [.none, .str "letters"]) else .tuple [.none, .str "kinds"]
  | _ => .tuple [.none, .str "book"]
theorem bkR_ne {ds : List PyData} (h : ds.length ≠ 3) : bkR (.tuple ds) = .tuple [.none, .str "book"] := by
  unfold bkR
  split
  · rename_i e; injection e with e; subst e; exact absurd rfl h
  · rfl
theorem tup3 {ds : List PyData} (h : ds.length = 3) : ∃ a b c, ds = [a, b, c] := by
  match ds, h with
  | [a, b, c], _ => exact ⟨a, b, c, rfl⟩
/-- rules are not too long to be looked at -/
def Low (v : PyData) : Prop := ∀ a b rs, v = .tuple [a, b, .tuple rs] → ∀ r ∈ rs, cnt r < 300000 ∧ r.depth < 70
theorem ixT2 (a b c : PyData) (ds : List PyData) : ixC (.tuple (a :: b :: c :: ds)) (.int 2) = some c := by
  show atI (a :: b :: c :: ds) 2 = _
  exact atI_nat (j := 2) rfl
theorem W_ifno {c : AS → M Bool} {g1 g2 : AS → M Fl} {z : AS} {δ : DS} {Q : Fl → DS → Prop} (h : W (c z) δ fun b δ' => δ = δ' ∧ b = false) (k : W (g2 z) δ Q) : W (sSeq (sIf c g1 sNil) g2 z) δ Q := W_ifret (fun b δ' => δ = δ' ∧ b = false) h (fun δ ⟨_, e⟩ => by cases e) (fun δ' ⟨e, _⟩ => by subst e; exact k)
theorem W_ifyes {c : AS → M Bool} {g1 g2 : AS → M Fl} {z : AS} {δ : DS} {Q : Fl → DS → Prop} (h : W (c z) δ fun b δ' => δ = δ' ∧ b = true) (k : W (g1 z) δ fun fl δ => ∃ d, fl = .rt d ∧ Q (.rt d) δ) : W (sSeq (sIf c g1 sNil) g2 z) δ Q := W_ifret (fun b δ' => δ = δ' ∧ b = true) h (fun δ' ⟨e, _⟩ => by subst e; exact k) (fun δ ⟨_, e⟩ => by cases e)
theorem loop_bk {k l : Nat} (hk : k ≤ 3) (hl : l ≤ 2) (v : PyData) (c : PyData) {rs0 : List PyData} (hr : ∀ r ∈ rs0, cnt r < 300000 ∧ r.depth < 70) (δ : DS) (s4 s5 s6 : SV) :
    W (sSeq (sFor (iEnumD (eVar 3)) (gT 2 (gsCons (gN 4) (gsCons (gN 5) gsNil))) (sSeq (sSet 6 (eCall m_rule_error (aCons (eVar 1) (aCons (eVar 2) (aCons (eVar 5) aNil)))))
      (sIf (cBin isNotC (eVar 6) (eC .none)) (sRet (eTup (aCons (eVar 4) (aCons (eVar 6) aNil)))) sNil)))
      (sRet (eC .none)) [.dat v, .dat (.int (k : Int)), .dat (.int (l : Int)), .dat (.tuple rs0), s4, s5, s6]) δ fun fl δ' => W (flD fl) δ' fun b δ2 => b = loopR (wsD k l) 0 rs0 ∧ δ2 = δ := by
  have z2 : 2 ≤ sizeLine := by decide
  simp
  rw [enumD_eq]
  refine W_for (fun ds z δ' => δ = δ' ∧ ∃ i rs s4 s5 s6, ds = enF i rs ∧ (∀ r ∈ rs, r ∈ rs0) ∧ loopR (wsD k l) i rs = loopR (wsD k l) 0 rs0 ∧ z = [.dat v, .dat (.int (k : Int)), .dat (.int (l : Int)), .dat (.tuple rs0), s4, s5, s6]) ⟨rfl, 0, rs0, s4, s5, s6, rfl, fun _ h => h, rfl, rfl⟩ ?_ ?_
  · rintro d ds z δ' ⟨rfl, i, rs, s4, s5, s6, e, hsub, hlp, rfl⟩
    cases rs with
    | nil => cases e
    | cons r rs =>
      injection e with e1 e2
      subst e1 e2
      refine ⟨_, rfl, ?_⟩
      have er := ev_rule hk hl r (hr r (hsub r (by simp))).1
      simp [W_ev er, isNotC_none]
      cases q : isNone (ruR (wsD k l) r) with
      | true =>
        simp
        refine ⟨_, _, rfl, fun x hx => hsub x (by simp [hx]), ?_⟩
        rw [← hlp, loopR, if_pos q]
      | false =>
        simp [z2]
        rw [← hlp, loopR, if_neg (by rw [q]; exact Bool.false_ne_true)]
  · rintro z δ' ⟨rfl, i, rs, s4, s5, s6, e, hsub, hlp, rfl⟩
    have : rs = [] := by cases rs with
      | nil => rfl
      | cons _ _ => cases e
    subst this
    simp [← hlp, loopR]
theorem ev_bk (v : PyData) (hL : Low v) : Ev (m_book_error [.d v]) (bkR v) := by
  have z2 : 2 ≤ sizeLine := by decide
  refine ev_runW rfl fun δ => ?_
  cases v with
  | tuple ds =>
    by_cases h3 : ds.length = 3
    · obtain ⟨a, b, c, rfl⟩ := tup3 h3
      have hL' := hL a b
      refine W_ifno (by simp) ?_
      refine W_seq (fun z δ' => δ = δ' ∧ z = [.dat (.tuple [a, b, c]), .dat a, .dat b, .dat c, .un, .un, .un]) (by simp [gT, gsCons, gsNil]) ?_
      rintro z δ' ⟨rfl, rfl⟩
      have e3 : Ev (m_is_number_to [.d (.int 3), .d a]) _ := ev_num 3 a
      have e2 : Ev (m_is_number_to [.d (.int 2), .d b]) _ := ev_num 2 b
      cases qa : numB 3 a with
      | false => exact W_ifyes (by simp [d_MAX_KINDS, W_ev e3, qa]) (by simp [z2, bkR, qa])
      | true =>
        refine W_ifno (by simp [d_MAX_KINDS, W_ev e3, qa]) ?_
        cases qb : numB 2 b with
        | false => exact W_ifyes (by simp [d_MAX_LETTERS, W_ev e2, qb]) (by simp [z2, bkR, qa, qb])
        | true =>
          refine W_ifno (by simp [d_MAX_LETTERS, W_ev e2, qb]) ?_
          obtain ⟨k, rfl, hk⟩ := numB_of qa
          obtain ⟨l, rfl, hl⟩ := numB_of qb
          by_cases kl : (k : Int) = 0 ∧ (l : Int) = 0
          · exact W_ifyes (by simp [kl.1, kl.2]) (by simp only [bkR, qa, qb, if_pos, if_pos kl]; simp [z2])
          · refine W_ifno (by
              by_cases k0 : k = 0
              · have l0 : ¬ l = 0 := fun h => kl ⟨by omega, by omega⟩
                simp [k0, l0]
              · simp [k0]) ?_
            cases c with
            | tuple rs =>
              by_cases r6 : 6 < rs.length
              · have r6' : (6 : Int) < rs.length := by omega
                exact W_ifyes (by simp [d_MAX_RULES, r6']) (by simp only [bkR, qa, qb, if_pos, if_neg kl, if_pos r6]; simp [z2])
              · have r6' : ¬ (6 : Int) < rs.length := by omega
                refine W_ifno (by simp [d_MAX_RULES, r6']) ?_
                have e : bkR (.tuple [.int (k : Int), .int (l : Int), .tuple rs]) = loopR (wsD k l) 0 rs := by
                  simp only [bkR, qa, qb, if_pos, if_neg kl, if_neg r6]
                  rfl
                rw [e]
                exact loop_bk hk hl _ (.tuple rs) (hL' rs rfl) δ .un .un .un
            | _ => exact W_ifyes (by simp) (by simp only [bkR, qa, qb, if_pos, if_neg kl]; simp [z2])
    · have e : ¬ ((ds.length : Int) = 3) := by omega
      rw [bkR_ne h3]
      exact W_ifyes (by simp [e]) (by simp [z2])
  | _ => exact W_ifyes (by simp) (by simp [bkR, z2])
theorem ruR_some (ws : List PyData) (d : PyData) : ruR ws d = .none ∨ ruR ws d = .str "signs" ∨ ruR ws d = .str "sentence" ∨ ruR ws d = .str "formula" := by
  unfold ruR
  split
  · split
    · exact .inr (.inl rfl)
    · split
      · exact .inl rfl
      · exact .inr (.inr (.inl rfl))
  · exact .inr (.inr (.inr rfl))
def bkAll : List PyData := .none :: ([.str "book", .str "kinds", .str "letters", .str "words", .str "rules"].map fun x => .tuple [.none, x]) ++ ((List.range 7).map fun (i : Nat) => [PyData.str "signs", .str "sentence", .str "formula"].map fun x => .tuple [.int (i : Int), x]).flatten
theorem loop_in (ws : List PyData) : ∀ (rs : List PyData) (i : Nat), i + rs.length ≤ 7 → loopR ws i rs ∈ bkAll
  | [], i, _ => by rw [loopR]; exact List.mem_cons_self ..
  | r :: rs, i, h => by
    rw [loopR]
    split
    · exact loop_in ws rs (i + 1) (by simp at h; omega)
    · rename_i q
      have hi : i < 7 := by simp at h; omega
      refine List.mem_append_right _ (List.mem_flatten.mpr ⟨_, List.mem_map.mpr ⟨i, List.mem_range.mpr hi, rfl⟩, ?_⟩)
      rcases ruR_some ws r with e | e | e | e
      · rw [e] at q; exact absurd rfl q
      · rw [e]; simp
      · rw [e]; simp
      · rw [e]; simp
theorem bkR_in (v : PyData) : bkR v ∈ bkAll := by
  have m : ∀ x, x ∈ [PyData.str "book", .str "kinds", .str "letters", .str "words", .str "rules"] → PyData.tuple [.none, x] ∈ bkAll := fun x hx => List.mem_append_left _ (List.mem_cons_of_mem _ (List.mem_map.mpr ⟨x, hx, rfl⟩))
  unfold bkR
  split
  · split
    · split
      · split
        · split
          · exact m _ (by simp)
          · split
            · split
              · exact m _ (by simp)
              · exact loop_in _ _ 0 (by omega)
            · exact m _ (by simp)
        · exact List.mem_cons_self ..
      · exact m _ (by simp)
    · exact m _ (by simp)
  · exact m _ (by simp)
theorem inS_mem0 {l : List PyData} (hl : allS l = true) {x : Str} (h : inS l (.str x) = true) : PyData.str x ∈ l := by
  obtain ⟨y, hy, e⟩ := List.any_eq_true.mp h
  rw [eqv_str] at e
  rw [← e]
  exact hy
mutual
theorem isF_mkL {ws : List PyData} (hw : ∀ x, inS ws (.str x) = true → PyData.str x ∈ leaf0) {L : Nat} : ∀ d : PyData, isF ws d = true → sgn d ≤ L → Mk L d
  | .tuple [], h, _ => by cases h
  | .tuple (hd :: tl), h, hs => by
    obtain ⟨x, tl0, e, hp, hx⟩ := isF_tup h
    injection e with e1 e2
    subst e1
    rw [← e2] at hp
    rw [sgn_mk] at hs
    have hl := len_sgns tl
    refine .tup (by simp; omega) fun d hd => ?_
    rcases List.mem_cons.mp hd with q | q
    · rw [q]
      refine .at ?_
      have h2 : PyData.str x ∈ ao ++ nsa := by
        rcases hx with q | q
        · exact List.mem_append_left _ (inS_mem0 (by decide) q)
        · exact List.mem_append_right _ (inS_mem0 (by decide) q.1)
      have h3 : ∀ d ∈ ao ++ nsa, d ∈ leaf0 := by
        intro d hd
        simp only [ao, nsa, List.mem_append, List.mem_cons, List.not_mem_nil, or_false] at hd
        rcases hd with (rfl | rfl) | (rfl | rfl | rfl) <;> simp [leaf0, odd1]
      exact h3 _ h2
    · exact isFs_mkL hw tl hp (by omega) d q
  | .str x, h, _ => .at (hw x (by rw [isF] at h; exact h))
  | .none, h, _ => by cases h
  | .bool _, h, _ => by cases h
  | .int _, h, _ => by cases h
  | .list _, h, _ => by cases h
  | .dict _, h, _ => by cases h
theorem isFs_mkL {ws : List PyData} (hw : ∀ x, inS ws (.str x) = true → PyData.str x ∈ leaf0) {L : Nat} : ∀ ds : List PyData, (∀ d ∈ ds, isF ws d = true) → sgns ds ≤ L → ∀ d ∈ ds, Mk L d
  | [], _, _, d, h => by cases h
  | d :: ds, h, hs, e, he => by
    simp only [sgns] at hs
    rcases List.mem_cons.mp he with q | q
    · rw [q]; exact isF_mkL hw d (h d (List.mem_cons_self ..)) (by omega)
    · exact isFs_mkL hw ds (fun e he => h e (List.mem_cons_of_mem _ he)) (by omega) e q
end
theorem ws_leaf (k l : Nat) (x : Str) (h : inS (wsD k l) (.str x) = true) : PyData.str x ∈ leaf0 := by
  have h2 := inS_mem0 (wsD_all k l) h
  have : ∀ d ∈ ([.str "A", .str "B", .str "C", .str "p", .str "q"] : List PyData), d ∈ leaf0 := by
    intro d hd
    simp only [List.mem_cons, List.not_mem_nil, or_false] at hd
    rcases hd with rfl | rfl | rfl | rfl | rfl <;> simp [leaf0, odd1]
  refine this _ ?_
  rcases List.mem_append.mp h2 with q | q
  · exact List.mem_append_left [.str "p", .str "q"] (List.mem_of_mem_take q)
  · exact List.mem_append_right [.str "A", .str "B", .str "C"] (List.mem_of_mem_take q)
end VL.cm
set_option Elab.async false
set_option linter.all false
set_option maxRecDepth 100000
namespace VL.cm3
open PySem PySem.Spec L2 VL VL.cm
open PyProof.Rows hiding St
abbrev m_Tdraw : List AV → M PyData := drawM
abbrev m_Tone : List AV → M PyData := pickM
def m_Tkinds : List AV → M PyData := runB 1 1
  (sRet (eSl (eLst (aCons (eC (.str "A")) (aCons (eC (.str "B")) (aCons (eC (.str "C")) aNil)))) pNo (pSo (eVar 0))))
def m_Tletters : List AV → M PyData := runB 1 1
  (sRet (eSl (eLst (aCons (eC (.str "p")) (aCons (eC (.str "q")) aNil))) pNo (pSo (eVar 0))))
def m_Twords : List AV → M PyData := runB 2 2
  (sRet (eBin addC (eCall m_Tkinds (aCons (eVar 0) aNil)) (eCall m_Tletters (aCons (eVar 1) aNil))))
def m_Tformula : Nat → List AV → M PyData
  | 0 => fun _ _ => none
  | n + 1 => runB 5 10
      (sSeq (sSet 5 (eBin addC (eCall m_Tletters (aCons (eVar 2) aNil)) (eIf (cTru (eVar 4)) (eBin mulC (eCall m_Tkinds (aCons (eVar 1) aNil)) (eC (.int 2))) (eLst aNil))))
      (sSeq (sSet 6 (eIf (cBin gtC (eVar 3) (eC (.int 0))) (eCall m_Tdraw (aDeck 0 (aCons (eC (.int 9)) aNil))) (eC (.int 0))))
      (sSeq (sIf (cAnd (cBin ltC (eVar 6) (eC (.int 2))) (cBin neC (eVar 5) (eLst aNil))) (sRet (eCall m_Tone (aDeck 0 (aCons (eVar 5) aNil)))) sNil)
      (sSeq (sIf (cBin eqC (eVar 3) (eC (.int 0))) (sRet (eTup (aCons (eCall m_Tone (aDeck 0 (aCons (eLst (aCons (eC (.str "and")) (aCons (eC (.str "or")) aNil))) aNil))) aNil))) sNil)
      (sSeq (sIf (cBin ltC (eVar 6) (eC (.int 4))) (sRet (eTup (aCons (eC (.str "not")) (aCons (eCall (m_Tformula n) (aDeck 0 (aCons (eVar 1) (aCons (eVar 2) (aCons (eBin subC (eVar 3) (eC (.int 1))) (aCons (eVar 4) aNil)))))) aNil)))) sNil)
      (sSeq (sIf (cBin ltC (eVar 6) (eC (.int 7))) (sSeq (sSet 7 (eCall m_Tone (aDeck 0 (aCons (eLst (aCons (eC (.int 2)) (aCons (eC (.int 2)) (aCons (eC (.int 2)) (aCons (eC (.int 1)) (aCons (eC (.int 3)) (aCons (eC (.int 0)) aNil))))))) aNil))))
      (sSeq (sSet 8 (oE (oComp (iRange1 (eVar 7)) (gN 9) cYes (eCall (m_Tformula n) (aDeck 0 (aCons (eVar 1) (aCons (eVar 2) (aCons (eBin subC (eVar 3) (eC (.int 1))) (aCons (eVar 4) aNil)))))) [9])))
      (sRet (eBin addC (eTup (aCons (eCall m_Tone (aDeck 0 (aCons (eLst (aCons (eC (.str "and")) (aCons (eC (.str "or")) aNil))) aNil))) aNil)) (eUn tupC (eVar 8)))))) sNil)
      (sRet (eTup (aCons (eCall m_Tone (aDeck 0 (aCons (eLst (aCons (eC (.str "some")) (aCons (eC (.str "all")) aNil))) aNil))) (aCons (eCall (m_Tformula n) (aDeck 0 (aCons (eVar 1) (aCons (eVar 2) (aCons (eBin subC (eVar 3) (eC (.int 1))) (aCons (eC (.bool true)) aNil)))))) aNil))))))))))
def m_Tsigns : Nat → List AV → M PyData
  | 0 => fun _ _ => none
  | n + 1 => runB 1 2
      (sSeq (sIf (cTru (eUn (isiC "str") (eVar 0))) (sRet (eC (.int 1))) sNil)
      (sRet (eBin addC (eC (.int 1)) (eUn sumC (oE (oComp (iOf (eSl (eVar 0) (pSo (eC (.int 1))) pNo)) (gN 1) cYes (eCall (m_Tsigns n) (aCons (eVar 1) aNil)) [1]))))))
def m_Tis_formula : Nat → List AV → M PyData
  | 0 => fun _ _ => none
  | n + 1 => runB 2 3
      (sSeq (sIf (cTru (eUn (isiC "str") (eVar 1))) (sRet (eBin (bl inC) (eVar 1) (eVar 0))) sNil)
      (sSeq (sIf (cOr (cNot (cTru (eUn (isiC "tuple") (eVar 1)))) (cOr (cBin eqC (eVar 1) (eTup aNil)) (cNot (cTru (eUn (isiC "str") (eBin ixC (eVar 1) (eC (.int 0)))))))) (sRet (eC (.bool false))) sNil)
      (sSeq (sIf (cBin notInC (eBin ixC (eVar 1) (eC (.int 0))) (eLst (aCons (eC (.str "not")) (aCons (eC (.str "and")) (aCons (eC (.str "or")) (aCons (eC (.str "some")) (aCons (eC (.str "all")) aNil))))))) (sRet (eC (.bool false))) sNil)
      (sSeq (sIf (cAnd (cBin inC (eBin ixC (eVar 1) (eC (.int 0))) (eLst (aCons (eC (.str "not")) (aCons (eC (.str "some")) (aCons (eC (.str "all")) aNil))))) (cBin neC (eUn lenC (eVar 1)) (eC (.int 2)))) (sRet (eC (.bool false))) sNil)
      (sRet (eBin (bl eqC) (oE (oComp (iOf (eSl (eVar 1) (pSo (eC (.int 1))) pNo)) (gN 2) (cNot (cTru (eCall (m_Tis_formula n) (aCons (eVar 0) (aCons (eVar 2) aNil))))) (eC (.int 1)) [2])) (eLst aNil)))))))
def m_Tformula_error : List AV → M PyData := runB 2 2
  (sSeq (sIf (cNot (cTru (eCall (m_Tis_formula 70) (aCons (eVar 0) (aCons (eVar 1) aNil))))) (sRet (eC (.str "formula"))) sNil)
      (sRet (eIf (cBin gtC (eCall (m_Tsigns 70) (aCons (eVar 1) aNil)) (eC (.int 40))) (eC (.str "signs")) (eC .none))))
def m_Tis_sentence : Nat → List AV → M PyData
  | 0 => fun _ _ => none
  | n + 1 => runB 1 2
      (sSeq (sIf (cTru (eUn (isiC "str") (eVar 0))) (sRet (eBin (bl inC) (eVar 0) (eLst (aCons (eC (.str "p")) (aCons (eC (.str "q")) aNil))))) sNil)
      (sRet (eOr (eBin (bl inC) (eBin ixC (eVar 0) (eC (.int 0))) (eLst (aCons (eC (.str "some")) (aCons (eC (.str "all")) aNil)))) (eBin (bl eqC) (oE (oComp (iOf (eSl (eVar 0) (pSo (eC (.int 1))) pNo)) (gN 1) (cNot (cTru (eCall (m_Tis_sentence n) (aCons (eVar 1) aNil)))) (eC (.int 1)) [1])) (eLst aNil)))))
def m_Tspoilt : Nat → List AV → M PyData
  | 0 => fun _ _ => none
  | n + 1 => runB 2 5
      (sSeq (sSet 2 (eLst (aCons (eC .none) (aCons (eC (.bool true)) (aCons (eC (.bool false)) (aCons (eC (.int 0)) (aCons (eC (.int 1)) (aCons (eUn (iD fun i => -i) (eC (.int 1))) (aCons (eC (.str "")) (aCons (eC (.str "A")) (aCons (eC (.str "D")) (aCons (eC (.str "p")) (aCons (eC (.str "r")) (aCons (eC (.str "not")) (aCons (eC (.str "and")) (aCons (eC (.str "xor")) (aCons (eTup aNil) (aCons (eLst aNil) (aCons (eTup (aCons (eC (.str "and")) aNil)) (aCons (eTup (aCons (eC (.str "not")) aNil)) (aCons (eC (.dict [])) aNil)))))))))))))))))))))
      (sSeq (sSet 2 (eBin addC (eVar 2) (eLst (aCons (eTup (aCons (eC (.str "some")) (aCons (eC (.str "A")) (aCons (eC (.str "A")) aNil)))) (aCons (eLst (aCons (eC (.str "or")) aNil)) (aCons (eTup (aCons (eC (.str "A")) aNil)) (aCons (eBin powC (eC (.int 10)) (eC (.int 30))) (aCons (eTup (aCons (eC (.str "not")) (aCons (eC (.str "A")) aNil))) (aCons (eTup (aCons (eC (.str "p")) (aCons (eC (.str "p")) aNil))) (aCons (eC (.str "a")) (aCons (eC (.str "all")) aNil)))))))))))
      (sSeq (sIf (cOr (cNot (cTru (eUn (isiC "tuple") (eVar 1)))) (cOr (cBin eqC (eVar 1) (eTup aNil)) (cBin eqC (eCall m_Tdraw (aDeck 0 (aCons (eC (.int 5)) aNil))) (eC (.int 0))))) (sRet (eCall m_Tone (aDeck 0 (aCons (eBin addC (eVar 2) (eLst (aCons (eLst (aCons (eVar 1) aNil)) (aCons (eTup (aCons (eVar 1) aNil)) aNil)))) aNil)))) sNil)
      (sSeq (sPar 3 4 (eCall m_Tdraw (aDeck 0 (aCons (eUn lenC (eVar 1)) aNil))) (eCall m_Tdraw (aDeck 0 (aCons (eC (.int 7)) aNil))))
      (sSeq (sIf (cBin ltC (eVar 4) (eC (.int 4))) (sRet (eBin addC (eBin addC (eSl (eVar 1) pNo (pSo (eVar 3))) (eTup (aCons (eCall (m_Tspoilt n) (aDeck 0 (aCons (eBin ixC (eVar 1) (eVar 3)) aNil))) aNil))) (eSl (eVar 1) (pSo (eBin addC (eVar 3) (eC (.int 1)))) pNo))) sNil)
      (sRet (eCall m_Tone (aDeck 0 (aCons (eLst (aCons (eBin addC (eSl (eVar 1) pNo (pSo (eVar 3))) (eSl (eVar 1) (pSo (eBin addC (eVar 3) (eC (.int 1)))) pNo)) (aCons (eBin addC (eSl (eVar 1) pNo (pSo (eBin addC (eVar 3) (eC (.int 1))))) (eSl (eVar 1) (pSo (eVar 3)) pNo)) (aCons (eUn revC (eVar 1)) (aCons (oE (oList (eVar 1))) aNil))))) aNil)))))))))
end VL.cm3
set_option Elab.async false
set_option linter.all false
set_option maxRecDepth 100000
set_option maxHeartbeats 2000000
namespace VL.cm3
open PySem PySem.Spec L2 VL VL.cm
open PyProof.Rows hiding St
theorem ev_Twords : ∀ p ∈ prs, Ev (m_Twords [.d (.int (p.1 : Int)), .d (.int (p.2 : Int))]) (.list (wsD p.1 p.2)) :=
  prs_all ⟨fun _ => rfl, fun _ => rfl, fun _ => rfl, fun _ => rfl, fun _ => rfl, fun _ => rfl, fun _ => rfl, fun _ => rfl, fun _ => rfl, fun _ => rfl, fun _ => rfl, fun _ => rfl⟩
def naoT : List PyData := [.str "not", .str "and", .str "or", .str "some", .str "all"]
theorem inS_nao (d : PyData) : inS naoT d = inS nsao d := by
  unfold inS naoT nsao
  simp only [List.any_cons, List.any_nil, Bool.or_false]
  cases (PyData.str "not").eqv d <;> cases (PyData.str "and").eqv d <;> cases (PyData.str "or").eqv d <;> cases (PyData.str "some").eqv d <;> cases (PyData.str "all").eqv d <;> rfl
theorem ev_Tisf {ws : List PyData} (hw : allS ws = true) : ∀ (n : Nat) (d : PyData), d.depth < n → cnt d ≤ 1000000 → Ev (m_Tis_formula n [.d (.list ws), .d d]) (.bool (isF ws d))
  | 0, _, h, _ => absurd h (Nat.not_lt_zero _)
  | n + 1, d, hn, hc => by
    have z3 : 3 ≤ sizeLine := by decide
    have z5 : 5 ≤ sizeLine := by decide
    refine ev_runW rfl fun δ => ?_
    cases d with
    | tuple ds =>
      cases ds with
      | nil =>
        refine W_ifno (by simp) (W_ifyes (by simp [eqC_t0]) ?_)
        simp [isF, isN]
      | cons hd tl =>
        have e1 := isN_law hd tl
        by_cases s : tyN hd = "str"
        · obtain ⟨x, rfl⟩ : ∃ x, hd = .str x := by
            cases hd with
            | str x => exact ⟨x, rfl⟩
            | _ => simp [tyN] at s
          refine W_ifno (by simp) (W_ifno (by simp [eqC_t0, ixT0]) ?_)
          have i5 : ∀ d, inC d (.list [.str "not", .str "and", .str "or", .str "some", .str "all"]) = some (inS nsao d) := fun d => by rw [← inS_nao]; exact inC_l (l := naoT) (by decide) d
          have i3 : ∀ d, inC d (.list [.str "not", .str "some", .str "all"]) = some (inS nsa d) := fun d => inC_l (l := nsa) (by decide) d
          have l2 : (((tl.length : Int) + 1) == 2) = (tl.length + 1 == 2) := by
            by_cases q : tl.length = 1
            · rw [q]; rfl
            · rw [beq_eq_false_iff_ne.mpr (by omega), beq_eq_false_iff_ne.mpr (by omega)]
          cases q1 : inS nsao (.str x) with
          | false =>
            refine W_ifyes (by simp [ixT0, notInC, i5, q1, z5]) ?_
            have : isF ws (.tuple (.str x :: tl)) = false := by rw [isF, e1, q1]; simp
            simp [this]
          | true =>
            refine W_ifno (by simp [ixT0, notInC, i5, q1, z5]) ?_
            cases q2 : (inS nsa (.str x) && !(tl.length + 1 == 2)) with
            | true =>
              rw [Bool.and_eq_true] at q2
              have q3 : (tl.length + 1 == 2) = false := by simpa using q2.2
              refine W_ifyes (by simp [ixT0, i3, q2.1, z3, l2, q3]) ?_
              have : isF ws (.tuple (.str x :: tl)) = false := by rw [isF, e1, q1, q2.1, q3]; simp
              simp [this]
            | false =>
              refine W_ifno ?_ ?_
              · simp [ixT0, i3, z3, l2]
                cases q4 : inS nsa (.str x) with
                | false => simp
                | true => rw [q4] at q2; simpa using q2
              · have hN : isN (.tuple (.str x :: tl)) = true := by
                  rw [e1, q1]
                  cases q4 : inS nsa (.str x) with
                  | false => simp
                  | true => rw [q4] at q2; simpa using q2
                have hlen : tl.length ≤ sizeLine := by
                  have h1 := len_cnts tl
                  have h2 : cnt (.tuple (.str x :: tl)) = 1 + (1 + cnts tl) := rfl
                  exact Nat.le_trans (m := 1000000) (by omega) (by decide)
                have cd : slC (.tuple (.str x :: tl)) (some 1) none = some (.tuple tl) := by
                  show some (PyData.tuple (cutD (.str x :: tl) (some ((1 : Nat) : Int)) none)) = _
                  rw [cut_drop]
                  rfl
                simp [W_oComp, cd, hlen]
                refine W_compE (fun d => !isF ws d) (fun _ => .int 1) (fun d hd => ⟨_, rfl, fun δ => ?_, fun _ δ => by simp⟩) ?_
                · have h1 := mem_depth hd
                  have h2 : (PyData.tuple (.str x :: tl)).depth = max (PyData.str x).depth (PyData.depthAll tl) + 1 := by simp [PyData.depth, PyData.depthAll]
                  have h3 := mem_cnts hd
                  have h4 : cnt (.tuple (.str x :: tl)) = 1 + (1 + cnts tl) := rfl
                  simp [wipeA, W_ev (ev_Tisf hw n d (by omega) (by omega))]
                · rw [eqC_l0]
                  have : isF ws (.tuple (.str x :: tl)) = (tl.filter fun d => !isF ws d).isEmpty := by rw [isF, hN, isF1, isFs_all, filter_none]; rfl
                  rw [this]
                  simp
        · refine W_ifno (by simp) (W_ifyes (by simp [eqC_t0, ixT0, s]) ?_)
          have : isF ws (.tuple (hd :: tl)) = false := by rw [isF, e1, beq_eq_false_iff_ne.mpr s]; rfl
          simp [this]
    | str x =>
      refine W_ifyes (by simp) ?_
      simp [inC_l hw, isF]
    | _ =>
      refine W_ifno (by simp) (W_ifyes (by simp) ?_)
      simp [isF]
theorem ev_Tsigns (ws : List PyData) : ∀ (n : Nat) (d : PyData), isF ws d = true → d.depth < n → cnt d ≤ 1000000 → Ev (m_Tsigns n [.d d]) (.int (sgn d : Int))
  | 0, _, _, h, _ => absurd h (Nat.not_lt_zero _)
  | n + 1, d, hf, hn, hc => by
    refine ev_runW rfl fun δ => ?_
    cases d with
    | str x => exact W_ifyes (by simp) (by simp [sgn])
    | tuple ds =>
      obtain ⟨hd, tl, rfl, hp, _⟩ := parts_of hf
      refine W_ifno (by simp) ?_
      have hlen : tl.length ≤ sizeLine := by
        have h1 := len_cnts tl
        have h2 : cnt (.tuple (hd :: tl)) = 1 + (cnt hd + cnts tl) := rfl
        exact Nat.le_trans (m := 1000000) (by omega) (by decide)
      have cd : slC (.tuple (hd :: tl)) (some 1) none = some (.tuple tl) := by
        show some (PyData.tuple (cutD (hd :: tl) (some ((1 : Nat) : Int)) none)) = _
        rw [cut_drop]
        rfl
      simp [W_oComp, cd, hlen]
      refine W_compE (fun _ => true) (fun d => .int (sgn d : Int)) (fun d hd' => ⟨_, rfl, fun δ => by simp, fun _ δ => ?_⟩) ?_
      · have h1 := mem_depth hd'
        have h2 : (PyData.tuple (hd :: tl)).depth = max hd.depth (PyData.depthAll tl) + 1 := by simp [PyData.depth, PyData.depthAll]
        have h3 := mem_cnts hd'
        have h4 : cnt (.tuple (hd :: tl)) = 1 + (cnt hd + cnts tl) := rfl
        simp [wipeA, W_ev (ev_Tsigns ws n d (hp d hd') (by omega) (by omega))]
      · rw [List.filter_eq_self.mpr (fun _ _ => rfl)]
        have e : sumC (.list (tl.map fun d => .int (sgn d : Int))) = some (.int (((tl.map sgn).sum : Nat) : Int)) := by
          show (intsOf _).map _ = _
          rw [intsOf_map sgn]
          show some (PyData.int _) = _
          rw [sum_cast]
        rw [e, sgn, sgn1, sgns_sum]
        simp
    | _ => cases hf
theorem ev_Tfe {ws : List PyData} (hw : allS ws = true) {d : PyData} (hd : d.depth < 70) (hc : cnt d ≤ 1000000) : Ev (m_Tformula_error [.d (.list ws), .d d]) (feR ws d) := by
  refine ev_runW rfl fun δ => ?_
  have e1 := ev_Tisf hw 70 d hd hc
  unfold feR
  cases q : isF ws d with
  | false =>
    rw [q] at e1
    refine W_ifyes (by simp [W_ev e1]) (by simp)
  | true =>
    rw [q] at e1
    refine W_ifno (by simp [W_ev e1]) ?_
    simp [W_ev (ev_Tsigns ws 70 d q hd hc)]
    by_cases s : 40 < sgn d
    · have : (40 : Int) < (sgn d : Int) := by omega
      simp [s, this]
    · have : ¬ (40 : Int) < (sgn d : Int) := by omega
      simp [s, this]
      omega
theorem ev_Tsent {ws : List PyData} : ∀ (n : Nat) (d : PyData), isF ws d = true → d.depth < n → cnt d ≤ 1000000 → Ev (m_Tis_sentence n [.d d]) (.bool (sen d))
  | 0, _, _, h, _ => absurd h (Nat.not_lt_zero _)
  | n + 1, d, hF, hn, hc => by
    have z2 : 2 ≤ sizeLine := by decide
    refine ev_runW rfl fun δ => ?_
    rcases isF_kind hF with ⟨x, rfl⟩ | ⟨x, tl, rfl, ht⟩
    · refine W_ifyes (by simp) ?_
      have sx : sen (.str x) = inS pq (.str x) := by rw [sen]
      have i2 : inC (.str x) (.list [.str "p", .str "q"]) = some (inS pq (.str x)) := inC_l (l := pq) (by decide) _
      simp [z2, i2, sx]
    · have sx : sen (.tuple (.str x :: tl)) = (inS sa (.str x) || tl.all sen) := by rw [sen, sen1, sens_all]
      have i2 : inC (.str x) (.list [.str "some", .str "all"]) = some (inS sa (.str x)) := inC_l (l := sa) (by decide) _
      have hlen : tl.length ≤ sizeLine := by
        have h1 := len_cnts tl
        have h2 : cnt (.tuple (.str x :: tl)) = 1 + (1 + cnts tl) := rfl
        exact Nat.le_trans (m := 1000000) (by omega) (by decide)
      have cd : slC (.tuple (.str x :: tl)) (some 1) none = some (.tuple tl) := by
        show some (PyData.tuple (cutD (.str x :: tl) (some ((1 : Nat) : Int)) none)) = _
        rw [cut_drop]
        rfl
      refine W_ifno (by simp) ?_
      simp [ixT0, z2, i2]
      rw [sx]
      cases q : inS sa (.str x) with
      | true => simp
      | false =>
        simp [W_oComp, cd, hlen]
        refine W_compE (fun d => !sen d) (fun _ => .int 1) (fun d hd => ⟨_, rfl, fun δ => ?_, fun _ δ => by simp⟩) ?_
        · have h1 := mem_depth hd
          have h2 : (PyData.tuple (.str x :: tl)).depth = max (PyData.str x).depth (PyData.depthAll tl) + 1 := by simp [PyData.depth, PyData.depthAll]
          have h3 := mem_cnts hd
          have h4 : cnt (.tuple (.str x :: tl)) = 1 + (1 + cnts tl) := rfl
          simp [wipeA, W_ev (ev_Tsent n d (ht d hd) (by omega) (by omega))]
        · rw [eqC_l0]
          have : (List.map (fun _ => PyData.int 1) (tl.filter fun d => !sen d)).isEmpty = tl.all sen := by rw [List.isEmpty_map, filter_none]
          rw [this]
          simp
end VL.cm3
set_option Elab.async false
set_option linter.all false
set_option maxRecDepth 100000
set_option maxHeartbeats 2000000
namespace VL.cm3
variable [Ob]
open PySem PySem.Spec L2 VL VL.cm
open PyProof.Rows hiding St
def szT : Nat → Nat
  | 0 => 1
  | n + 1 => 1 + 3 * szT n
theorem szT_pos : ∀ n, 1 ≤ szT n
  | 0 => Nat.le_refl _
  | n + 1 => by show 1 ≤ 1 + 3 * szT n; omega
/-- a formula of k kinds and l letters with at most B signs; a sentence, where no kind may stand outside -/
def Fo (k l : Nat) (w : Bool) (B : Nat) (d : PyData) : Prop := isF (wsD k l) d = true ∧ sgn d ≤ B ∧ (w = false → sen d = true)
theorem kin_w {k : Nat} (hk : k ≤ 3) : Ev (m_Tkinds [.d (.int (k : Int))]) (.list (wsD k 0)) := by
  have : ∀ a : Fin 4, m_Tkinds [.d (.int (a.val : Int))] = M.pur (.list (wsD a.val 0)) := fun a => match a with
    | 0 => rfl
    | 1 => rfl
    | 2 => rfl
    | 3 => rfl
  intro δ
  exact congrFun (this ⟨k, by omega⟩) δ
theorem let_w {l : Nat} (hl : l ≤ 2) : Ev (m_Tletters [.d (.int (l : Int))]) (.list (wsD 0 l)) := by
  have : ∀ a : Fin 3, m_Tletters [.d (.int (a.val : Int))] = M.pur (.list (wsD 0 a.val)) := fun a => match a with
    | 0 => rfl
    | 1 => rfl
    | 2 => rfl
  intro δ
  exact congrFun (this ⟨l, by omega⟩) δ
theorem wsD_len (k l : Nat) : (wsD k l).length ≤ 5 := by
  unfold wsD
  simp
  omega
theorem sgns_le {B : Nat} : ∀ {ds : List PyData}, (∀ d ∈ ds, sgn d ≤ B) → sgns ds ≤ B * ds.length
  | [], _ => by simp [sgns]
  | d :: ds, h => by
    have h1 := h d (by simp)
    have h2 := sgns_le (ds := ds) fun e he => h e (by simp [he])
    simp only [sgns, List.length_cons, Nat.mul_add]
    omega
theorem tot_Tformula {k l : Nat} (hk : k ≤ 3) (hl : l ≤ 2) : ∀ (n D : Nat) (w : Bool), D < n → D ≤ 5 → Tot (m_Tformula n [.deck, .d (.int (k : Int)), .d (.int (l : Int)), .d (.int (D : Int)), .d (.bool w)]) (Fo k l w (szT D))
  | 0, _, _, h, _ => absurd h (Nat.not_lt_zero _)
  | n + 1, D, w, h, h5 => by
    have z1 : 1 ≤ sizeLine := by decide
    have z2 : 2 ≤ sizeLine := by decide
    have z6 : 6 ≤ sizeLine := by decide
    refine tot_runW rfl fun δ g => ?_
    -- the words
    obtain ⟨ws, e0, l0, hw⟩ : ∃ ws : List PyData, addC (.list (wsD 0 l)) (if w = true then .list (wsD k 0 ++ wsD k 0) else .list []) = some (.list ws) ∧ ws.length ≤ 20 ∧ ∀ d ∈ ws, Fo k l w 1 d := by
      have ho : ∀ d ∈ wsD 0 l, Fo k l w 1 d := fun d hd => by
        obtain ⟨q1, q2, q3⟩ := mem_own hd k
        exact ⟨q1, by omega, fun _ => q2⟩
      have hlo := wsD_len 0 l
      cases w with
      | false =>
        refine ⟨wsD 0 l, ?_, by omega, ho⟩
        show (if (wsD 0 l).length + 0 ≤ sizeLine then some (PyData.list (wsD 0 l ++ [])) else none) = _
        rw [if_pos (Nat.le_trans (m := 100) (by omega) (by decide)), List.append_nil]
      | true =>
        have hlk := wsD_len k 0
        refine ⟨wsD 0 l ++ (wsD k 0 ++ wsD k 0), ?_, by simp; omega, fun d hd => ?_⟩
        · show (if (wsD 0 l).length + (wsD k 0 ++ wsD k 0).length ≤ sizeLine then some (PyData.list (wsD 0 l ++ (wsD k 0 ++ wsD k 0))) else none) = _
          rw [if_pos (Nat.le_trans (m := 100) (by simp; omega) (by decide))]
        · rcases List.mem_append.mp hd with q | q
          · exact ho d q
          · have q : d ∈ wsD k 0 := (List.mem_append.mp q).elim id id
            obtain ⟨h1, h2⟩ := ws_F (wsD_all k 0) d q
            exact ⟨isF_sub (kin_sub k l) h1, by omega, fun e => by cases e⟩
    have m2 : mulC (.list (wsD k 0)) (.int 2) = some (.list (wsD k 0 ++ wsD k 0)) := by
      have hlk := wsD_len k 0
      show (if decide ((0 : Int) ≤ 2 ∧ (2 : Int) ≤ 1000 ∧ (wsD k 0).length ≤ 1000) = true then _ else _) = _
      rw [if_pos (decide_eq_true ⟨by decide, by decide, by omega⟩)]
      simp [List.replicate]
    refine W_seq (fun z δ => Good δ ∧ z = [.deck, .dat (.int (k : Int)), .dat (.int (l : Int)), .dat (.int (D : Int)), .dat (.bool w), .dat (.list ws), .un, .un, .un, .un]) ?_ ?_
    · simp [W_ev (let_w hl)]
      cases w with
      | true =>
        simp [W_ev (kin_w hk), m2]
        simp at e0
        simpa [e0] using g
      | false =>
        simp
        simp at e0
        simpa [e0] using g
    rintro z δ ⟨g, rfl⟩
    refine W_seq (fun z δ => Good δ ∧ ∃ r : Int, (D = 0 → r = 0) ∧ z = [.deck, .dat (.int (k : Int)), .dat (.int (l : Int)), .dat (.int (D : Int)), .dat (.bool w), .dat (.list ws), .dat (.int r), .un, .un, .un]) ?_ ?_
    · simp
      by_cases q : 0 < D
      · simp [q]
        exact W_draw (by decide) (by decide) g fun r δ g r0 r1 => ⟨g, r, fun e => by omega, rfl⟩
      · simp [q]
        exact g
    rintro z δ ⟨g, r, hr, rfl⟩
    have up : ∀ {d}, Fo k l w 1 d → Fo k l w (szT D) d := fun {d} q => ⟨q.1, Nat.le_trans q.2.1 (szT_pos D), q.2.2⟩
    by_cases c1 : r < 2 ∧ ws ≠ []
    · refine W_ifyes (by simp [neC_l0, c1.1, c1.2]) ?_
      simp
      exact W_pk g rfl c1.2 (by omega) fun d δ g hd => ⟨g, up (hw d hd)⟩
    refine W_ifno (by
      simp [neC_l0]
      by_cases q : r < 2
      · simp [q]; exact Classical.not_not.mp fun z => c1 ⟨q, z⟩
      · simp [q]) ?_
    have aoF : ∀ d ∈ ([.str "and", .str "or"] : List PyData), ∀ ds : List PyData, (∀ e ∈ ds, isF (wsD k l) e = true) → isF (wsD k l) (.tuple (d :: ds)) = true ∧ sen (.tuple (d :: ds)) = sens ds := fun d hd ds he => by
      refine ⟨isF_mk ?_ he, ?_⟩
      · show (inS ao d || _) = true
        simp only [List.mem_cons, List.not_mem_nil, or_false] at hd
        rcases hd with rfl | rfl <;> simp [inS, ao, PyData.eqv]
      · simp only [List.mem_cons, List.not_mem_nil, or_false] at hd
        have n1 : inS sa (.str "and") = false := by decide +kernel
        have n2 : inS sa (.str "or") = false := by decide +kernel
        rcases hd with rfl | rfl
        · rw [sen, sen1, n1]; rfl
        · rw [sen, sen1, n2]; rfl
    by_cases c2 : D = 0
    · subst c2
      refine W_ifyes (by simp) ?_
      simp [z1, z2]
      refine W_pk g rfl (by simp) (by simp) fun d δ g hd => ⟨g, ?_⟩
      obtain ⟨q1, q2⟩ := aoF d hd [] (fun e he => by cases he)
      exact ⟨q1, by rw [sgn_mk]; simp [sgns, szT], fun _ => by rw [q2]; rfl⟩
    refine W_ifno (by simp [c2]) ?_
    have eD : ((D : Int) - 1) = ((D - 1 : Nat) : Int) := by omega
    have eS : szT D = 1 + 3 * szT (D - 1) := by
      obtain ⟨m, rfl⟩ : ∃ m, D = m + 1 := ⟨D - 1, by omega⟩
      rfl
    have ih := fun w => tot_Tformula hk hl n (D - 1) w (by omega) (by omega)
    by_cases c3 : r < 4
    · refine W_ifyes (by simp [c3]) ?_
      simp [z2, eD]
      refine W_tot (ih w) g fun f δ g ⟨f1, f2, f3⟩ => ⟨g, isF_mk (by show (inS ao (.str "not") || (inS nsa (.str "not") && true)) = true; decide +kernel) fun d hd => by rw [List.mem_singleton.mp hd]; exact f1, ?_, fun q => ?_⟩
      · rw [sgn_mk]; simp only [sgns]; omega
      · rw [sen, sen1]; simp [sens, f3 q]
    refine W_ifno (by simp [c3]) ?_
    by_cases c4 : r < 7
    · refine W_ifyes (by simp [c4]) ?_
      refine W_seq (fun z δ => Good δ ∧ ∃ m : Nat, m ≤ 3 ∧ z = [.deck, .dat (.int (k : Int)), .dat (.int (l : Int)), .dat (.int (D : Int)), .dat (.bool w), .dat (.list ws), .dat (.int r), .dat (.int (m : Int)), .un, .un]) ?_ ?_
      · simp [z6]
        refine W_pk g rfl (by simp) (by simp) fun d δ g hd => ⟨g, ?_⟩
        simp only [List.mem_cons, List.not_mem_nil, or_false] at hd
        rcases hd with rfl | rfl | rfl | rfl | rfl | rfl
        · exact ⟨2, by omega, rfl⟩
        · exact ⟨2, by omega, rfl⟩
        · exact ⟨2, by omega, rfl⟩
        · exact ⟨1, by omega, rfl⟩
        · exact ⟨3, by omega, rfl⟩
        · exact ⟨0, by omega, rfl⟩
      rintro z δ ⟨g, m, hm, rfl⟩
      refine W_seq (fun z δ => Good δ ∧ ∃ fs, fs.length ≤ 3 ∧ (∀ d ∈ fs, Fo k l w (szT (D - 1)) d) ∧ z = [.deck, .dat (.int (k : Int)), .dat (.int (l : Int)), .dat (.int (D : Int)), .dat (.bool w), .dat (.list ws), .dat (.int r), .dat (.int (m : Int)), .dat (.list fs), .un]) ?_ ?_
      · simp [W_oComp, eD]
        refine ⟨by omega, Nat.le_trans (m := 3) (by simpa [rangeD] using hm) (by decide), W_comp0 (fun ds acc δ => Good δ ∧ acc.length + ds.length = m ∧ ∀ d ∈ acc, Fo k l w (szT (D - 1)) d) ⟨g, by simp [rangeD], by simp⟩ ?_ ?_⟩
        · rintro d ds acc δ ⟨g, hn, ha⟩
          refine ⟨_, rfl, ?_⟩
          simp [wipeA, eD]
          refine W_tot (ih w) g fun f δ g hf => ⟨g, by simp at hn; omega, fun v hv => hv.elim (ha v) fun e => e ▸ hf⟩
        · rintro acc δ ⟨g, hn, ha⟩
          exact ⟨g, by simp at hn; omega, ha⟩
      rintro z δ ⟨g, fs, lf, hf, rfl⟩
      simp [z1, z2]
      refine W_pk g rfl (by simp) (by simp) fun d δ g hd => ?_
      have zz : 1 + fs.length ≤ sizeLine := Nat.le_trans (m := 10) (by omega) (by decide)
      have zz' : fs.length + 1 ≤ sizeLine := by omega
      simp [addC, zz, zz']
      obtain ⟨q1, q2⟩ := aoF d hd fs (fun e he => (hf e he).1)
      have s1 := sgns_le fun e he => (hf e he).2.1
      have s2 : szT (D - 1) * fs.length ≤ szT (D - 1) * 3 := Nat.mul_le_mul_left _ lf
      refine ⟨g, q1, by rw [sgn_mk]; omega, fun q => ?_⟩
      rw [q2, sens_all]
      exact List.all_eq_true.mpr fun e he => (hf e he).2.2 q
    refine W_ifno (by simp [c4]) ?_
    simp [z2, eD]
    refine W_pk g rfl (by simp) (by simp) fun d δ g hd => ?_
    refine W_tot (ih true) g fun f δ g ⟨f1, f2, f3⟩ => ?_
    simp only [List.mem_cons, List.not_mem_nil, or_false] at hd
    have hd' : isN (.tuple [d, f]) = true ∧ sen (.tuple [d, f]) = true := by
      rcases hd with rfl | rfl
      · exact ⟨rfl, by rw [sen, sen1]; simp [inS, sa, PyData.eqv]⟩
      · exact ⟨rfl, by rw [sen, sen1]; simp [inS, sa, PyData.eqv]⟩
    refine ⟨g, isF_mk hd'.1 fun e he => by rw [List.mem_singleton.mp he]; exact f1, ?_, fun q => hd'.2⟩
    rw [sgn_mk]; simp only [sgns]; omega
end VL.cm3
set_option Elab.async false
set_option linter.all false
set_option maxRecDepth 100000
set_option maxHeartbeats 2000000
namespace VL.cm
open PySem PySem.Spec L2 VL
open PyProof.Rows hiding St
mutual
def pt : PyData → Nat
  | .tuple ds => 1 + pt1 ds
  | _ => 2
def pt1 : List PyData → Nat
  | [] => 0
  | _ :: ds => pts ds
def pts : List PyData → Nat
  | [] => 0
  | d :: ds => pt d + pts ds
end
end VL.cm
set_option Elab.async false
set_option linter.all false
set_option maxRecDepth 100000
set_option maxHeartbeats 2000000
namespace VL.cm3
open PySem PySem.Spec L2 VL VL.cm
open PyProof.Rows hiding St
end VL.cm3
set_option Elab.async false
set_option linter.all false
set_option maxRecDepth 100000
set_option maxHeartbeats 2000000
namespace VL.cm3
variable [Ob]
open PySem PySem.Spec L2 VL VL.cm
open PyProof.Rows hiding St
/-- ints from i on -/
def enI : Nat → Nat → List PyData
  | _, 0 => []
  | i, n + 1 => .int (i : Int) :: enI (i + 1) n
theorem enI_eq : ∀ (n i : Nat), enI i n = (List.range n).map fun (j : Nat) => PyData.int ((i + j : Nat) : Int)
  | 0, i => rfl
  | n + 1, i => by
    rw [enI, enI_eq n (i + 1), List.range_succ_eq_map, List.map_cons, List.map_map]
    congr 1
    apply List.map_congr_left
    intro j hj
    simp only [Function.comp_apply]
    congr 2
    omega
theorem rangeD_eq (n : Nat) : rangeD 0 n = enI 0 n := by
  rw [enI_eq]
  unfold rangeD
  simp
end VL.cm3
set_option Elab.async false
set_option linter.all false
set_option maxRecDepth 100000
set_option maxHeartbeats 2000000
namespace VL.cm3
variable [Ob]
open PySem PySem.Spec L2 VL VL.cm
open PyProof.Rows hiding St
def od1 : List PyData := [.none, .bool true, .bool false, .int 0, .int 1, .int (-1), .str "", .str "A", .str "D", .str "p", .str "r", .str "not", .str "and", .str "xor", .tuple [], .list [], .tuple [.str "and"], .tuple [.str "not"], .dict []]
def od2 : List PyData := [.tuple [.str "some", .str "A", .str "A"], .list [.str "or"], .tuple [.str "A"], .int (10 ^ 30), .tuple [.str "not", .str "A"], .tuple [.str "p", .str "p"], .str "a", .str "all"]
theorem od_mk {d : PyData} (h : d ∈ od1 ++ od2) : Mk 3 d ∧ cnt d ≤ 4 ∧ d.depth ≤ 2 := by
  have k : (od1 ++ od2).all (fun d => mkB 3 9 d && decide (cnt d ≤ 4 ∧ d.depth ≤ 2)) = true := by decide +kernel
  have := List.all_eq_true.mp k d h
  rw [Bool.and_eq_true] at this
  exact ⟨mk_by this.1, of_decide_eq_true this.2⟩
/-- what may come of a spoilt d -/
def BeT (L : Nat) (d e : PyData) : Prop := Mk (L + 1) e ∧ e.depth ≤ d.depth + 3 ∧ cnt e ≤ 2 * cnt d + 10
theorem bt_tup {L : Nat} {ds es : List PyData} (hl : es.length ≤ L + 1) (hF : ∀ e ∈ es, Mk (L + 1) e ∧ e.depth ≤ PyData.depthAll ds + 3) (hc : cnts es ≤ 2 * cnts ds + 10) : BeT L (.tuple ds) (.tuple es) := by
  have h1 := depthAll_le fun e he => (hF e he).2
  refine ⟨.tup hl fun e he => (hF e he).1, ?_, ?_⟩
  · rw [depth_tup, depth_tup]; omega
  · rw [cnt_tup, cnt_tup]; omega
theorem slT_to (ds : List PyData) (r : Nat) : slC (.tuple ds) none (some (r : Int)) = some (.tuple (ds.take r)) := by
  show some (PyData.tuple (cutD ds none (some ((r : Nat) : Int)))) = _
  rw [cut_take]
theorem slT_from (ds : List PyData) (r : Nat) : slC (.tuple ds) (some (r : Int)) none = some (.tuple (ds.drop r)) := by
  show some (PyData.tuple (cutD ds (some ((r : Nat) : Int)) none)) = _
  rw [cut_drop]
theorem addC_tt {ds es : List PyData} (h : ds.length + es.length ≤ 10000000) : addC (.tuple ds) (.tuple es) = some (.tuple (ds ++ es)) := by
  show (if ds.length + es.length ≤ sizeLine then some (PyData.tuple (ds ++ es)) else none) = _
  rw [if_pos (Nat.le_trans h (by decide))]
theorem addC_ll {ds es : List PyData} (h : ds.length + es.length ≤ 10000000) : addC (.list ds) (.list es) = some (.list (ds ++ es)) := by
  show (if ds.length + es.length ≤ sizeLine then some (PyData.list (ds ++ es)) else none) = _
  rw [if_pos (Nat.le_trans h (by decide))]
theorem tot_Tspoilt {L : Nat} (hL : 3 ≤ L) : ∀ (n : Nat) (d : PyData), d.depth < n → Mk L d → cnt d ≤ 1000000 → Tot (m_Tspoilt n [.deck, .d d]) (BeT L d)
  | 0, _, h, _, _ => absurd h (Nat.not_lt_zero _)
  | n + 1, d, hn, hb, hc => by
    have z1 : 1 ≤ sizeLine := by decide
    have z2 : 2 ≤ sizeLine := by decide
    have z4 : 4 ≤ sizeLine := by decide
    have z8 : 8 ≤ sizeLine := by decide
    refine tot_runA rfl fun R hR δ g => ?_
    have e1 : Ev (eLst (aCons (eC .none) (aCons (eC (.bool true)) (aCons (eC (.bool false)) (aCons (eC (.int 0)) (aCons (eC (.int 1)) (aCons (eUn (iD fun i => -i) (eC (.int 1))) (aCons (eC (.str "")) (aCons (eC (.str "A")) (aCons (eC (.str "D")) (aCons (eC (.str "p")) (aCons (eC (.str "r")) (aCons (eC (.str "not")) (aCons (eC (.str "and")) (aCons (eC (.str "xor")) (aCons (eTup aNil) (aCons (eLst aNil) (aCons (eTup (aCons (eC (.str "and")) aNil)) (aCons (eTup (aCons (eC (.str "not")) aNil)) (aCons (eC (.dict [])) aNil))))))))))))))))))) [.deck, .dat d, .un, .un, .un]) (.list od1) := ev_lst (ds := od1) (fun _ => rfl) (by decide)
    have e2 : ∀ z, Ev (eLst (aCons (eTup (aCons (eC (.str "some")) (aCons (eC (.str "A")) (aCons (eC (.str "A")) aNil)))) (aCons (eLst (aCons (eC (.str "or")) aNil)) (aCons (eTup (aCons (eC (.str "A")) aNil)) (aCons (eBin powC (eC (.int 10)) (eC (.int 30))) (aCons (eTup (aCons (eC (.str "not")) (aCons (eC (.str "A")) aNil))) (aCons (eTup (aCons (eC (.str "p")) (aCons (eC (.str "p")) aNil))) (aCons (eC (.str "a")) (aCons (eC (.str "all")) aNil)))))))) z) (.list od2) := fun z => ev_lst (ds := od2) (fun _ => rfl) (by decide)
    refine W_seqA (fun z δ => Good δ ∧ z = [.deck, .dat d, .dat (.list od1), .un, .un]) (fun A hA => ?_) ?_
    · rw [W_sSet, startA_def]
      show W (eLst _ [.deck, .dat d, .un, .un, .un]) δ _
      rw [W_ev e1]
      exact hA _ _ ⟨g, rfl⟩
    rintro z δ ⟨g, rfl⟩
    refine W_seqA (fun z δ => Good δ ∧ z = [.deck, .dat d, .dat (.list (od1 ++ od2)), .un, .un]) (fun A hA => ?_) ?_
    · rw [W_sSet, W_eBin, W_eVar]
      simp only [datAt_s, datAt_0, oW_some]
      rw [W_ev (e2 _), addC_ll (by decide)]
      exact hA _ _ ⟨g, rfl⟩
    rintro z δ ⟨g, rfl⟩
    have od : ∀ e ∈ od1 ++ od2, BeT L d e := fun e he => by
      obtain ⟨h1, h2, h3⟩ := od_mk he
      exact ⟨h1.mono (by omega), by omega, by omega⟩
    have lod : (od1 ++ od2).length = 27 := by decide
    -- one of the odd ones, or the value within another
    have odd : ∀ δ, Good δ → W (sRet (eCall m_Tone (aDeck 0 (aCons (eBin addC (eVar 2) (eLst (aCons (eLst (aCons (eVar 1) aNil)) (aCons (eTup (aCons (eVar 1) aNil)) aNil)))) aNil))) [.deck, .dat d, .dat (.list (od1 ++ od2)), .un, .un]) δ fun fl δ => ∃ r, fl = .rt r ∧ R r δ := fun δ g => by
      generalize od1 ++ od2 = os at od lod
      simp [z1, z2, addC_ll (ds := os) (es := [.list [d], .tuple [d]]) (by simp; omega)]
      refine W_pk g rfl (by simp) (by simp; omega) fun e δ g he => hR _ _ g ?_
      rcases List.mem_append.mp he with q | q
      · exact od e q
      · simp only [List.mem_cons, List.not_mem_nil, or_false] at q
        rcases q with rfl | rfl
        · refine ⟨.lst (by simp) fun x hx => by rw [List.mem_singleton.mp hx]; exact hb.mono (by omega), ?_, ?_⟩
          · rw [depth_lst]; simp [PyData.depthAll]
          · rw [cnt_lst]; simp [cnts]; omega
        · refine ⟨.tup (by simp) fun x hx => by rw [List.mem_singleton.mp hx]; exact hb.mono (by omega), ?_, ?_⟩
          · rw [depth_tup]; simp [PyData.depthAll]
          · rw [cnt_tup]; simp [cnts]; omega
    have out : ∀ {δ : DS}, W (sRet (eCall m_Tone (aDeck 0 (aCons (eBin addC (eVar 2) (eLst (aCons (eLst (aCons (eVar 1) aNil)) (aCons (eTup (aCons (eVar 1) aNil)) aNil)))) aNil))) [.deck, .dat d, .dat (.list (od1 ++ od2)), .un, .un]) δ (fun fl δ => ∃ r, fl = .rt r ∧ R r δ) → W (sRet (eCall m_Tone (aDeck 0 (aCons (eBin addC (eVar 2) (eLst (aCons (eLst (aCons (eVar 1) aNil)) (aCons (eTup (aCons (eVar 1) aNil)) aNil)))) aNil))) [.deck, .dat d, .dat (.list (od1 ++ od2)), .un, .un]) δ fun fl δ => ∃ d, fl = .rt d ∧ W (flD (.rt d)) δ fun b δ2 => R b δ2 := fun h => h.mono fun fl δ ⟨r, e, q⟩ => ⟨r, e, W_rt.mpr q⟩
    by_cases t : ¬ ∃ ds, d = .tuple ds ∧ ds ≠ []
    · refine W_ifyes ?_ (out (odd δ g))
      rcases hb.kind with hx | ⟨ds, rfl⟩
      · have hx' : tyN d ≠ "tuple" := by simpa using hx
        simp [hx']
      · have : ds = [] := Classical.not_not.mp fun z => t ⟨ds, rfl, z⟩
        subst this
        simp [eqC_t0]
    obtain ⟨ds, rfl, hne⟩ := Classical.not_not.mp t
    have hl : 0 < ds.length := List.length_pos_iff.mpr hne
    have lds := len_cnts ds
    have cd := cnt_tup ds
    have hie : ds.isEmpty = false := by simpa using hne
    refine W_ifret (fun _ δ => Good δ) ?_ (fun δ g => out (odd δ g)) fun δ g => ?_
    · simp [eqC_t0, hie]
      exact W_draw (by decide) (by decide) g fun r δ g _ _ => by simpa using g
    refine W_seqA (fun z δ => Good δ ∧ ∃ (r : Nat) (w : Int), r < ds.length ∧ z = [.deck, .dat (.tuple ds), .dat (.list (od1 ++ od2)), .dat (.int (r : Int)), .dat (.int w)]) (fun A hA => ?_) ?_
    · simp
      refine W_draw (by omega) (by omega) g fun r δ g r0 r1 => ?_
      refine W_draw (by decide) (by decide) g fun w δ g _ _ => hA _ _ ⟨g, r.toNat, w, by omega, ?_⟩
      rw [Int.toNat_of_nonneg r0]
    rintro z δ ⟨g, r, w, hr, rfl⟩
    have hm : ds[r] ∈ ds := List.getElem_mem hr
    have bp := hb.parts _ hm
    have cp := mem_cnts hm
    have dp := mem_depth hm
    have dd := depth_tup ds
    have fp : ∀ e ∈ ds, Mk (L + 1) e ∧ e.depth ≤ PyData.depthAll ds + 3 := fun e he => ⟨(hb.parts e he).mono (by omega), Nat.le_trans (mem_depth he) (by omega)⟩
    have lt := List.length_take (i := r) (l := ds)
    have ld := List.length_drop (i := r + 1) (l := ds)
    have hbl := hb.len
    have a1 := cnts_take r ds
    have a2 : cnts (ds.drop r) = cnt ds[r] + cnts (ds.drop (r + 1)) := by rw [List.drop_eq_getElem_cons hr]; rfl
    have r1 : ((r : Int) + 1) = ((r + 1 : Nat) : Int) := by omega
    by_cases c : w < 4
    · refine W_ifyes (by simp [c]) ?_
      have ix : ixC (.tuple ds) (.int (r : Int)) = some ds[r] := atI_nat (List.getElem?_eq_getElem hr)
      simp [slT_to, ix]
      refine W_tot (tot_Tspoilt hL n ds[r] (by omega) bp (by omega)) g fun e δ g ⟨q1, q2, q3⟩ => ?_
      rw [r1, slT_from]
      simp [z1, addC_tt (ds := ds.take r) (es := [e]) (by simp; omega), addC_tt (ds := ds.take r ++ [e]) (es := ds.drop (r + 1)) (by simp; omega)]
      refine hR _ _ g (bt_tup (by simp; omega) (fun x hx => ?_) ?_)
      · simp only [List.mem_append, List.mem_cons] at hx
        rcases hx with q | rfl | q
        · exact fp x (List.mem_of_mem_take q)
        · exact ⟨q1, by omega⟩
        · exact fp x (List.mem_of_mem_drop q)
      · rw [cnts_app]
        simp only [cnts]
        omega
    · refine W_ifno (by simp [c]) ?_
      simp [slT_to]
      rw [r1, slT_from, slT_to, slT_from]
      have lt2 := List.length_take (i := r + 1) (l := ds)
      have ld2 := List.length_drop (i := r) (l := ds)
      have a3 := cnts_take (r + 1) ds
      simp [z4, addC_tt (ds := ds.take r) (es := ds.drop (r + 1)) (by omega), addC_tt (ds := ds.take (r + 1)) (es := ds.drop r) (by omega)]
      have rv : revC (.tuple ds) = some (.tuple ds.reverse) := rfl
      simp [rv, z4]
      refine W_pk g rfl (by simp) (by simp) fun e δ g he => hR _ _ g ?_
      simp only [List.mem_cons, List.not_mem_nil, or_false] at he
      rcases he with rfl | rfl | rfl | rfl
      · refine bt_tup (by simp; omega) (fun x hx => ?_) (by rw [cnts_app]; omega)
        exact fp x ((List.mem_append.mp hx).elim List.mem_of_mem_take List.mem_of_mem_drop)
      · refine bt_tup (by simp; omega) (fun x hx => ?_) (by rw [cnts_app]; omega)
        exact fp x ((List.mem_append.mp hx).elim List.mem_of_mem_take List.mem_of_mem_drop)
      · exact bt_tup (by simp; omega) (fun x hx => fp x (List.mem_reverse.mp hx)) (by rw [cnts_rev]; omega)
      · refine ⟨.lst (by omega) fun x hx => (fp x hx).1, ?_, ?_⟩
        · rw [depth_lst, dd]; omega
        · rw [cnt_lst, cd]; omega
end VL.cm3
set_option Elab.async false
set_option linter.all false
set_option maxRecDepth 100000
set_option maxHeartbeats 2000000
namespace VL.cm3
variable [Ob]
open PySem PySem.Spec VL VL.cm
open L2 hiding prD
open PyProof.Rows hiding St
theorem Fine.mono {A B : List PyData} (s : ∀ d ∈ A, d ∈ B) {d : PyData} (h : Fine A d) : Fine B d := by
  induction h with
  | «at» q => exact .at (s _ q)
  | tup _ ih => exact .tup ih
  | lst _ ih => exact .lst ih
def leafX : List PyData := leaf0 ++ [.str "told", .str "long", .str "ring", .str "text", .str "other"] ++ (List.range 64).map fun (n : Nat) => PyData.int (n : Int)
theorem leafX_ok : ∀ d ∈ leafX, leafOk d = true := by
  have h : leafX.all leafOk = true := by decide +kernel
  exact fun d hd => List.all_eq_true.mp h d hd
/-- at most D deep, of at most N parts, to be shown -/
structure Rp (D N : Nat) (d : PyData) : Prop where
  f : Fine leafX d
  h : d.depth ≤ D
  c : cnt d ≤ N
theorem Rp.repr {D N : Nat} {d : PyData} (r : Rp D N d) (hD : D ≤ 100 := by omega) (hN : N ≤ 300000 := by omega) : reprC d = some (.str d.shown) := by
  unfold reprC
  rw [if_pos (r.f.repr leafX_ok (by have := r.h; omega) (by have := r.c; omega))]
theorem Rp.mono {D N D' N' : Nat} {d : PyData} (r : Rp D N d) (h1 : D ≤ D') (h2 : N ≤ N') : Rp D' N' d := ⟨r.f, Nat.le_trans r.h h1, Nat.le_trans r.c h2⟩
theorem cnts_all {N : Nat} : ∀ {ds : List PyData}, (∀ d ∈ ds, cnt d ≤ N) → cnts ds ≤ N * ds.length
  | [], _ => by simp [cnts]
  | d :: ds, h => by
    have h1 := h d (by simp)
    have h2 := cnts_all (ds := ds) fun e he => h e (by simp [he])
    simp only [cnts, List.length_cons, Nat.mul_add]
    omega
theorem Rp.tup {D N : Nat} {ds : List PyData} (h : ∀ d ∈ ds, Rp D N d) : Rp (D + 1) (1 + N * ds.length) (.tuple ds) :=
  ⟨.tup fun d hd => (h d hd).f, by rw [depth_tup]; have := depthAll_le (D := D) fun d hd => (h d hd).h; omega, by rw [cnt_tup]; have := cnts_all fun d hd => (h d hd).c; omega⟩
theorem Rp.lst {D N : Nat} {ds : List PyData} (h : ∀ d ∈ ds, Rp D N d) : Rp (D + 1) (1 + N * ds.length) (.list ds) :=
  ⟨.lst fun d hd => (h d hd).f, by rw [depth_lst]; have := depthAll_le (D := D) fun d hd => (h d hd).h; omega, by rw [cnt_lst]; have := cnts_all fun d hd => (h d hd).c; omega⟩
theorem Rp.leaf {D N : Nat} {d : PyData} (h : d ∈ leafX) (hc : cnt d = 1) (hd : d.depth = 0) (hN : 1 ≤ N := by omega) : Rp D N d := ⟨.at h, by omega, by omega⟩
theorem Rp.int {D N n : Nat} (h : n < 64) (hN : 1 ≤ N := by omega) : Rp D N (.int (n : Int)) := .leaf (List.mem_append_right _ (List.mem_map.mpr ⟨n, List.mem_range.mpr h, rfl⟩)) rfl rfl hN
theorem Rp.F {k l : Nat} {d : PyData} (h : isF (wsD k l) d = true) : Rp (sgn d) (2 * sgn d) d := by
  obtain ⟨h1, h2⟩ := isF_size (wsD k l) d h
  exact ⟨Fine.mono (fun d hd => List.mem_append_left _ (List.mem_append_left _ hd)) (isF_mkL (ws_leaf k l) d h (Nat.le_refl _)).fine, h2, h1⟩
theorem enI_len (n i : Nat) : (enI i n).length = n := by rw [enI_eq]; simp
end VL.cm3
set_option Elab.async false
set_option linter.all false
set_option maxRecDepth 100000
namespace VL.cm4
open PySem PySem.Spec L2 VL VL.cm VL.cm3
open PyProof.Rows hiding St
def m_Tboth : List AV → M PyData := runB 2 2
  (sRet (eTup (aCons (eC (.str "or")) (aCons (eTup (aCons (eC (.str "and")) (aCons (eVar 0) (aCons (eVar 1) aNil)))) (aCons (eTup (aCons (eC (.str "and")) (aCons (eTup (aCons (eC (.str "not")) (aCons (eVar 0) aNil))) (aCons (eTup (aCons (eC (.str "not")) (aCons (eVar 1) aNil))) aNil)))) aNil)))))
def m_Tsentence : List AV → M PyData := runB 3 6
  (sSeq (sSet 3 (eCall m_Tdraw (aDeck 0 (aCons (eC (.int 6)) aNil))))
      (sSeq (sPar 4 5 (eCall (m_Tformula 8) (aDeck 0 (aCons (eVar 1) (aCons (eVar 2) (aCons (eC (.int 1)) (aCons (eC (.bool true)) aNil)))))) (eCall (m_Tformula 8) (aDeck 0 (aCons (eVar 1) (aCons (eVar 2) (aCons (eC (.int 2)) (aCons (eC (.bool true)) aNil)))))))
      (sSeq (sIf (cBin eqC (eVar 3) (eC (.int 0))) (sRet (eTup (aCons (eC (.str "all")) (aCons (eTup (aCons (eC (.str "or")) (aCons (eTup (aCons (eC (.str "not")) (aCons (eVar 4) aNil))) (aCons (eVar 5) aNil)))) aNil)))) sNil)
      (sSeq (sIf (cBin eqC (eVar 3) (eC (.int 1))) (sRet (eTup (aCons (eC (.str "all")) (aCons (eCall m_Tboth (aCons (eCall m_Tone (aDeck 0 (aCons (eCall m_Twords (aCons (eVar 1) (aCons (eVar 2) aNil))) aNil))) (aCons (eVar 5) aNil))) aNil)))) sNil)
      (sSeq (sIf (cAnd (cBin eqC (eVar 3) (eC (.int 2))) (cBin gtC (eVar 2) (eC (.int 0)))) (sRet (eCall m_Tboth (aCons (eCall m_Tone (aDeck 0 (aCons (eCall m_Tletters (aCons (eVar 2) aNil)) aNil))) (aCons (eTup (aCons (eC (.str "some")) (aCons (eVar 5) aNil))) aNil)))) sNil)
      (sSeq (sIf (cBin eqC (eVar 3) (eC (.int 3))) (sRet (eTup (aCons (eC (.str "some")) (aCons (eVar 4) aNil)))) sNil)
      (sRet (eCall (m_Tformula 8) (aDeck 0 (aCons (eVar 1) (aCons (eVar 2) (aCons (eC (.int 3)) (aCons (eC (.bool false)) aNil)))))))))))))
def m_Tbook : List AV → M PyData := runB 3 5
  (sSeq (sSet 3 (oE (oComp (iRange1 (eCall m_Tone (aDeck 0 (aCons (eLst (aCons (eC (.int 0)) (aCons (eC (.int 1)) (aCons (eC (.int 1)) (aCons (eC (.int 2)) (aCons (eC (.int 2)) (aCons (eC (.int 3)) aNil))))))) aNil)))) (gN 4) cYes (eCall m_Tsentence (aDeck 0 (aCons (eVar 1) (aCons (eVar 2) aNil)))) [4])))
      (sRet (eTup (aCons (eVar 1) (aCons (eVar 2) (aCons (eUn tupC (eVar 3)) aNil))))))
end VL.cm4
set_option Elab.async false
set_option linter.all false
set_option maxRecDepth 100000
namespace VL.cm
open PySem PySem.Spec L2 VL
open PyProof.Rows hiding St
end VL.cm
set_option Elab.async false
set_option linter.all false
set_option maxRecDepth 100000
set_option maxHeartbeats 2000000
namespace VL.cm
open PySem PySem.Spec L2 VL
open PyProof.Rows hiding St
section
variable {α : Type} [Inhabited α]
mutual
def fd (ow : Str → α) (op : Str → List α → α) : PyData → α
  | .str x => ow x
  | .tuple ds => fd1 ow op ds
  | _ => default
def fd1 (ow : Str → α) (op : Str → List α → α) : List PyData → α
  | .str h :: ds => op h (fds ow op ds)
  | _ => default
def fds (ow : Str → α) (op : Str → List α → α) : List PyData → List α
  | [] => []
  | d :: ds => fd ow op d :: fds ow op ds
end
end
instance : Inhabited PyData := ⟨.none⟩
end VL.cm
set_option Elab.async false
set_option linter.all false
set_option maxRecDepth 100000
set_option maxHeartbeats 2000000
namespace VL.cm
open PySem PySem.Spec L2 VL
open PyProof.Rows hiding St
end VL.cm
set_option Elab.async false
set_option linter.all false
set_option maxRecDepth 100000
set_option maxHeartbeats 2000000
namespace VL.cm4
variable [Ob]
open PySem PySem.Spec VL VL.cm VL.cm3
open L2 hiding prD
open PyProof.Rows hiding St
def bothD (x f : PyData) : PyData := .tuple [.str "or", .tuple [.str "and", x, f], .tuple [.str "and", .tuple [.str "not", x], .tuple [.str "not", f]]]
theorem ev_both (a b : PyData) : Ev (m_Tboth [.d a, .d b]) (bothD a b) := by
  have z2 : 2 ≤ sizeLine := by decide
  have z3 : 3 ≤ sizeLine := by decide
  refine ev_runW rfl fun δ => ?_
  simp [z2, z3, bothD]
theorem both_F {ws : List PyData} {x f : PyData} (h : isF ws x = true) (hf : isF ws f = true) : isF ws (bothD x f) = true ∧ sgn (bothD x f) = 5 + 2 * sgn x + 2 * sgn f ∧ (sen x = true → sen f = true → sen (bothD x f) = true) := by
  refine ⟨isF_mk (by rfl) fun e he => ?_, ?_, fun h1 h2 => ?_⟩
  · simp only [List.mem_cons, List.not_mem_nil, or_false] at he
    rcases he with rfl | rfl
    · refine isF_mk (by rfl) fun e he => ?_
      simp only [List.mem_cons, List.not_mem_nil, or_false] at he
      rcases he with rfl | rfl
      · exact h
      · exact hf
    · refine isF_mk (by rfl) fun e he => ?_
      simp only [List.mem_cons, List.not_mem_nil, or_false] at he
      rcases he with rfl | rfl
      · exact isF_mk (by rfl) fun e he => by rw [List.mem_singleton.mp he]; exact h
      · exact isF_mk (by rfl) fun e he => by rw [List.mem_singleton.mp he]; exact hf
  · unfold bothD; simp [sgn_mk, sgns]; omega
  · unfold bothD; simp [sen, sen1, sens, h1, h2]
/-- a sentence of at most 40 signs -/
def Sk (k l : Nat) (d : PyData) : Prop := isF (wsD k l) d = true ∧ sen d = true ∧ sgn d ≤ 40
theorem sen_sa {h : Str} {a : PyData} (hh : inS sa (.str h) = true) : sen (.tuple [.str h, a]) = true := by rw [sen, sen1, hh]; rfl
theorem W_draw6 {b : Int} {δ : DS} {Q : PyData → DS → Prop} (h0 : 0 < b) (h1 : b < 1073741824) (g : Good δ) (k : ∀ (r : Nat) δ', Good δ' → (r : Int) < b → Q (.int (r : Int)) δ') : W (drawM [.deck, .d (.int b)]) δ Q :=
  W_draw h0 h1 g fun r δ' g' r0 r1 => by
    have := k r.toNat δ' g' (by omega)
    rwa [show ((r.toNat : Nat) : Int) = r by omega] at this
theorem tot_Tsentence {k l : Nat} (hk : k ≤ 3) (hl : l ≤ 2) (h1 : 1 ≤ k + l) : Tot (m_Tsentence [.deck, .d (.int (k : Int)), .d (.int (l : Int))]) (Sk k l) := by
  have z1 : 1 ≤ sizeLine := by decide
  have z2 : 2 ≤ sizeLine := by decide
  have z3 : 3 ≤ sizeLine := by decide
  refine tot_runW rfl fun δ g => ?_
  refine W_seqA (fun z δ => Good δ ∧ ∃ r : Nat, z = [.deck, .dat (.int (k : Int)), .dat (.int (l : Int)), .dat (.int (r : Int)), .un, .un]) (fun A hA => ?_) ?_
  · simp
    exact W_draw6 (by decide) (by decide) g fun r δ g r1 => hA _ _ ⟨g, r, rfl⟩
  rintro z δ ⟨g, r, rfl⟩
  refine W_seqA (fun z δ => Good δ ∧ ∃ a b, Fo k l true 4 a ∧ Fo k l true 13 b ∧ z = [.deck, .dat (.int (k : Int)), .dat (.int (l : Int)), .dat (.int (r : Int)), .dat a, .dat b]) (fun A hA => ?_) ?_
  · simp
    refine W_tot (tot_Tformula hk hl 8 1 true (by omega) (by omega)) g fun a δ g ha => ?_
    refine W_tot (tot_Tformula hk hl 8 2 true (by omega) (by omega)) g fun b δ g hb => ?_
    exact hA _ _ ⟨g, a, b, ha, hb, rfl⟩
  rintro z δ ⟨g, a, b, ⟨a1, a2, _⟩, ⟨b1, b2, _⟩, rfl⟩
  by_cases c0 : r = 0
  · subst c0
    refine W_ifyes (by simp) ?_
    simp [z1, z2, z3]
    refine ⟨g, isF_mk (by rfl) fun e he => ?_, sen_sa (by rfl), ?_⟩
    · rw [List.mem_singleton.mp he]
      refine isF_mk (by rfl) fun e he => ?_
      simp only [List.mem_cons, List.not_mem_nil, or_false] at he
      rcases he with rfl | rfl
      · exact isF_mk (by rfl) fun e he => by rw [List.mem_singleton.mp he]; exact a1
      · exact b1
    · simp [sgn_mk, sgns]; omega
  refine W_ifno (by simp [c0]) ?_
  by_cases c1 : r = 1
  · subst c1
    refine W_ifyes (by simp) ?_
    simp [W_ev (ev_Twords (k, l) (mem_prs hk hl))]
    have lw := cm.wsD_len k l
    have ne : wsD k l ≠ [] := fun q => by rw [q] at lw; simp at lw; omega
    refine W_pk g rfl ne (by omega) fun x δ g hx => ?_
    obtain ⟨f1, f2⟩ := ws_F (wsD_all k l) x hx
    obtain ⟨q1, q2, _⟩ := both_F f1 b1
    simp [W_ev (ev_both x b), z2]
    refine ⟨g, isF_mk (by rfl) fun e he => by rw [List.mem_singleton.mp he]; exact q1, sen_sa (by rfl), ?_⟩
    simp [sgn_mk, sgns, q2]; omega
  refine W_ifno (by simp; omega) ?_
  by_cases c2 : r = 2 ∧ 0 < l
  · obtain ⟨rfl, l0⟩ := c2
    refine W_ifyes (by simp [l0]) ?_
    simp [W_ev (let_w hl)]
    have lw := cm.wsD_len 0 l
    have ne : wsD 0 l ≠ [] := fun q => by rw [q] at lw; simp at lw; omega
    refine W_pk g rfl ne (by omega) fun x δ g hx => ?_
    obtain ⟨o1, o2, o3⟩ := mem_own hx k
    have sF : isF (wsD k l) (.tuple [.str "some", b]) = true := isF_mk (by rfl) fun e he => by rw [List.mem_singleton.mp he]; exact b1
    obtain ⟨q1, q2, q3⟩ := both_F o1 sF
    simp [z2, W_ev (ev_both x (.tuple [.str "some", b]))]
    refine ⟨g, q1, q3 o2 (sen_sa (by rfl)), ?_⟩
    rw [q2]
    simp [sgn_mk, sgns]; omega
  refine W_ifno (by simp; intro h; omega) ?_
  by_cases c3 : r = 3
  · subst c3
    refine W_ifyes (by simp) ?_
    simp [z2]
    refine ⟨g, isF_mk (by rfl) fun e he => by rw [List.mem_singleton.mp he]; exact a1, sen_sa (by rfl), ?_⟩
    simp [sgn_mk, sgns]; omega
  refine W_ifno (by simp; omega) ?_
  simp
  refine W_tot (tot_Tformula hk hl 8 3 false (by omega) (by omega)) g fun f δ g ⟨f1, f2, f3⟩ => ⟨g, f1, f3 rfl, f2⟩
theorem tot_Tbook {k l : Nat} (hk : k ≤ 3) (hl : l ≤ 2) (h1 : 1 ≤ k + l) : Tot (m_Tbook [.deck, .d (.int (k : Int)), .d (.int (l : Int))]) (fun d => ∃ rs, d = .tuple [.int (k : Int), .int (l : Int), .tuple rs] ∧ rs.length ≤ 3 ∧ ∀ r ∈ rs, Sk k l r) := by
  have z3 : 3 ≤ sizeLine := by decide
  have z6 : 6 ≤ sizeLine := by decide
  refine tot_runW rfl fun δ g => ?_
  refine W_seqA (fun z δ => Good δ ∧ ∃ rs, rs.length ≤ 3 ∧ (∀ r ∈ rs, Sk k l r) ∧ z = [.deck, .dat (.int (k : Int)), .dat (.int (l : Int)), .dat (.list rs), .un]) (fun A hA => ?_) ?_
  · simp [W_oComp, z6]
    refine W_pk g rfl (by simp) (by simp) fun m δ g hm => ?_
    obtain ⟨n, rfl, hn⟩ : ∃ n : Nat, m = .int (n : Int) ∧ n ≤ 3 := by
      simp only [List.mem_cons, List.not_mem_nil, or_false] at hm
      rcases hm with rfl | rfl | rfl | rfl | rfl | rfl
      · exact ⟨0, rfl, by omega⟩
      · exact ⟨1, rfl, by omega⟩
      · exact ⟨1, rfl, by omega⟩
      · exact ⟨2, rfl, by omega⟩
      · exact ⟨2, rfl, by omega⟩
      · exact ⟨3, rfl, by omega⟩
    simp
    refine ⟨by omega, ?_, ?_⟩
    · rw [rangeD_eq, enI_len]
      exact Nat.le_trans (m := 3) hn (by decide)
    · rw [rangeD_eq]
      refine W_comp0 (fun ds acc δ => Good δ ∧ acc.length + ds.length = n ∧ ∀ r ∈ acc, Sk k l r) ⟨g, by simp [enI_len], by simp⟩ ?_ ?_
      · rintro d ds acc δ ⟨g, hn', ha⟩
        refine ⟨_, rfl, ?_⟩
        simp [wipeA]
        refine W_tot (tot_Tsentence hk hl h1) g fun f δ g hf => ⟨g, by simp at hn'; omega, fun v hv => hv.elim (ha v) fun e => e ▸ hf⟩
      · rintro acc δ ⟨g, hn', ha⟩
        exact hA _ _ ⟨g, acc, by simp at hn'; omega, ha, rfl⟩
  rintro z δ ⟨g, rs, lr, hr, rfl⟩
  simp [z3]
  exact ⟨g, lr, hr⟩
end VL.cm4
set_option Elab.async false
set_option linter.all false
set_option maxRecDepth 100000
namespace VL.cm5
open PySem PySem.Spec L2 VL VL.cm VL.cm3 VL.cm4
open PyProof.Rows hiding St
end VL.cm5
set_option Elab.async false
set_option linter.all false
set_option maxRecDepth 100000
namespace VL.cm14
open PySem PySem.Spec L2 VL VL.cm VL.cm3 VL.cm4 VL.cm5
open PyProof.Rows hiding St
def m_check_book : List AV → M XR := runX 1 2
  (sSeq (sSet 1 (eCall m_book_error (aCons (eVar 0) aNil)))
      (sIf (cBin isNotC (eVar 1) (eC .none)) (sRaise1 "BadBook" "error" (eVar 1)) sNil))
def m_Shelf_init : List AV → M XR := runX 2 2
  (sSeq (sDropX (xCall m_check_book (aCons (eVar 1) aNil)))
      (sSeq (sAFlds 0 ["Shelf"] ["_kinds", "_letters", "_rules"] (eVar 1))
      (sSeq (sAFld 0 ["Shelf"] "_earlier" (eTup aNil))
      (sAFld 0 ["Shelf"] "_later" (eTup aNil)))))
def m_Shelf_book : List AV → M PyData := runB 1 1
  (sRet (eTup (aCons (eAFld 0 ["Shelf"] "_kinds") (aCons (eAFld 0 ["Shelf"] "_letters") (aCons (eAFld 0 ["Shelf"] "_rules") aNil)))))
def m_Shelf_version : List AV → M PyData := runB 1 1
  (sRet (eUn lenC (eAFld 0 ["Shelf"] "_earlier")))
def m_Shelf___len__ : List AV → M PyData := runB 1 1
  (sRet (eUn lenC (eAFld 0 ["Shelf"] "_rules")))
def m_Twhole : List AV → M PyData := runB 3 3
  (sRet (eAnd (eUn isiIC (eVar 0)) (eAnd (eNot (eUn (isiC "bool") (eVar 0))) (eChain leC leC (eVar 1) (eVar 0) (eVar 2)))))
def m_Tbook_error : List AV → M PyData := runB 1 4
  (sSeq (sIf (cOr (cNot (cTru (eUn (isiC "tuple") (eVar 0)))) (cBin neC (eUn lenC (eVar 0)) (eC (.int 3)))) (sRet (eTup (aCons (eC .none) (aCons (eC (.str "book")) aNil)))) sNil)
      (sSeq (sIf (cNot (cTru (eCall m_Twhole (aCons (eBin ixC (eVar 0) (eC (.int 0))) (aCons (eC (.int 0)) (aCons (eC (.int 3)) aNil)))))) (sRet (eTup (aCons (eC .none) (aCons (eC (.str "kinds")) aNil)))) sNil)
      (sSeq (sIf (cNot (cTru (eCall m_Twhole (aCons (eBin ixC (eVar 0) (eC (.int 1))) (aCons (eC (.int 0)) (aCons (eC (.int 2)) aNil)))))) (sRet (eTup (aCons (eC .none) (aCons (eC (.str "letters")) aNil)))) sNil)
      (sSeq (sIf (cBin eqC (eBin addC (eBin ixC (eVar 0) (eC (.int 0))) (eBin ixC (eVar 0) (eC (.int 1)))) (eC (.int 0))) (sRet (eTup (aCons (eC .none) (aCons (eC (.str "words")) aNil)))) sNil)
      (sSeq (sIf (cOr (cNot (cTru (eUn (isiC "tuple") (eBin ixC (eVar 0) (eC (.int 2)))))) (cBin gtC (eUn lenC (eBin ixC (eVar 0) (eC (.int 2)))) (eC (.int 6)))) (sRet (eTup (aCons (eC .none) (aCons (eC (.str "rules")) aNil)))) sNil)
      (sSeq (sSet 1 (eCall m_Twords (aCons (eBin ixC (eVar 0) (eC (.int 0))) (aCons (eBin ixC (eVar 0) (eC (.int 1))) aNil))))
      (sSeq (sFor (iRange1 (eUn lenC (eBin ixC (eVar 0) (eC (.int 2))))) (gN 2) (sSeq (sSet 3 (eCall m_Tformula_error (aCons (eVar 1) (aCons (eBin ixC (eBin ixC (eVar 0) (eC (.int 2))) (eVar 2)) aNil))))
      (sSeq (sIf (cAnd (cBin isC (eVar 3) (eC .none)) (cNot (cTru (eCall (m_Tis_sentence 70) (aCons (eBin ixC (eBin ixC (eVar 0) (eC (.int 2))) (eVar 2)) aNil))))) (sSet 3 (eC (.str "sentence"))) sNil)
      (sIf (cBin isNotC (eVar 3) (eC .none)) (sRet (eTup (aCons (eVar 2) (aCons (eVar 3) aNil)))) sNil))))
      (sRet (eC .none)))))))))
end VL.cm14
set_option Elab.async false
set_option linter.all false
set_option maxRecDepth 100000
set_option maxHeartbeats 2000000
namespace VL.cm14
variable [Ob]
open PySem PySem.Spec L2 VL VL.cm VL.cm3 VL.cm4 VL.cm5
open PyProof.Rows hiding St
theorem loopR_none {ws : List PyData} : ∀ {rs : List PyData} {i : Nat}, loopR ws i rs = .none → ∀ r ∈ rs, ruR ws r = .none
  | [], _, _, r, h => by cases h
  | r :: rs, i, e, d, h => by
    rw [loopR] at e
    by_cases q : isNone (ruR ws r) = true
    · rw [if_pos q] at e
      rcases List.mem_cons.mp h with rfl | h
      · cases e2 : ruR ws d with
        | none => rfl
        | _ => rw [e2] at q; cases q
      · exact loopR_none e d h
    · rw [if_neg q] at e; cases e
theorem ruR_none {ws : List PyData} {d : PyData} (h : ruR ws d = .none) : isF ws d = true ∧ sen d = true ∧ sgn d ≤ 40 := by
  unfold ruR at h
  by_cases q : isF ws d = true
  · rw [if_pos q] at h
    by_cases s : 40 < sgn d
    · rw [if_pos s] at h; cases h
    · rw [if_neg s] at h
      by_cases t : sen d = true
      · exact ⟨q, t, by omega⟩
      · rw [if_neg t] at h; cases h
  · rw [if_neg q] at h; cases h
/-- a book -/
def Bk (k l : Nat) (rs : List PyData) : Prop := k ≤ 3 ∧ l ≤ 2 ∧ 1 ≤ k + l ∧ rs.length ≤ 6 ∧ ∀ r ∈ rs, Sk k l r
def bkD (k l : Nat) (rs : List PyData) : PyData := .tuple [.int (k : Int), .int (l : Int), .tuple rs]
theorem bkR_none {v : PyData} (h : bkR v = .none) : ∃ k l rs, v = bkD k l rs ∧ Bk k l rs := by
  unfold bkR at h
  split at h
  · rename_i a b c
    split at h
    · rename_i qa
      split at h
      · rename_i qb
        obtain ⟨k, rfl, hk⟩ := numB_of qa
        obtain ⟨l, rfl, hl⟩ := numB_of qb
        simp only at h
        split at h
        · cases h
        · rename_i kl
          split at h
          · rename_i rs
            split at h
            · cases h
            · rename_i r6
              refine ⟨k, l, rs, rfl, hk, hl, ?_, by omega, fun r hr => ?_⟩
              · rcases Nat.eq_zero_or_pos (k + l) with q | q
                · exact absurd ⟨by omega, by omega⟩ kl
                · exact q
              · exact ruR_none (loopR_none h r hr)
          · cases h
      · cases h
    · cases h
  · cases h
theorem isNone_iff {d : PyData} : isNone d = true ↔ d = .none := by cases d <;> simp [isNone]
mutual
theorem isF_flat {ws : List PyData} : ∀ {d : PyData}, isF ws d = true → flatD d = true
  | .tuple [], h => rfl
  | .tuple (hd :: tl), h => by
    obtain ⟨x, tl0, e, hp, _⟩ := isF_tup h
    injection e with e1 e2
    subst e1
    rw [← e2] at hp
    show (flatD (.str x) && flatDs tl) = true
    rw [isFs_flat hp]
    rfl
  | .str _, _ => rfl
  | .none, h => by cases h
  | .bool _, h => by cases h
  | .int _, h => by cases h
  | .list _, h => by cases h
  | .dict _, h => by cases h
theorem isFs_flat {ws : List PyData} : ∀ {ds : List PyData}, (∀ d ∈ ds, isF ws d = true) → flatDs ds = true
  | [], _ => rfl
  | d :: ds, h => by
    rw [flatDs, Bool.and_eq_true]
    exact ⟨isF_flat (h d (List.mem_cons_self ..)), isFs_flat fun e he => h e (List.mem_cons_of_mem _ he)⟩
end
theorem rules_flat {k l : Nat} {rs : List PyData} (h : ∀ r ∈ rs, Sk k l r) : flatD (.tuple rs) = true := isFs_flat fun r hr => (h r hr).1
def shF (k l r e w : PyData) : List (Str × PyData) := [("_kinds", k), ("_letters", l), ("_rules", r), ("_earlier", e), ("_later", w)]
section
variable {δ : DS} {k l r e w : PyData} {rs es : List PyData}
@[simp] theorem shF_k : (shF k l r e w).lookup ("_kinds" : Str) = some k := rfl
@[simp] theorem shF_l : (shF k l r e w).lookup ("_letters" : Str) = some l := rfl
@[simp] theorem shF_r : (shF k l r e w).lookup ("_rules" : Str) = some r := rfl
@[simp] theorem shF_e : (shF k l r e w).lookup ("_earlier" : Str) = some e := rfl
@[simp] theorem shF_w : (shF k l r e w).lookup ("_later" : Str) = some w := rfl
theorem shF_no {f : Str} (h : ((f == ("_kinds" : Str)) || (f == ("_letters" : Str)) || (f == ("_rules" : Str)) || (f == ("_earlier" : Str)) || (f == ("_later" : Str))) = false := by decide +kernel) : (shF k l r e w).lookup f = none := by
  simp only [Bool.or_eq_false_iff] at h
  obtain ⟨⟨⟨⟨h1, h2⟩, h3⟩, h4⟩, h5⟩ := h
  simp only [shF, List.lookup, h1, h2, h3, h4, h5]
theorem W_book {Q : PyData → DS → Prop} : W (m_Shelf_book [.am 0]) (sh δ "Shelf" (shF k l r e w)) Q ↔ Q (.tuple [k, l, r]) (sh δ "Shelf" (shF k l r e w)) := by
  have z3 : 3 ≤ sizeLine := by decide
  unfold m_Shelf_book
  rw [W_runB (show [AV.am 0].length = 1 from rfl)]
  simp [avSV, startA, z3]
theorem W_version {Q : PyData → DS → Prop} : W (m_Shelf_version [.am 0]) (sh δ "Shelf" (shF k l r (.tuple es) w)) Q ↔ Q (.int es.length) (sh δ "Shelf" (shF k l r (.tuple es) w)) := by
  unfold m_Shelf_version
  rw [W_runB (show [AV.am 0].length = 1 from rfl)]
  simp [avSV, startA]
theorem W_len {Q : PyData → DS → Prop} : W (m_Shelf___len__ [.am 0]) (sh δ "Shelf" (shF k l (.tuple rs) e w)) Q ↔ Q (.int rs.length) (sh δ "Shelf" (shF k l (.tuple rs) e w)) := by
  unfold m_Shelf___len__
  rw [W_runB (show [AV.am 0].length = 1 from rfl)]
  simp [avSV, startA]
theorem W_check {v : PyData} (hv : Low v) {Q : XR → DS → Prop} : W (m_check_book [.d v]) δ Q ↔ Q (if isNone (bkR v) = true then .inl .none else .inr ("BadBook", [("error", bkR v)])) δ := by
  unfold m_check_book
  rw [W_runX (show [AV.d v].length = 1 from rfl)]
  simp [avSV, startA, W_ev (ev_bk v hv), isNotC_none]
  cases q : isNone (bkR v) <;> simp [q]
end
section
theorem ne_kinds_letters : (("_kinds" : Str) = "_letters") = False := eq_false (by decide +kernel)
theorem ne_kinds_rules : (("_kinds" : Str) = "_rules") = False := eq_false (by decide +kernel)
theorem ne_kinds_earlier : (("_kinds" : Str) = "_earlier") = False := eq_false (by decide +kernel)
theorem ne_kinds_later : (("_kinds" : Str) = "_later") = False := eq_false (by decide +kernel)
theorem ne_letters_rules : (("_letters" : Str) = "_rules") = False := eq_false (by decide +kernel)
theorem ne_letters_earlier : (("_letters" : Str) = "_earlier") = False := eq_false (by decide +kernel)
theorem ne_letters_later : (("_letters" : Str) = "_later") = False := eq_false (by decide +kernel)
theorem ne_rules_earlier : (("_rules" : Str) = "_earlier") = False := eq_false (by decide +kernel)
theorem ne_rules_later : (("_rules" : Str) = "_later") = False := eq_false (by decide +kernel)
theorem ne_earlier_later : (("_earlier" : Str) = "_later") = False := eq_false (by decide +kernel)
variable {k l r e w x : PyData}
@[simp] theorem put_r : putFd "_rules" x (shF k l r e w) = shF k l x e w := by simp [shF, putFd, ne_kinds_letters, ne_kinds_rules, ne_kinds_earlier, ne_kinds_later, ne_letters_rules, ne_letters_earlier, ne_letters_later, ne_rules_earlier, ne_rules_later, ne_earlier_later]
@[simp] theorem put_e : putFd "_earlier" x (shF k l r e w) = shF k l r x w := by simp [shF, putFd, ne_kinds_letters, ne_kinds_rules, ne_kinds_earlier, ne_kinds_later, ne_letters_rules, ne_letters_earlier, ne_letters_later, ne_rules_earlier, ne_rules_later, ne_earlier_later]
@[simp] theorem put_w : putFd "_later" x (shF k l r e w) = shF k l r e x := by simp [shF, putFd, ne_kinds_letters, ne_kinds_rules, ne_kinds_earlier, ne_kinds_later, ne_letters_rules, ne_letters_earlier, ne_letters_later, ne_rules_earlier, ne_rules_later, ne_earlier_later]
@[simp] theorem shF_len : (shF k l r e w).length = 5 := rfl
theorem put_k0 : putFd "_kinds" k [] = ([("_kinds", k)] : List (Str × PyData)) := rfl
theorem put_l0 : putFd "_letters" l [("_kinds", k)] = ([("_kinds", k), ("_letters", l)] : List (Str × PyData)) := by simp [putFd, ne_kinds_letters, ne_kinds_rules, ne_kinds_earlier, ne_kinds_later, ne_letters_rules, ne_letters_earlier, ne_letters_later, ne_rules_earlier, ne_rules_later, ne_earlier_later]
theorem put_r0 : putFd "_rules" r [("_kinds", k), ("_letters", l)] = ([("_kinds", k), ("_letters", l), ("_rules", r)] : List (Str × PyData)) := by simp [putFd, ne_kinds_letters, ne_kinds_rules, ne_kinds_earlier, ne_kinds_later, ne_letters_rules, ne_letters_earlier, ne_letters_later, ne_rules_earlier, ne_rules_later, ne_earlier_later]
theorem put_e0 : putFd "_earlier" e [("_kinds", k), ("_letters", l), ("_rules", r)] = ([("_kinds", k), ("_letters", l), ("_rules", r), ("_earlier", e)] : List (Str × PyData)) := by simp [putFd, ne_kinds_letters, ne_kinds_rules, ne_kinds_earlier, ne_kinds_later, ne_letters_rules, ne_letters_earlier, ne_letters_later, ne_rules_earlier, ne_rules_later, ne_earlier_later]
theorem put_w0 : putFd "_later" w [("_kinds", k), ("_letters", l), ("_rules", r), ("_earlier", e)] = shF k l r e w := by simp [putFd, shF, ne_kinds_letters, ne_kinds_rules, ne_kinds_earlier, ne_kinds_later, ne_letters_rules, ne_letters_earlier, ne_letters_later, ne_rules_earlier, ne_rules_later, ne_earlier_later]
end
section
variable {δ : DS} {k l r e w : PyData} {rs es : List PyData}
@[simp] theorem W_sAFldsI {i : Nat} {cs fl : List Str} {fe : AS → M PyData} {z : AS} {Q : Fl → DS → Prop} : W (sAFlds i cs fl fe z) δ Q ↔ W (fe z) δ fun d δ => match d with
  | .tuple ds => W (pfAs i cs fl ds z) δ fun _ δ => Q (.nx z) δ
  | _ => False := by
  unfold sAFlds
  rw [W_bnd]
  constructor <;> exact fun h => h.mono fun d δ' q => by
    cases d with
    | tuple ds => simpa only [W_bnd, W_pur] using q
    | _ => simpa only [W_no] using q
theorem W_init {v : PyData} (hv : Low v) {Q : XR → DS → Prop} (h1 : isNone (bkR v) = false → Q (.inr ("BadBook", [("error", bkR v)])) (sh δ "Shelf" [])) (h2 : isNone (bkR v) = true → ∀ k l rs, v = bkD k l rs → Bk k l rs → Q (.inl .none) (sh δ "Shelf" (shF (.int (k : Int)) (.int (l : Int)) (.tuple rs) (.tuple []) (.tuple [])))) :
    W (m_Shelf_init [.am 0, .d v]) (sh δ "Shelf" []) Q := by
  unfold m_Shelf_init
  rw [W_runX (show [AV.am 0, .d v].length = 2 from rfl)]
  simp only [W_sSeq, W_sDropX, W_xCall]
  simp [avSV, startA, W_check hv]
  cases q : isNone (bkR v) with
  | false => simpa [q] using h1 q
  | true =>
    obtain ⟨k, l, rs, rfl, b⟩ := bkR_none (isNone_iff.mp q)
    have fl := rules_flat b.2.2.2.2
    have z0 : 0 ≤ sizeLine := by decide
    have := h2 q k l rs rfl b
    simpa [bkD, q, sh, put_k0, put_l0, put_r0, put_e0, put_w0, flatD, flatDs, (show flatDs rs = true from fl), z0] using this
end
end VL.cm14
set_option Elab.async false
set_option linter.all false
set_option maxRecDepth 100000
set_option maxHeartbeats 2000000
namespace VL.cm4
open PySem PySem.Spec L2 VL VL.cm VL.cm3
open PySem.W (alike)
open PyProof.Rows hiding St
def fiveS : List Str := ["A", "B", "C", "p", "q"]
section
variable (sw : List Str) (hs : Str → List Str)
def nxt (r : List Str) : List (List Str) := (sw.filter fun w => decide (w ∉ r)).map fun w => r ++ [w]
def rws : Nat → List (List Str)
  | 0 => [[]]
  | n + 1 => (rws n).flatMap (nxt sw)
def lst (r : List Str) : Str := r.getD (r.length - 1) ""
def lk (r : List Str) (k : Nat) : Bool := decide (r.getD (k + 1) "" ∈ hs (r.getD k ""))
def lnk (r : List Str) : Bool := (List.range (r.length - 1)).all (lk hs r)
def cl (r : List Str) : Bool := decide (r.getD 0 "" ∈ hs (lst r))
def isR (r : List Str) : Bool := lnk hs r && cl hs r
def hg (a : Str) : List Str := sw.filter fun w => decide (w ∈ hs a)
/-- the first ring among the rows of 1 to n words -/
def due : Nat → Option (List Str)
  | 0 => none
  | n + 1 => (due n).or ((rws sw (n + 1)).find? (isR hs))
end
section
variable {sw : List Str} {hs : Str → List Str}
theorem nodup_len : ∀ {r l : List Str}, r.Nodup → (∀ x ∈ r, x ∈ l) → r.length ≤ l.length := fun {r l} h s => len_sub h s
end
end VL.cm4
set_option Elab.async false
set_option linter.all false
set_option maxRecDepth 100000
set_option maxHeartbeats 2000000
namespace VL.cm4
open PySem PySem.Spec VL VL.cm VL.cm3
open L2 hiding prD
open PyProof.Rows hiding St
end VL.cm4
set_option Elab.async false
set_option linter.all false
set_option maxRecDepth 100000
set_option maxHeartbeats 2000000
namespace VL.cm5
open PySem PySem.Spec VL VL.cm VL.cm3 VL.cm4
open L2 hiding prD
open PyProof.Rows hiding St
abbrev nsP (ps : List (Str × PyData)) : List Str := ps.map (·.1)
def KV (ps : List (Str × PyData)) : List (Key × PyData) := ps.map fun p => (.inr p.1, .list (txD ((sortTx (wrd p.2)).filter fun x => decide (x ∈ nsP ps))))
/-- a plan that the draws give -/
structure Pl (ws : List PyData) (ps : List (Str × PyData)) : Prop where
  nd : (nsP ps).Nodup
  five : ∀ x ∈ nsP ps, x ∈ fiveS
  f : ∀ p ∈ ps, isF ws p.2 = true ∧ sgn p.2 ≤ 40
theorem Pl.len {ws : List PyData} {ps : List (Str × PyData)} (h : Pl ws ps) : ps.length ≤ 5 := by
  have := nodup_len h.nd h.five
  simpa [nsP, fiveS] using this
theorem Pl.size {ws : List PyData} {ps : List (Str × PyData)} (h : Pl ws ps) {p : Str × PyData} (hp : p ∈ ps) : cnt p.2 ≤ 80 ∧ p.2.depth ≤ 40 ∧ (wrd p.2).length ≤ 40 := by
  obtain ⟨a, b⟩ := h.f p hp
  obtain ⟨c, d⟩ := isF_size ws p.2 a
  have := wrd_sgn p.2
  exact ⟨by omega, by omega, by omega⟩
end VL.cm5
set_option Elab.async false
set_option linter.all false
set_option maxRecDepth 100000
set_option maxHeartbeats 2000000
namespace VL.cm14
variable [Ob]
open PySem PySem.Spec L2 VL VL.cm VL.cm3 VL.cm4 VL.cm5
open PyProof.Rows hiding St
theorem ev_Twhole (m : Nat) (v : PyData) : Ev (m_Twhole [.d v, .d (.int 0), .d (.int (m : Int))]) (.bool (numB m v)) := by
  refine ev_runW rfl fun δ => ?_
  cases v with
  | int i =>
    simp [numB]
    by_cases h1 : 0 ≤ i
    · simp [h1]
    · simp [h1]
  | _ => simp [numB]
theorem loop_Tbk {k l : Nat} (hk : k ≤ 3) (hl : l ≤ 2) {rs0 : List PyData} (hr : ∀ r ∈ rs0, cnt r < 300000 ∧ r.depth < 70) (hn : rs0.length ≤ 6) (δ : DS) (s2 s3 : SV) :
    W (sSeq (sFor (iRange1 (eUn lenC (eBin ixC (eVar 0) (eC (.int 2))))) (gN 2) (sSeq (sSet 3 (eCall m_Tformula_error (aCons (eVar 1) (aCons (eBin ixC (eBin ixC (eVar 0) (eC (.int 2))) (eVar 2)) aNil))))
      (sSeq (sIf (cAnd (cBin isC (eVar 3) (eC .none)) (cNot (cTru (eCall (m_Tis_sentence 70) (aCons (eBin ixC (eBin ixC (eVar 0) (eC (.int 2))) (eVar 2)) aNil))))) (sSet 3 (eC (.str "sentence"))) sNil)
      (sIf (cBin isNotC (eVar 3) (eC .none)) (sRet (eTup (aCons (eVar 2) (aCons (eVar 3) aNil)))) sNil))))
      (sRet (eC .none)) [.dat (.tuple [.int (k : Int), .int (l : Int), .tuple rs0]), .dat (.list (wsD k l)), s2, s3]) δ fun fl δ' => W (flD fl) δ' fun b δ2 => b = loopR (wsD k l) 0 rs0 ∧ δ2 = δ := by
  have z2 : 2 ≤ sizeLine := by decide
  have hw := wsD_all k l
  simp [ixT2]
  refine ⟨by omega, ?_⟩
  rw [rangeD_eq]
  refine W_for (fun ds z δ' => δ = δ' ∧ ∃ i s2 s3, ds = enI i (rs0.length - i) ∧ i ≤ rs0.length ∧ loopR (wsD k l) i (rs0.drop i) = loopR (wsD k l) 0 rs0 ∧ z = [.dat (.tuple [.int (k : Int), .int (l : Int), .tuple rs0]), .dat (.list (wsD k l)), s2, s3]) ⟨rfl, 0, s2, s3, by simp, by omega, by simp, rfl⟩ ?_ ?_
  · rintro d ds z δ' ⟨rfl, i, s2, s3, e, hi, hlp, rfl⟩
    obtain ⟨m, em⟩ : ∃ m, rs0.length - i = m + 1 := by
      cases q : rs0.length - i with
      | zero => rw [q] at e; cases e
      | succ m => exact ⟨m, rfl⟩
    rw [em] at e
    injection e with e1 e2
    subst e1 e2
    have hlt : i < rs0.length := by omega
    have hix : ixC (.tuple rs0) (.int (i : Int)) = some rs0[i] := atI_nat (j := i) (List.getElem?_eq_getElem hlt)
    have hm : rs0[i] ∈ rs0 := List.getElem_mem hlt
    obtain ⟨rc, rd⟩ := hr _ hm
    have er : Ev (m_Tformula_error [.d (.list (wsD k l)), .d rs0[i]]) _ := ev_Tfe hw rd (by omega)
    rw [List.drop_eq_getElem_cons hlt, loopR] at hlp
    have nx : enI (i + 1) m = enI (i + 1) (rs0.length - (i + 1)) := by congr 1; omega
    refine ⟨_, rfl, ?_⟩
    generalize rs0[i] = r at *
    by_cases q : isF (wsD k l) r = true
    · by_cases s : 40 < sgn r
      · have e1 : ruR (wsD k l) r = .str "signs" := by unfold ruR; rw [if_pos q, if_pos s]
        have e2 : feR (wsD k l) r = .str "signs" := by unfold feR; rw [if_pos q, if_pos s]
        rw [e2] at er
        rw [e1, if_neg (by simp [isNone])] at hlp
        simp [ixT2, hix, W_ev er, isNotC_none, isC_none, isNone, z2, ← hlp]
      · have e2 : feR (wsD k l) r = .none := by unfold feR; rw [if_pos q, if_neg s]
        rw [e2] at er
        have es : Ev (m_Tis_sentence 70 [.d r]) _ := ev_Tsent (ws := wsD k l) 70 r q rd (by omega)
        cases t : sen r with
        | true =>
          have e1 : ruR (wsD k l) r = .none := by unfold ruR; rw [if_pos q, if_neg s, if_pos t]
          rw [t] at es
          rw [e1, if_pos (show isNone .none = true from rfl)] at hlp
          simp [ixT2, hix, W_ev er, isNotC_none, isC_none, isNone, W_ev es]
          exact ⟨i + 1, nx, by omega, hlp⟩
        | false =>
          have e1 : ruR (wsD k l) r = .str "sentence" := by unfold ruR; rw [if_pos q, if_neg s, if_neg (by rw [t]; exact Bool.false_ne_true)]
          rw [t] at es
          rw [e1, if_neg (by simp [isNone])] at hlp
          simp [ixT2, hix, W_ev er, isNotC_none, isC_none, isNone, W_ev es, z2, ← hlp]
    · have e1 : ruR (wsD k l) r = .str "formula" := by unfold ruR; rw [if_neg q]
      have e2 : feR (wsD k l) r = .str "formula" := by unfold feR; rw [if_neg q]
      rw [e2] at er
      rw [e1, if_neg (by simp [isNone])] at hlp
      simp [ixT2, hix, W_ev er, isNotC_none, isC_none, isNone, z2, ← hlp]
  · rintro z δ' ⟨rfl, i, s2, s3, e, hi, hlp, rfl⟩
    have : rs0.length - i = 0 := by
      cases q : rs0.length - i with
      | zero => rfl
      | succ m => rw [q] at e; cases e
    have hd : rs0.drop i = [] := List.drop_eq_nil_iff.mpr (by omega)
    rw [hd, loopR] at hlp
    simp [← hlp]
theorem ev_Tbk (v : PyData) (hL : Low v) : Ev (m_Tbook_error [.d v]) (bkR v) := by
  have z2 : 2 ≤ sizeLine := by decide
  refine ev_runW rfl fun δ => ?_
  cases v with
  | tuple ds =>
    by_cases h3 : ds.length = 3
    · obtain ⟨a, b, c, rfl⟩ := tup3 h3
      have hL' := hL a b
      refine W_ifno (by simp) ?_
      have e3 : Ev (m_Twhole [.d a, .d (.int 0), .d (.int 3)]) _ := ev_Twhole 3 a
      have e2 : Ev (m_Twhole [.d b, .d (.int 0), .d (.int 2)]) _ := ev_Twhole 2 b
      cases qa : numB 3 a with
      | false => exact W_ifyes (by simp [ixT0, W_ev e3, qa]) (by simp [z2, bkR, qa])
      | true =>
        refine W_ifno (by simp [ixT0, W_ev e3, qa]) ?_
        cases qb : numB 2 b with
        | false => exact W_ifyes (by simp [ixT1, W_ev e2, qb]) (by simp [z2, bkR, qa, qb])
        | true =>
          refine W_ifno (by simp [ixT1, W_ev e2, qb]) ?_
          obtain ⟨k, rfl, hk⟩ := numB_of qa
          obtain ⟨l, rfl, hl⟩ := numB_of qb
          by_cases kl : (k : Int) = 0 ∧ (l : Int) = 0
          · exact W_ifyes (by simp [ixT0, ixT1, kl.1, kl.2]) (by simp only [bkR, qa, qb, if_pos, if_pos kl]; simp [z2])
          · have kl' : ¬ ((k : Int) + (l : Int) = 0) := by omega
            refine W_ifno (by simp [ixT0, ixT1, kl']) ?_
            cases c with
            | tuple rs =>
              by_cases r6 : 6 < rs.length
              · have r6' : (6 : Int) < rs.length := by omega
                exact W_ifyes (by simp [ixT2, r6']) (by simp only [bkR, qa, qb, if_pos, if_neg kl, if_pos r6]; simp [z2])
              · have r6' : ¬ (6 : Int) < rs.length := by omega
                refine W_ifno (by simp [ixT2, r6']) ?_
                have e : bkR (.tuple [.int (k : Int), .int (l : Int), .tuple rs]) = loopR (wsD k l) 0 rs := by
                  simp only [bkR, qa, qb, if_pos, if_neg kl, if_neg r6]
                  rfl
                rw [e]
                refine W_seqA (fun z δ' => δ = δ' ∧ z = [.dat (.tuple [.int (k : Int), .int (l : Int), .tuple rs]), .dat (.list (wsD k l)), .un, .un]) (fun A hA => ?_) ?_
                · simp [ixT0, ixT1, W_ev (ev_Twords (k, l) (mem_prs hk hl))]
                  exact hA _ _ ⟨rfl, rfl⟩
                rintro z δ' ⟨rfl, rfl⟩
                exact loop_Tbk hk hl (hL' rs rfl) (by omega) δ .un .un
            | _ => exact W_ifyes (by simp [ixT2]) (by simp only [bkR, qa, qb, if_pos, if_neg kl]; simp [z2])
    · have e : ¬ ((ds.length : Int) = 3) := by omega
      rw [bkR_ne h3]
      exact W_ifyes (by simp [e]) (by simp [z2])
  | _ => exact W_ifyes (by simp) (by simp [bkR, z2])
end VL.cm14
set_option Elab.async false
set_option linter.all false
set_option maxRecDepth 100000
set_option maxHeartbeats 2000000
namespace VL.cm14
variable [Ob]
open PySem PySem.Spec L2 VL VL.cm VL.cm3 VL.cm4 VL.cm5
open PyProof.Rows hiding St
mutual
theorem wrd_sgn : ∀ d : PyData, (wrd d).length ≤ sgn d
  | .tuple ds => by rw [wrd, sgn]; have := wrd1_sgn ds; omega
  | .str _ => by simp [wrd, sgn]
  | .none => by simp [wrd]
  | .bool _ => by simp [wrd]
  | .int _ => by simp [wrd]
  | .list _ => by simp [wrd]
  | .dict _ => by simp [wrd]
theorem wrd1_sgn : ∀ ds : List PyData, (wrd1 ds).length ≤ sgn1 ds
  | [] => by simp [wrd1]
  | _ :: ds => by rw [wrd1, sgn1]; exact wrds_sgn ds
theorem wrds_sgn : ∀ ds : List PyData, (wrds ds).length ≤ sgns ds
  | [] => by simp [wrds]
  | d :: ds => by rw [wrds, sgns, List.length_append]; have := wrd_sgn d; have := wrds_sgn ds; omega
end
theorem neC_strs (x y : Str) : neC (.str x) (.str y) = some (decide (x ≠ y)) := by
  have h : okC (.str x) (.str y) = true := by
    show (true && true && true && decide (min 0 0 ≤ 60)) = true
    rfl
  unfold neC
  rw [if_pos h]
  cases b : PyData.eqv (.str x) (.str y) with
  | true =>
    have e : x = y := by have := (eqv_str (.str x) y).mp b; injection this
    simp [e]
  | false =>
    have e : x ≠ y := fun q => by rw [(eqv_str (.str x) y).mpr (by rw [q])] at b; cases b
    simp [e]
end VL.cm14
set_option Elab.async false
set_option linter.all false
set_option maxRecDepth 100000
set_option maxHeartbeats 2000000
namespace VL.cm14
variable [Ob]
open PySem PySem.Spec L2 VL VL.cm VL.cm3 VL.cm4 VL.cm5
open PyProof.Rows hiding St
def Vt (i : Nat) (v : PyData) : Prop := Mk (50 + i) v ∧ v.depth ≤ 45 + 3 * i ∧ cnt v + 10 ≤ 610 * 2 ^ i
theorem Vt.next {i : Nat} {v e : PyData} (h : Vt i v) (b : BeT (50 + i) v e) : Vt (i + 1) e := by
  obtain ⟨h1, h2, h3⟩ := h
  obtain ⟨b1, b2, b3⟩ := b
  refine ⟨b1, by omega, ?_⟩
  rw [Nat.pow_succ]
  omega
theorem Vt.up {i : Nat} {v : PyData} (h : Vt i v) : Vt (i + 1) v := ⟨h.1.mono (by omega), by have := h.2.1; omega, by
  have := h.2.2
  rw [Nat.pow_succ]
  omega⟩
theorem Vt.low {v : PyData} (h : Vt 5 v) : Low v := by
  rintro a b rs rfl r hr
  obtain ⟨h1, h2, h3⟩ := h
  have c1 := mem_cnts hr
  have c2 := mem_cnts (ds := [a, b, .tuple rs]) (d := .tuple rs) (by simp)
  have d1 := mem_depth hr
  have d2 := mem_depth (ds := [a, b, .tuple rs]) (d := .tuple rs) (by simp)
  rw [cnt_tup] at h3 c2
  rw [depth_tup] at h2 d2
  exact ⟨by omega, by omega⟩
/-- a part -/
def Pv (c : Nat) (d : PyData) : Prop := Mk 50 d ∧ d.depth ≤ 43 ∧ cnt d ≤ c
theorem Pv.leaf {d : PyData} (h : d ∈ leaf0) (hd : d.depth = 0) (hc : cnt d = 1) : Pv 1 d := ⟨.at h, by omega, by omega⟩
theorem Pv.sk {k l : Nat} {d : PyData} (h : Sk k l d) : Mk 50 d ∧ d.depth ≤ 41 ∧ cnt d ≤ 82 := by
  obtain ⟨h1, _, h3⟩ := h
  obtain ⟨c1, c2⟩ := isF_size (wsD k l) d h1
  exact ⟨isF_mkL (ws_leaf k l) d h1 (by omega), by omega, by omega⟩
theorem depthAll_le {n : Nat} : ∀ {ds : List PyData}, (∀ d ∈ ds, d.depth ≤ n) → PyData.depthAll ds ≤ n
  | [], _ => by simp [PyData.depthAll]
  | d :: ds, h => by
    have h1 := h d (List.mem_cons_self ..)
    have h2 := depthAll_le (ds := ds) fun e he => h e (List.mem_cons_of_mem _ he)
    simp [PyData.depthAll]
    omega
def longD (n : Nat) : PyData := .tuple (.str "and" :: List.replicate n (.tuple [.str "or"]))
theorem long_ok : ∀ n ∈ ([39, 40] : List Nat), Mk 50 (longD n) ∧ (longD n).depth ≤ 41 ∧ cnt (longD n) ≤ 82 := by
  have hm : ∀ n ≤ 40, Mk 50 (longD n) := fun n hn => .tup (by simp; omega) fun d hd => by
    rcases List.mem_cons.mp hd with rfl | hd
    · exact .at (by simp [leaf0, odd1])
    · rw [(List.mem_replicate.mp hd).2]
      exact .tup (by simp) fun e he => by rw [List.mem_singleton.mp he]; exact .at (by simp [leaf0, odd1])
  have h : ([39, 40] : List Nat).all (fun n => decide ((longD n).depth ≤ 41 ∧ cnt (longD n) ≤ 82)) = true := by decide +kernel
  exact fun n hn => ⟨hm n (by simp only [List.mem_cons, List.not_mem_nil, or_false] at hn; omega), of_decide_eq_true (List.all_eq_true.mp h n hn)⟩
theorem orMul : ∀ n ∈ ([39, 40] : List Nat), mulC (.tuple [.tuple [.str "or"]]) (.int (n : Int)) = some (.tuple (List.replicate n (.tuple [.str "or"]))) := by
  intro n hn
  simp only [List.mem_cons, List.not_mem_nil, or_false] at hn
  rcases hn with rfl | rfl <;> rfl
end VL.cm14
namespace VL.cm14
variable [Ob]
open PySem PySem.Spec L2 VL VL.cm VL.cm3 VL.cm4 VL.cm5
open PyProof.Rows hiding St
def leafY : List PyData := leafX ++ [.str "book", .str "kinds", .str "letters", .str "words", .str "rules", .str "signs", .str "sentence", .str "formula", .str "rule", .str "no undo", .str "no redo"]
theorem leafXY : ∀ d ∈ leafX, d ∈ leafY := fun d h => List.mem_append_left _ h
theorem leaf0Y : ∀ d ∈ leaf0, d ∈ leafY := fun d h => leafXY d (List.mem_append_left _ (List.mem_append_left _ h))
theorem intY {n : Nat} (h : n < 64) : Fine leafY (.int (n : Int)) := .at (leafXY _ (List.mem_append_right _ (List.mem_map.mpr ⟨n, List.mem_range.mpr h, rfl⟩)))
theorem bk_fine {d : PyData} (h : d ∈ bkAll) : Fine leafY d ∧ d.depth ≤ 1 ∧ cnt d ≤ 3 := by
  have hn : Fine leafY .none := .at (leaf0Y _ (by simp [leaf0, odd1]))
  unfold bkAll at h
  rcases List.mem_append.mp h with h | h
  · rcases List.mem_cons.mp h with rfl | h
    · exact ⟨hn, by decide, by decide⟩
    · obtain ⟨x, hx, rfl⟩ := List.mem_map.mp h
      have hF : Fine leafY x ∧ x.depth = 0 ∧ cnt x = 1 := by
        simp only [List.mem_cons, List.not_mem_nil, or_false] at hx
        rcases hx with rfl | rfl | rfl | rfl | rfl <;> exact ⟨.at (List.mem_append_right _ (by simp)), rfl, rfl⟩
      refine ⟨.tup fun e he => ?_, ?_, ?_⟩
      · simp only [List.mem_cons, List.not_mem_nil, or_false] at he
        rcases he with rfl | rfl
        · exact hn
        · exact hF.1
      · simp [PyData.depth, PyData.depthAll, hF.2.1]
      · simp [cnt, cnts, hF.2.2]
  · obtain ⟨l, hl, hd⟩ := List.mem_flatten.mp h
    obtain ⟨i, hi, rfl⟩ := List.mem_map.mp hl
    obtain ⟨x, hx, rfl⟩ := List.mem_map.mp hd
    have hF : Fine leafY x ∧ x.depth = 0 ∧ cnt x = 1 := by
      simp only [List.mem_cons, List.not_mem_nil, or_false] at hx
      rcases hx with rfl | rfl | rfl <;> exact ⟨.at (List.mem_append_right _ (by simp)), rfl, rfl⟩
    refine ⟨.tup fun e he => ?_, ?_, ?_⟩
    · simp only [List.mem_cons, List.not_mem_nil, or_false] at he
      rcases he with rfl | rfl
      · exact intY (by have := List.mem_range.mp hi; omega)
      · exact hF.1
    · simp [PyData.depth, PyData.depthAll, hF.2.1]
    · simp [cnt, cnts, hF.2.2]
theorem Mk.fineY {L : Nat} {d : PyData} (m : Mk L d) : Fine leafY d := Fine.mono leaf0Y m.fine
end VL.cm14
set_option Elab.async false
set_option linter.all false
set_option maxRecDepth 100000
namespace VL.cm15
open PySem PySem.Spec L2 VL VL.cm VL.cm3 VL.cm4 VL.cm5 VL.cm14
open PyProof.Rows hiding St
def m_Shelf__check_room : List AV → M XR := runX 1 1
  (sIf (cBin geC (eAProp 0 "Shelf" m_Shelf_version) (eACon 0 ["Shelf"] "LIMIT" (.int 40))) sNo sNil)
def m_Shelf__check_next : List AV → M XR := runX 2 2
  (sDropX (xCall m_check_book (aCons (eVar 1) aNil)))
def m_Shelf__edit : List AV → M XR := runX 2 2
  (sSeq (sDropX (xAMeth 0 "Shelf" "_check_next" m_Shelf__check_next (aCons (eTup (aCons (eAFld 0 ["Shelf"] "_kinds") (aCons (eAFld 0 ["Shelf"] "_letters") (aCons (eVar 1) aNil)))) aNil)))
      (sSeq (sAFld 0 ["Shelf"] "_earlier" (eTup (aStar (eAFld 0 ["Shelf"] "_earlier") (aCons (eAFld 0 ["Shelf"] "_rules") aNil))))
      (sSeq (sAFld 0 ["Shelf"] "_later" (eTup aNil))
      (sSeq (sAFld 0 ["Shelf"] "_rules" (eVar 1))
      (sRet (eAProp 0 "Shelf" m_Shelf_version))))))
def m_Shelf_add : List AV → M XR := runX 2 2
  (sSeq (sDropX (xAMeth 0 "Shelf" "_check_room" m_Shelf__check_room aNil))
      (sRetX (xAMeth 0 "Shelf" "_edit" m_Shelf__edit (aCons (eTup (aStar (eAFld 0 ["Shelf"] "_rules") (aCons (eVar 1) aNil))) aNil))))
def m_Shelf__check_index : List AV → M XR := runX 2 2
  (sIf (cNot (cTru (eCall m_is_number_to (aCons (eBin subC (eUn lenC (eAFld 0 ["Shelf"] "_rules")) (eC (.int 1))) (aCons (eVar 1) aNil))))) (sRaise1 "NoRule" "index" (eVar 1)) sNil)
def m_Shelf_drop : List AV → M XR := runX 2 2
  (sSeq (sDropX (xAMeth 0 "Shelf" "_check_room" m_Shelf__check_room aNil))
      (sSeq (sDropX (xAMeth 0 "Shelf" "_check_index" m_Shelf__check_index (aCons (eVar 1) aNil)))
      (sRetX (xAMeth 0 "Shelf" "_edit" m_Shelf__edit (aCons (eBin addC (eSl (eAFld 0 ["Shelf"] "_rules") pNo (pSo (eVar 1))) (eSl (eAFld 0 ["Shelf"] "_rules") (pSo (eBin addC (eVar 1) (eC (.int 1)))) pNo)) aNil)))))
def m_Shelf_turn : List AV → M XR := runX 3 3
  (sSeq (sDropX (xAMeth 0 "Shelf" "_check_room" m_Shelf__check_room aNil))
      (sSeq (sDropX (xAMeth 0 "Shelf" "_check_index" m_Shelf__check_index (aCons (eVar 1) aNil)))
      (sRetX (xAMeth 0 "Shelf" "_edit" m_Shelf__edit (aCons (eBin addC (eBin addC (eSl (eAFld 0 ["Shelf"] "_rules") pNo (pSo (eVar 1))) (eTup (aCons (eVar 2) aNil))) (eSl (eAFld 0 ["Shelf"] "_rules") (pSo (eBin addC (eVar 1) (eC (.int 1)))) pNo)) aNil)))))
def m_Tsmall : List AV → M PyData := runB 1 1
  (sRet (eCall m_Tone (aDeck 0 (aCons (eLst (aCons (eTup (aCons (eC (.int 1)) (aCons (eC (.int 0)) aNil))) (aCons (eTup (aCons (eC (.int 0)) (aCons (eC (.int 1)) aNil))) (aCons (eTup (aCons (eC (.int 1)) (aCons (eC (.int 1)) aNil))) (aCons (eTup (aCons (eC (.int 2)) (aCons (eC (.int 0)) aNil))) (aCons (eTup (aCons (eC (.int 2)) (aCons (eC (.int 1)) aNil))) (aCons (eTup (aCons (eC (.int 0)) (aCons (eC (.int 2)) aNil))) (aCons (eTup (aCons (eC (.int 1)) (aCons (eC (.int 2)) aNil))) (aCons (eTup (aCons (eC (.int 2)) (aCons (eC (.int 1)) aNil))) aNil))))))))) aNil))))
def m_Tcome : List AV → M PyData := runB 2 4
  (sSeq (sSet 2 (eBin ixC (eVar 0) (eC (.int 2))))
      (sSeq (sIf (cBin eqC (eBin ixC (eVar 1) (eC (.int 0))) (eC (.str "add"))) (sRet (eLst (aCons (eC (.str "told")) (aCons (eBin addC (eSl (eVar 0) pNo (pSo (eC (.int 2)))) (eTup (aCons (eBin addC (eVar 2) (eTup (aCons (eBin ixC (eVar 1) (eC (.int 1))) aNil))) aNil))) aNil)))) sNil)
      (sSeq (sIf (cNot (cTru (eCall m_Twhole (aCons (eBin ixC (eVar 1) (eC (.int 1))) (aCons (eC (.int 0)) (aCons (eBin subC (eUn lenC (eVar 2)) (eC (.int 1))) aNil)))))) (sRet (eLst (aCons (eC (.str "rule")) (aCons (eBin ixC (eVar 1) (eC (.int 1))) aNil)))) sNil)
      (sSeq (sSet 3 (eIf (cBin eqC (eBin ixC (eVar 1) (eC (.int 0))) (eC (.str "turn"))) (eTup (aCons (eBin ixC (eVar 1) (eC (.int 2))) aNil)) (eTup aNil)))
      (sRet (eLst (aCons (eC (.str "told")) (aCons (eBin addC (eSl (eVar 0) pNo (pSo (eC (.int 2)))) (eTup (aCons (eBin addC (eBin addC (eSl (eVar 2) pNo (pSo (eBin ixC (eVar 1) (eC (.int 1))))) (eVar 3)) (eSl (eVar 2) (pSo (eBin addC (eBin ixC (eVar 1) (eC (.int 1))) (eC (.int 1)))) pNo)) aNil))) aNil))))))))
def m_Tafter : List AV → M PyData := runB 2 4
  (sSeq (sSet 2 (eCall m_Tcome (aCons (eVar 0) (aCons (eVar 1) aNil))))
      (sSeq (sIf (cBin neC (eBin ixC (eVar 2) (eC (.int 0))) (eC (.str "told"))) (sRet (eVar 2)) sNil)
      (sSeq (sSet 3 (eCall m_Tbook_error (aCons (eBin ixC (eVar 2) (eC (.int 1))) aNil)))
      (sRet (eIf (cBin isC (eVar 3) (eC .none)) (eVar 2) (eLst (aCons (eC (.str "book")) (aCons (eVar 3) aNil))))))))
def m_Tdeed : List AV → M PyData := runB 2 10
  (sSeq (sAsg (gT 3 (gsCons (gN 2) (gsCons (gN 3) (gsCons (gN 4) gsNil)))) (eVar 1))
      (sSeq (sSet 5 (eCall m_Tdraw (aDeck 0 (aCons (eBin mxC (eC (.int 1)) (eUn lenC (eVar 4))) aNil))))
      (sSeq (sPar 6 7 (eCall m_Tsentence (aDeck 0 (aCons (eVar 2) (aCons (eVar 3) aNil)))) (eCall m_Tdraw (aDeck 0 (aCons (eC (.int 9)) aNil))))
      (sSeq (sSet 8 (eCall m_Tone (aDeck 0 (aCons (eLst (aCons (eC .none) (aCons (eUn (iD fun i => -i) (eC (.int 1))) (aCons (eUn lenC (eVar 4)) (aCons (eC (.bool true)) (aCons (eC (.bool false)) (aCons (eC (.str "0")) (aCons (eTup (aCons (eC (.int 0)) aNil)) (aCons (eBin powC (eC (.int 10)) (eC (.int 20))) (aCons (eLst aNil) (aCons (eC (.int 0)) (aCons (eC (.dict [])) (aCons (eC (.str "A")) (aCons (eTup (aCons (eC (.str "not")) (aCons (eC (.str "B")) aNil))) aNil)))))))))))))) aNil))))
      (sSeq (sIf (cAnd (cBin ltC (eVar 7) (eC (.int 3))) (cBin ltC (eUn lenC (eVar 4)) (eC (.int 5)))) (sRet (eTup (aCons (eC (.str "add")) (aCons (eVar 6) aNil)))) sNil)
      (sSeq (sIf (cBin ltC (eVar 7) (eC (.int 5))) (sRet (eTup (aCons (eC (.str "drop")) (aCons (eVar 5) aNil)))) sNil)
      (sSeq (sIf (cBin ltC (eVar 7) (eC (.int 7))) (sRet (eTup (aCons (eC (.str "turn")) (aCons (eVar 5) (aCons (eVar 6) aNil))))) sNil)
      (sSeq (sSet 9 (eLst (aCons (eTup (aCons (eC (.str "add")) (aCons (eCall (m_Tspoilt 70) (aDeck 0 (aCons (eVar 6) aNil))) aNil))) (aCons (eTup (aCons (eC (.str "drop")) (aCons (eVar 8) aNil))) (aCons (eTup (aCons (eC (.str "turn")) (aCons (eVar 8) (aCons (eVar 6) aNil)))) (aCons (eTup (aCons (eC (.str "turn")) (aCons (eVar 5) (aCons (eVar 8) aNil)))) (aCons (eTup (aCons (eC (.str "add")) (aCons (eVar 8) aNil))) aNil)))))))
      (sSeq (sSet 9 (eBin addC (eVar 9) (eLst (aCons (eTup (aCons (eC (.str "turn")) (aCons (eVar 8) (aCons (eVar 8) aNil)))) (aCons (eTup (aCons (eC (.str "turn")) (aCons (eVar 8) (aCons (eCall (m_Tspoilt 70) (aDeck 0 (aCons (eVar 6) aNil))) aNil)))) (aCons (eTup (aCons (eC (.str "turn")) (aCons (eUn lenC (eVar 4)) (aCons (eC (.str "A")) aNil)))) aNil))))))
      (sRet (eCall m_Tone (aDeck 0 (aCons (eBin addC (eVar 9) (eLst (aCons (eTup (aCons (eC (.str "add")) (aCons (eBin addC (eTup (aCons (eC (.str "and")) aNil)) (eBin mulC (eTup (aCons (eTup (aCons (eC (.str "or")) aNil)) aNil)) (eCall m_Tone (aDeck 0 (aCons (eLst (aCons (eC (.int 39)) (aCons (eC (.int 40)) aNil))) aNil))))) aNil))) aNil))) aNil)))))))))))))
def m_Tdo : List AV → M XR := runX 2 2
  (sSeq (sIf (cBin eqC (eBin ixC (eVar 1) (eC (.int 0))) (eC (.str "add"))) (sRetX (xAMeth 0 "Shelf" "add" m_Shelf_add (aCons (eBin ixC (eVar 1) (eC (.int 1))) aNil))) sNil)
      (sRetX (xIf (cBin eqC (eBin ixC (eVar 1) (eC (.int 0))) (eC (.str "drop"))) (xAMeth 0 "Shelf" "drop" m_Shelf_drop (aCons (eBin ixC (eVar 1) (eC (.int 1))) aNil)) (xAMeth 0 "Shelf" "turn" m_Shelf_turn (aCons (eBin ixC (eVar 1) (eC (.int 1))) (aCons (eBin ixC (eVar 1) (eC (.int 2))) aNil))))))
end VL.cm15
set_option Elab.async false
set_option linter.all false
set_option maxRecDepth 100000
set_option maxHeartbeats 2000000
namespace VL.cm15
variable [Ob]
open PySem PySem.Spec L2 VL VL.cm VL.cm3 VL.cm4 VL.cm5 VL.cm14
open PyProof.Rows hiding St
def atB (n : Nat) : PyData → Bool
  | .int i => decide (0 ≤ i ∧ i < n)
  | _ => false
theorem ev_at (n : Nat) (v : PyData) : Ev (m_is_number_to [.d (.int ((n : Int) - 1)), .d v]) (.bool (atB n v)) := by
  refine ev_runW rfl fun δ => ?_
  cases v with
  | int i =>
    simp [atB]
    by_cases h1 : 0 ≤ i
    · simp [h1]; omega
    · simp [h1]
  | _ => simp [atB]
theorem ev_Tat (n : Nat) (v : PyData) : Ev (m_Twhole [.d v, .d (.int 0), .d (.int ((n : Int) - 1))]) (.bool (atB n v)) := by
  refine ev_runW rfl fun δ => ?_
  cases v with
  | int i =>
    simp [atB]
    by_cases h1 : 0 ≤ i
    · simp [h1]; omega
    · simp [h1]
  | _ => simp [atB]
theorem atB_of {n : Nat} {d : PyData} (h : atB n d = true) : ∃ i : Nat, d = .int (i : Int) ∧ i < n := by
  cases d with
  | int i =>
    obtain ⟨h1, h2⟩ := of_decide_eq_true (show decide (0 ≤ i ∧ i < (n : Int)) = true from h)
    exact ⟨i.toNat, by rw [Int.toNat_of_nonneg h1], by omega⟩
  | _ => cases h
/-- the shelf's state -/
abbrev st (δ : DS) (k l : Nat) (rs es : List PyData) (w : PyData) : DS := sh δ "Shelf" (shF (.int (k : Int)) (.int (l : Int)) (.tuple rs) (.tuple es) w)
section
variable {δ : DS} {k l : Nat} {rs rs' es : List PyData} {r w v : PyData} {Q : XR → DS → Prop}
theorem flatDs_app : ∀ {xs ys : List PyData}, flatDs xs = true → flatDs ys = true → flatDs (xs ++ ys) = true
  | [], _, _, h => h
  | x :: xs, ys, h, g => by
    rw [flatDs, Bool.and_eq_true] at h
    show (flatD x && flatDs (xs ++ ys)) = true
    rw [h.1, flatDs_app h.2 g]
    rfl
theorem W_room (he : es.length < 40) (q : Q (.inl .none) (st δ k l rs es w)) : W (m_Shelf__check_room [.am 0]) (st δ k l rs es w) Q := by
  unfold m_Shelf__check_room
  rw [W_runX (show [AV.am 0].length = 1 from rfl)]
  have hl : (shF (.int (k : Int)) (.int (l : Int)) (.tuple rs) (.tuple es) w).lookup ("LIMIT" : Str) = none := shF_no
  have n40 : ¬ (40 : Int) ≤ es.length := by omega
  simp [avSV, startA, W_version, n40]
  exact ⟨by simpa using hl, q⟩
theorem W_next {p : DS} (hv : Low v) : W (m_Shelf__check_next [.am 0, .d v]) p Q ↔ Q (if isNone (bkR v) = true then .inl .none else .inr ("BadBook", [("error", bkR v)])) p := by
  unfold m_Shelf__check_next
  rw [W_runX (show [AV.am 0, .d v].length = 2 from rfl)]
  simp only [W_sDropX, W_xCall]
  simp [avSV, startA, W_check hv]
  cases q : isNone (bkR v) <;> simp [q]
theorem W_edit (hv : Low (bkD k l rs')) (hb : Bk k l rs) (he : es.length < 40) (fe : flatDs es = true) (h1 : isNone (bkR (bkD k l rs')) = false → Q (.inr ("BadBook", [("error", bkR (bkD k l rs'))])) (st δ k l rs es w))
    (h2 : isNone (bkR (bkD k l rs')) = true → Bk k l rs' → Q (.inl (.int ((es.length : Int) + 1))) (st δ k l rs' (es ++ [.tuple rs]) (.tuple []))) : W (m_Shelf__edit [.am 0, .d (.tuple rs')]) (st δ k l rs es w) Q := by
  have z0 : 0 ≤ sizeLine := by decide
  have z1 : 1 ≤ sizeLine := by decide
  have z3 : 3 ≤ sizeLine := by decide
  have z41 : es.length + 1 ≤ sizeLine := Nat.le_trans (show es.length + 1 ≤ 41 by omega) (by decide)
  have no : (shF (.int (k : Int)) (.int (l : Int)) (.tuple rs) (.tuple es) w).lookup ("_check_next" : Str) = none := shF_no
  unfold m_Shelf__edit
  rw [W_runX (show [AV.am 0, .d (.tuple rs')].length = 2 from rfl)]
  simp only [W_sSeq, W_sDropX, W_xAMeth]
  simp [avSV, startA, z3]
  refine ⟨by simpa using no, ?_⟩
  refine (W_next (v := bkD k l rs') hv).mpr ?_
  cases q : isNone (bkR (bkD k l rs')) with
  | false => simpa [q] using h1 q
  | true =>
    obtain ⟨k2, l2, r2, e, b⟩ := bkR_none (isNone_iff.mp q)
    have fr := rules_flat hb.2.2.2.2
    have : k2 = k ∧ l2 = l ∧ r2 = rs' := by
      unfold bkD at e
      injection e with e
      injection e with e1 e
      injection e with e2 e
      injection e with e3 e
      injection e1 with e1
      injection e2 with e2
      injection e3 with e3
      exact ⟨by omega, by omega, e3.symm⟩
    obtain ⟨rfl, rfl, rfl⟩ := this
    have fr2 := rules_flat b.2.2.2.2
    have f3 : flatD (.tuple (es ++ [.tuple rs])) = true := flatDs_app fe (show (flatD (.tuple rs) && true) = true by rw [fr]; rfl)
    have f0 : flatD (.tuple []) = true := rfl
    have := h2 q b
    simp [q, z0, z41, fr2, f3, f0, sh, st]
    exact (W_version (δ := δ)).mpr (by simpa using this)
theorem W_index : W (m_Shelf__check_index [.am 0, .d v]) (st δ k l rs es w) Q ↔ Q (if atB rs.length v = true then .inl .none else .inr ("NoRule", [("index", v)])) (st δ k l rs es w) := by
  unfold m_Shelf__check_index
  rw [W_runX (show [AV.am 0, .d v].length = 2 from rfl)]
  simp [avSV, startA, sRaise1, W_ev (ev_at rs.length v)]
  cases q : atB rs.length v <;> simp [q]
theorem sl6 (hb : Bk k l rs) (n : Nat) : (rs.take n).length ≤ 6 ∧ (rs.drop n).length ≤ 6 := by
  have := hb.2.2.2.1
  rw [List.length_take, List.length_drop]
  omega
theorem W_add (hv : Low (bkD k l (rs ++ [v]))) (hb : Bk k l rs) (he : es.length < 40) (fe : flatDs es = true) (h1 : isNone (bkR (bkD k l (rs ++ [v]))) = false → Q (.inr ("BadBook", [("error", bkR (bkD k l (rs ++ [v])))])) (st δ k l rs es w))
    (h2 : isNone (bkR (bkD k l (rs ++ [v]))) = true → Bk k l (rs ++ [v]) → Q (.inl (.int ((es.length : Int) + 1))) (st δ k l (rs ++ [v]) (es ++ [.tuple rs]) (.tuple []))) : W (m_Shelf_add [.am 0, .d v]) (st δ k l rs es w) Q := by
  have no : (shF (.int (k : Int)) (.int (l : Int)) (.tuple rs) (.tuple es) w).lookup ("_check_room" : Str) = none := shF_no
  have no2 : (shF (.int (k : Int)) (.int (l : Int)) (.tuple rs) (.tuple es) w).lookup ("_edit" : Str) = none := shF_no
  have z : (rs ++ [v]).length ≤ sizeLine := Nat.le_trans (show (rs ++ [v]).length ≤ 7 by have := hb.2.2.2.1; simp; omega) (by decide)
  unfold m_Shelf_add
  rw [W_runX (show [AV.am 0, .d v].length = 2 from rfl)]
  simp only [W_sSeq, W_sDropX, W_sRetX, W_xAMeth]
  simp [avSV, startA]
  refine ⟨by simpa using no, W_room he ?_⟩
  simp
  refine ⟨by simpa using no2, by simpa using z, W_edit hv hb he fe (fun q => ?_) fun q b => ?_⟩
  · simpa using h1 q
  · simpa using h2 q b
theorem W_drop (hv : ∀ n : Nat, Low (bkD k l (rs.take n ++ rs.drop (n + 1)))) (hb : Bk k l rs) (he : es.length < 40) (fe : flatDs es = true) (h0 : atB rs.length v = false → Q (.inr ("NoRule", [("index", v)])) (st δ k l rs es w))
    (h1 : ∀ n : Nat, v = .int (n : Int) → n < rs.length → isNone (bkR (bkD k l (rs.take n ++ rs.drop (n + 1)))) = false → Q (.inr ("BadBook", [("error", bkR (bkD k l (rs.take n ++ rs.drop (n + 1))))])) (st δ k l rs es w))
    (h2 : ∀ n : Nat, v = .int (n : Int) → n < rs.length → isNone (bkR (bkD k l (rs.take n ++ rs.drop (n + 1)))) = true → Bk k l (rs.take n ++ rs.drop (n + 1)) → Q (.inl (.int ((es.length : Int) + 1))) (st δ k l (rs.take n ++ rs.drop (n + 1)) (es ++ [.tuple rs]) (.tuple []))) : W (m_Shelf_drop [.am 0, .d v]) (st δ k l rs es w) Q := by
  have no : (shF (.int (k : Int)) (.int (l : Int)) (.tuple rs) (.tuple es) w).lookup ("_check_room" : Str) = none := shF_no
  have no1 : (shF (.int (k : Int)) (.int (l : Int)) (.tuple rs) (.tuple es) w).lookup ("_check_index" : Str) = none := shF_no
  have no2 : (shF (.int (k : Int)) (.int (l : Int)) (.tuple rs) (.tuple es) w).lookup ("_edit" : Str) = none := shF_no
  unfold m_Shelf_drop
  rw [W_runX (show [AV.am 0, .d v].length = 2 from rfl)]
  simp only [W_sSeq, W_sDropX, W_sRetX, W_xAMeth]
  simp [avSV, startA]
  refine ⟨by simpa using no, W_room he ?_⟩
  simp
  refine ⟨by simpa using no1, W_index.mpr ?_⟩
  cases q : atB rs.length v with
  | false => simpa using h0 q
  | true =>
    obtain ⟨n, rfl, hn⟩ := atB_of q
    have s6 := sl6 hb n
    have s7 := sl6 hb (n + 1)
    simp
    refine ⟨by simpa using no2, ?_⟩
    rw [slT_to, oW_some, show ((n : Int) + 1) = ((n + 1 : Nat) : Int) by omega, slT_from, oW_some, addC_tt (by omega), oW_some]
    refine W_edit (hv n) hb he fe (fun q => ?_) fun q b => ?_
    · simpa using h1 n rfl hn q
    · simpa using h2 n rfl hn q b
theorem W_turn {x : PyData} (hv : ∀ n : Nat, Low (bkD k l (rs.take n ++ [x] ++ rs.drop (n + 1)))) (hb : Bk k l rs) (he : es.length < 40) (fe : flatDs es = true) (h0 : atB rs.length v = false → Q (.inr ("NoRule", [("index", v)])) (st δ k l rs es w))
    (h1 : ∀ n : Nat, v = .int (n : Int) → n < rs.length → isNone (bkR (bkD k l (rs.take n ++ [x] ++ rs.drop (n + 1)))) = false → Q (.inr ("BadBook", [("error", bkR (bkD k l (rs.take n ++ [x] ++ rs.drop (n + 1))))])) (st δ k l rs es w))
    (h2 : ∀ n : Nat, v = .int (n : Int) → n < rs.length → isNone (bkR (bkD k l (rs.take n ++ [x] ++ rs.drop (n + 1)))) = true → Bk k l (rs.take n ++ [x] ++ rs.drop (n + 1)) → Q (.inl (.int ((es.length : Int) + 1))) (st δ k l (rs.take n ++ [x] ++ rs.drop (n + 1)) (es ++ [.tuple rs]) (.tuple []))) : W (m_Shelf_turn [.am 0, .d v, .d x]) (st δ k l rs es w) Q := by
  have no : (shF (.int (k : Int)) (.int (l : Int)) (.tuple rs) (.tuple es) w).lookup ("_check_room" : Str) = none := shF_no
  have no1 : (shF (.int (k : Int)) (.int (l : Int)) (.tuple rs) (.tuple es) w).lookup ("_check_index" : Str) = none := shF_no
  have no2 : (shF (.int (k : Int)) (.int (l : Int)) (.tuple rs) (.tuple es) w).lookup ("_edit" : Str) = none := shF_no
  have z1 : 1 ≤ sizeLine := by decide
  unfold m_Shelf_turn
  rw [W_runX (show [AV.am 0, .d v, .d x].length = 3 from rfl)]
  simp only [W_sSeq, W_sDropX, W_sRetX, W_xAMeth]
  simp [avSV, startA]
  refine ⟨by simpa using no, W_room he ?_⟩
  simp
  refine ⟨by simpa using no1, W_index.mpr ?_⟩
  cases q : atB rs.length v with
  | false => simpa using h0 q
  | true =>
    obtain ⟨n, rfl, hn⟩ := atB_of q
    have s6 := sl6 hb n
    have s7 := sl6 hb (n + 1)
    simp
    refine ⟨by simpa using no2, ?_⟩
    simp only [z1, true_and]
    rw [slT_to, oW_some, addC_tt (by rw [List.length_singleton]; omega), oW_some, show ((n : Int) + 1) = ((n + 1 : Nat) : Int) by omega, slT_from, oW_some, addC_tt (by rw [List.length_append, List.length_singleton]; omega), oW_some]
    refine W_edit (hv n) hb he fe (fun q => ?_) fun q b => ?_
    · simpa using h1 n rfl hn q
    · simpa using h2 n rfl hn q b
end
inductive Dd
  | add (v : PyData) | drop (i : PyData) | turn (i v : PyData)
def Dd.D : Dd → PyData
  | .add v => .tuple [.str "add", v]
  | .drop i => .tuple [.str "drop", i]
  | .turn i v => .tuple [.str "turn", i, v]
def posD : PyData → Nat
  | .int i => i.toNat
  | _ => 0
/-- what rules would come, or the index that is none -/
def Dd.come (rs : List PyData) : Dd → PyData ⊕ List PyData
  | .add v => .inr (rs ++ [v])
  | .drop i => if atB rs.length i = true then .inr (rs.take (posD i) ++ rs.drop (posD i + 1)) else .inl i
  | .turn i v => if atB rs.length i = true then .inr (rs.take (posD i) ++ [v] ++ rs.drop (posD i + 1)) else .inl i
/-- what comes is not too long to be looked at -/
def Dd.Low (k l : Nat) (rs : List PyData) : Dd → Prop
  | .add v => cm.Low (bkD k l (rs ++ [v]))
  | .drop _ => ∀ n, cm.Low (bkD k l (rs.take n ++ rs.drop (n + 1)))
  | .turn _ v => ∀ n, cm.Low (bkD k l (rs.take n ++ [v] ++ rs.drop (n + 1)))
theorem ixT0 (a : PyData) (ds : List PyData) : ixC (.tuple (a :: ds)) (.int 0) = some a := by
  show atI (a :: ds) 0 = _
  exact atI_nat (j := 0) rfl
theorem ixT1 (a b : PyData) (ds : List PyData) : ixC (.tuple (a :: b :: ds)) (.int 1) = some b := by
  show atI (a :: b :: ds) 1 = _
  exact atI_nat (j := 1) rfl
theorem eqS (x y : Str) : eqC (.str x) (.str y) = some (decide (x = y)) := by
  have h : okC (.str x) (.str y) = true := rfl
  unfold eqC
  rw [if_pos h]
  by_cases q : x = y
  · subst q
    rw [(eqv_str (.str x) x).mpr rfl]
    simp
  · have : PyData.eqv (.str x) (.str y) = false := by
      cases e : PyData.eqv (.str x) (.str y) with
      | false => rfl
      | true =>
        have := (eqv_str (.str x) y).mp e
        injection this with this
        exact absurd this q
    rw [this]
    simp [q]
theorem da : decide (("drop" : Str) = "add") = false := by decide +kernel
theorem ta : decide (("turn" : Str) = "add") = false := by decide +kernel
theorem td : decide (("turn" : Str) = "drop") = false := by decide +kernel
theorem at_pos {n : Nat} {v : PyData} (h : atB n v = true) : v = .int ((posD v : Nat) : Int) ∧ posD v < n := by
  obtain ⟨i, rfl, hi⟩ := atB_of h
  exact ⟨rfl, hi⟩
section
variable {δ : DS} {k l : Nat} {rs es : List PyData} {w : PyData} {Q : XR → DS → Prop} {q : Dd}
theorem W_do (hl : q.Low k l rs) (hb : Bk k l rs) (he : es.length < 40) (fe : flatDs es = true) (h0 : ∀ i, q.come rs = .inl i → Q (.inr ("NoRule", [("index", i)])) (st δ k l rs es w))
    (h1 : ∀ r2, q.come rs = .inr r2 → isNone (bkR (bkD k l r2)) = false → Q (.inr ("BadBook", [("error", bkR (bkD k l r2))])) (st δ k l rs es w))
    (h2 : ∀ r2, q.come rs = .inr r2 → isNone (bkR (bkD k l r2)) = true → Bk k l r2 → Q (.inl (.int ((es.length : Int) + 1))) (st δ k l r2 (es ++ [.tuple rs]) (.tuple []))) : W (m_Tdo [.am 0, .d q.D]) (st δ k l rs es w) Q := by
  have no : (shF (.int (k : Int)) (.int (l : Int)) (.tuple rs) (.tuple es) w).lookup ("add" : Str) = none := shF_no
  have no1 : (shF (.int (k : Int)) (.int (l : Int)) (.tuple rs) (.tuple es) w).lookup ("drop" : Str) = none := shF_no
  have no2 : (shF (.int (k : Int)) (.int (l : Int)) (.tuple rs) (.tuple es) w).lookup ("turn" : Str) = none := shF_no
  unfold m_Tdo
  rw [W_runX (show [AV.am 0, .d q.D].length = 2 from rfl)]
  cases q with
  | add v =>
    simp [avSV, startA, Dd.D, ixT0, ixT1, eqS]
    refine ⟨by simpa using no, W_add hl hb he fe (fun q => ?_) fun q b => ?_⟩
    · simpa using h1 _ rfl q
    · simpa using h2 _ rfl q b
  | drop i =>
    simp [avSV, startA, Dd.D, ixT0, ixT1, eqS, da]
    refine ⟨by simpa using no1, W_drop hl hb he fe (fun q => ?_) (fun n e hn q => ?_) fun n e hn q b => ?_⟩
    · simpa using h0 i (if_neg (by rw [q]; exact Bool.false_ne_true))
    all_goals
      subst e
      have hc : Dd.come rs (.drop (.int (n : Int))) = .inr (rs.take n ++ rs.drop (n + 1)) := if_pos (show atB rs.length (.int (n : Int)) = true from decide_eq_true ⟨by omega, by omega⟩)
    · simpa using h1 _ hc q
    · simpa using h2 _ hc q b
  | turn i v =>
    simp [avSV, startA, Dd.D, ixT0, ixT1, ixT2, eqS, ta, td]
    refine ⟨by simpa using no2, W_turn hl hb he fe (fun q => ?_) (fun n e hn q => ?_) fun n e hn q b => ?_⟩
    · simpa using h0 i (if_neg (by rw [q]; exact Bool.false_ne_true))
    all_goals
      subst e
      have hc : Dd.come rs (.turn (.int (n : Int)) v) = .inr (rs.take n ++ [v] ++ rs.drop (n + 1)) := if_pos (show atB rs.length (.int (n : Int)) = true from decide_eq_true ⟨by omega, by omega⟩)
    · simpa using h1 _ hc q
    · simpa using h2 _ hc q b
end
end VL.cm15
set_option Elab.async false
set_option linter.all false
set_option maxRecDepth 100000
set_option maxHeartbeats 4000000
namespace VL.cm15
variable [Ob]
open PySem PySem.Spec L2 VL VL.cm VL.cm3 VL.cm4 VL.cm5 VL.cm14
open PyProof.Rows hiding St
def Dd.due (k l : Nat) (rs : List PyData) (q : Dd) : PyData := match q.come rs with
  | .inl i => .list [.str "rule", i]
  | .inr r2 => if isNone (bkR (bkD k l r2)) = true then .list [.str "told", bkD k l r2] else .list [.str "book", bkR (bkD k l r2)]
section
variable {k l : Nat} {rs : List PyData} {q : Dd}
theorem sl2 : slC (bkD k l rs) none (some 2) = some (.tuple [.int (k : Int), .int (l : Int)]) := slT_to _ 2
theorem ix2 : ixC (bkD k l rs) (.int 2) = some (.tuple rs) := ixT2 _ _ _ _
theorem neS (x y : Str) : neC (.str x) (.str y) = some (decide (x ≠ y)) := neC_strs x y
theorem rt : decide (("rule" : Str) ≠ "told") = true := by decide +kernel
theorem rt2 : (("rule" : Str) = "told") = False := eq_false (by decide +kernel)
theorem ix0 (a : PyData) (ds : List PyData) : ixC (.list (a :: ds)) (.int 0) = some a := by
  show atI (a :: ds) 0 = _
  exact atI_nat (j := 0) rfl
theorem ix1 (a b : PyData) (ds : List PyData) : ixC (.list (a :: b :: ds)) (.int 1) = some b := by
  show atI (a :: b :: ds) 1 = _
  exact atI_nat (j := 1) rfl
theorem ev_Tcome (hl : rs.length ≤ 6) : Ev (m_Tcome [.d (bkD k l rs), .d q.D]) (match q.come rs with
  | .inl i => .list [.str "rule", i]
  | .inr r2 => .list [.str "told", bkD k l r2]) := by
  have z0 : 0 ≤ sizeLine := by decide
  have z1 : 1 ≤ sizeLine := by decide
  have z2 : 2 ≤ sizeLine := by decide
  refine ev_runW rfl fun δ => ?_
  cases q with
  | add v =>
    simp [Dd.D, Dd.come, ix2, sl2, ixT0, ixT1, eqS, z1, z2]
    rw [addC_tt (by simp; omega)]
    simp [z1]
    rw [addC_tt (by simp)]
    simp
    rfl
  | drop i =>
    simp [Dd.D, Dd.come, ix2, sl2, ixT0, ixT1, eqS, z0, z1, z2, da, td, W_ev (ev_Tat rs.length i)]
    cases q : atB rs.length i with
    | false => simp [q]
    | true =>
      obtain ⟨e, hn⟩ := at_pos q
      generalize posD i = n at e hn
      subst e
      simp [q, eqS, (show decide (("drop" : Str) = "turn") = false by decide +kernel), z0]
      rw [slT_to, oW_some, addC_tt (by simp; omega)]
      simp
      rw [show ((n : Int) + 1) = ((n + 1 : Nat) : Int) by omega, slT_from, oW_some, addC_tt (by simp; omega)]
      simp [z1]
      rw [addC_tt (by simp)]
      simp [posD]
      rfl
  | turn i v =>
    simp [Dd.D, Dd.come, ix2, sl2, ixT0, ixT1, ixT2, eqS, z1, z2, ta, W_ev (ev_Tat rs.length i)]
    cases q : atB rs.length i with
    | false => simp [q]
    | true =>
      obtain ⟨e, hn⟩ := at_pos q
      generalize posD i = n at e hn
      subst e
      simp [q, eqS, z1]
      rw [slT_to, oW_some, addC_tt (by simp; omega)]
      simp
      rw [show ((n : Int) + 1) = ((n + 1 : Nat) : Int) by omega, slT_from, oW_some, addC_tt (by simp; omega)]
      simp [z1]
      rw [addC_tt (by simp)]
      simp [posD]
      rfl
theorem come_low (hl : q.Low k l rs) {r2 : List PyData} (e : q.come rs = .inr r2) : cm.Low (bkD k l r2) := by
  cases q with
  | add v => injection e with e; subst e; exact hl
  | drop i =>
    simp only [Dd.come] at e
    split at e
    · injection e with e; subst e; exact hl _
    · cases e
  | turn i v =>
    simp only [Dd.come] at e
    split at e
    · injection e with e; subst e; exact hl _
    · cases e
theorem ev_Tafter (hn : rs.length ≤ 6) (hl : q.Low k l rs) : Ev (m_Tafter [.d (bkD k l rs), .d q.D]) (q.due k l rs) := by
  have z2 : 2 ≤ sizeLine := by decide
  refine ev_runW rfl fun δ => ?_
  simp [W_ev (ev_Tcome (k := k) (l := l) (q := q) hn)]
  unfold Dd.due
  cases e : q.come rs with
  | inl i => simp [ix0, neS, rt2]
  | inr r2 =>
    have lw := come_low hl e
    simp [ix0, ix1, neS, W_ev (ev_Tbk _ lw), isC_none]
    cases e2 : isNone (bkR (bkD k l r2)) <;> simp [e2, z2]
end
end VL.cm15
set_option Elab.async false
set_option linter.all false
set_option maxRecDepth 100000
set_option maxHeartbeats 4000000
namespace VL.cm15
variable [Ob]
open PySem PySem.Spec L2 VL VL.cm VL.cm3 VL.cm4 VL.cm5 VL.cm14
open PyProof.Rows hiding St
def leafZ : List PyData := leafY ++ [.int (10 ^ 20), .str "add", .str "drop", .str "turn", .str "told", .str "rule"]
theorem leafZ_ok : ∀ d ∈ leafZ, leafOk d = true := by
  have h : leafZ.all leafOk = true := by decide +kernel
  exact fun d hd => List.all_eq_true.mp h d hd
theorem leafYZ : ∀ d ∈ leafY, d ∈ leafZ := fun d h => List.mem_append_left _ h
theorem fineZ {d : PyData} (h : Fine leafY d) : Fine leafZ d := Fine.mono leafYZ h
theorem reprZ {d : PyData} (h : Fine leafZ d) (hd : d.depth ≤ 100) (hc : cnt d ≤ 300000) : reprC d = some (.str d.shown) := by
  unfold reprC
  rw [if_pos (h.repr leafZ_ok hd hc)]
/-- a value of a deed -/
def Dw (d : PyData) : Prop := Fine leafZ d ∧ d.depth ≤ 50 ∧ cnt d ≤ 200
theorem Dw.mk {L : Nat} {d : PyData} (m : Mk L d) (h : d.depth ≤ 50) (c : cnt d ≤ 200) : Dw d := ⟨fineZ (Mk.fineY m), h, c⟩
theorem Dw.leaf {d : PyData} (h : d ∈ leafZ) (hd : d.depth ≤ 50) (c : cnt d ≤ 200) : Dw d := ⟨.at h, hd, c⟩
theorem Dw.int {n : Nat} (h : n < 64) : Dw (.int (n : Int)) := ⟨fineZ (intY h), by simp [PyData.depth], by simp [cnt]⟩
theorem Dw.sk {k l : Nat} {d : PyData} (h : Sk k l d) : Dw d := by
  obtain ⟨a, b, c⟩ := Pv.sk h
  exact .mk a (by omega) (by omega)
theorem Dw.spoilt {k l : Nat} {d e : PyData} (h : Sk k l d) (b : BeT 50 d e) : Dw e := by
  obtain ⟨_, d1, c1⟩ := Pv.sk h
  obtain ⟨m, d2, c2⟩ := b
  exact .mk m (by omega) (by omega)
def Dd.Ok : Dd → Prop
  | .add v => Dw v
  | .drop i => Dw i
  | .turn i v => Dw i ∧ Dw v
theorem low_of {k l : Nat} {rs : List PyData} (h : ∀ r ∈ rs, cnt r < 300000 ∧ r.depth < 70) : cm.Low (bkD k l rs) := by
  rintro a b rs' e r hr
  unfold bkD at e
  injection e with e
  injection e with _ e
  injection e with _ e
  injection e with e _
  injection e with e
  subst e
  exact h r hr
theorem Dd.Ok.low {k l : Nat} {rs : List PyData} {q : Dd} (h : q.Ok) (hb : Bk k l rs) : q.Low k l rs := by
  have hr : ∀ r ∈ rs, cnt r < 300000 ∧ r.depth < 70 := fun r m => by
    obtain ⟨_, b, c⟩ := Pv.sk (hb.2.2.2.2 r m)
    exact ⟨by omega, by omega⟩
  have hv : ∀ v, Dw v → cnt v < 300000 ∧ v.depth < 70 := fun v ⟨_, b, c⟩ => ⟨by omega, by omega⟩
  cases q with
  | add v =>
    refine low_of fun r m => ?_
    rcases List.mem_append.mp m with m | m
    · exact hr r m
    · rw [List.mem_singleton.mp m]; exact hv v h
  | drop i =>
    refine fun n => low_of fun r m => ?_
    rcases List.mem_append.mp m with m | m
    · exact hr r (List.mem_of_mem_take m)
    · exact hr r (List.mem_of_mem_drop m)
  | turn i v =>
    refine fun n => low_of fun r m => ?_
    rcases List.mem_append.mp m with m | m
    · rcases List.mem_append.mp m with m | m
      · exact hr r (List.mem_of_mem_take m)
      · rw [List.mem_singleton.mp m]; exact hv v h.2
    · exact hr r (List.mem_of_mem_drop m)
def szS : List (Nat × Nat) := [(1, 0), (0, 1), (1, 1), (2, 0), (2, 1), (0, 2), (1, 2), (2, 1)]
theorem szS_le : ∀ p ∈ szS, p.1 ≤ 3 ∧ p.2 ≤ 2 ∧ 1 ≤ p.1 + p.2 := by
  have h : szS.all (fun p => decide (p.1 ≤ 3 ∧ p.2 ≤ 2 ∧ 1 ≤ p.1 + p.2)) = true := by decide
  exact fun p hp => of_decide_eq_true (List.all_eq_true.mp h p hp)
theorem tot_Tsmall : Tot (m_Tsmall [.deck]) (fun d => ∃ k l : Nat, d = .tuple [.int (k : Int), .int (l : Int)] ∧ k ≤ 3 ∧ l ≤ 2 ∧ 1 ≤ k + l) := by
  have z2 : 2 ≤ sizeLine := by decide
  have z8 : 8 ≤ sizeLine := by decide
  refine tot_runW rfl fun δ g => ?_
  simp [z2, z8]
  refine W_pk g rfl (by simp) (by simp) fun t δ g ht => ?_
  have e : t ∈ szS.map fun p => PyData.tuple [.int (p.1 : Int), .int (p.2 : Int)] := ht
  obtain ⟨p, hp, rfl⟩ := List.mem_map.mp e
  exact ⟨g, p.1, p.2, rfl, szS_le p hp⟩
theorem mx1 (n : Nat) : mxC (.int 1) (.int (n : Int)) = some (.int ((max 1 n : Nat) : Int)) := by
  have e : mxC (.int 1) (.int (n : Int)) = some (.int (if (n : Int) > 1 then (n : Int) else 1)) := rfl
  rw [e]
  by_cases h : (n : Int) > 1
  · rw [if_pos h, show max 1 n = n by omega]
  · rw [if_neg h, show max 1 n = 1 by omega]; rfl
def oddZ (n : Nat) : List PyData := [.none, .int (-1), .int (n : Int), .bool true, .bool false, .str "0", .tuple [.int 0], .int (10 ^ 20), .list [], .int 0, .dict [], .str "A", .tuple [.str "not", .str "B"]]
theorem oddZ_ok {n : Nat} (hn : n ≤ 6) {d : PyData} (h : d ∈ oddZ n) : Dw d := by
  have lz : ∀ {d : PyData}, d ∈ leaf0 → Fine leafZ d := fun h => .at (leafYZ _ (leaf0Y _ h))
  unfold oddZ at h
  simp only [List.mem_cons, List.not_mem_nil, or_false] at h
  rcases h with rfl | rfl | rfl | rfl | rfl | rfl | rfl | rfl | rfl | rfl | rfl | rfl | rfl
  · exact ⟨lz (by simp [leaf0, odd1]), by decide, by decide⟩
  · exact ⟨lz (by simp [leaf0, odd1]), by decide, by decide⟩
  · exact .int (by omega)
  · exact ⟨lz (by simp [leaf0, odd1]), by decide, by decide⟩
  · exact ⟨lz (by simp [leaf0, odd1]), by decide, by decide⟩
  · exact ⟨lz (by simp [leaf0, odd1]), by decide, by decide⟩
  · exact ⟨.tup fun e he => by rw [List.mem_singleton.mp he]; exact lz (by simp [leaf0, odd1]), by decide, by decide⟩
  · exact ⟨.at (List.mem_append_right _ (by simp)), by simp [PyData.depth], by simp [cnt]⟩
  · exact ⟨.lst fun e he => (by cases he), by decide, by decide⟩
  · exact ⟨lz (by simp [leaf0, odd1]), by decide, by decide⟩
  · exact ⟨lz (by simp [leaf0, odd1]), by decide, by decide⟩
  · exact ⟨lz (by simp [leaf0, odd1]), by decide, by decide⟩
  · refine ⟨.tup fun e he => ?_, by decide, by decide⟩
    simp only [List.mem_cons, List.not_mem_nil, or_false] at he
    rcases he with rfl | rfl <;> exact lz (by simp [leaf0, odd1])
theorem tot_Tdeed {k l : Nat} {rs : List PyData} (hb : Bk k l rs) : Tot (m_Tdeed [.deck, .d (bkD k l rs)]) (fun d => ∃ q : Dd, d = q.D ∧ q.Ok) := by
  obtain ⟨hk, hl, h1, h6, hr⟩ := hb
  have z0 : 0 ≤ sizeLine := by decide
  have z1 : 1 ≤ sizeLine := by decide
  have z2 : 2 ≤ sizeLine := by decide
  have z3 : 3 ≤ sizeLine := by decide
  have z5 : 5 ≤ sizeLine := by decide
  have z13 : 13 ≤ sizeLine := by decide
  refine tot_runW rfl fun δ g => ?_
  refine W_seqA (fun z δ => Good δ ∧ z = [.deck, .dat (bkD k l rs), .dat (.int (k : Int)), .dat (.int (l : Int)), .dat (.tuple rs), .un, .un, .un, .un, .un]) (fun A hA => ?_) ?_
  · simp [bkD, gT, gsCons, gsNil]
    exact hA _ _ ⟨g, rfl⟩
  rintro z δ ⟨g, rfl⟩
  refine W_seqA (fun z δ => Good δ ∧ ∃ i : Nat, i < 7 ∧ z = [.deck, .dat (bkD k l rs), .dat (.int (k : Int)), .dat (.int (l : Int)), .dat (.tuple rs), .dat (.int (i : Int)), .un, .un, .un, .un]) (fun A hA => ?_) ?_
  · simp [mx1]
    refine W_tot (tot_draw (b := ((max 1 rs.length : Nat) : Int)) (by omega) (by omega)) g fun d δ g ⟨r, e, r0, r1⟩ => ?_
    subst e
    refine hA _ _ ⟨g, r.toNat, by omega, ?_⟩
    rw [Int.toNat_of_nonneg r0]
  rintro z δ ⟨g, i, hi, rfl⟩
  refine W_seqA (fun z δ => Good δ ∧ ∃ (v : PyData) (w : Int), Sk k l v ∧ z = [.deck, .dat (bkD k l rs), .dat (.int (k : Int)), .dat (.int (l : Int)), .dat (.tuple rs), .dat (.int (i : Int)), .dat v, .dat (.int w), .un, .un]) (fun A hA => ?_) ?_
  · simp
    refine W_tot (tot_Tsentence hk hl h1) g fun v δ g hv => ?_
    refine W_tot (tot_draw (b := 9) (by omega) (by omega)) g fun d δ g ⟨r, e, r0, r1⟩ => ?_
    subst e
    exact hA _ _ ⟨g, v, r, hv, rfl⟩
  rintro z δ ⟨g, v, w, hv, rfl⟩
  refine W_seqA (fun z δ => Good δ ∧ ∃ o : PyData, Dw o ∧ z = [.deck, .dat (bkD k l rs), .dat (.int (k : Int)), .dat (.int (l : Int)), .dat (.tuple rs), .dat (.int (i : Int)), .dat v, .dat (.int w), .dat o, .un]) (fun A hA => ?_) ?_
  · have p20 : powC (.int 10) (.int 20) = some (.int (10 ^ 20)) := rfl
    simp [z0, z1, z2, z13, p20]
    refine W_pk g rfl (by simp) (by simp) fun o δ g ho => ?_
    exact hA _ _ ⟨g, o, oddZ_ok h6 ho, rfl⟩
  rintro z δ ⟨g, o, ho, rfl⟩
  have fin : ∀ {q : Dd}, q.Ok → ∀ δ, Good δ → ∃ d, Fl.rt q.D = .rt d ∧ W (flD (.rt d)) δ fun b δ => Good δ ∧ ∃ q : Dd, b = q.D ∧ q.Ok := fun {q} h δ g => ⟨_, rfl, W_rt.mpr ⟨g, q, rfl, h⟩⟩
  have dv : Dw v := .sk hv
  have di : Dw (.int (i : Int)) := .int (by omega)
  refine W_ifret (fun b δ => Good δ) ?_ (fun δ g => ?_) fun δ g => ?_
  · simp
    exact g
  · simp [z2]
    exact ⟨g, .add v, rfl, dv⟩
  refine W_ifret (fun b δ => Good δ) ?_ (fun δ g => ?_) fun δ g => ?_
  · simp
    exact g
  · simp [z2]
    exact ⟨g, .drop (.int (i : Int)), rfl, di⟩
  refine W_ifret (fun b δ => Good δ) ?_ (fun δ g => ?_) fun δ g => ?_
  · simp
    exact g
  · simp [z3]
    exact ⟨g, .turn (.int (i : Int)) v, rfl, di, dv⟩
  obtain ⟨s1, s2, s3⟩ := Pv.sk hv
  have osp := fun δ (g : Good δ) => tot_Tspoilt (L := 50) (by omega) 70 v (by omega) s1 (by omega) δ g
  refine W_seqA (fun z δ => Good δ ∧ ∃ qs : List Dd, qs.length = 5 ∧ (∀ q ∈ qs, q.Ok) ∧ z = [.deck, .dat (bkD k l rs), .dat (.int (k : Int)), .dat (.int (l : Int)), .dat (.tuple rs), .dat (.int (i : Int)), .dat v, .dat (.int w), .dat o, .dat (.list (qs.map Dd.D))]) (fun A hA => ?_) ?_
  · simp [z2, z3, z5]
    refine W_tot (tot_Tspoilt (L := 50) (by omega) 70 v (by omega) s1 (by omega)) g fun e δ g be => ?_
    have de : Dw e := .spoilt hv be
    refine hA _ _ ⟨g, [.add e, .drop o, .turn o v, .turn (.int (i : Int)) o, .add o], rfl, fun q m => ?_, rfl⟩
    simp only [List.mem_cons, List.not_mem_nil, or_false] at m
    rcases m with rfl | rfl | rfl | rfl | rfl
    · exact de
    · exact ho
    · exact ⟨ho, dv⟩
    · exact ⟨di, ho⟩
    · exact ho
  rintro z δ ⟨g, qs, lq, hq, rfl⟩
  refine W_seqA (fun z δ => Good δ ∧ ∃ qs : List Dd, qs.length = 8 ∧ (∀ q ∈ qs, q.Ok) ∧ z = [.deck, .dat (bkD k l rs), .dat (.int (k : Int)), .dat (.int (l : Int)), .dat (.tuple rs), .dat (.int (i : Int)), .dat v, .dat (.int w), .dat o, .dat (.list (qs.map Dd.D))]) (fun A hA => ?_) ?_
  · simp [z2, z3, z5]
    refine W_tot (tot_Tspoilt (L := 50) (by omega) 70 v (by omega) s1 (by omega)) g fun e δ g be => ?_
    have de : Dw e := .spoilt hv be
    have dA : Dw (.str "A") := .leaf (leafYZ _ (leaf0Y _ (by simp [leaf0, odd1]))) (by decide) (by decide)
    rw [addC_ll (by simp; omega)]
    simp
    refine hA _ _ ⟨g, qs ++ [.turn o o, .turn o e, .turn (.int (rs.length : Int)) (.str "A")], by simp [lq], fun q m => ?_, by simp; exact ⟨rfl, rfl, rfl⟩⟩
    rcases List.mem_append.mp m with m | m
    · exact hq q m
    simp only [List.mem_cons, List.not_mem_nil, or_false] at m
    rcases m with rfl | rfl | rfl
    · exact ⟨ho, ho⟩
    · exact ⟨ho, de⟩
    · exact ⟨.int (by omega), dA⟩
  rintro z δ ⟨g, qs, lq, hq, rfl⟩
  simp [z1, z2]
  refine W_pk g rfl (by simp) (by simp) fun m δ g hm => ?_
  obtain ⟨n, rfl, hn⟩ : ∃ n : Nat, m = .int (n : Int) ∧ n ∈ ([39, 40] : List Nat) := by
    simp only [List.mem_cons, List.not_mem_nil, or_false] at hm
    rcases hm with rfl | rfl
    · exact ⟨39, rfl, by simp⟩
    · exact ⟨40, rfl, by simp⟩
  have n40 : n ≤ 40 := by
    simp only [List.mem_cons, List.not_mem_nil, or_false] at hn
    omega
  simp [orMul n hn]
  rw [addC_tt (by simp; omega)]
  simp [z1, z2]
  rw [addC_ll (by simp; omega)]
  simp
  refine W_pk g rfl (by simp) (by simp; omega) fun e δ g he => ?_
  refine ⟨g, ?_⟩
  rcases List.mem_append.mp he with he | he
  · obtain ⟨q, hq2, rfl⟩ := List.mem_map.mp he
    exact ⟨q, rfl, hq q hq2⟩
  · rw [List.mem_singleton.mp he]
    obtain ⟨a1, a2, a3⟩ := long_ok n hn
    exact ⟨.add (longD n), rfl, .mk a1 (by omega) (by omega)⟩
end VL.cm15
set_option Elab.async false
set_option linter.all false
set_option maxRecDepth 100000
set_option maxHeartbeats 4000000
namespace VL.cm15
variable [Ob]
open PySem PySem.Spec L2 VL VL.cm VL.cm3 VL.cm4 VL.cm5 VL.cm14
open PyProof.Rows hiding St
theorem ruR_ok {k l : Nat} {r : PyData} (h : Sk k l r) : ruR (wsD k l) r = .none := by
  obtain ⟨h1, h2, h3⟩ := h
  unfold ruR
  rw [if_pos h1, if_neg (by omega), if_pos h2]
theorem loopR_ok {k l : Nat} : ∀ {rs : List PyData} {i : Nat}, (∀ r ∈ rs, Sk k l r) → loopR (wsD k l) i rs = .none
  | [], _, _ => by rw [loopR]
  | r :: rs, i, h => by
    rw [loopR, ruR_ok (h r (List.mem_cons_self ..)), if_pos (by rfl)]
    exact loopR_ok fun e he => h e (List.mem_cons_of_mem _ he)
theorem numB_ok {m n : Nat} (h : n ≤ m) : numB m (.int (n : Int)) = true := decide_eq_true ⟨by omega, by omega⟩
theorem bkR_ok {k l : Nat} {rs : List PyData} (h : Bk k l rs) : bkR (bkD k l rs) = .none := by
  obtain ⟨hk, hl, h1, h6, hr⟩ := h
  unfold bkD bkR
  simp only [numB_ok hk, numB_ok hl, if_true]
  rw [if_neg (show ¬ ((k : Int) = 0 ∧ (l : Int) = 0) by omega), if_neg (show ¬ 6 < rs.length by omega)]
  show loopR (wsD ((k : Int)).toNat ((l : Int)).toNat) 0 rs = .none
  rw [Int.toNat_natCast, Int.toNat_natCast]
  exact loopR_ok hr
theorem Bk.low {k l : Nat} {rs : List PyData} (h : Bk k l rs) : cm.Low (bkD k l rs) := low_of fun r m => by
  obtain ⟨_, b, c⟩ := Pv.sk (h.2.2.2.2 r m)
  exact ⟨by omega, by omega⟩
theorem bk_inj {k l k' l' : Nat} {rs rs' : List PyData} (e : bkD k l rs = bkD k' l' rs') : k = k' ∧ l = l' ∧ rs = rs' := by
  unfold bkD at e
  injection e with e
  injection e with e1 e
  injection e with e2 e
  injection e with e3 e
  injection e1 with e1
  injection e2 with e2
  injection e3 with e3
  exact ⟨by omega, by omega, e3⟩
/-- Shelf(..) of a book -/
theorem W_begun {k l : Nat} {rs : List PyData} {δ : DS} (hb : Bk k l rs) {Q : XR → DS → Prop} (q : Q (.inl .none) (st δ k l rs [] (.tuple []))) : W (m_Shelf_init [.am 0, .d (bkD k l rs)]) (sh δ "Shelf" []) Q := by
  refine W_init (Bk.low hb) (fun h => ?_) fun h k' l' rs' e b => ?_
  · rw [bkR_ok hb] at h; cases h
  · obtain ⟨rfl, rfl, rfl⟩ := bk_inj e
    exact q
theorem Dw.two {a : Str} {d : PyData} (ha : PyData.str a ∈ leafZ) (h : Dw d) : reprC (.list [.str a, d]) = some (.str (PyData.list [.str a, d]).shown) := by
  obtain ⟨h1, h2, h3⟩ := h
  refine reprZ (.lst fun e he => ?_) (by simp [PyData.depth, PyData.depthAll]; omega) (by simp [cnt, cnts]; omega)
  simp only [List.mem_cons, List.not_mem_nil, or_false] at he
  rcases he with rfl | rfl
  · exact .at ha
  · exact h1
theorem inZ {d : PyData} (h : d ∈ ([.int (10 ^ 20), .str "add", .str "drop", .str "turn", .str "told", .str "rule"] : List PyData)) : d ∈ leafZ := List.mem_append_right _ h
theorem Dd.Ok.repr {q : Dd} (h : q.Ok) : reprC q.D = some (.str q.D.shown) := by
  cases q with
  | add v =>
    obtain ⟨h1, h2, h3⟩ := h
    refine reprZ (.tup fun e he => ?_) (by simp [Dd.D, PyData.depth, PyData.depthAll]; omega) (by simp [Dd.D, cnt, cnts]; omega)
    simp only [List.mem_cons, List.not_mem_nil, or_false] at he
    rcases he with rfl | rfl
    · exact .at (inZ (by simp))
    · exact h1
  | drop i =>
    obtain ⟨h1, h2, h3⟩ := h
    refine reprZ (.tup fun e he => ?_) (by simp [Dd.D, PyData.depth, PyData.depthAll]; omega) (by simp [Dd.D, cnt, cnts]; omega)
    simp only [List.mem_cons, List.not_mem_nil, or_false] at he
    rcases he with rfl | rfl
    · exact .at (inZ (by simp))
    · exact h1
  | turn i v =>
    obtain ⟨⟨h1, h2, h3⟩, g1, g2, g3⟩ := h
    refine reprZ (.tup fun e he => ?_) (by simp [Dd.D, PyData.depth, PyData.depthAll]; omega) (by simp [Dd.D, cnt, cnts]; omega)
    simp only [List.mem_cons, List.not_mem_nil, or_false] at he
    rcases he with rfl | rfl | rfl
    · exact .at (inZ (by simp))
    · exact h1
    · exact g1
theorem bkv {k l : Nat} {rs : List PyData} (hb : Bk k l rs) : Fine leafZ (bkD k l rs) ∧ (bkD k l rs).depth ≤ 50 ∧ cnt (bkD k l rs) ≤ 600 := by
  obtain ⟨hk, hl, h1, h6, hr⟩ := hb
  have hs : ∀ r ∈ rs, Mk 50 r ∧ r.depth ≤ 41 ∧ cnt r ≤ 82 := fun r m => Pv.sk (hr r m)
  have hd : PyData.depthAll rs ≤ 41 := depthAll_le fun d m => (hs d m).2.1
  have hc := cnts_all (N := 82) (ds := rs) fun d m => (hs d m).2.2
  have h82 := Nat.mul_le_mul_left 82 h6
  refine ⟨.tup fun e he => ?_, by simp [bkD, PyData.depth, PyData.depthAll]; omega, by simp [bkD, cnt, cnts]; omega⟩
  simp only [List.mem_cons, List.not_mem_nil, or_false] at he
  rcases he with rfl | rfl | rfl
  · exact fineZ (intY (by omega))
  · exact fineZ (intY (by omega))
  · exact .tup fun r m => fineZ (Mk.fineY (hs r m).1)
theorem repr_state {k l n m : Nat} {rs : List PyData} (hb : Bk k l rs) (hn : n < 64) (hm : m < 64) : reprC (.list [bkD k l rs, .int (n : Int), .int (m : Int)]) = some (.str (PyData.list [bkD k l rs, .int (n : Int), .int (m : Int)]).shown) := by
  obtain ⟨h1, h2, h3⟩ := bkv hb
  refine reprZ (.lst fun e he => ?_) (by simp [PyData.depth, PyData.depthAll]; omega) (by simp [cnt, cnts]; omega)
  simp only [List.mem_cons, List.not_mem_nil, or_false] at he
  rcases he with rfl | rfl | rfl
  · exact h1
  · exact fineZ (intY hn)
  · exact fineZ (intY hm)
theorem Dw.err (v : PyData) : Dw (bkR v) := by
  obtain ⟨h1, h2, h3⟩ := bk_fine (bkR_in v)
  exact ⟨fineZ h1, by omega, by omega⟩
theorem Dd.Ok.index {q : Dd} (h : q.Ok) {rs : List PyData} {i : PyData} (e : q.come rs = .inl i) : Dw i := by
  cases q with
  | add v => cases e
  | drop j =>
    simp only [Dd.come] at e
    split at e
    · cases e
    · injection e with e; subst e; exact h
  | turn j v =>
    simp only [Dd.come] at e
    split at e
    · cases e
    · injection e with e; subst e; exact h.1
end VL.cm15
set_option Elab.async false
set_option linter.all false
set_option maxRecDepth 100000
namespace VL
open PySem PySem.Spec L2 LamX
open PyProof.Rows hiding St
section
variable {P : Program} {w : World} {K : PySem.W.Frag} {mg mb : Str → Option Value} {k : Nat} {fa a : Addr} {fd : FuncData} {x : Str} {sp : Sp} {s1 : Shared} {vs : List Value} {ns : List Int} {cs : List (Addr × Addr)}
abbrev tabO : Obj := { cls := .none, data := .fields #[] }
/-- what is known at the top: the script, maybe; the tables, all empty -/
structure TopH (cs : List (Addr × Addr)) (a : Addr) (H : Hp) : Prop where
  tab : ∀ p ∈ cs, H p.2 = some (.tbl #[])
  one : ∀ b u, H b = some u → b = a ∧ (∃ o xs, u = .frz o (.lst xs)) ∨ b ∈ cs.map (·.2) ∧ u = .tbl #[]
theorem callT0 (KX : K.In s1.heap) (hns : s1.heap.Ns mainGlobals mg) (hb : s1.heap.Ns builtinsNs mb) (hbb : ∀ x : Str, x ≠ "__name__" → mb x = bootBuiltins x) (hlim : s1.heap.NoLimit) (hg : s1.gens = #[])
    (eT : ∀ p ∈ cs, s1.heap.get? p.2 = some tabO) (nT : ∀ p ∈ cs, K.lookup p.2 = none) (C : ∀ p ∈ cs, PySem.W.CodeHd s1.heap p.1 p.2)
    (bm : ∃ (bm : Addr) (ob : Obj), mg "__builtins__" = some (.ref bm) ∧ bm ≠ builtinsNs ∧ s1.heap.get? bm = some ob ∧ ob.cls = .type "module" ∧ ob.dict = some builtinsNs ∧ ob.data = .plain) {n0 : Nat}
    (ha : s1.heap.get? a = some { cls := .type "list", data := .seq vs.toArray n0 }) (hr : Room k callerA) (F : ∀ base : Heap, K.In base → base.Ns mainGlobals mg → (∀ p ∈ cs, TabB base mg p.1 p.2) → FnG P w K mg base k fa fd [x] sp) (hbind : ∀ (s : Shared) (u : Value), BindsTo s fd ⟨[u], []⟩ [(x, u)])
    {H : Hp} (T : TopH cs a H) (hsp : sp [.ref a] H (fun v _ => v = .bl true) E0) (hok : HOk P w H s1.heap) (hK : H a ≠ none → K.lookup a = none) :
    codeAny (model P w) callerA (.call (.ref fa) ⟨[.ref a], []⟩) (fun r s' => r = .ok (.ret (.bool true)) ∧ OldK s1.heap s'.heap ∧ s'.os = s1.os ∧ AllBare s'.gens) s1 := by
  have look : ∀ b, H b = none ∨ b = a ∨ b ∈ cs.map (·.2) := fun b => by
    cases e : H b with
    | none => exact .inl rfl
    | some u => exact .inr ((T.one b u e).imp (fun z => z.1) fun z => z.1)
  have isT : ∀ b, b ∈ cs.map (·.2) → s1.heap.get? b = some tabO := fun b hb => by
    obtain ⟨p, hp, rfl⟩ := List.mem_map.mp hb
    exact eT p hp
  -- an object that is no list and no empty table is in the base
  have stay : ∀ {b : Addr} {o : Obj}, s1.heap.get? b = some o → (∀ us n, o.data ≠ .seq us n) → o.data ≠ .fields #[] → (hidT s1.heap H).get? b = some o := fun {b o} e h1 h2 => by
    rcases look b with z | z | z
    · exact hidT_get e z
    · rw [z, ha] at e
      injection e with e
      subst e
      exact absurd rfl (h1 _ _)
    · rw [isT b z] at e
      injection e with e
      subst e
      exact absurd rfl h2
  have stayD : ∀ {b : Addr} {o : Obj} {es : Array DictEntry} {ep : Nat}, s1.heap.get? b = some o → o.data = .dict es ep → (hidT s1.heap H).get? b = some o := fun e d => stay e (fun us n z => by rw [d] at z; cases z) fun z => by rw [d] at z; cases z
  have ns2 : ∀ {b : Addr} {m : Str → Option Value}, s1.heap.Ns b m → (hidT s1.heap H).Ns b m := fun h => by
    obtain ⟨o, es, ep, e, d, r⟩ := h
    exact ⟨o, es, ep, stayD e d, d, r⟩
  have kin : K.In (hidT s1.heap H) := fun b o e => by
    by_cases q : H b = none
    · exact hidT_get (KX b o e) q
    · rcases look b with z | z | z
      · exact absurd z q
      · subst z
        rw [hK q] at e
        cases e
      · obtain ⟨p, hp, rfl⟩ := List.mem_map.mp z
        rw [nT p hp] at e
        cases e
  have hM : Mod K mg (hidT s1.heap H) := ⟨kin, ns2 hns, ⟨mb, ns2 hb, hbb⟩, by obtain ⟨mc, h1, h2⟩ := hlim; exact ⟨mc, ns2 h1, h2⟩⟩
  have TB : ∀ p ∈ cs, TabB (hidT s1.heap H) mg p.1 p.2 := fun p hp => by
    have here := eT p hp
    refine ⟨?_, ?_, fun z => ?_⟩
    · obtain ⟨o, us, file, tf, flags, tg, inF, text, tt, e1, r1, r2, r3, r4, r5, r6, r7, r8, ne⟩ := C p hp
      refine ⟨o, us, file, tf, flags, tg, inF, text, tt, stay e1 (fun us n z => by rw [r2] at z; cases z) (fun z => ?_), r1, r2, r3, r4, r5, r6, r7, r8, ne⟩
      rw [r2] at z
      cases z
      simp at r3
    · obtain ⟨m, ob, b1, b2, b3, b4, b5, b6⟩ := bm
      have nG : m ≠ mainGlobals := fun q => by
        obtain ⟨o, es, ep, e, hd, _⟩ := hns
        rw [q, e] at b3
        injection b3 with b3
        subst b3
        rw [hd] at b6
        cases b6
      have nP : m ≠ p.2 := fun q => by
        rw [q, here] at b3
        injection b3 with b3
        subst b3
        cases b6
      exact ⟨m, ob, b1, b2, nG, nP, stay b3 (fun us n z => by rw [b6] at z; cases z) (fun z => by rw [b6] at z; cases z), b4, b5, b6⟩
    · obtain ⟨o, es, ep, e, hd, _⟩ := hns
      rw [z, here] at e
      injection e with e
      subst e
      cases hd
  have no : ∀ b : Addr, b ∉ ([] : List Addr) := fun b q => nomatch q
  have e0 : Env0 P w K mg (hidT s1.heap H) callerA [] s1 H := ⟨rfl, hM, fun b o e => of_hidT e, Nat.le_of_eq (hidT_size _ _), trivial, fun b q => (no b q).elim, hok, .of_eq hg⟩
  refine codeAny_mono ((F _ kin (ns2 hns) TB).run callerA [] s1 H ⟨[.ref a], []⟩ [.ref a] [.ref a] _ rfl hr e0 (hbind s1 (.ref a)) (.cons rfl .nil) hsp) fun r s' h => ?_
  match r, h with
  | .ok (.ret u), ⟨v, H', os, bare, un, hok', r', (q : v = .bl true)⟩ =>
    subst q
    have eu : u = Value.bool true := r'
    subst eu
    have kept : ∀ b o, b ∉ cs.map (·.2) → s1.heap.get? b = some o → s'.heap.get? b = some o := fun b o nb e => by
      cases q : H b with
      | none => exact un.keep b o e q (no b) (no b)
      | some u =>
        rcases T.one b u q with ⟨_, ob, xs, z⟩ | ⟨z, _⟩
        · subst z
          have z1 := (hok b _ q).1
          have z2 := (hok' b _ (un.frzs b ob _ q)).1
          rw [e] at z1
          injection z1 with z1
          rw [z2, z1]
        · exact absurd z nb
    have more : ∀ p ∈ cs, ∃ us : Array Value, s'.heap.get? p.2 = some { cls := .none, data := .fields us } := fun p hp => by
      obtain ⟨us, z⟩ := un.tbls p.2 #[] (T.tab p hp)
      exact ⟨_, hok' p.2 _ z⟩
    refine ⟨rfl, ⟨fun b o e => ?_, fun b o e => ?_⟩, os, bare⟩
    · by_cases q : b ∈ cs.map (·.2)
      · obtain ⟨p, hp, rfl⟩ := List.mem_map.mp q
        obtain ⟨us, hm⟩ := more p hp
        rw [eT p hp] at e
        injection e with e
        subst e
        exact .inr (.inl ⟨((C p hp).tab (eT p hp)).isCodeTable, rfl, #[], us, rfl, by rw [Array.empty_append]; exact hm⟩)
      · exact .inl (kept b o q e)
    · by_cases q : b ∈ cs.map (·.2)
      · obtain ⟨p, hp, rfl⟩ := List.mem_map.mp q
        obtain ⟨us, hm⟩ := more p hp
        exact ⟨_, hm⟩
      · exact ⟨o, kept b o q e⟩
end
end VL
set_option Elab.async false
set_option linter.all false
set_option maxRecDepth 100000
namespace VL
open PySem PySem.Spec L2 LamX
open PyProof.Rows hiding St
section
variable {P : Program} {w : World} {K : PySem.W.Frag} {mg mb : Str → Option Value} {k : Nat} {fa a : Addr} {fd : FuncData} {x : Str} {sp : Sp} {s1 : Shared} {vs : List Value} {ns : List Int} {cs : List (Addr × Addr)}
theorem callT (KX : K.In s1.heap) (hns : s1.heap.Ns mainGlobals mg) (hb : s1.heap.Ns builtinsNs mb) (hbb : ∀ x : Str, x ≠ "__name__" → mb x = bootBuiltins x) (hlim : s1.heap.NoLimit) (hg : s1.gens = #[])
    (eT : ∀ p ∈ cs, s1.heap.get? p.2 = some tabO) (nT : ∀ p ∈ cs, K.lookup p.2 = none) (C : ∀ p ∈ cs, PySem.W.CodeHd s1.heap p.1 p.2)
    (bm : ∃ (bm : Addr) (ob : Obj), mg "__builtins__" = some (.ref bm) ∧ bm ≠ builtinsNs ∧ s1.heap.get? bm = some ob ∧ ob.cls = .type "module" ∧ ob.dict = some builtinsNs ∧ ob.data = .plain)
    (ha : s1.heap.get? a = some { cls := .type "list", data := .seq vs.toArray }) (hi : IntsAre vs ns) (hl : ns.length ≤ sizeLine) (hr : Room k callerA) (F : ∀ base : Heap, K.In base → base.Ns mainGlobals mg → (∀ p ∈ cs, TabB base mg p.1 p.2) → FnG P w K mg base k fa fd [x] sp) (hbind : ∀ (s : Shared) (u : Value), BindsTo s fd ⟨[u], []⟩ [(x, u)])
    (hsp : ∀ F H : Hp, Same F H → (∀ p ∈ cs, H p.2 = some (.tbl #[])) → (∀ p ∈ cs, F p.2 = none) → SqL K F a (ns.map V.int) → sp [.ref a] H (fun v _ => v = .bl true) E0) :
    codeAny (model P w) callerA (.call (.ref fa) ⟨[.ref a], []⟩) (fun r s' => r = .ok (.ret (.bool true)) ∧ OldK s1.heap s'.heap ∧ s'.os = s1.os ∧ AllBare s'.gens) s1 := by
  have rv := vals_ints hi
  have isT : ∀ b, b ∈ cs.map (·.2) → s1.heap.get? b = some tabO := fun b hb => by
    obtain ⟨p, hp, rfl⟩ := List.mem_map.mp hb
    exact eT p hp
  have aT : a ∉ cs.map (·.2) := fun z => by
    have q := isT a z
    rw [ha] at q
    injection q with q
    injection q with _ _ q _
    cases q
  have mT : ∀ p ∈ cs, p.2 ∈ cs.map (·.2) := fun p hp => List.mem_map.mpr ⟨p, hp, rfl⟩
  have neT : ∀ p ∈ cs, p.2 ≠ a := fun p hp z => aT (by rw [← z]; exact mT p hp)
  by_cases hk : K.lookup a = none
  · let o1 : Obj := { cls := .type "list", data := .seq vs.toArray }
    let F0 : Hp := fun b => if b = a then some (.frz o1 (.lst (ns.map V.int))) else none
    let H : Hp := fun b => if b = a then some (.frz o1 (.lst (ns.map V.int))) else if b ∈ cs.map (·.2) then some (.tbl #[]) else none
    have f1 : F0 a = some (.frz o1 (.lst (ns.map V.int))) := if_pos rfl
    have f2 : ∀ b, b ≠ a → F0 b = none := fun b n => if_neg n
    have h1 : H a = some (.frz o1 (.lst (ns.map V.int))) := if_pos rfl
    have h2 : ∀ b, b ≠ a → b ∈ cs.map (·.2) → H b = some (.tbl #[]) := fun b n m => (if_neg n).trans (if_pos m)
    have h3 : ∀ b, b ≠ a → b ∉ cs.map (·.2) → H b = none := fun b n m => (if_neg n).trans (if_neg m)
    have sm : Same F0 H := fun b u e => by
      by_cases q : b = a
      · subst q; rw [f1] at e; rw [h1]; exact e
      · rw [f2 b q] at e; cases e
    have tb : ∀ p ∈ cs, H p.2 = some (.tbl #[]) := fun p hp => h2 _ (neT p hp) (mT p hp)
    refine callT0 KX hns hb hbb hlim hg eT nT C bm ha hr F hbind (H := H) ⟨tb, fun b u e => ?_⟩ (hsp F0 H sm tb (fun p hp => f2 _ (neT p hp)) (.inl (.inr ⟨o1, f1⟩))) (fun b u e => ?_) fun _ => hk
    · by_cases q : b = a
      · subst q; rw [h1] at e; injection e with e; exact .inl ⟨rfl, _, _, e.symm⟩
      · by_cases m : b ∈ cs.map (·.2)
        · rw [h2 b q m] at e; injection e with e; exact .inr ⟨m, e.symm⟩
        · rw [h3 b q m] at e; cases e
    · by_cases q : b = a
      · subst q
        rw [h1] at e
        injection e with e
        subst e
        exact ⟨ha, by rw [List.length_map]; exact hl, vs, _, rv, ha⟩
      · by_cases m : b ∈ cs.map (·.2)
        · rw [h2 b q m] at e; injection e with e; subst e; exact isT b m
        · rw [h3 b q m] at e; cases e
  · obtain ⟨o, ho⟩ : ∃ o, K.lookup a = some o := by
      cases e : K.lookup a with
      | none => exact absurd e hk
      | some o => exact ⟨o, rfl⟩
    have e := KX a o ho
    rw [ha] at e
    injection e with e
    subst e
    let H : Hp := fun b => if b ∈ cs.map (·.2) then some (.tbl #[]) else none
    have h2 : ∀ b, b ∈ cs.map (·.2) → H b = some (.tbl #[]) := fun b m => if_pos m
    have h3 : ∀ b, b ∉ cs.map (·.2) → H b = none := fun b m => if_neg m
    have tb : ∀ p ∈ cs, H p.2 = some (.tbl #[]) := fun p hp => h2 _ (mT p hp)
    have sq : SqL K (fun _ => none) a (ns.map V.int) := .inr ⟨_, vs.toArray, _, ho, rfl, rfl, rfl, by rw [List.size_toArray, hi.length]; exact hl, rv⟩
    refine callT0 KX hns hb hbb hlim hg eT nT C bm ha hr F hbind (H := H) ⟨tb, fun b u e => ?_⟩ (hsp (fun _ => none) H (fun b u e => nomatch (show (none : Option HO) = some u from e)) tb (fun _ _ => rfl) sq) (fun b u e => ?_) fun z => absurd (h3 a aT) z
    · by_cases m : b ∈ cs.map (·.2)
      · rw [h2 b m] at e; injection e with e; exact .inr ⟨m, e.symm⟩
      · rw [h3 b m] at e; cases e
    · by_cases m : b ∈ cs.map (·.2)
      · rw [h2 b m] at e; injection e with e; subst e; exact isT b m
      · rw [h3 b m] at e; cases e
end
/-- the law's promise, at the heap behind the top, with the tables cs of code objects -/
def LawAtG [NTb] (l : PySem.W.OpenLaw) (w : World) (K : PySem.W.Frag) (k : Nat) (x : Str) (mg : Str → Option Value) (fa : Addr) (h : Heap) : Prop :=
  ∃ (fd : FuncData) (cs : List (Addr × Addr)), (∀ p ∈ cs, h.get? p.2 = some tabO) ∧ (∀ p ∈ cs, K.lookup p.2 = none) ∧ (∀ p ∈ cs, PySem.W.CodeHd h p.1 p.2) ∧ (∀ (s : Shared) (u : Value), BindsTo s fd ⟨[u], []⟩ [(x, u)]) ∧ (∀ p ∈ NTb.T, ∃ c, (c, p.1) ∈ cs) ∧
    ∀ base : Heap, K.In base → base.Ns mainGlobals mg → (∀ p ∈ cs, TabB base mg p.1 p.2) → FnG l.prog w K mg base k fa fd [x] (spLaw K)
theorem walkT {l : PySem.W.OpenLaw} {n k : Nat} {q : Program} {loose : List Str} {XP : (Str → Option Value) → Heap → Prop} {YP : World → Heap → Prop} {d : DefRec} {K : Params → PySem.W.Frag} {x : Str}
    (hn : l.most = some n) (hn2 : n ≤ sizeLine) (hdf : d.params.defaults = []) (hr : Room k callerA) (hY : ∀ (w : World) (h : Heap), YP w h → (K w.params).In h)
    (F : ∀ (w : World) (mg : Str → Option Value) (fa : Addr) (h : Heap), YP w h → (K w.params).In h → h.Ns mainGlobals mg → mg d.name = some (.ref fa) → ∃ nt : NTb, @LawAtG nt l w (K w.params) k x mg fa h) :
    PySem.W.WalkO q loose XP YP l.row.toRowW d [] (fun f vs => PySem.call f vs) :=
  Att.attach_call hn hdf fun w s0 s1 mg mb fa o pm cd doc a vs ns G Y ho hd hcd hmg hobj hints hlen hg => by
    have KX := hY w _ Y
    obtain ⟨nt, fd, cs, eT, nT, C, hb, inT, hF⟩ := F w mg fa _ Y KX G.T.g hmg
    refine callT KX G.T.g G.T.b G.T.builtins G.T.nolimit hg eT nT C G.T.bmain hobj hints (Nat.le_trans hlen hn2) hr hF hb fun F0 H sm tb fT sq => ?_
    refine ⟨F0, a, ns, rfl, sm, ⟨rfl, fun p hp => ?_, fun p hp => ?_⟩, sq, fun _ => rfl⟩
    · obtain ⟨c, hc⟩ := inT p hp
      exact ⟨#[], tb _ hc, True.intro, fun pos cv e => by simp [PySem.codeAmong] at e⟩
    · obtain ⟨c, hc⟩ := inT p hp
      exact fT _ hc
end VL
set_option Elab.async false
set_option linter.all false
set_option maxRecDepth 100000
set_option maxHeartbeats 4000000
namespace VL.k61
open PySem PySem.Spec L2 VL VL.cm VL.cm3 VL.cm4 VL.cm5 VL.cm14 VL.cm15
open PyProof.Rows hiding St
theorem room1 {k : Nat} {A : Around} (h : Room k A) : A.units + 110 < cLine := by have := h.un; omega
theorem room6 {k : Nat} {A : Around} (h : Room k A) : A.units + 64 < cLine := by have := h.un; omega
def topS (i : Nat) : Stmt := PySem.Challenge.pw_tellwords_k61_shelves_edited.main.body.getD i (.Pass ⟨0, 0, 0, 0⟩)
abbrev s_words_of : Stmt := topS 8
abbrev n_words_of : List Str := ["kinds", "letters", "first_kinds", "first_letters", "at", "word"]
abbrev p_words_of : List Str := ["kinds", "letters"]
theorem sc_words_of : FnScope n_words_of p_words_of (defScope s_words_of) := ⟨rfl, rfl, rfl, by decide +kernel, rfl, by decide +kernel, by decide +kernel⟩
abbrev s_formula_error : Stmt := topS 9
abbrev n_formula_error : List Str := ["kinds", "letters", "value", "words", "waiting", "counted", "part"]
abbrev p_formula_error : List Str := ["kinds", "letters", "value"]
theorem sc_formula_error : FnScope n_formula_error p_formula_error (defScope s_formula_error) := ⟨rfl, rfl, rfl, by decide +kernel, rfl, by decide +kernel, by decide +kernel⟩
abbrev s_is_node : Stmt := topS 10
abbrev n_is_node : List Str := ["value"]
abbrev p_is_node : List Str := ["value"]
theorem sc_is_node : FnScope n_is_node p_is_node (defScope s_is_node) := ⟨rfl, rfl, rfl, by decide +kernel, rfl, by decide +kernel, by decide +kernel⟩
abbrev s_is_sentence : Stmt := topS 11
abbrev n_is_sentence : List Str := ["formula", "waiting", "part"]
abbrev p_is_sentence : List Str := ["formula"]
theorem sc_is_sentence : FnScope n_is_sentence p_is_sentence (defScope s_is_sentence) := ⟨rfl, rfl, rfl, by decide +kernel, rfl, by decide +kernel, by decide +kernel⟩
abbrev s_book_error : Stmt := topS 25
abbrev n_book_error : List Str := ["value", "kinds", "letters", "rules", "index", "rule", "error"]
abbrev p_book_error : List Str := ["value"]
theorem sc_book_error : FnScope n_book_error p_book_error (defScope s_book_error) := ⟨rfl, rfl, rfl, by decide +kernel, rfl, by decide +kernel, by decide +kernel⟩
abbrev s_is_number_to : Stmt := topS 26
abbrev n_is_number_to : List Str := ["most", "value"]
abbrev p_is_number_to : List Str := ["most", "value"]
theorem sc_is_number_to : FnScope n_is_number_to p_is_number_to (defScope s_is_number_to) := ⟨rfl, rfl, rfl, by decide +kernel, rfl, by decide +kernel, by decide +kernel⟩
abbrev s_rule_error : Stmt := topS 27
abbrev n_rule_error : List Str := ["kinds", "letters", "value", "error"]
abbrev p_rule_error : List Str := ["kinds", "letters", "value"]
theorem sc_rule_error : FnScope n_rule_error p_rule_error (defScope s_rule_error) := ⟨rfl, rfl, rfl, by decide +kernel, rfl, by decide +kernel, by decide +kernel⟩
abbrev s_Shelf_init : Stmt := clsS (topS 46) 1
abbrev n_Shelf_init : List Str := ["self", "value"]
abbrev p_Shelf_init : List Str := ["self", "value"]
theorem sc_Shelf_init : FnScope n_Shelf_init p_Shelf_init (defScope s_Shelf_init) := ⟨rfl, rfl, rfl, by decide +kernel, rfl, by decide +kernel, by decide +kernel⟩
abbrev s_Shelf_book : Stmt := clsS (topS 46) 2
abbrev n_Shelf_book : List Str := ["self"]
abbrev p_Shelf_book : List Str := ["self"]
theorem sc_Shelf_book : FnScope n_Shelf_book p_Shelf_book (defScope s_Shelf_book) := ⟨rfl, rfl, rfl, by decide +kernel, rfl, by decide +kernel, by decide +kernel⟩
abbrev s_Shelf_version : Stmt := clsS (topS 46) 3
abbrev n_Shelf_version : List Str := ["self"]
abbrev p_Shelf_version : List Str := ["self"]
theorem sc_Shelf_version : FnScope n_Shelf_version p_Shelf_version (defScope s_Shelf_version) := ⟨rfl, rfl, rfl, by decide +kernel, rfl, by decide +kernel, by decide +kernel⟩
abbrev s_Shelf_add : Stmt := clsS (topS 46) 4
abbrev n_Shelf_add : List Str := ["self", "value"]
abbrev p_Shelf_add : List Str := ["self", "value"]
theorem sc_Shelf_add : FnScope n_Shelf_add p_Shelf_add (defScope s_Shelf_add) := ⟨rfl, rfl, rfl, by decide +kernel, rfl, by decide +kernel, by decide +kernel⟩
abbrev s_Shelf_drop : Stmt := clsS (topS 46) 5
abbrev n_Shelf_drop : List Str := ["self", "value"]
abbrev p_Shelf_drop : List Str := ["self", "value"]
theorem sc_Shelf_drop : FnScope n_Shelf_drop p_Shelf_drop (defScope s_Shelf_drop) := ⟨rfl, rfl, rfl, by decide +kernel, rfl, by decide +kernel, by decide +kernel⟩
abbrev s_Shelf_turn : Stmt := clsS (topS 46) 6
abbrev n_Shelf_turn : List Str := ["self", "index", "value"]
abbrev p_Shelf_turn : List Str := ["self", "index", "value"]
theorem sc_Shelf_turn : FnScope n_Shelf_turn p_Shelf_turn (defScope s_Shelf_turn) := ⟨rfl, rfl, rfl, by decide +kernel, rfl, by decide +kernel, by decide +kernel⟩
abbrev s_Shelf___len__ : Stmt := clsS (topS 46) 13
abbrev n_Shelf___len__ : List Str := ["self"]
abbrev p_Shelf___len__ : List Str := ["self"]
theorem sc_Shelf___len__ : FnScope n_Shelf___len__ p_Shelf___len__ (defScope s_Shelf___len__) := ⟨rfl, rfl, rfl, by decide +kernel, rfl, by decide +kernel, by decide +kernel⟩
abbrev s_Shelf__check_room : Stmt := clsS (topS 46) 18
abbrev n_Shelf__check_room : List Str := ["self"]
abbrev p_Shelf__check_room : List Str := ["self"]
theorem sc_Shelf__check_room : FnScope n_Shelf__check_room p_Shelf__check_room (defScope s_Shelf__check_room) := ⟨rfl, rfl, rfl, by decide +kernel, rfl, by decide +kernel, by decide +kernel⟩
abbrev s_Shelf__check_index : Stmt := clsS (topS 46) 19
abbrev n_Shelf__check_index : List Str := ["self", "value"]
abbrev p_Shelf__check_index : List Str := ["self", "value"]
theorem sc_Shelf__check_index : FnScope n_Shelf__check_index p_Shelf__check_index (defScope s_Shelf__check_index) := ⟨rfl, rfl, rfl, by decide +kernel, rfl, by decide +kernel, by decide +kernel⟩
abbrev s_Shelf__check_next : Stmt := clsS (topS 46) 20
abbrev n_Shelf__check_next : List Str := ["self", "book"]
abbrev p_Shelf__check_next : List Str := ["self", "book"]
theorem sc_Shelf__check_next : FnScope n_Shelf__check_next p_Shelf__check_next (defScope s_Shelf__check_next) := ⟨rfl, rfl, rfl, by decide +kernel, rfl, by decide +kernel, by decide +kernel⟩
abbrev s_Shelf__edit : Stmt := clsS (topS 46) 21
abbrev n_Shelf__edit : List Str := ["self", "rules"]
abbrev p_Shelf__edit : List Str := ["self", "rules"]
theorem sc_Shelf__edit : FnScope n_Shelf__edit p_Shelf__edit (defScope s_Shelf__edit) := ⟨rfl, rfl, rfl, by decide +kernel, rfl, by decide +kernel, by decide +kernel⟩
abbrev s_check_book : Stmt := topS 47
abbrev n_check_book : List Str := ["value", "error"]
abbrev p_check_book : List Str := ["value"]
theorem sc_check_book : FnScope n_check_book p_check_book (defScope s_check_book) := ⟨rfl, rfl, rfl, by decide +kernel, rfl, by decide +kernel, by decide +kernel⟩
abbrev s_Tdeck : Stmt := topS 50
abbrev n_Tdeck : List Str := ["_law_script", "_law_cells", "_law_cell"]
abbrev p_Tdeck : List Str := ["_law_script"]
theorem sc_Tdeck : FnScope n_Tdeck p_Tdeck (defScope s_Tdeck) := ⟨rfl, rfl, rfl, by decide +kernel, rfl, by decide +kernel, by decide +kernel⟩
abbrev s_Tdraw : Stmt := topS 51
abbrev n_Tdraw : List Str := ["_law_deck_here", "_law_many", "_law_rest", "_law_cell", "_law_mixed"]
abbrev p_Tdraw : List Str := ["_law_deck_here", "_law_many"]
theorem sc_Tdraw : FnScope n_Tdraw p_Tdraw (defScope s_Tdraw) := ⟨rfl, rfl, rfl, by decide +kernel, rfl, by decide +kernel, by decide +kernel⟩
abbrev s_Tone : Stmt := topS 52
abbrev n_Tone : List Str := ["_law_deck_here", "_law_items"]
abbrev p_Tone : List Str := ["_law_deck_here", "_law_items"]
theorem sc_Tone : FnScope n_Tone p_Tone (defScope s_Tone) := ⟨rfl, rfl, rfl, by decide +kernel, rfl, by decide +kernel, by decide +kernel⟩
abbrev s_Twhole : Stmt := topS 53
abbrev n_Twhole : List Str := ["_law_value", "_law_low", "_law_high"]
abbrev p_Twhole : List Str := ["_law_value", "_law_low", "_law_high"]
theorem sc_Twhole : FnScope n_Twhole p_Twhole (defScope s_Twhole) := ⟨rfl, rfl, rfl, by decide +kernel, rfl, by decide +kernel, by decide +kernel⟩
abbrev s_Tkinds : Stmt := topS 54
abbrev n_Tkinds : List Str := ["_law_kinds_here"]
abbrev p_Tkinds : List Str := ["_law_kinds_here"]
theorem sc_Tkinds : FnScope n_Tkinds p_Tkinds (defScope s_Tkinds) := ⟨rfl, rfl, rfl, by decide +kernel, rfl, by decide +kernel, by decide +kernel⟩
abbrev s_Tletters : Stmt := topS 55
abbrev n_Tletters : List Str := ["_law_letters_here"]
abbrev p_Tletters : List Str := ["_law_letters_here"]
theorem sc_Tletters : FnScope n_Tletters p_Tletters (defScope s_Tletters) := ⟨rfl, rfl, rfl, by decide +kernel, rfl, by decide +kernel, by decide +kernel⟩
abbrev s_Twords : Stmt := topS 56
abbrev n_Twords : List Str := ["_law_kinds_here", "_law_letters_here"]
abbrev p_Twords : List Str := ["_law_kinds_here", "_law_letters_here"]
theorem sc_Twords : FnScope n_Twords p_Twords (defScope s_Twords) := ⟨rfl, rfl, rfl, by decide +kernel, rfl, by decide +kernel, by decide +kernel⟩
abbrev s_Tformula : Stmt := topS 57
abbrev n_Tformula : List Str := ["_law_deck_here", "_law_kinds_here", "_law_letters_here", "_law_depth", "_law_is_within", "_law_words_here", "_law_way", "_law_size", "_law_some", "_law_k"]
abbrev p_Tformula : List Str := ["_law_deck_here", "_law_kinds_here", "_law_letters_here", "_law_depth", "_law_is_within"]
theorem sc_Tformula : FnScope n_Tformula p_Tformula (defScope s_Tformula) := ⟨rfl, rfl, rfl, by decide +kernel, rfl, by decide +kernel, by decide +kernel⟩
abbrev s_Tboth : Stmt := topS 58
abbrev n_Tboth : List Str := ["_law_one_here", "_law_other"]
abbrev p_Tboth : List Str := ["_law_one_here", "_law_other"]
theorem sc_Tboth : FnScope n_Tboth p_Tboth (defScope s_Tboth) := ⟨rfl, rfl, rfl, by decide +kernel, rfl, by decide +kernel, by decide +kernel⟩
abbrev s_Tsentence : Stmt := topS 59
abbrev n_Tsentence : List Str := ["_law_deck_here", "_law_kinds_here", "_law_letters_here", "_law_way", "_law_one_here", "_law_other"]
abbrev p_Tsentence : List Str := ["_law_deck_here", "_law_kinds_here", "_law_letters_here"]
theorem sc_Tsentence : FnScope n_Tsentence p_Tsentence (defScope s_Tsentence) := ⟨rfl, rfl, rfl, by decide +kernel, rfl, by decide +kernel, by decide +kernel⟩
abbrev s_Tbook : Stmt := topS 60
abbrev n_Tbook : List Str := ["_law_deck_here", "_law_kinds_here", "_law_letters_here", "_law_laws", "_law_k"]
abbrev p_Tbook : List Str := ["_law_deck_here", "_law_kinds_here", "_law_letters_here"]
theorem sc_Tbook : FnScope n_Tbook p_Tbook (defScope s_Tbook) := ⟨rfl, rfl, rfl, by decide +kernel, rfl, by decide +kernel, by decide +kernel⟩
abbrev s_Tsigns : Stmt := topS 61
abbrev n_Tsigns : List Str := ["_law_formula_here", "_law_part"]
abbrev p_Tsigns : List Str := ["_law_formula_here"]
theorem sc_Tsigns : FnScope n_Tsigns p_Tsigns (defScope s_Tsigns) := ⟨rfl, rfl, rfl, by decide +kernel, rfl, by decide +kernel, by decide +kernel⟩
abbrev s_Tis_formula : Stmt := topS 62
abbrev n_Tis_formula : List Str := ["_law_words_here", "_law_value", "_law_part"]
abbrev p_Tis_formula : List Str := ["_law_words_here", "_law_value"]
theorem sc_Tis_formula : FnScope n_Tis_formula p_Tis_formula (defScope s_Tis_formula) := ⟨rfl, rfl, rfl, by decide +kernel, rfl, by decide +kernel, by decide +kernel⟩
abbrev s_Tformula_error : Stmt := topS 63
abbrev n_Tformula_error : List Str := ["_law_words_here", "_law_value"]
abbrev p_Tformula_error : List Str := ["_law_words_here", "_law_value"]
theorem sc_Tformula_error : FnScope n_Tformula_error p_Tformula_error (defScope s_Tformula_error) := ⟨rfl, rfl, rfl, by decide +kernel, rfl, by decide +kernel, by decide +kernel⟩
abbrev s_Tis_sentence : Stmt := topS 64
abbrev n_Tis_sentence : List Str := ["_law_formula_here", "_law_part"]
abbrev p_Tis_sentence : List Str := ["_law_formula_here"]
theorem sc_Tis_sentence : FnScope n_Tis_sentence p_Tis_sentence (defScope s_Tis_sentence) := ⟨rfl, rfl, rfl, by decide +kernel, rfl, by decide +kernel, by decide +kernel⟩
abbrev s_Tspoilt : Stmt := topS 65
abbrev n_Tspoilt : List Str := ["_law_deck_here", "_law_value", "_law_odd", "_law_at", "_law_way"]
abbrev p_Tspoilt : List Str := ["_law_deck_here", "_law_value"]
theorem sc_Tspoilt : FnScope n_Tspoilt p_Tspoilt (defScope s_Tspoilt) := ⟨rfl, rfl, rfl, by decide +kernel, rfl, by decide +kernel, by decide +kernel⟩
abbrev s_Tbook_error : Stmt := topS 66
abbrev n_Tbook_error : List Str := ["_law_value", "_law_words_here", "_law_index", "_law_error"]
abbrev p_Tbook_error : List Str := ["_law_value"]
theorem sc_Tbook_error : FnScope n_Tbook_error p_Tbook_error (defScope s_Tbook_error) := ⟨rfl, rfl, rfl, by decide +kernel, rfl, by decide +kernel, by decide +kernel⟩
abbrev s_Tsmall : Stmt := topS 67
abbrev n_Tsmall : List Str := ["_law_deck_here"]
abbrev p_Tsmall : List Str := ["_law_deck_here"]
theorem sc_Tsmall : FnScope n_Tsmall p_Tsmall (defScope s_Tsmall) := ⟨rfl, rfl, rfl, by decide +kernel, rfl, by decide +kernel, by decide +kernel⟩
abbrev s_Tcome : Stmt := topS 68
abbrev n_Tcome : List Str := ["_law_book_here", "_law_deed_here", "_law_rules", "_law_put"]
abbrev p_Tcome : List Str := ["_law_book_here", "_law_deed_here"]
theorem sc_Tcome : FnScope n_Tcome p_Tcome (defScope s_Tcome) := ⟨rfl, rfl, rfl, by decide +kernel, rfl, by decide +kernel, by decide +kernel⟩
abbrev s_Tafter : Stmt := topS 69
abbrev n_Tafter : List Str := ["_law_book_here", "_law_deed_here", "_law_come_here", "_law_error"]
abbrev p_Tafter : List Str := ["_law_book_here", "_law_deed_here"]
theorem sc_Tafter : FnScope n_Tafter p_Tafter (defScope s_Tafter) := ⟨rfl, rfl, rfl, by decide +kernel, rfl, by decide +kernel, by decide +kernel⟩
abbrev s_Tdeed : Stmt := topS 70
abbrev n_Tdeed : List Str := ["_law_deck_here", "_law_book_here", "_law_kinds_here", "_law_letters_here", "_law_rules", "_law_index", "_law_value", "_law_way", "_law_odd", "_law_some"]
abbrev p_Tdeed : List Str := ["_law_deck_here", "_law_book_here"]
theorem sc_Tdeed : FnScope n_Tdeed p_Tdeed (defScope s_Tdeed) := ⟨rfl, rfl, rfl, by decide +kernel, rfl, by decide +kernel, by decide +kernel⟩
abbrev s_Tdo : Stmt := topS 71
abbrev n_Tdo : List Str := ["_law_shelf", "_law_deed_here"]
abbrev p_Tdo : List Str := ["_law_shelf", "_law_deed_here"]
theorem sc_Tdo : FnScope n_Tdo p_Tdo (defScope s_Tdo) := ⟨rfl, rfl, rfl, by decide +kernel, rfl, by decide +kernel, by decide +kernel⟩
abbrev s_Ttold_of : Stmt := topS 72
abbrev n_Ttold_of : List Str := ["_law_shelf", "_law_deed_here", "_law_found", "_law_error"]
abbrev p_Ttold_of : List Str := ["_law_shelf", "_law_deed_here"]
theorem sc_Ttold_of : FnScope n_Ttold_of p_Ttold_of (defScope s_Ttold_of) := ⟨rfl, rfl, rfl, by decide +kernel, rfl, by decide +kernel, by decide +kernel⟩
abbrev s_law : Stmt := topS 73
abbrev n_law : List Str := ["_law_script", "_law_deck_here", "_law_turn", "_law_kinds_here", "_law_letters_here", "_law_book_here", "_law_version", "_law_shelf", "_law_k", "_law_deed_here", "_law_kept", "_law_due", "_law_found"]
abbrev p_law : List Str := ["_law_script"]
theorem sc_law : FnScope n_law p_law (defScope s_law) := ⟨rfl, rfl, rfl, by decide +kernel, rfl, by decide +kernel, by decide +kernel⟩
def m_Ttold_of : List AV → M PyData := runB 2 4
  (sSeq (sSet 2 (eLst (aCons (eC (.str "other")) aNil)))
      (sSeq (sTry2 "NoRule" "BadBook" 3 2 (uIf (uIs [("BadBook", false), ("NoRule", true)]) (uLst (uCons (uC (.str "rule")) (uCons (uFc ["BadBook", "NoRule"] "index") uNil))) (uLst (uCons (uC (.str "other")) uNil))) (uIf (uIs [("BadBook", true), ("NoRule", false)]) (uLst (uCons (uC (.str "book")) (uCons (uFc ["BadBook", "NoRule"] "error") uNil))) (uLst (uCons (uC (.str "other")) uNil))) (sSetX 2 (xLst2 (eC (.str "told")) (xCall m_Tdo (aAm 0 (aCons (eVar 1) aNil))))))
      (sRet (eVar 2))))
def m_law : AS → M Fl :=
  (sSeq (sFor (iRange1 (eC (.int 5))) (gN 2) (sSeq (sAsg (gT 2 (gsCons (gN 3) (gsCons (gN 4) gsNil))) (eCall m_Tsmall (aDeck 1 aNil)))
      (sSeq (sPar 5 6 (eCall m_Tbook (aDeck 1 (aCons (eVar 3) (aCons (eVar 4) aNil)))) (eC (.int 0)))
      (sNew 7 "Shelf" m_Shelf_init (aCons (eVar 5) aNil)
      (sFor (iRange1 (eC (.int 14))) (gN 8) (sSeq (sSet 9 (eCall m_Tdeed (aDeck 1 (aCons (eVar 5) aNil))))
      (sSeq (sPar3 10 11 12 (eUn reprC (eVar 9)) (eCall m_Tafter (aCons (eVar 5) (aCons (eVar 9) aNil))) (eCall m_Ttold_of (aAm 7 (aCons (eVar 9) aNil))))
      (sSeq (sIf (cBin eqC (eBin ixC (eVar 11) (eC (.int 0))) (eC (.str "told"))) (sSeq (sPar 5 6 (eBin ixC (eVar 11) (eC (.int 1))) (eBin addC (eVar 6) (eC (.int 1))))
      (sSet 11 (eLst (aCons (eC (.str "told")) (aCons (eVar 6) aNil))))) sNil)
      (sSeq (sIf (cOr (cBin neC (eUn reprC (eVar 12)) (eUn reprC (eVar 11))) (cBin neC (eUn reprC (eVar 9)) (eVar 10))) (sRet (eC (.bool false))) sNil)
      (sIf (cBin neC (eUn reprC (eLst (aCons (eAProp 7 "Shelf" m_Shelf_book) (aCons (eAProp 7 "Shelf" m_Shelf_version) (aCons (eALen 7 "Shelf" m_Shelf___len__) aNil))))) (eUn reprC (eLst (aCons (eVar 5) (aCons (eVar 6) (aCons (eUn lenC (eBin ixC (eVar 5) (eC (.int 2)))) aNil)))))) (sRet (eC (.bool false))) sNil))))))))))
      (sNew 7 "Shelf" m_Shelf_init (aCons (eTup (aCons (eC (.int 0)) (aCons (eC (.int 1)) (aCons (eBin mulC (eTup (aCons (eC (.str "p")) aNil)) (eC (.int 6))) aNil)))) aNil)
      (sRet (eAnd (eBin (bl eqC) (eCall m_Ttold_of (aAm 7 (aCons (eTup (aCons (eC (.str "add")) (aCons (eC (.str "p")) aNil))) aNil))) (eLst (aCons (eC (.str "book")) (aCons (eTup (aCons (eC .none) (aCons (eC (.str "rules")) aNil))) aNil)))) (eBin (bl eqC) (eX (xAMeth 7 "Shelf" "drop" m_Shelf_drop (aCons (eC (.int 5)) aNil))) (eC (.int 1)))))))
structure Fx (K : PySem.W.Frag) (mg : Str → Option Value) where
  n_LookupError : mg "LookupError" = none
  n_abs : mg "abs" = none
  n_bool : mg "bool" = none
  n_enumerate : mg "enumerate" = none
  n_int : mg "int" = none
  n_isinstance : mg "isinstance" = none
  n_len : mg "len" = none
  n_list : mg "list" = none
  n_max : mg "max" = none
  n_range : mg "range" = none
  n_repr : mg "repr" = none
  n_str : mg "str" = none
  n_sum : mg "sum" = none
  n_tuple : mg "tuple" = none
  v_MAX_KINDS : V
  u_MAX_KINDS : Value
  g_MAX_KINDS : mg "MAX_KINDS" = some u_MAX_KINDS
  r_MAX_KINDS : RelV v_MAX_KINDS u_MAX_KINDS
  t_MAX_KINDS : ∀ F, Dv K F v_MAX_KINDS d_MAX_KINDS
  v_MAX_LETTERS : V
  u_MAX_LETTERS : Value
  g_MAX_LETTERS : mg "MAX_LETTERS" = some u_MAX_LETTERS
  r_MAX_LETTERS : RelV v_MAX_LETTERS u_MAX_LETTERS
  t_MAX_LETTERS : ∀ F, Dv K F v_MAX_LETTERS d_MAX_LETTERS
  v_MAX_SIGNS : V
  u_MAX_SIGNS : Value
  g_MAX_SIGNS : mg "MAX_SIGNS" = some u_MAX_SIGNS
  r_MAX_SIGNS : RelV v_MAX_SIGNS u_MAX_SIGNS
  t_MAX_SIGNS : ∀ F, Dv K F v_MAX_SIGNS d_MAX_SIGNS
  v_MAX_RULES : V
  u_MAX_RULES : Value
  g_MAX_RULES : mg "MAX_RULES" = some u_MAX_RULES
  r_MAX_RULES : RelV v_MAX_RULES u_MAX_RULES
  t_MAX_RULES : ∀ F, Dv K F v_MAX_RULES d_MAX_RULES
  v_KINDS : V
  u_KINDS : Value
  g_KINDS : mg "KINDS" = some u_KINDS
  r_KINDS : RelV v_KINDS u_KINDS
  t_KINDS : ∀ F, Dv K F v_KINDS d_KINDS
  v_LETTERS : V
  u_LETTERS : Value
  g_LETTERS : mg "LETTERS" = some u_LETTERS
  r_LETTERS : RelV v_LETTERS u_LETTERS
  t_LETTERS : ∀ F, Dv K F v_LETTERS d_LETTERS
  C_Shelf : Addr
  gC_Shelf : mg "Shelf" = some (.ref C_Shelf)
  cl_Shelf : Cls K C_Shelf
  na_Shelf__earlier : NoAttr K C_Shelf "_earlier"
  na_Shelf__later : NoAttr K C_Shelf "_later"
  na_Shelf__kinds : NoAttr K C_Shelf "_kinds"
  na_Shelf__letters : NoAttr K C_Shelf "_letters"
  na_Shelf__rules : NoAttr K C_Shelf "_rules"
  uc_Shelf_LIMIT : Value
  cn_Shelf_LIMIT : Con K C_Shelf "LIMIT" (.int 40) uc_Shelf_LIMIT
  a_Shelf_init : Addr
  d_Shelf_init : FuncData
  f_Shelf_init : Fun K "__init__" "Shelf.__init__" s_Shelf_init a_Shelf_init d_Shelf_init
  b_Shelf_init : Binds K d_Shelf_init p_Shelf_init []
  Mk_Shelf : Mk K C_Shelf a_Shelf_init
  a_Shelf_book : Addr
  d_Shelf_book : FuncData
  f_Shelf_book : Fun K "book" "Shelf.book" s_Shelf_book a_Shelf_book d_Shelf_book
  b_Shelf_book : Binds K d_Shelf_book p_Shelf_book []
  pa_Shelf_book : Addr
  P_Shelf_book : PropOf K C_Shelf "book" pa_Shelf_book a_Shelf_book
  a_Shelf_version : Addr
  d_Shelf_version : FuncData
  f_Shelf_version : Fun K "version" "Shelf.version" s_Shelf_version a_Shelf_version d_Shelf_version
  b_Shelf_version : Binds K d_Shelf_version p_Shelf_version []
  pa_Shelf_version : Addr
  P_Shelf_version : PropOf K C_Shelf "version" pa_Shelf_version a_Shelf_version
  a_Shelf_add : Addr
  d_Shelf_add : FuncData
  f_Shelf_add : Fun K "add" "Shelf.add" s_Shelf_add a_Shelf_add d_Shelf_add
  b_Shelf_add : Binds K d_Shelf_add p_Shelf_add []
  M_Shelf_add : Meth K C_Shelf "add" a_Shelf_add
  a_Shelf_drop : Addr
  d_Shelf_drop : FuncData
  f_Shelf_drop : Fun K "drop" "Shelf.drop" s_Shelf_drop a_Shelf_drop d_Shelf_drop
  b_Shelf_drop : Binds K d_Shelf_drop p_Shelf_drop []
  M_Shelf_drop : Meth K C_Shelf "drop" a_Shelf_drop
  a_Shelf_turn : Addr
  d_Shelf_turn : FuncData
  f_Shelf_turn : Fun K "turn" "Shelf.turn" s_Shelf_turn a_Shelf_turn d_Shelf_turn
  b_Shelf_turn : Binds K d_Shelf_turn p_Shelf_turn []
  M_Shelf_turn : Meth K C_Shelf "turn" a_Shelf_turn
  a_Shelf___len__ : Addr
  d_Shelf___len__ : FuncData
  f_Shelf___len__ : Fun K "__len__" "Shelf.__len__" s_Shelf___len__ a_Shelf___len__ d_Shelf___len__
  b_Shelf___len__ : Binds K d_Shelf___len__ p_Shelf___len__ []
  L_Shelf___len__ : PySem.W.findIn K (.ref C_Shelf) "__len__" = some (some (.ref a_Shelf___len__))
  I_Shelf___len__ : PySem.W.isFn K (.ref a_Shelf___len__) = true
  a_Shelf__check_room : Addr
  d_Shelf__check_room : FuncData
  f_Shelf__check_room : Fun K "_check_room" "Shelf._check_room" s_Shelf__check_room a_Shelf__check_room d_Shelf__check_room
  b_Shelf__check_room : Binds K d_Shelf__check_room p_Shelf__check_room []
  M_Shelf__check_room : Meth K C_Shelf "_check_room" a_Shelf__check_room
  a_Shelf__check_index : Addr
  d_Shelf__check_index : FuncData
  f_Shelf__check_index : Fun K "_check_index" "Shelf._check_index" s_Shelf__check_index a_Shelf__check_index d_Shelf__check_index
  b_Shelf__check_index : Binds K d_Shelf__check_index p_Shelf__check_index []
  M_Shelf__check_index : Meth K C_Shelf "_check_index" a_Shelf__check_index
  a_Shelf__check_next : Addr
  d_Shelf__check_next : FuncData
  f_Shelf__check_next : Fun K "_check_next" "Shelf._check_next" s_Shelf__check_next a_Shelf__check_next d_Shelf__check_next
  b_Shelf__check_next : Binds K d_Shelf__check_next p_Shelf__check_next []
  M_Shelf__check_next : Meth K C_Shelf "_check_next" a_Shelf__check_next
  a_Shelf__edit : Addr
  d_Shelf__edit : FuncData
  f_Shelf__edit : Fun K "_edit" "Shelf._edit" s_Shelf__edit a_Shelf__edit d_Shelf__edit
  b_Shelf__edit : Binds K d_Shelf__edit p_Shelf__edit []
  M_Shelf__edit : Meth K C_Shelf "_edit" a_Shelf__edit
  a_words_of : Addr
  d_words_of : FuncData
  f_words_of : Fun K "words_of" "words_of" s_words_of a_words_of d_words_of
  b_words_of : Binds K d_words_of p_words_of []
  g_words_of : mg "words_of" = some (.ref a_words_of)
  a_formula_error : Addr
  d_formula_error : FuncData
  f_formula_error : Fun K "formula_error" "formula_error" s_formula_error a_formula_error d_formula_error
  b_formula_error : Binds K d_formula_error p_formula_error []
  g_formula_error : mg "formula_error" = some (.ref a_formula_error)
  a_is_node : Addr
  d_is_node : FuncData
  f_is_node : Fun K "is_node" "is_node" s_is_node a_is_node d_is_node
  b_is_node : Binds K d_is_node p_is_node []
  g_is_node : mg "is_node" = some (.ref a_is_node)
  a_is_sentence : Addr
  d_is_sentence : FuncData
  f_is_sentence : Fun K "is_sentence" "is_sentence" s_is_sentence a_is_sentence d_is_sentence
  b_is_sentence : Binds K d_is_sentence p_is_sentence []
  g_is_sentence : mg "is_sentence" = some (.ref a_is_sentence)
  a_book_error : Addr
  d_book_error : FuncData
  f_book_error : Fun K "book_error" "book_error" s_book_error a_book_error d_book_error
  b_book_error : Binds K d_book_error p_book_error []
  g_book_error : mg "book_error" = some (.ref a_book_error)
  a_is_number_to : Addr
  d_is_number_to : FuncData
  f_is_number_to : Fun K "is_number_to" "is_number_to" s_is_number_to a_is_number_to d_is_number_to
  b_is_number_to : Binds K d_is_number_to p_is_number_to []
  g_is_number_to : mg "is_number_to" = some (.ref a_is_number_to)
  a_rule_error : Addr
  d_rule_error : FuncData
  f_rule_error : Fun K "rule_error" "rule_error" s_rule_error a_rule_error d_rule_error
  b_rule_error : Binds K d_rule_error p_rule_error []
  g_rule_error : mg "rule_error" = some (.ref a_rule_error)
  a_check_book : Addr
  d_check_book : FuncData
  f_check_book : Fun K "check_book" "check_book" s_check_book a_check_book d_check_book
  b_check_book : Binds K d_check_book p_check_book []
  g_check_book : mg "check_book" = some (.ref a_check_book)
  a_Tdeck : Addr
  d_Tdeck : FuncData
  f_Tdeck : Fun K "_law_deck" "_law_deck" s_Tdeck a_Tdeck d_Tdeck
  b_Tdeck : Binds K d_Tdeck p_Tdeck []
  g_Tdeck : mg "_law_deck" = some (.ref a_Tdeck)
  a_Tdraw : Addr
  d_Tdraw : FuncData
  f_Tdraw : Fun K "_law_draw" "_law_draw" s_Tdraw a_Tdraw d_Tdraw
  b_Tdraw : Binds K d_Tdraw p_Tdraw []
  g_Tdraw : mg "_law_draw" = some (.ref a_Tdraw)
  a_Tone : Addr
  d_Tone : FuncData
  f_Tone : Fun K "_law_one" "_law_one" s_Tone a_Tone d_Tone
  b_Tone : Binds K d_Tone p_Tone []
  g_Tone : mg "_law_one" = some (.ref a_Tone)
  a_Twhole : Addr
  d_Twhole : FuncData
  f_Twhole : Fun K "_law_whole" "_law_whole" s_Twhole a_Twhole d_Twhole
  b_Twhole : Binds K d_Twhole p_Twhole []
  g_Twhole : mg "_law_whole" = some (.ref a_Twhole)
  a_Tkinds : Addr
  d_Tkinds : FuncData
  f_Tkinds : Fun K "_law_kinds" "_law_kinds" s_Tkinds a_Tkinds d_Tkinds
  b_Tkinds : Binds K d_Tkinds p_Tkinds []
  g_Tkinds : mg "_law_kinds" = some (.ref a_Tkinds)
  a_Tletters : Addr
  d_Tletters : FuncData
  f_Tletters : Fun K "_law_letters" "_law_letters" s_Tletters a_Tletters d_Tletters
  b_Tletters : Binds K d_Tletters p_Tletters []
  g_Tletters : mg "_law_letters" = some (.ref a_Tletters)
  a_Twords : Addr
  d_Twords : FuncData
  f_Twords : Fun K "_law_words" "_law_words" s_Twords a_Twords d_Twords
  b_Twords : Binds K d_Twords p_Twords []
  g_Twords : mg "_law_words" = some (.ref a_Twords)
  a_Tformula : Addr
  d_Tformula : FuncData
  f_Tformula : Fun K "_law_formula" "_law_formula" s_Tformula a_Tformula d_Tformula
  b_Tformula : Binds K d_Tformula p_Tformula []
  g_Tformula : mg "_law_formula" = some (.ref a_Tformula)
  a_Tboth : Addr
  d_Tboth : FuncData
  f_Tboth : Fun K "_law_both" "_law_both" s_Tboth a_Tboth d_Tboth
  b_Tboth : Binds K d_Tboth p_Tboth []
  g_Tboth : mg "_law_both" = some (.ref a_Tboth)
  a_Tsentence : Addr
  d_Tsentence : FuncData
  f_Tsentence : Fun K "_law_sentence" "_law_sentence" s_Tsentence a_Tsentence d_Tsentence
  b_Tsentence : Binds K d_Tsentence p_Tsentence []
  g_Tsentence : mg "_law_sentence" = some (.ref a_Tsentence)
  a_Tbook : Addr
  d_Tbook : FuncData
  f_Tbook : Fun K "_law_book" "_law_book" s_Tbook a_Tbook d_Tbook
  b_Tbook : Binds K d_Tbook p_Tbook []
  g_Tbook : mg "_law_book" = some (.ref a_Tbook)
  a_Tsigns : Addr
  d_Tsigns : FuncData
  f_Tsigns : Fun K "_law_signs" "_law_signs" s_Tsigns a_Tsigns d_Tsigns
  b_Tsigns : Binds K d_Tsigns p_Tsigns []
  g_Tsigns : mg "_law_signs" = some (.ref a_Tsigns)
  a_Tis_formula : Addr
  d_Tis_formula : FuncData
  f_Tis_formula : Fun K "_law_is_formula" "_law_is_formula" s_Tis_formula a_Tis_formula d_Tis_formula
  b_Tis_formula : Binds K d_Tis_formula p_Tis_formula []
  g_Tis_formula : mg "_law_is_formula" = some (.ref a_Tis_formula)
  a_Tformula_error : Addr
  d_Tformula_error : FuncData
  f_Tformula_error : Fun K "_law_formula_error" "_law_formula_error" s_Tformula_error a_Tformula_error d_Tformula_error
  b_Tformula_error : Binds K d_Tformula_error p_Tformula_error []
  g_Tformula_error : mg "_law_formula_error" = some (.ref a_Tformula_error)
  a_Tis_sentence : Addr
  d_Tis_sentence : FuncData
  f_Tis_sentence : Fun K "_law_is_sentence" "_law_is_sentence" s_Tis_sentence a_Tis_sentence d_Tis_sentence
  b_Tis_sentence : Binds K d_Tis_sentence p_Tis_sentence []
  g_Tis_sentence : mg "_law_is_sentence" = some (.ref a_Tis_sentence)
  a_Tspoilt : Addr
  d_Tspoilt : FuncData
  f_Tspoilt : Fun K "_law_spoilt" "_law_spoilt" s_Tspoilt a_Tspoilt d_Tspoilt
  b_Tspoilt : Binds K d_Tspoilt p_Tspoilt []
  g_Tspoilt : mg "_law_spoilt" = some (.ref a_Tspoilt)
  a_Tbook_error : Addr
  d_Tbook_error : FuncData
  f_Tbook_error : Fun K "_law_book_error" "_law_book_error" s_Tbook_error a_Tbook_error d_Tbook_error
  b_Tbook_error : Binds K d_Tbook_error p_Tbook_error []
  g_Tbook_error : mg "_law_book_error" = some (.ref a_Tbook_error)
  a_Tsmall : Addr
  d_Tsmall : FuncData
  f_Tsmall : Fun K "_law_small" "_law_small" s_Tsmall a_Tsmall d_Tsmall
  b_Tsmall : Binds K d_Tsmall p_Tsmall []
  g_Tsmall : mg "_law_small" = some (.ref a_Tsmall)
  a_Tcome : Addr
  d_Tcome : FuncData
  f_Tcome : Fun K "_law_come" "_law_come" s_Tcome a_Tcome d_Tcome
  b_Tcome : Binds K d_Tcome p_Tcome []
  g_Tcome : mg "_law_come" = some (.ref a_Tcome)
  a_Tafter : Addr
  d_Tafter : FuncData
  f_Tafter : Fun K "_law_after" "_law_after" s_Tafter a_Tafter d_Tafter
  b_Tafter : Binds K d_Tafter p_Tafter []
  g_Tafter : mg "_law_after" = some (.ref a_Tafter)
  a_Tdeed : Addr
  d_Tdeed : FuncData
  f_Tdeed : Fun K "_law_deed" "_law_deed" s_Tdeed a_Tdeed d_Tdeed
  b_Tdeed : Binds K d_Tdeed p_Tdeed []
  g_Tdeed : mg "_law_deed" = some (.ref a_Tdeed)
  a_Tdo : Addr
  d_Tdo : FuncData
  f_Tdo : Fun K "_law_do" "_law_do" s_Tdo a_Tdo d_Tdo
  b_Tdo : Binds K d_Tdo p_Tdo []
  g_Tdo : mg "_law_do" = some (.ref a_Tdo)
  a_Ttold_of : Addr
  d_Ttold_of : FuncData
  f_Ttold_of : Fun K "_law_told_of" "_law_told_of" s_Ttold_of a_Ttold_of d_Ttold_of
  b_Ttold_of : Binds K d_Ttold_of p_Ttold_of []
  g_Ttold_of : mg "_law_told_of" = some (.ref a_Ttold_of)
  a_law : Addr
  d_law : FuncData
  f_law : Fun K "law" "law" s_law a_law d_law
  b_law : Binds K d_law p_law []
  g_law : mg "law" = some (.ref a_law)
  C_WordError : Addr
  gC_WordError : mg "WordError" = some (.ref C_WordError)
  C_BadBook : Addr
  gC_BadBook : mg "BadBook" = some (.ref C_BadBook)
  fI_BadBook : Addr
  fd_BadBook : FuncData
  T_BadBook : OexC K C_BadBook
  F_BadBook : Fun K "__init__" "BadBook.__init__" (clsS (topS 30) 0) fI_BadBook fd_BadBook
  bI_BadBook : Binds K fd_BadBook [Str.ofString "self", "error"] []
  iC_BadBook : PySem.W.findIn K (.ref C_BadBook) "__init__" = some (some (.ref fI_BadBook))
  tI_BadBook : PySem.W.typeIn K (.ref fI_BadBook) = some (.type "function")
  no_BadBook : PySem.W.findIn K (.ref C_BadBook) "error" = some none
  te_BadBook : PySem.W.exmOne K (.ref C_BadBook) (.ref C_BadBook) = some true
  C_Full : Addr
  gC_Full : mg "Full" = some (.ref C_Full)
  C_NoRule : Addr
  gC_NoRule : mg "NoRule" = some (.ref C_NoRule)
  fI_NoRule : Addr
  fd_NoRule : FuncData
  T_NoRule : OexL K C_NoRule
  F_NoRule : Fun K "__init__" "NoRule.__init__" (clsS (topS 34) 0) fI_NoRule fd_NoRule
  bI_NoRule : Binds K fd_NoRule [Str.ofString "self", "index"] []
  iC_NoRule : PySem.W.findIn K (.ref C_NoRule) "__init__" = some (some (.ref fI_NoRule))
  tI_NoRule : PySem.W.typeIn K (.ref fI_NoRule) = some (.type "function")
  no_NoRule : PySem.W.findIn K (.ref C_NoRule) "index" = some none
  te_NoRule : PySem.W.exmOne K (.ref C_NoRule) (.ref C_NoRule) = some true
  tx_BadBook_NoRule : PySem.W.exmOne K (.ref C_BadBook) (.ref C_NoRule) = some false
structure Exs {K : PySem.W.Frag} {mg : Str → Option Value} (E : Str → Option Addr) (G : PySem.W.Frag) (X : Fx K mg) : Prop where
  gK : G = K
  e_BadBook : E "BadBook" = some X.C_BadBook
  e_NoRule : E "NoRule" = some X.C_NoRule
  e_Shelf : E "Shelf" = some X.C_Shelf
  f_error : ∀ c ∈ (["BadBook", "NoRule"] : List Str), ∀ C, E c = some C → XfC K C ∧ PySem.W.findIn K (.ref C) "error" = some none
  f_index : ∀ c ∈ (["BadBook", "NoRule"] : List Str), ∀ C, E c = some C → XfC K C ∧ PySem.W.findIn K (.ref C) "index" = some none
  i_LookupError : ∀ c C b, E c = some C → ([("BadBook", false), ("NoRule", true)] : List (Str × Bool)).lookup c = some b → IsiC K C ∧ PySem.W.kitOne K (.ref C) (.type "LookupError") = some b
  i_WordError : ∀ c C b, E c = some C → ([("BadBook", true), ("NoRule", false)] : List (Str × Bool)).lookup c = some b → IsiC K C ∧ PySem.W.kitOne K (.ref C) (.ref X.C_WordError) = some b
section
variable {P : Program} {w : World} {K : PySem.W.Frag} {mg : Str → Option Value} {base : Heap}
theorem TA_Shelf__earlier [NTb] (X : Fx K mg) (Z : Exs NTb.E NTb.G X) : ∀ c ∈ (["Shelf"] : List Str), ∀ C, NTb.E c = some C → Cls K C ∧ NoAttr K C "_earlier" := fun c m C e => by
  rw [List.mem_singleton.mp m] at e
  have q := Z.e_Shelf.symm.trans e
  injection q with q
  subst q
  exact ⟨X.cl_Shelf, X.na_Shelf__earlier⟩
theorem TA_Shelf__later [NTb] (X : Fx K mg) (Z : Exs NTb.E NTb.G X) : ∀ c ∈ (["Shelf"] : List Str), ∀ C, NTb.E c = some C → Cls K C ∧ NoAttr K C "_later" := fun c m C e => by
  rw [List.mem_singleton.mp m] at e
  have q := Z.e_Shelf.symm.trans e
  injection q with q
  subst q
  exact ⟨X.cl_Shelf, X.na_Shelf__later⟩
theorem TA_Shelf__kinds [NTb] (X : Fx K mg) (Z : Exs NTb.E NTb.G X) : ∀ c ∈ (["Shelf"] : List Str), ∀ C, NTb.E c = some C → Cls K C ∧ NoAttr K C "_kinds" := fun c m C e => by
  rw [List.mem_singleton.mp m] at e
  have q := Z.e_Shelf.symm.trans e
  injection q with q
  subst q
  exact ⟨X.cl_Shelf, X.na_Shelf__kinds⟩
theorem TA_Shelf__letters [NTb] (X : Fx K mg) (Z : Exs NTb.E NTb.G X) : ∀ c ∈ (["Shelf"] : List Str), ∀ C, NTb.E c = some C → Cls K C ∧ NoAttr K C "_letters" := fun c m C e => by
  rw [List.mem_singleton.mp m] at e
  have q := Z.e_Shelf.symm.trans e
  injection q with q
  subst q
  exact ⟨X.cl_Shelf, X.na_Shelf__letters⟩
theorem TA_Shelf__rules [NTb] (X : Fx K mg) (Z : Exs NTb.E NTb.G X) : ∀ c ∈ (["Shelf"] : List Str), ∀ C, NTb.E c = some C → Cls K C ∧ NoAttr K C "_rules" := fun c m C e => by
  rw [List.mem_singleton.mp m] at e
  have q := Z.e_Shelf.symm.trans e
  injection q with q
  subst q
  exact ⟨X.cl_Shelf, X.na_Shelf__rules⟩
theorem TC_Shelf_LIMIT [NTb] (X : Fx K mg) (Z : Exs NTb.E NTb.G X) : ∀ c ∈ (["Shelf"] : List Str), ∀ C, NTb.E c = some C → Cls K C ∧ Con K C "LIMIT" (.int 40) X.uc_Shelf_LIMIT := fun c m C e => by
  rw [List.mem_singleton.mp m] at e
  have q := Z.e_Shelf.symm.trans e
  injection q with q
  subst q
  exact ⟨X.cl_Shelf, X.cn_Shelf_LIMIT⟩
theorem scI_BadBook : FnScope [Str.ofString "self", "error"] [Str.ofString "self", "error"] (defScope (clsS (topS 30) 0)) := ⟨rfl, rfl, rfl, by decide +kernel, rfl, by decide +kernel, by decide +kernel⟩
theorem ex_BadBook (X : Fx K mg) : Exn1 P w K mg base "BadBook" "error" X.C_BadBook X.fI_BadBook X.fd_BadBook [Str.ofString "self", "error"] := ⟨X.T_BadBook, X.iC_BadBook, X.tI_BadBook, ok_ini X.F_BadBook scI_BadBook (fun X2 e1 e2 e3 => by
  subst e3
  exact pss_one (ps_ost (pv 0 (by rw [e1]; rfl) (by rw [e2]; first | exact .inl rfl | exact .inr (.inl rfl))) (pv 1 (by rw [e1]; rfl) (by rw [e2]; first | exact .inl rfl | exact .inr (.inl rfl))))), X.bI_BadBook, X.gC_BadBook, X.no_BadBook⟩
theorem scI_NoRule : FnScope [Str.ofString "self", "index"] [Str.ofString "self", "index"] (defScope (clsS (topS 34) 0)) := ⟨rfl, rfl, rfl, by decide +kernel, rfl, by decide +kernel, by decide +kernel⟩
theorem ex_NoRule (X : Fx K mg) : Exn1L P w K mg base "NoRule" "index" X.C_NoRule X.fI_NoRule X.fd_NoRule [Str.ofString "self", "index"] := ⟨X.T_NoRule, X.iC_NoRule, X.tI_NoRule, ok_iniL X.F_NoRule scI_NoRule (fun X2 e1 e2 e3 => by
  subst e3
  exact pss_one (ps_ostL (pv 0 (by rw [e1]; rfl) (by rw [e2]; first | exact .inl rfl | exact .inr (.inl rfl))) (pv 1 (by rw [e1]; rfl) (by rw [e2]; first | exact .inl rfl | exact .inr (.inl rfl))))), X.bI_NoRule, X.gC_NoRule, X.no_NoRule⟩
theorem ok_words_of [NTb] (X : Fx K mg) (Z : Exs NTb.E NTb.G X) : FnG P w K mg base 1 X.a_words_of X.d_words_of p_words_of (spF K m_words_of) :=
  ok_def (k := 0) X.f_words_of sc_words_of fun cdv A outer s H hg hr => by
    have k1 := room1 hr
    have k6 := room6 hr
    exact (jss_cons (js_setLc (i := 2) (own := [("at", 4), ("word", 5)]) rfl sc_words_of.nd rfl rfl (sw_true rfl rfl rfl (by decide +kernel)) (ji_enum (by rfl) X.n_enumerate (je_glob (by rfl) X.g_KINDS X.r_KINDS X.t_KINDS)) (blkOk_by (own := [("at", 4), ("word", 5)]) (N := n_words_of) (sc := defScope s_words_of) (by decide +kernel)) (by decide) (fun _ _ _ _ _ => (jg_tup (n := 2) rfl (jgs_cons (jg_name (i := 4) sc_words_of.nd rfl (by first | exact .inl rfl | exact .inr rfl)) (jgs_cons (jg_name (i := 5) sc_words_of.nd rfl (by first | exact .inl rfl | exact .inr rfl)) jgs_nil)))) (fun _ _ _ _ _ => (jts_one (jc_cmp op_lt od_ii (je_var (pv 4)) (je_var (pv 0)) (nomark _)))) (fun _ _ _ _ _ => (je_var (pv 5))))
      (jss_cons (js_setLc (i := 3) (own := [("at", 4), ("word", 5)]) rfl sc_words_of.nd rfl rfl (sw_true rfl rfl rfl (by decide +kernel)) (ji_enum (by rfl) X.n_enumerate (je_glob (by rfl) X.g_LETTERS X.r_LETTERS X.t_LETTERS)) (blkOk_by (own := [("at", 4), ("word", 5)]) (N := n_words_of) (sc := defScope s_words_of) (by decide +kernel)) (by decide) (fun _ _ _ _ _ => (jg_tup (n := 2) rfl (jgs_cons (jg_name (i := 4) sc_words_of.nd rfl (by first | exact .inl rfl | exact .inr rfl)) (jgs_cons (jg_name (i := 5) sc_words_of.nd rfl (by first | exact .inl rfl | exact .inr rfl)) jgs_nil)))) (fun _ _ _ _ _ => (jts_one (jc_cmp op_lt od_ii (je_var (pv 4)) (je_var (pv 1)) (nomark _)))) (fun _ _ _ _ _ => (je_var (pv 5))))
      (jss_one (js_ret (je_tup (ja_star (je_var (pv 2)) (ja_star (je_var (pv 3)) ja_nil)))))))
theorem ok_is_node [NTb] (X : Fx K mg) (Z : Exs NTb.E NTb.G X) : FnG P w K mg base 1 X.a_is_node X.d_is_node p_is_node (spF K m_is_node) :=
  ok_def (k := 0) X.f_is_node sc_is_node fun cdv A outer s H hg hr => by
    have k1 := room1 hr
    have k6 := room6 hr
    exact (jss_cons (js_if (jc_w (jw_or (jc_not (jc_tru (JE.view (je_isi (by rfl) X.n_isinstance (by rfl) X.n_tuple (by decide +kernel) (je_var (pv 0)) (by decide +kernel))))) (jw_or1 (jc_cmp (or_eqC k6) od_eq (je_b1 cr_len3 ud_len (by rfl) X.n_len (by decide +kernel) (JE.view (je_var (pv 0)))) je_int (nomark _))))) (jss_one (js_ret je_bl)) jss_nil)
      (jss_cons (js_if (jc_cmp (or_inC k6) od_in (je_ix (je_var (pv 0)) je_int (fun _ _ => rfl)) (je_tup (ja_cons je_str (ja_cons je_str ja_nil))) rfl) (jss_one (js_ret je_bl)) jss_nil)
      (jss_one (js_ret (je_and (je_cmp (or_inC k6) od_in (je_ix (je_var (pv 0)) je_int (fun _ _ => rfl)) (je_tup (ja_cons je_str (ja_cons je_str (ja_cons je_str ja_nil)))) rfl) (je_one (je_cmp (or_eqC k6) od_eq (je_b1 cr_len3 ud_len (by rfl) X.n_len (by decide +kernel) (JE.view (je_var (pv 0)))) je_int (nomark _))))))))
theorem ok_formula_error [NTb] (X : Fx K mg) (Z : Exs NTb.E NTb.G X) : FnG P w K mg base 2 X.a_formula_error X.d_formula_error p_formula_error (spF K m_formula_error) :=
  ok_def (k := 1) X.f_formula_error sc_formula_error fun cdv A outer s H hg hr => by
    have k1 := room1 hr
    have k6 := room6 hr
    exact (jss_cons (js_set (i := 3) sc_formula_error.nd rfl (by first | exact .inl rfl | exact .inr rfl) (je_call (ok_words_of X Z) hg hr (by decide) (by rfl) X.g_words_of X.f_words_of.kp X.b_words_of (ja_cons (je_var (pv 0)) (ja_cons (je_var (pv 1)) ja_nil))))
      (jss_cons (js_setO (i := 4) sc_formula_error.nd rfl (by first | exact .inl rfl | exact .inr rfl) (jo_lst (ja_cons (je_var (pv 2)) ja_nil)))
      (jss_cons (js_set (i := 5) sc_formula_error.nd rfl (by first | exact .inl rfl | exact .inr rfl) je_int)
      (jss_cons (js_while bigN PassesOwn.never (jc_tru (jv_own (pv 4))) (jss_cons (js_popTo (j := 6) sc_formula_error.nd rfl (by first | exact .inl rfl | exact .inr rfl) (pv 4))
      (jss_cons (js_aug (i := 5) sc_formula_error.nd rfl (by first | exact .inl rfl | exact .inr rfl) je_int)
      (jss_one (js_if (jc_tru (JE.view (je_call (ok_is_node X Z) hg hr (by decide) (by rfl) X.g_is_node X.f_is_node.kp X.b_is_node (ja_cons (je_var (pv 6)) ja_nil)))) (jss_one (js_ext (pv 4) (je_sl (je_var (pv 6)) (jp_so je_int) jp_no))) (jss_one (js_if (jc_cmp (or_notInC k6) od_notIn (je_var (pv 6)) (je_var (pv 3)) rfl) (jss_one (js_ret je_str)) jss_nil)))))))
      (jss_one (js_ret (je_ifexp (jc_cmp op_gt od_ii (je_var (pv 5)) (je_glob (by rfl) X.g_MAX_SIGNS X.r_MAX_SIGNS X.t_MAX_SIGNS) (nomark _)) je_str je_non)))))))
theorem ok_is_sentence [NTb] (X : Fx K mg) (Z : Exs NTb.E NTb.G X) : FnG P w K mg base 1 X.a_is_sentence X.d_is_sentence p_is_sentence (spF K m_is_sentence) :=
  ok_def (k := 0) X.f_is_sentence sc_is_sentence fun cdv A outer s H hg hr => by
    have k1 := room1 hr
    have k6 := room6 hr
    exact (jss_cons (js_setO (i := 1) sc_is_sentence.nd rfl (by first | exact .inl rfl | exact .inr rfl) (jo_lst (ja_cons (je_var (pv 0)) ja_nil)))
      (jss_cons (js_while bigN PassesOwn.never (jc_tru (jv_own (pv 1))) (jss_cons (js_popTo (j := 2) sc_is_sentence.nd rfl (by first | exact .inl rfl | exact .inr rfl) (pv 1))
      (jss_one (js_if (jc_tru (JE.view (je_isi (by rfl) X.n_isinstance (by rfl) X.n_str (by decide +kernel) (je_var (pv 2)) (by decide +kernel)))) (jss_one (js_if (jc_cmp (or_inC k6) od_in (je_var (pv 2)) (je_glob (by rfl) X.g_KINDS X.r_KINDS X.t_KINDS) rfl) (jss_one (js_ret je_bl)) jss_nil)) (jss_one (js_if (jc_cmp (or_notInC k6) od_notIn (je_ix (je_var (pv 2)) je_int (fun _ _ => rfl)) (je_tup (ja_cons je_str (ja_cons je_str ja_nil))) rfl) (jss_one (js_ext (pv 1) (je_sl (je_var (pv 2)) (jp_so je_int) jp_no))) jss_nil))))))
      (jss_one (js_ret je_bl))))
theorem ok_is_number_to [NTb] (X : Fx K mg) (Z : Exs NTb.E NTb.G X) : FnG P w K mg base 1 X.a_is_number_to X.d_is_number_to p_is_number_to (spF K m_is_number_to) :=
  ok_def (k := 0) X.f_is_number_to sc_is_number_to fun cdv A outer s H hg hr => by
    have k1 := room1 hr
    have k6 := room6 hr
    exact (jss_one (js_ret (je_and (je_isiI (by rfl) X.n_isinstance (by rfl) X.n_int (by decide +kernel) (je_var (pv 1)) (by decide +kernel)) (je_and (je_not (je_isi (by rfl) X.n_isinstance (by rfl) X.n_bool (by decide +kernel) (je_var (pv 1)) (by decide +kernel))) (je_one (je_chain op_le od_ii op_le od_ii je_int (je_var (pv 1)) (je_var (pv 0))))))))
theorem ok_rule_error [NTb] (X : Fx K mg) (Z : Exs NTb.E NTb.G X) : FnG P w K mg base 3 X.a_rule_error X.d_rule_error p_rule_error (spF K m_rule_error) :=
  ok_def (k := 2) X.f_rule_error sc_rule_error fun cdv A outer s H hg hr => by
    have k1 := room1 hr
    have k6 := room6 hr
    exact (jss_cons (js_set (i := 3) sc_rule_error.nd rfl (by first | exact .inl rfl | exact .inr rfl) (je_call (ok_formula_error X Z) hg hr (by decide) (by rfl) X.g_formula_error X.f_formula_error.kp X.b_formula_error (ja_cons (je_var (pv 0)) (ja_cons (je_var (pv 1)) (ja_cons (je_var (pv 2)) ja_nil)))))
      (jss_cons (js_if (jc_w (jw_and (jc_cmp or_is od_is (je_var (pv 3)) je_non (nomark _)) (jw_and1 (jc_not (jc_tru (JE.view (je_call (ok_is_sentence X Z) hg hr (by decide) (by rfl) X.g_is_sentence X.f_is_sentence.kp X.b_is_sentence (ja_cons (je_var (pv 2)) ja_nil)))))))) (jss_one (js_ret je_str)) jss_nil)
      (jss_one (js_ret (je_var (pv 3))))))
theorem ok_book_error [NTb] (X : Fx K mg) (Z : Exs NTb.E NTb.G X) : FnG P w K mg base 4 X.a_book_error X.d_book_error p_book_error (spF K m_book_error) :=
  ok_def (k := 3) X.f_book_error sc_book_error fun cdv A outer s H hg hr => by
    have k1 := room1 hr
    have k6 := room6 hr
    exact (jss_cons (js_if (jc_w (jw_or (jc_not (jc_tru (JE.view (je_isi (by rfl) X.n_isinstance (by rfl) X.n_tuple (by decide +kernel) (je_var (pv 0)) (by decide +kernel))))) (jw_or1 (jc_cmp (or_neC k6) od_ne (je_b1 cr_len3 ud_len (by rfl) X.n_len (by decide +kernel) (JE.view (je_var (pv 0)))) je_int (nomark _))))) (jss_one (js_ret (je_tup (ja_cons je_non (ja_cons je_str ja_nil))))) jss_nil)
      (jss_cons (js_asg (je_var (pv 0)) (jg_tup (n := 3) rfl (jgs_cons (jg_name (i := 1) sc_book_error.nd rfl (by first | exact .inl rfl | exact .inr rfl)) (jgs_cons (jg_name (i := 2) sc_book_error.nd rfl (by first | exact .inl rfl | exact .inr rfl)) (jgs_cons (jg_name (i := 3) sc_book_error.nd rfl (by first | exact .inl rfl | exact .inr rfl)) jgs_nil)))))
      (jss_cons (js_if (jc_not (jc_tru (JE.view (je_call (ok_is_number_to X Z) hg hr (by decide) (by rfl) X.g_is_number_to X.f_is_number_to.kp X.b_is_number_to (ja_cons (je_glob (by rfl) X.g_MAX_KINDS X.r_MAX_KINDS X.t_MAX_KINDS) (ja_cons (je_var (pv 1)) ja_nil)))))) (jss_one (js_ret (je_tup (ja_cons je_non (ja_cons je_str ja_nil))))) jss_nil)
      (jss_cons (js_if (jc_not (jc_tru (JE.view (je_call (ok_is_number_to X Z) hg hr (by decide) (by rfl) X.g_is_number_to X.f_is_number_to.kp X.b_is_number_to (ja_cons (je_glob (by rfl) X.g_MAX_LETTERS X.r_MAX_LETTERS X.t_MAX_LETTERS) (ja_cons (je_var (pv 2)) ja_nil)))))) (jss_one (js_ret (je_tup (ja_cons je_non (ja_cons je_str ja_nil))))) jss_nil)
      (jss_cons (js_if (jc_w (jw_and (jc_cmp (or_eqC k6) od_eq (je_var (pv 1)) je_int (nomark _)) (jw_and1 (jc_cmp (or_eqC k6) od_eq (je_var (pv 2)) je_int (nomark _))))) (jss_one (js_ret (je_tup (ja_cons je_non (ja_cons je_str ja_nil))))) jss_nil)
      (jss_cons (js_if (jc_w (jw_or (jc_not (jc_tru (JE.view (je_isi (by rfl) X.n_isinstance (by rfl) X.n_tuple (by decide +kernel) (je_var (pv 3)) (by decide +kernel))))) (jw_or1 (jc_cmp op_gt od_ii (je_b1 cr_len3 ud_len (by rfl) X.n_len (by decide +kernel) (JE.view (je_var (pv 3)))) (je_glob (by rfl) X.g_MAX_RULES X.r_MAX_RULES X.t_MAX_RULES) (nomark _))))) (jss_one (js_ret (je_tup (ja_cons je_non (ja_cons je_str ja_nil))))) jss_nil)
      (jss_cons (js_for PassesOwn.never rfl (ji_enum (by rfl) X.n_enumerate (je_var (pv 3))) (jg_tup (n := 2) rfl (jgs_cons (jg_name (i := 4) sc_book_error.nd rfl (by first | exact .inl rfl | exact .inr rfl)) (jgs_cons (jg_name (i := 5) sc_book_error.nd rfl (by first | exact .inl rfl | exact .inr rfl)) jgs_nil))) (jss_cons (js_set (i := 6) sc_book_error.nd rfl (by first | exact .inl rfl | exact .inr rfl) (je_call (ok_rule_error X Z) hg hr (by decide) (by rfl) X.g_rule_error X.f_rule_error.kp X.b_rule_error (ja_cons (je_var (pv 1)) (ja_cons (je_var (pv 2)) (ja_cons (je_var (pv 5)) ja_nil)))))
      (jss_one (js_if (jc_cmp or_isNot od_isNot (je_var (pv 6)) je_non (nomark _)) (jss_one (js_ret (je_tup (ja_cons (je_var (pv 4)) (ja_cons (je_var (pv 6)) ja_nil))))) jss_nil))))
      (jss_one (js_ret je_non)))))))))
theorem ok_check_book [NTb] (X : Fx K mg) (Z : Exs NTb.E NTb.G X) : FnX P w K mg base 5 X.a_check_book X.d_check_book p_check_book (spX K m_check_book) :=
  ok_defX (k := 4) X.f_check_book sc_check_book fun cdv A outer s H E hg hr => by
    have k1 := room1 hr
    have k6 := room6 hr
    exact (jss_cons (js_set (i := 1) sc_check_book.nd rfl (by first | exact .inl rfl | exact .inr rfl) (je_call (ok_book_error X Z) hg hr (by decide) (by rfl) X.g_book_error X.f_book_error.kp X.b_book_error (ja_cons (je_var (pv 0)) ja_nil)))
      (jss_one (js_if (jc_cmp or_isNot od_isNot (je_var (pv 1)) je_non (nomark _)) (jss_one (js_raise1 (ex_BadBook X) Z.e_BadBook rfl hr (by decide) (by rfl) (je_var (pv 1)))) jss_nil)))
theorem ok_Shelf_init [NTb] (X : Fx K mg) (Z : Exs NTb.E NTb.G X) : FnX P w K mg base 6 X.a_Shelf_init X.d_Shelf_init p_Shelf_init (spX K m_Shelf_init) :=
  ok_defX (k := 5) X.f_Shelf_init sc_Shelf_init fun cdv A outer s H E hg hr => by
    have k1 := room1 hr
    have k6 := room6 hr
    exact (jss_cons (js_exprX (jx_call (ok_check_book X Z) hg hr (by decide) (by rfl) X.g_check_book X.f_check_book.kp X.b_check_book (ja_cons (je_var (pv 1)) ja_nil)))
      (jss_cons (js_aflds (n := 3) rfl (je_var (pv 1)) (pgs_acons (pg_afld (i := 0) Z.gK (TA_Shelf__kinds X Z) (pv 0)) (pgs_acons (pg_afld (i := 0) Z.gK (TA_Shelf__letters X Z) (pv 0)) (pgs_acons (pg_afld (i := 0) Z.gK (TA_Shelf__rules X Z) (pv 0)) pgs_anil))))
      (jss_cons (js_afld (i := 0) Z.gK (TA_Shelf__earlier X Z) (pv 0) (je_tup ja_nil))
      (jss_one (js_afld (i := 0) Z.gK (TA_Shelf__later X Z) (pv 0) (je_tup ja_nil))))))
theorem ok_Shelf_book [NTb] (X : Fx K mg) (Z : Exs NTb.E NTb.G X) : FnG P w K mg base 1 X.a_Shelf_book X.d_Shelf_book p_Shelf_book (spF K m_Shelf_book) :=
  ok_def (k := 0) X.f_Shelf_book sc_Shelf_book fun cdv A outer s H hg hr => by
    have k1 := room1 hr
    have k6 := room6 hr
    exact (jss_one (js_ret (je_tup (ja_cons (je_afld (i := 0) Z.gK (TA_Shelf__kinds X Z) (pv 0)) (ja_cons (je_afld (i := 0) Z.gK (TA_Shelf__letters X Z) (pv 0)) (ja_cons (je_afld (i := 0) Z.gK (TA_Shelf__rules X Z) (pv 0)) ja_nil))))))
theorem ok_Shelf_version [NTb] (X : Fx K mg) (Z : Exs NTb.E NTb.G X) : FnG P w K mg base 1 X.a_Shelf_version X.d_Shelf_version p_Shelf_version (spF K m_Shelf_version) :=
  ok_def (k := 0) X.f_Shelf_version sc_Shelf_version fun cdv A outer s H hg hr => by
    have k1 := room1 hr
    have k6 := room6 hr
    exact (jss_one (js_ret (je_b1 cr_len3 ud_len (by rfl) X.n_len (by decide +kernel) (JE.view (je_afld (i := 0) Z.gK (TA_Shelf__earlier X Z) (pv 0))))))
theorem ok_Shelf__check_room [NTb] (X : Fx K mg) (Z : Exs NTb.E NTb.G X) : FnX P w K mg base 3 X.a_Shelf__check_room X.d_Shelf__check_room p_Shelf__check_room (spX K m_Shelf__check_room) :=
  ok_defX (k := 2) X.f_Shelf__check_room sc_Shelf__check_room fun cdv A outer s H E hg hr => by
    have k1 := room1 hr
    have k6 := room6 hr
    exact (jss_one (js_if (jc_cmp op_ge od_ii (je_aprop (i := 0) Z.e_Shelf X.cl_Shelf X.P_Shelf_version (ok_Shelf_version X Z) hg hr (by decide) X.b_Shelf_version (pv 0)) (je_acon (i := 0) (TC_Shelf_LIMIT X Z) (fun _ => .int _) (pv 0)) (nomark _)) (jss_one js_no) jss_nil))
theorem ok_Shelf__check_next [NTb] (X : Fx K mg) (Z : Exs NTb.E NTb.G X) : FnX P w K mg base 6 X.a_Shelf__check_next X.d_Shelf__check_next p_Shelf__check_next (spX K m_Shelf__check_next) :=
  ok_defX (k := 5) X.f_Shelf__check_next sc_Shelf__check_next fun cdv A outer s H E hg hr => by
    have k1 := room1 hr
    have k6 := room6 hr
    exact (jss_one (js_exprX (jx_call (ok_check_book X Z) hg hr (by decide) (by rfl) X.g_check_book X.f_check_book.kp X.b_check_book (ja_cons (je_var (pv 1)) ja_nil))))
theorem ok_Shelf__edit [NTb] (X : Fx K mg) (Z : Exs NTb.E NTb.G X) : FnX P w K mg base 7 X.a_Shelf__edit X.d_Shelf__edit p_Shelf__edit (spX K m_Shelf__edit) :=
  ok_defX (k := 6) X.f_Shelf__edit sc_Shelf__edit fun cdv A outer s H E hg hr => by
    have k1 := room1 hr
    have k6 := room6 hr
    exact (jss_cons (js_exprX (jx_ameth (i := 0) Z.e_Shelf X.cl_Shelf X.M_Shelf__check_next (ok_Shelf__check_next X Z) hg hr (by decide) X.b_Shelf__check_next (pv 0) (ja_cons (je_tup (ja_cons (je_afld (i := 0) Z.gK (TA_Shelf__kinds X Z) (pv 0)) (ja_cons (je_afld (i := 0) Z.gK (TA_Shelf__letters X Z) (pv 0)) (ja_cons (je_var (pv 1)) ja_nil)))) ja_nil)))
      (jss_cons (js_afld (i := 0) Z.gK (TA_Shelf__earlier X Z) (pv 0) (je_tup (ja_star (je_afld (i := 0) Z.gK (TA_Shelf__earlier X Z) (pv 0)) (ja_cons (je_afld (i := 0) Z.gK (TA_Shelf__rules X Z) (pv 0)) ja_nil))))
      (jss_cons (js_afld (i := 0) Z.gK (TA_Shelf__later X Z) (pv 0) (je_tup ja_nil))
      (jss_cons (js_afld (i := 0) Z.gK (TA_Shelf__rules X Z) (pv 0) (je_var (pv 1)))
      (jss_one (js_ret (je_aprop (i := 0) Z.e_Shelf X.cl_Shelf X.P_Shelf_version (ok_Shelf_version X Z) hg hr (by decide) X.b_Shelf_version (pv 0))))))))
theorem ok_Shelf_add [NTb] (X : Fx K mg) (Z : Exs NTb.E NTb.G X) : FnX P w K mg base 8 X.a_Shelf_add X.d_Shelf_add p_Shelf_add (spX K m_Shelf_add) :=
  ok_defX (k := 7) X.f_Shelf_add sc_Shelf_add fun cdv A outer s H E hg hr => by
    have k1 := room1 hr
    have k6 := room6 hr
    exact (jss_cons (js_exprX (jx_ameth0 (i := 0) Z.e_Shelf X.cl_Shelf X.M_Shelf__check_room (ok_Shelf__check_room X Z) hg hr (by decide) X.b_Shelf__check_room (pv 0)))
      (jss_one (js_retX (jx_ameth (i := 0) Z.e_Shelf X.cl_Shelf X.M_Shelf__edit (ok_Shelf__edit X Z) hg hr (by decide) X.b_Shelf__edit (pv 0) (ja_cons (je_tup (ja_star (je_afld (i := 0) Z.gK (TA_Shelf__rules X Z) (pv 0)) (ja_cons (je_var (pv 1)) ja_nil))) ja_nil)))))
theorem ok_Shelf__check_index [NTb] (X : Fx K mg) (Z : Exs NTb.E NTb.G X) : FnX P w K mg base 3 X.a_Shelf__check_index X.d_Shelf__check_index p_Shelf__check_index (spX K m_Shelf__check_index) :=
  ok_defX (k := 2) X.f_Shelf__check_index sc_Shelf__check_index fun cdv A outer s H E hg hr => by
    have k1 := room1 hr
    have k6 := room6 hr
    exact (jss_one (js_if (jc_not (jc_tru (JE.view (je_call (ok_is_number_to X Z) hg hr (by decide) (by rfl) X.g_is_number_to X.f_is_number_to.kp X.b_is_number_to (ja_cons (je_op op_sub od_sub (je_b1 cr_len3 ud_len (by rfl) X.n_len (by decide +kernel) (JE.view (je_afld (i := 0) Z.gK (TA_Shelf__rules X Z) (pv 0)))) je_int) (ja_cons (je_var (pv 1)) ja_nil)))))) (jss_one (js_raise1L (ex_NoRule X) Z.e_NoRule rfl hr (by decide) (by rfl) (je_var (pv 1)))) jss_nil))
theorem ok_Shelf_drop [NTb] (X : Fx K mg) (Z : Exs NTb.E NTb.G X) : FnX P w K mg base 8 X.a_Shelf_drop X.d_Shelf_drop p_Shelf_drop (spX K m_Shelf_drop) :=
  ok_defX (k := 7) X.f_Shelf_drop sc_Shelf_drop fun cdv A outer s H E hg hr => by
    have k1 := room1 hr
    have k6 := room6 hr
    exact (jss_cons (js_exprX (jx_ameth0 (i := 0) Z.e_Shelf X.cl_Shelf X.M_Shelf__check_room (ok_Shelf__check_room X Z) hg hr (by decide) X.b_Shelf__check_room (pv 0)))
      (jss_cons (js_exprX (jx_ameth (i := 0) Z.e_Shelf X.cl_Shelf X.M_Shelf__check_index (ok_Shelf__check_index X Z) hg hr (by decide) X.b_Shelf__check_index (pv 0) (ja_cons (je_var (pv 1)) ja_nil)))
      (jss_one (js_retX (jx_ameth (i := 0) Z.e_Shelf X.cl_Shelf X.M_Shelf__edit (ok_Shelf__edit X Z) hg hr (by decide) X.b_Shelf__edit (pv 0) (ja_cons (je_op or_add od_add (je_sl (je_afld (i := 0) Z.gK (TA_Shelf__rules X Z) (pv 0)) jp_no (jp_so (je_var (pv 1)))) (je_sl (je_afld (i := 0) Z.gK (TA_Shelf__rules X Z) (pv 0)) (jp_so (je_op or_add od_add (je_var (pv 1)) je_int)) jp_no)) ja_nil))))))
theorem ok_Shelf_turn [NTb] (X : Fx K mg) (Z : Exs NTb.E NTb.G X) : FnX P w K mg base 8 X.a_Shelf_turn X.d_Shelf_turn p_Shelf_turn (spX K m_Shelf_turn) :=
  ok_defX (k := 7) X.f_Shelf_turn sc_Shelf_turn fun cdv A outer s H E hg hr => by
    have k1 := room1 hr
    have k6 := room6 hr
    exact (jss_cons (js_exprX (jx_ameth0 (i := 0) Z.e_Shelf X.cl_Shelf X.M_Shelf__check_room (ok_Shelf__check_room X Z) hg hr (by decide) X.b_Shelf__check_room (pv 0)))
      (jss_cons (js_exprX (jx_ameth (i := 0) Z.e_Shelf X.cl_Shelf X.M_Shelf__check_index (ok_Shelf__check_index X Z) hg hr (by decide) X.b_Shelf__check_index (pv 0) (ja_cons (je_var (pv 1)) ja_nil)))
      (jss_one (js_retX (jx_ameth (i := 0) Z.e_Shelf X.cl_Shelf X.M_Shelf__edit (ok_Shelf__edit X Z) hg hr (by decide) X.b_Shelf__edit (pv 0) (ja_cons (je_op or_add od_add (je_op or_add od_add (je_sl (je_afld (i := 0) Z.gK (TA_Shelf__rules X Z) (pv 0)) jp_no (jp_so (je_var (pv 1)))) (je_tup (ja_cons (je_var (pv 2)) ja_nil))) (je_sl (je_afld (i := 0) Z.gK (TA_Shelf__rules X Z) (pv 0)) (jp_so (je_op or_add od_add (je_var (pv 1)) je_int)) jp_no)) ja_nil))))))
theorem ok_Shelf___len__ [NTb] (X : Fx K mg) (Z : Exs NTb.E NTb.G X) : FnG P w K mg base 1 X.a_Shelf___len__ X.d_Shelf___len__ p_Shelf___len__ (spF K m_Shelf___len__) :=
  ok_def (k := 0) X.f_Shelf___len__ sc_Shelf___len__ fun cdv A outer s H hg hr => by
    have k1 := room1 hr
    have k6 := room6 hr
    exact (jss_one (js_ret (je_b1 cr_len3 ud_len (by rfl) X.n_len (by decide +kernel) (JE.view (je_afld (i := 0) Z.gK (TA_Shelf__rules X Z) (pv 0))))))
theorem ok_Tdraw [NTb] (X : Fx K mg) (Z : Exs NTb.E NTb.G X) : FnG P w K mg base 1 X.a_Tdraw X.d_Tdraw p_Tdraw (spF K m_Tdraw) :=
  ok_def (k := 0) X.f_Tdraw sc_Tdraw fun cdv A outer s H hg hr => by
    have k1 := room1 hr
    have k6 := room6 hr
    exact (jss_cons (js_if (jc_pk (jc_cmp (or_neC k6) od_ne (je_ix (je_var (pv 0)) je_int (fun _ _ => rfl)) (je_lst ja_nil) (nomark _))) (jss_cons (js_set (i := 2) sc_Tdraw.nd rfl (by first | exact .inl rfl | exact .inr rfl) (je_pk (je_ix (je_ix (je_var (pv 0)) je_int (fun _ _ => rfl)) je_int (fun _ _ => rfl))))
      (jss_cons (js_dkG (pv 0) (je_op op_fdiv od_fdiv (je_var (pv 2)) (je_var (pv 1))) (fun _ _ => rfl))
      (jss_cons (js_if (jc_pk (jc_cmp (or_eqC k6) od_eq (je_ix (je_ix (je_var (pv 0)) je_int (fun _ _ => rfl)) je_int (fun _ _ => rfl)) je_int (nomark _))) (jss_one (js_dkP (pv 0) (fun _ _ => rfl))) jss_nil)
      (jss_one (js_ret (je_op op_mod od_mod (je_ty1 call_int1 ud_int (by rfl) X.n_int (by decide +kernel) (JE.view (je_var (pv 2)))) (je_var (pv 1)))))))) jss_nil)
      (jss_cons (js_dkN (pv 0) (je_pk (je_op or_add od_add (je_ix (je_var (pv 0)) je_int (fun _ _ => rfl)) je_int)))
      (jss_cons (js_set (i := 3) sc_Tdraw.nd rfl (by first | exact .inl rfl | exact .inr rfl) (je_pk (je_ix (je_ix (je_var (pv 0)) je_int (fun _ _ => rfl)) (je_op op_mod od_mod (je_ty1 call_int1 ud_int (by rfl) X.n_int (by decide +kernel) (JE.view (je_ix (je_var (pv 0)) je_int (fun _ _ => rfl)))) (je_b1 cr_len3 ud_len (by rfl) X.n_len (by decide +kernel) (JE.view (je_ix (je_var (pv 0)) je_int (fun _ _ => rfl))))) (fun _ _ => rfl))))
      (jss_cons (js_set (i := 4) sc_Tdraw.nd rfl (by first | exact .inl rfl | exact .inr rfl) (je_pk (je_op op_mod od_mod (je_ty1 call_int1 ud_int (by rfl) X.n_int (by decide +kernel) (JE.view (je_op or_add od_add (je_op op_mod od_mod (je_ty1 call_int1 ud_int (by rfl) X.n_int (by decide +kernel) (JE.view (je_var (pv 3)))) je_int) (je_op or_mul od_mul je_int (je_ix (je_var (pv 0)) je_int (fun _ _ => rfl)))))) je_int)))
      (jss_cons (js_set (i := 4) sc_Tdraw.nd rfl (by first | exact .inl rfl | exact .inr rfl) (je_pk (je_op op_mod od_mod (je_ty1 call_int1 ud_int (by rfl) X.n_int (by decide +kernel) (JE.view (je_op or_add od_add (je_op or_mul od_mul (je_var (pv 4)) (je_var (pv 4))) (je_op or_mul od_mul je_int (je_ix (je_var (pv 0)) je_int (fun _ _ => rfl)))))) je_int)))
      (jss_one (js_ret (je_op op_mod od_mod (je_op op_fdiv od_fdiv (je_op op_mod od_mod (je_ty1 call_int1 ud_int (by rfl) X.n_int (by decide +kernel) (JE.view (je_op or_mul od_mul (je_var (pv 4)) (je_var (pv 4))))) je_int) je_int) (je_var (pv 1))))))))))
theorem ok_Tone [NTb] (X : Fx K mg) (Z : Exs NTb.E NTb.G X) : FnG P w K mg base 2 X.a_Tone X.d_Tone p_Tone (spF K m_Tone) :=
  ok_def (k := 1) X.f_Tone sc_Tone fun cdv A outer s H hg hr => by
    have k1 := room1 hr
    have k6 := room6 hr
    exact (jss_one (js_ret (je_ix (je_var (pv 1)) (je_call (ok_Tdraw X Z) hg hr (by decide) (by rfl) X.g_Tdraw X.f_Tdraw.kp X.b_Tdraw (ja_deck (pv 0) (ja_cons (je_b1 cr_len3 ud_len (by rfl) X.n_len (by decide +kernel) (JE.view (je_var (pv 1)))) ja_nil))) (fun _ _ => rfl))))
theorem ok_Twhole [NTb] (X : Fx K mg) (Z : Exs NTb.E NTb.G X) : FnG P w K mg base 1 X.a_Twhole X.d_Twhole p_Twhole (spF K m_Twhole) :=
  ok_def (k := 0) X.f_Twhole sc_Twhole fun cdv A outer s H hg hr => by
    have k1 := room1 hr
    have k6 := room6 hr
    exact (jss_one (js_ret (je_and (je_isiI (by rfl) X.n_isinstance (by rfl) X.n_int (by decide +kernel) (je_var (pv 0)) (by decide +kernel)) (je_and (je_not (je_isi (by rfl) X.n_isinstance (by rfl) X.n_bool (by decide +kernel) (je_var (pv 0)) (by decide +kernel))) (je_one (je_chain op_le od_ii op_le od_ii (je_var (pv 1)) (je_var (pv 0)) (je_var (pv 2))))))))
theorem ok_Tkinds [NTb] (X : Fx K mg) (Z : Exs NTb.E NTb.G X) : FnG P w K mg base 1 X.a_Tkinds X.d_Tkinds p_Tkinds (spF K m_Tkinds) :=
  ok_def (k := 0) X.f_Tkinds sc_Tkinds fun cdv A outer s H hg hr => by
    have k1 := room1 hr
    have k6 := room6 hr
    exact (jss_one (js_ret (je_sl (je_lst (ja_cons je_str (ja_cons je_str (ja_cons je_str ja_nil)))) jp_no (jp_so (je_var (pv 0))))))
theorem ok_Tletters [NTb] (X : Fx K mg) (Z : Exs NTb.E NTb.G X) : FnG P w K mg base 1 X.a_Tletters X.d_Tletters p_Tletters (spF K m_Tletters) :=
  ok_def (k := 0) X.f_Tletters sc_Tletters fun cdv A outer s H hg hr => by
    have k1 := room1 hr
    have k6 := room6 hr
    exact (jss_one (js_ret (je_sl (je_lst (ja_cons je_str (ja_cons je_str ja_nil))) jp_no (jp_so (je_var (pv 0))))))
theorem ok_Twords [NTb] (X : Fx K mg) (Z : Exs NTb.E NTb.G X) : FnG P w K mg base 2 X.a_Twords X.d_Twords p_Twords (spF K m_Twords) :=
  ok_def (k := 1) X.f_Twords sc_Twords fun cdv A outer s H hg hr => by
    have k1 := room1 hr
    have k6 := room6 hr
    exact (jss_one (js_ret (je_op or_add od_add (je_call (ok_Tkinds X Z) hg hr (by decide) (by rfl) X.g_Tkinds X.f_Tkinds.kp X.b_Tkinds (ja_cons (je_var (pv 0)) ja_nil)) (je_call (ok_Tletters X Z) hg hr (by decide) (by rfl) X.g_Tletters X.f_Tletters.kp X.b_Tletters (ja_cons (je_var (pv 1)) ja_nil)))))
theorem ok_Tformula [NTb] (X : Fx K mg) (Z : Exs NTb.E NTb.G X) : ∀ n, FnG P w K mg base (2 + n) X.a_Tformula X.d_Tformula p_Tformula (spF K (m_Tformula n))
  | 0 => ok_never fun _ _ => rfl
  | n + 1 => ok_def (k := 2 + n) X.f_Tformula sc_Tformula fun cdv A outer s H hg hr => by
    have k1 := room1 hr
    have k6 := room6 hr
    exact (jss_cons (js_set (i := 5) sc_Tformula.nd rfl (by first | exact .inl rfl | exact .inr rfl) (je_op or_add od_add (je_call (ok_Tletters X Z) hg hr (by omega) (by rfl) X.g_Tletters X.f_Tletters.kp X.b_Tletters (ja_cons (je_var (pv 2)) ja_nil)) (je_ifexp (jc_tru (JE.view (je_var (pv 4)))) (je_op or_mul od_mul (je_call (ok_Tkinds X Z) hg hr (by omega) (by rfl) X.g_Tkinds X.f_Tkinds.kp X.b_Tkinds (ja_cons (je_var (pv 1)) ja_nil)) je_int) (je_lst ja_nil))))
      (jss_cons (js_set (i := 6) sc_Tformula.nd rfl (by first | exact .inl rfl | exact .inr rfl) (je_ifexp (jc_cmp op_gt od_ii (je_var (pv 3)) je_int (nomark _)) (je_call (ok_Tdraw X Z) hg hr (by omega) (by rfl) X.g_Tdraw X.f_Tdraw.kp X.b_Tdraw (ja_deck (pv 0) (ja_cons je_int ja_nil))) je_int))
      (jss_cons (js_if (jc_w (jw_and (jc_cmp op_lt od_ii (je_var (pv 6)) je_int (nomark _)) (jw_and1 (jc_cmp (or_neC k6) od_ne (je_var (pv 5)) (je_lst ja_nil) (nomark _))))) (jss_one (js_ret (je_call (ok_Tone X Z) hg hr (by omega) (by rfl) X.g_Tone X.f_Tone.kp X.b_Tone (ja_deck (pv 0) (ja_cons (je_var (pv 5)) ja_nil))))) jss_nil)
      (jss_cons (js_if (jc_cmp (or_eqC k6) od_eq (je_var (pv 3)) je_int (nomark _)) (jss_one (js_ret (je_tup (ja_cons (je_call (ok_Tone X Z) hg hr (by omega) (by rfl) X.g_Tone X.f_Tone.kp X.b_Tone (ja_deck (pv 0) (ja_cons (je_lst (ja_cons je_str (ja_cons je_str ja_nil))) ja_nil))) ja_nil)))) jss_nil)
      (jss_cons (js_if (jc_cmp op_lt od_ii (je_var (pv 6)) je_int (nomark _)) (jss_one (js_ret (je_tup (ja_cons je_str (ja_cons (je_call (ok_Tformula X Z n) hg hr (by omega) (by rfl) X.g_Tformula X.f_Tformula.kp X.b_Tformula (ja_deck (pv 0) (ja_cons (je_var (pv 1)) (ja_cons (je_var (pv 2)) (ja_cons (je_op op_sub od_sub (je_var (pv 3)) je_int) (ja_cons (je_var (pv 4)) ja_nil)))))) ja_nil))))) jss_nil)
      (jss_cons (js_if (jc_cmp op_lt od_ii (je_var (pv 6)) je_int (nomark _)) (jss_cons (js_set (i := 7) sc_Tformula.nd rfl (by first | exact .inl rfl | exact .inr rfl) (je_call (ok_Tone X Z) hg hr (by omega) (by rfl) X.g_Tone X.f_Tone.kp X.b_Tone (ja_deck (pv 0) (ja_cons (je_lst (ja_cons je_int (ja_cons je_int (ja_cons je_int (ja_cons je_int (ja_cons je_int (ja_cons je_int ja_nil))))))) ja_nil))))
      (jss_cons (js_setLc (i := 8) (own := [("_law_k", 9)]) rfl sc_Tformula.nd rfl rfl (sw_true rfl rfl rfl (by decide +kernel)) (ji_range1 (by rfl) X.n_range (je_var (pv 7))) (blkOk_by (own := [("_law_k", 9)]) (N := n_Tformula) (sc := defScope s_Tformula) (by decide +kernel)) (by decide) (fun _ _ _ _ _ => (jg_name (i := 9) sc_Tformula.nd rfl (by first | exact .inl rfl | exact .inr rfl))) (fun _ _ _ _ _ => jts_nil) (fun _ _ _ _ _ => (je_call (ok_Tformula X Z n) hg hr (by omega) (by rfl) X.g_Tformula X.f_Tformula.kp X.b_Tformula (ja_deck (pv 0) (ja_cons (je_var (pv 1)) (ja_cons (je_var (pv 2)) (ja_cons (je_op op_sub od_sub (je_var (pv 3)) je_int) (ja_cons (je_var (pv 4)) ja_nil))))))))
      (jss_one (js_ret (je_op or_add od_add (je_tup (ja_cons (je_call (ok_Tone X Z) hg hr (by omega) (by rfl) X.g_Tone X.f_Tone.kp X.b_Tone (ja_deck (pv 0) (ja_cons (je_lst (ja_cons je_str (ja_cons je_str ja_nil))) ja_nil))) ja_nil)) (je_ty1 call_tuple_of ud_tup (by rfl) X.n_tuple (by decide +kernel) (JE.view (je_var (pv 8))))))))) jss_nil)
      (jss_one (js_ret (je_tup (ja_cons (je_call (ok_Tone X Z) hg hr (by omega) (by rfl) X.g_Tone X.f_Tone.kp X.b_Tone (ja_deck (pv 0) (ja_cons (je_lst (ja_cons je_str (ja_cons je_str ja_nil))) ja_nil))) (ja_cons (je_call (ok_Tformula X Z n) hg hr (by omega) (by rfl) X.g_Tformula X.f_Tformula.kp X.b_Tformula (ja_deck (pv 0) (ja_cons (je_var (pv 1)) (ja_cons (je_var (pv 2)) (ja_cons (je_op op_sub od_sub (je_var (pv 3)) je_int) (ja_cons je_bl ja_nil)))))) ja_nil)))))))))))
theorem ok_Tboth [NTb] (X : Fx K mg) (Z : Exs NTb.E NTb.G X) : FnG P w K mg base 1 X.a_Tboth X.d_Tboth p_Tboth (spF K m_Tboth) :=
  ok_def (k := 0) X.f_Tboth sc_Tboth fun cdv A outer s H hg hr => by
    have k1 := room1 hr
    have k6 := room6 hr
    exact (jss_one (js_ret (je_tup (ja_cons je_str (ja_cons (je_tup (ja_cons je_str (ja_cons (je_var (pv 0)) (ja_cons (je_var (pv 1)) ja_nil)))) (ja_cons (je_tup (ja_cons je_str (ja_cons (je_tup (ja_cons je_str (ja_cons (je_var (pv 0)) ja_nil))) (ja_cons (je_tup (ja_cons je_str (ja_cons (je_var (pv 1)) ja_nil))) ja_nil)))) ja_nil))))))
theorem ok_Tsentence [NTb] (X : Fx K mg) (Z : Exs NTb.E NTb.G X) : FnG P w K mg base 11 X.a_Tsentence X.d_Tsentence p_Tsentence (spF K m_Tsentence) :=
  ok_def (k := 10) X.f_Tsentence sc_Tsentence fun cdv A outer s H hg hr => by
    have k1 := room1 hr
    have k6 := room6 hr
    exact (jss_cons (js_set (i := 3) sc_Tsentence.nd rfl (by first | exact .inl rfl | exact .inr rfl) (je_call (ok_Tdraw X Z) hg hr (by decide) (by rfl) X.g_Tdraw X.f_Tdraw.kp X.b_Tdraw (ja_deck (pv 0) (ja_cons je_int ja_nil))))
      (jss_cons (js_par (i := 4) (j := 5) rfl sc_Tsentence.nd rfl rfl (by decide) rfl rfl (je_call (ok_Tformula X Z 8) hg hr (by decide) (by rfl) X.g_Tformula X.f_Tformula.kp X.b_Tformula (ja_deck (pv 0) (ja_cons (je_var (pv 1)) (ja_cons (je_var (pv 2)) (ja_cons je_int (ja_cons je_bl ja_nil)))))) (je_call (ok_Tformula X Z 8) hg hr (by decide) (by rfl) X.g_Tformula X.f_Tformula.kp X.b_Tformula (ja_deck (pv 0) (ja_cons (je_var (pv 1)) (ja_cons (je_var (pv 2)) (ja_cons je_int (ja_cons je_bl ja_nil)))))) rfl rfl rfl rfl)
      (jss_cons (js_if (jc_cmp (or_eqC k6) od_eq (je_var (pv 3)) je_int (nomark _)) (jss_one (js_ret (je_tup (ja_cons je_str (ja_cons (je_tup (ja_cons je_str (ja_cons (je_tup (ja_cons je_str (ja_cons (je_var (pv 4)) ja_nil))) (ja_cons (je_var (pv 5)) ja_nil)))) ja_nil))))) jss_nil)
      (jss_cons (js_if (jc_cmp (or_eqC k6) od_eq (je_var (pv 3)) je_int (nomark _)) (jss_one (js_ret (je_tup (ja_cons je_str (ja_cons (je_call (ok_Tboth X Z) hg hr (by decide) (by rfl) X.g_Tboth X.f_Tboth.kp X.b_Tboth (ja_cons (je_call (ok_Tone X Z) hg hr (by decide) (by rfl) X.g_Tone X.f_Tone.kp X.b_Tone (ja_deck (pv 0) (ja_cons (je_call (ok_Twords X Z) hg hr (by decide) (by rfl) X.g_Twords X.f_Twords.kp X.b_Twords (ja_cons (je_var (pv 1)) (ja_cons (je_var (pv 2)) ja_nil))) ja_nil))) (ja_cons (je_var (pv 5)) ja_nil))) ja_nil))))) jss_nil)
      (jss_cons (js_if (jc_w (jw_and (jc_cmp (or_eqC k6) od_eq (je_var (pv 3)) je_int (nomark _)) (jw_and1 (jc_cmp op_gt od_ii (je_var (pv 2)) je_int (nomark _))))) (jss_one (js_ret (je_call (ok_Tboth X Z) hg hr (by decide) (by rfl) X.g_Tboth X.f_Tboth.kp X.b_Tboth (ja_cons (je_call (ok_Tone X Z) hg hr (by decide) (by rfl) X.g_Tone X.f_Tone.kp X.b_Tone (ja_deck (pv 0) (ja_cons (je_call (ok_Tletters X Z) hg hr (by decide) (by rfl) X.g_Tletters X.f_Tletters.kp X.b_Tletters (ja_cons (je_var (pv 2)) ja_nil)) ja_nil))) (ja_cons (je_tup (ja_cons je_str (ja_cons (je_var (pv 5)) ja_nil))) ja_nil))))) jss_nil)
      (jss_cons (js_if (jc_cmp (or_eqC k6) od_eq (je_var (pv 3)) je_int (nomark _)) (jss_one (js_ret (je_tup (ja_cons je_str (ja_cons (je_var (pv 4)) ja_nil))))) jss_nil)
      (jss_one (js_ret (je_call (ok_Tformula X Z 8) hg hr (by decide) (by rfl) X.g_Tformula X.f_Tformula.kp X.b_Tformula (ja_deck (pv 0) (ja_cons (je_var (pv 1)) (ja_cons (je_var (pv 2)) (ja_cons je_int (ja_cons je_bl ja_nil))))))))))))))
theorem ok_Tbook [NTb] (X : Fx K mg) (Z : Exs NTb.E NTb.G X) : FnG P w K mg base 12 X.a_Tbook X.d_Tbook p_Tbook (spF K m_Tbook) :=
  ok_def (k := 11) X.f_Tbook sc_Tbook fun cdv A outer s H hg hr => by
    have k1 := room1 hr
    have k6 := room6 hr
    exact (jss_cons (js_setLc (i := 3) (own := [("_law_k", 4)]) rfl sc_Tbook.nd rfl rfl (sw_true rfl rfl rfl (by decide +kernel)) (ji_range1 (by rfl) X.n_range (je_call (ok_Tone X Z) hg hr (by decide) (by rfl) X.g_Tone X.f_Tone.kp X.b_Tone (ja_deck (pv 0) (ja_cons (je_lst (ja_cons je_int (ja_cons je_int (ja_cons je_int (ja_cons je_int (ja_cons je_int (ja_cons je_int ja_nil))))))) ja_nil)))) (blkOk_by (own := [("_law_k", 4)]) (N := n_Tbook) (sc := defScope s_Tbook) (by decide +kernel)) (by decide) (fun _ _ _ _ _ => (jg_name (i := 4) sc_Tbook.nd rfl (by first | exact .inl rfl | exact .inr rfl))) (fun _ _ _ _ _ => jts_nil) (fun _ _ _ _ _ => (je_call (ok_Tsentence X Z) hg hr (by decide) (by rfl) X.g_Tsentence X.f_Tsentence.kp X.b_Tsentence (ja_deck (pv 0) (ja_cons (je_var (pv 1)) (ja_cons (je_var (pv 2)) ja_nil))))))
      (jss_one (js_ret (je_tup (ja_cons (je_var (pv 1)) (ja_cons (je_var (pv 2)) (ja_cons (je_ty1 call_tuple_of ud_tup (by rfl) X.n_tuple (by decide +kernel) (JE.view (je_var (pv 3)))) ja_nil)))))))
theorem ok_Tsigns [NTb] (X : Fx K mg) (Z : Exs NTb.E NTb.G X) : ∀ n, FnG P w K mg base (0 + n) X.a_Tsigns X.d_Tsigns p_Tsigns (spF K (m_Tsigns n))
  | 0 => ok_never fun _ _ => rfl
  | n + 1 => ok_def (k := 0 + n) X.f_Tsigns sc_Tsigns fun cdv A outer s H hg hr => by
    have k1 := room1 hr
    have k6 := room6 hr
    exact (jss_cons (js_if (jc_tru (JE.view (je_isi (by rfl) X.n_isinstance (by rfl) X.n_str (by decide +kernel) (je_var (pv 0)) (by decide +kernel)))) (jss_one (js_ret je_int)) jss_nil)
      (jss_one (js_ret (je_op or_add od_add je_int (je_b1 (cr_sum rfl) ud_sum (by rfl) X.n_sum (by decide +kernel) (JE.view (JO.je (jo_comp (own := [("_law_part", 1)]) rfl sc_Tsigns.nd (ji_of (je_sl (je_var (pv 0)) (jp_so je_int) jp_no)) (blkOk_by (own := [("_law_part", 1)]) (N := n_Tsigns) (sc := defScope s_Tsigns) (by decide +kernel)) (by decide) (fun _ _ _ _ _ => (jg_name (i := 1) sc_Tsigns.nd rfl (by first | exact .inl rfl | exact .inr rfl))) (fun _ _ _ _ _ => jts_nil) (fun _ _ _ _ _ => (je_call (ok_Tsigns X Z n) hg hr (by omega) (by rfl) X.g_Tsigns X.f_Tsigns.kp X.b_Tsigns (ja_cons (je_var (pv 1)) ja_nil)))))))))))
theorem ok_Tis_formula [NTb] (X : Fx K mg) (Z : Exs NTb.E NTb.G X) : ∀ n, FnG P w K mg base (0 + n) X.a_Tis_formula X.d_Tis_formula p_Tis_formula (spF K (m_Tis_formula n))
  | 0 => ok_never fun _ _ => rfl
  | n + 1 => ok_def (k := 0 + n) X.f_Tis_formula sc_Tis_formula fun cdv A outer s H hg hr => by
    have k1 := room1 hr
    have k6 := room6 hr
    exact (jss_cons (js_if (jc_tru (JE.view (je_isi (by rfl) X.n_isinstance (by rfl) X.n_str (by decide +kernel) (je_var (pv 1)) (by decide +kernel)))) (jss_one (js_ret (je_cmp (or_inC k6) od_in (je_var (pv 1)) (je_var (pv 0)) rfl))) jss_nil)
      (jss_cons (js_if (jc_w (jw_or (jc_not (jc_tru (JE.view (je_isi (by rfl) X.n_isinstance (by rfl) X.n_tuple (by decide +kernel) (je_var (pv 1)) (by decide +kernel))))) (jw_or (jc_cmp (or_eqC k6) od_eq (je_var (pv 1)) (je_tup ja_nil) (nomark _)) (jw_or1 (jc_not (jc_tru (JE.view (je_isi (by rfl) X.n_isinstance (by rfl) X.n_str (by decide +kernel) (je_ix (je_var (pv 1)) je_int (fun _ _ => rfl)) (by decide +kernel))))))))) (jss_one (js_ret je_bl)) jss_nil)
      (jss_cons (js_if (jc_cmp (or_notInC k6) od_notIn (je_ix (je_var (pv 1)) je_int (fun _ _ => rfl)) (je_lst (ja_cons je_str (ja_cons je_str (ja_cons je_str (ja_cons je_str (ja_cons je_str ja_nil)))))) rfl) (jss_one (js_ret je_bl)) jss_nil)
      (jss_cons (js_if (jc_w (jw_and (jc_cmp (or_inC k6) od_in (je_ix (je_var (pv 1)) je_int (fun _ _ => rfl)) (je_lst (ja_cons je_str (ja_cons je_str (ja_cons je_str ja_nil)))) rfl) (jw_and1 (jc_cmp (or_neC k6) od_ne (je_b1 cr_len3 ud_len (by rfl) X.n_len (by decide +kernel) (JE.view (je_var (pv 1)))) je_int (nomark _))))) (jss_one (js_ret je_bl)) jss_nil)
      (jss_one (js_ret (je_cmp (or_eqC k6) od_eq (JO.je (jo_comp (own := [("_law_part", 2)]) rfl sc_Tis_formula.nd (ji_of (je_sl (je_var (pv 1)) (jp_so je_int) jp_no)) (blkOk_by (own := [("_law_part", 2)]) (N := n_Tis_formula) (sc := defScope s_Tis_formula) (by decide +kernel)) (by decide) (fun _ _ _ _ _ => (jg_name (i := 2) sc_Tis_formula.nd rfl (by first | exact .inl rfl | exact .inr rfl))) (fun _ _ _ _ _ => (jts_one (jc_not (jc_tru (JE.view (je_call (ok_Tis_formula X Z n) hg hr (by omega) (by rfl) X.g_Tis_formula X.f_Tis_formula.kp X.b_Tis_formula (ja_cons (je_var (pv 0)) (ja_cons (je_var (pv 2)) ja_nil)))))))) (fun _ _ _ _ _ => je_int))) (je_lst ja_nil) (nomark _))))))))
theorem ok_Tformula_error [NTb] (X : Fx K mg) (Z : Exs NTb.E NTb.G X) : FnG P w K mg base 71 X.a_Tformula_error X.d_Tformula_error p_Tformula_error (spF K m_Tformula_error) :=
  ok_def (k := 70) X.f_Tformula_error sc_Tformula_error fun cdv A outer s H hg hr => by
    have k1 := room1 hr
    have k6 := room6 hr
    exact (jss_cons (js_if (jc_not (jc_tru (JE.view (je_call (ok_Tis_formula X Z 70) hg hr (by decide) (by rfl) X.g_Tis_formula X.f_Tis_formula.kp X.b_Tis_formula (ja_cons (je_var (pv 0)) (ja_cons (je_var (pv 1)) ja_nil)))))) (jss_one (js_ret je_str)) jss_nil)
      (jss_one (js_ret (je_ifexp (jc_cmp op_gt od_ii (je_call (ok_Tsigns X Z 70) hg hr (by decide) (by rfl) X.g_Tsigns X.f_Tsigns.kp X.b_Tsigns (ja_cons (je_var (pv 1)) ja_nil)) je_int (nomark _)) je_str je_non))))
theorem ok_Tis_sentence [NTb] (X : Fx K mg) (Z : Exs NTb.E NTb.G X) : ∀ n, FnG P w K mg base (0 + n) X.a_Tis_sentence X.d_Tis_sentence p_Tis_sentence (spF K (m_Tis_sentence n))
  | 0 => ok_never fun _ _ => rfl
  | n + 1 => ok_def (k := 0 + n) X.f_Tis_sentence sc_Tis_sentence fun cdv A outer s H hg hr => by
    have k1 := room1 hr
    have k6 := room6 hr
    exact (jss_cons (js_if (jc_tru (JE.view (je_isi (by rfl) X.n_isinstance (by rfl) X.n_str (by decide +kernel) (je_var (pv 0)) (by decide +kernel)))) (jss_one (js_ret (je_cmp (or_inC k6) od_in (je_var (pv 0)) (je_lst (ja_cons je_str (ja_cons je_str ja_nil))) rfl))) jss_nil)
      (jss_one (js_ret (je_or (je_cmp (or_inC k6) od_in (je_ix (je_var (pv 0)) je_int (fun _ _ => rfl)) (je_lst (ja_cons je_str (ja_cons je_str ja_nil))) rfl) (je_one (je_cmp (or_eqC k6) od_eq (JO.je (jo_comp (own := [("_law_part", 1)]) rfl sc_Tis_sentence.nd (ji_of (je_sl (je_var (pv 0)) (jp_so je_int) jp_no)) (blkOk_by (own := [("_law_part", 1)]) (N := n_Tis_sentence) (sc := defScope s_Tis_sentence) (by decide +kernel)) (by decide) (fun _ _ _ _ _ => (jg_name (i := 1) sc_Tis_sentence.nd rfl (by first | exact .inl rfl | exact .inr rfl))) (fun _ _ _ _ _ => (jts_one (jc_not (jc_tru (JE.view (je_call (ok_Tis_sentence X Z n) hg hr (by omega) (by rfl) X.g_Tis_sentence X.f_Tis_sentence.kp X.b_Tis_sentence (ja_cons (je_var (pv 1)) ja_nil))))))) (fun _ _ _ _ _ => je_int))) (je_lst ja_nil) (nomark _)))))))
theorem ok_Tspoilt [NTb] (X : Fx K mg) (Z : Exs NTb.E NTb.G X) : ∀ n, FnG P w K mg base (2 + n) X.a_Tspoilt X.d_Tspoilt p_Tspoilt (spF K (m_Tspoilt n))
  | 0 => ok_never fun _ _ => rfl
  | n + 1 => ok_def (k := 2 + n) X.f_Tspoilt sc_Tspoilt fun cdv A outer s H hg hr => by
    have k1 := room1 hr
    have k6 := room6 hr
    exact (jss_cons (js_set (i := 2) sc_Tspoilt.nd rfl (by first | exact .inl rfl | exact .inr rfl) (je_lst (ja_cons je_non (ja_cons je_bl (ja_cons je_bl (ja_cons je_int (ja_cons je_int (ja_cons (je_un un_neg ud_neg je_int) (ja_cons je_str (ja_cons je_str (ja_cons je_str (ja_cons je_str (ja_cons je_str (ja_cons je_str (ja_cons je_str (ja_cons je_str (ja_cons (je_tup ja_nil) (ja_cons (je_lst ja_nil) (ja_cons (je_tup (ja_cons je_str ja_nil)) (ja_cons (je_tup (ja_cons je_str ja_nil)) (ja_cons je_dict0 ja_nil)))))))))))))))))))))
      (jss_cons (js_set (i := 2) sc_Tspoilt.nd rfl (by first | exact .inl rfl | exact .inr rfl) (je_op or_add od_add (je_var (pv 2)) (je_lst (ja_cons (je_tup (ja_cons je_str (ja_cons je_str (ja_cons je_str ja_nil)))) (ja_cons (je_lst (ja_cons je_str ja_nil)) (ja_cons (je_tup (ja_cons je_str ja_nil)) (ja_cons (je_op op_pow od_pow je_int je_int) (ja_cons (je_tup (ja_cons je_str (ja_cons je_str ja_nil))) (ja_cons (je_tup (ja_cons je_str (ja_cons je_str ja_nil))) (ja_cons je_str (ja_cons je_str ja_nil)))))))))))
      (jss_cons (js_if (jc_w (jw_or (jc_not (jc_tru (JE.view (je_isi (by rfl) X.n_isinstance (by rfl) X.n_tuple (by decide +kernel) (je_var (pv 1)) (by decide +kernel))))) (jw_or (jc_cmp (or_eqC k6) od_eq (je_var (pv 1)) (je_tup ja_nil) (nomark _)) (jw_or1 (jc_cmp (or_eqC k6) od_eq (je_call (ok_Tdraw X Z) hg hr (by omega) (by rfl) X.g_Tdraw X.f_Tdraw.kp X.b_Tdraw (ja_deck (pv 0) (ja_cons je_int ja_nil))) je_int (nomark _)))))) (jss_one (js_ret (je_call (ok_Tone X Z) hg hr (by omega) (by rfl) X.g_Tone X.f_Tone.kp X.b_Tone (ja_deck (pv 0) (ja_cons (je_op or_add od_add (je_var (pv 2)) (je_lst (ja_cons (je_lst (ja_cons (je_var (pv 1)) ja_nil)) (ja_cons (je_tup (ja_cons (je_var (pv 1)) ja_nil)) ja_nil)))) ja_nil))))) jss_nil)
      (jss_cons (js_par (i := 3) (j := 4) rfl sc_Tspoilt.nd rfl rfl (by decide) rfl rfl (je_call (ok_Tdraw X Z) hg hr (by omega) (by rfl) X.g_Tdraw X.f_Tdraw.kp X.b_Tdraw (ja_deck (pv 0) (ja_cons (je_b1 cr_len3 ud_len (by rfl) X.n_len (by decide +kernel) (JE.view (je_var (pv 1)))) ja_nil))) (je_call (ok_Tdraw X Z) hg hr (by omega) (by rfl) X.g_Tdraw X.f_Tdraw.kp X.b_Tdraw (ja_deck (pv 0) (ja_cons je_int ja_nil))) rfl rfl rfl rfl)
      (jss_cons (js_if (jc_cmp op_lt od_ii (je_var (pv 4)) je_int (nomark _)) (jss_one (js_ret (je_op or_add od_add (je_op or_add od_add (je_sl (je_var (pv 1)) jp_no (jp_so (je_var (pv 3)))) (je_tup (ja_cons (je_call (ok_Tspoilt X Z n) hg hr (by omega) (by rfl) X.g_Tspoilt X.f_Tspoilt.kp X.b_Tspoilt (ja_deck (pv 0) (ja_cons (je_ix (je_var (pv 1)) (je_var (pv 3)) (fun _ _ => rfl)) ja_nil))) ja_nil))) (je_sl (je_var (pv 1)) (jp_so (je_op or_add od_add (je_var (pv 3)) je_int)) jp_no)))) jss_nil)
      (jss_one (js_ret (je_call (ok_Tone X Z) hg hr (by omega) (by rfl) X.g_Tone X.f_Tone.kp X.b_Tone (ja_deck (pv 0) (ja_cons (je_lst (ja_cons (je_op or_add od_add (je_sl (je_var (pv 1)) jp_no (jp_so (je_var (pv 3)))) (je_sl (je_var (pv 1)) (jp_so (je_op or_add od_add (je_var (pv 3)) je_int)) jp_no)) (ja_cons (je_op or_add od_add (je_sl (je_var (pv 1)) jp_no (jp_so (je_op or_add od_add (je_var (pv 3)) je_int))) (je_sl (je_var (pv 1)) (jp_so (je_var (pv 3))) jp_no)) (ja_cons (je_rev (je_var (pv 1))) (ja_cons (JO.je (jo_list rfl (by rfl) X.n_list (JE.view (je_var (pv 1))))) ja_nil))))) ja_nil))))))))))
theorem ok_Tbook_error [NTb] (X : Fx K mg) (Z : Exs NTb.E NTb.G X) : FnG P w K mg base 72 X.a_Tbook_error X.d_Tbook_error p_Tbook_error (spF K m_Tbook_error) :=
  ok_def (k := 71) X.f_Tbook_error sc_Tbook_error fun cdv A outer s H hg hr => by
    have k1 := room1 hr
    have k6 := room6 hr
    exact (jss_cons (js_if (jc_w (jw_or (jc_not (jc_tru (JE.view (je_isi (by rfl) X.n_isinstance (by rfl) X.n_tuple (by decide +kernel) (je_var (pv 0)) (by decide +kernel))))) (jw_or1 (jc_cmp (or_neC k6) od_ne (je_b1 cr_len3 ud_len (by rfl) X.n_len (by decide +kernel) (JE.view (je_var (pv 0)))) je_int (nomark _))))) (jss_one (js_ret (je_tup (ja_cons je_non (ja_cons je_str ja_nil))))) jss_nil)
      (jss_cons (js_if (jc_not (jc_tru (JE.view (je_call (ok_Twhole X Z) hg hr (by decide) (by rfl) X.g_Twhole X.f_Twhole.kp X.b_Twhole (ja_cons (je_ix (je_var (pv 0)) je_int (fun _ _ => rfl)) (ja_cons je_int (ja_cons je_int ja_nil))))))) (jss_one (js_ret (je_tup (ja_cons je_non (ja_cons je_str ja_nil))))) jss_nil)
      (jss_cons (js_if (jc_not (jc_tru (JE.view (je_call (ok_Twhole X Z) hg hr (by decide) (by rfl) X.g_Twhole X.f_Twhole.kp X.b_Twhole (ja_cons (je_ix (je_var (pv 0)) je_int (fun _ _ => rfl)) (ja_cons je_int (ja_cons je_int ja_nil))))))) (jss_one (js_ret (je_tup (ja_cons je_non (ja_cons je_str ja_nil))))) jss_nil)
      (jss_cons (js_if (jc_cmp (or_eqC k6) od_eq (je_op or_add od_add (je_ix (je_var (pv 0)) je_int (fun _ _ => rfl)) (je_ix (je_var (pv 0)) je_int (fun _ _ => rfl))) je_int (nomark _)) (jss_one (js_ret (je_tup (ja_cons je_non (ja_cons je_str ja_nil))))) jss_nil)
      (jss_cons (js_if (jc_w (jw_or (jc_not (jc_tru (JE.view (je_isi (by rfl) X.n_isinstance (by rfl) X.n_tuple (by decide +kernel) (je_ix (je_var (pv 0)) je_int (fun _ _ => rfl)) (by decide +kernel))))) (jw_or1 (jc_cmp op_gt od_ii (je_b1 cr_len3 ud_len (by rfl) X.n_len (by decide +kernel) (JE.view (je_ix (je_var (pv 0)) je_int (fun _ _ => rfl)))) je_int (nomark _))))) (jss_one (js_ret (je_tup (ja_cons je_non (ja_cons je_str ja_nil))))) jss_nil)
      (jss_cons (js_set (i := 1) sc_Tbook_error.nd rfl (by first | exact .inl rfl | exact .inr rfl) (je_call (ok_Twords X Z) hg hr (by decide) (by rfl) X.g_Twords X.f_Twords.kp X.b_Twords (ja_cons (je_ix (je_var (pv 0)) je_int (fun _ _ => rfl)) (ja_cons (je_ix (je_var (pv 0)) je_int (fun _ _ => rfl)) ja_nil))))
      (jss_cons (js_for PassesOwn.never rfl (ji_range1 (by rfl) X.n_range (je_b1 cr_len3 ud_len (by rfl) X.n_len (by decide +kernel) (JE.view (je_ix (je_var (pv 0)) je_int (fun _ _ => rfl))))) (jg_name (i := 2) sc_Tbook_error.nd rfl (by first | exact .inl rfl | exact .inr rfl)) (jss_cons (js_set (i := 3) sc_Tbook_error.nd rfl (by first | exact .inl rfl | exact .inr rfl) (je_call (ok_Tformula_error X Z) hg hr (by decide) (by rfl) X.g_Tformula_error X.f_Tformula_error.kp X.b_Tformula_error (ja_cons (je_var (pv 1)) (ja_cons (je_ix (je_ix (je_var (pv 0)) je_int (fun _ _ => rfl)) (je_var (pv 2)) (fun _ _ => rfl)) ja_nil))))
      (jss_cons (js_if (jc_w (jw_and (jc_cmp or_is od_is (je_var (pv 3)) je_non (nomark _)) (jw_and1 (jc_not (jc_tru (JE.view (je_call (ok_Tis_sentence X Z 70) hg hr (by decide) (by rfl) X.g_Tis_sentence X.f_Tis_sentence.kp X.b_Tis_sentence (ja_cons (je_ix (je_ix (je_var (pv 0)) je_int (fun _ _ => rfl)) (je_var (pv 2)) (fun _ _ => rfl)) ja_nil)))))))) (jss_one (js_set (i := 3) sc_Tbook_error.nd rfl (by first | exact .inl rfl | exact .inr rfl) je_str)) jss_nil)
      (jss_one (js_if (jc_cmp or_isNot od_isNot (je_var (pv 3)) je_non (nomark _)) (jss_one (js_ret (je_tup (ja_cons (je_var (pv 2)) (ja_cons (je_var (pv 3)) ja_nil))))) jss_nil)))))
      (jss_one (js_ret je_non)))))))))
theorem ok_Tsmall [NTb] (X : Fx K mg) (Z : Exs NTb.E NTb.G X) : FnG P w K mg base 3 X.a_Tsmall X.d_Tsmall p_Tsmall (spF K m_Tsmall) :=
  ok_def (k := 2) X.f_Tsmall sc_Tsmall fun cdv A outer s H hg hr => by
    have k1 := room1 hr
    have k6 := room6 hr
    exact (jss_one (js_ret (je_call (ok_Tone X Z) hg hr (by decide) (by rfl) X.g_Tone X.f_Tone.kp X.b_Tone (ja_deck (pv 0) (ja_cons (je_lst (ja_cons (je_tup (ja_cons je_int (ja_cons je_int ja_nil))) (ja_cons (je_tup (ja_cons je_int (ja_cons je_int ja_nil))) (ja_cons (je_tup (ja_cons je_int (ja_cons je_int ja_nil))) (ja_cons (je_tup (ja_cons je_int (ja_cons je_int ja_nil))) (ja_cons (je_tup (ja_cons je_int (ja_cons je_int ja_nil))) (ja_cons (je_tup (ja_cons je_int (ja_cons je_int ja_nil))) (ja_cons (je_tup (ja_cons je_int (ja_cons je_int ja_nil))) (ja_cons (je_tup (ja_cons je_int (ja_cons je_int ja_nil))) ja_nil))))))))) ja_nil)))))
theorem ok_Tcome [NTb] (X : Fx K mg) (Z : Exs NTb.E NTb.G X) : FnG P w K mg base 2 X.a_Tcome X.d_Tcome p_Tcome (spF K m_Tcome) :=
  ok_def (k := 1) X.f_Tcome sc_Tcome fun cdv A outer s H hg hr => by
    have k1 := room1 hr
    have k6 := room6 hr
    exact (jss_cons (js_set (i := 2) sc_Tcome.nd rfl (by first | exact .inl rfl | exact .inr rfl) (je_ix (je_var (pv 0)) je_int (fun _ _ => rfl)))
      (jss_cons (js_if (jc_cmp (or_eqC k6) od_eq (je_ix (je_var (pv 1)) je_int (fun _ _ => rfl)) je_str (nomark _)) (jss_one (js_ret (je_lst (ja_cons je_str (ja_cons (je_op or_add od_add (je_sl (je_var (pv 0)) jp_no (jp_so je_int)) (je_tup (ja_cons (je_op or_add od_add (je_var (pv 2)) (je_tup (ja_cons (je_ix (je_var (pv 1)) je_int (fun _ _ => rfl)) ja_nil))) ja_nil))) ja_nil))))) jss_nil)
      (jss_cons (js_if (jc_not (jc_tru (JE.view (je_call (ok_Twhole X Z) hg hr (by decide) (by rfl) X.g_Twhole X.f_Twhole.kp X.b_Twhole (ja_cons (je_ix (je_var (pv 1)) je_int (fun _ _ => rfl)) (ja_cons je_int (ja_cons (je_op op_sub od_sub (je_b1 cr_len3 ud_len (by rfl) X.n_len (by decide +kernel) (JE.view (je_var (pv 2)))) je_int) ja_nil))))))) (jss_one (js_ret (je_lst (ja_cons je_str (ja_cons (je_ix (je_var (pv 1)) je_int (fun _ _ => rfl)) ja_nil))))) jss_nil)
      (jss_cons (js_set (i := 3) sc_Tcome.nd rfl (by first | exact .inl rfl | exact .inr rfl) (je_ifexp (jc_cmp (or_eqC k6) od_eq (je_ix (je_var (pv 1)) je_int (fun _ _ => rfl)) je_str (nomark _)) (je_tup (ja_cons (je_ix (je_var (pv 1)) je_int (fun _ _ => rfl)) ja_nil)) (je_tup ja_nil)))
      (jss_one (js_ret (je_lst (ja_cons je_str (ja_cons (je_op or_add od_add (je_sl (je_var (pv 0)) jp_no (jp_so je_int)) (je_tup (ja_cons (je_op or_add od_add (je_op or_add od_add (je_sl (je_var (pv 2)) jp_no (jp_so (je_ix (je_var (pv 1)) je_int (fun _ _ => rfl)))) (je_var (pv 3))) (je_sl (je_var (pv 2)) (jp_so (je_op or_add od_add (je_ix (je_var (pv 1)) je_int (fun _ _ => rfl)) je_int)) jp_no)) ja_nil))) ja_nil)))))))))
theorem ok_Tafter [NTb] (X : Fx K mg) (Z : Exs NTb.E NTb.G X) : FnG P w K mg base 73 X.a_Tafter X.d_Tafter p_Tafter (spF K m_Tafter) :=
  ok_def (k := 72) X.f_Tafter sc_Tafter fun cdv A outer s H hg hr => by
    have k1 := room1 hr
    have k6 := room6 hr
    exact (jss_cons (js_set (i := 2) sc_Tafter.nd rfl (by first | exact .inl rfl | exact .inr rfl) (je_call (ok_Tcome X Z) hg hr (by decide) (by rfl) X.g_Tcome X.f_Tcome.kp X.b_Tcome (ja_cons (je_var (pv 0)) (ja_cons (je_var (pv 1)) ja_nil))))
      (jss_cons (js_if (jc_cmp (or_neC k6) od_ne (je_ix (je_var (pv 2)) je_int (fun _ _ => rfl)) je_str (nomark _)) (jss_one (js_ret (je_var (pv 2)))) jss_nil)
      (jss_cons (js_set (i := 3) sc_Tafter.nd rfl (by first | exact .inl rfl | exact .inr rfl) (je_call (ok_Tbook_error X Z) hg hr (by decide) (by rfl) X.g_Tbook_error X.f_Tbook_error.kp X.b_Tbook_error (ja_cons (je_ix (je_var (pv 2)) je_int (fun _ _ => rfl)) ja_nil)))
      (jss_one (js_ret (je_ifexp (jc_cmp or_is od_is (je_var (pv 3)) je_non (nomark _)) (je_var (pv 2)) (je_lst (ja_cons je_str (ja_cons (je_var (pv 3)) ja_nil)))))))))
theorem ok_Tdeed [NTb] (X : Fx K mg) (Z : Exs NTb.E NTb.G X) : FnG P w K mg base 73 X.a_Tdeed X.d_Tdeed p_Tdeed (spF K m_Tdeed) :=
  ok_def (k := 72) X.f_Tdeed sc_Tdeed fun cdv A outer s H hg hr => by
    have k1 := room1 hr
    have k6 := room6 hr
    exact (jss_cons (js_asg (je_var (pv 1)) (jg_tup (n := 3) rfl (jgs_cons (jg_name (i := 2) sc_Tdeed.nd rfl (by first | exact .inl rfl | exact .inr rfl)) (jgs_cons (jg_name (i := 3) sc_Tdeed.nd rfl (by first | exact .inl rfl | exact .inr rfl)) (jgs_cons (jg_name (i := 4) sc_Tdeed.nd rfl (by first | exact .inl rfl | exact .inr rfl)) jgs_nil)))))
      (jss_cons (js_set (i := 5) sc_Tdeed.nd rfl (by first | exact .inl rfl | exact .inr rfl) (je_call (ok_Tdraw X Z) hg hr (by decide) (by rfl) X.g_Tdraw X.f_Tdraw.kp X.b_Tdraw (ja_deck (pv 0) (ja_cons (je_b2 (call_max2 rfl) (od_mx rfl) (by rfl) X.n_max (by decide +kernel) je_int (je_b1 cr_len3 ud_len (by rfl) X.n_len (by decide +kernel) (JE.view (je_var (pv 4))))) ja_nil))))
      (jss_cons (js_par (i := 6) (j := 7) rfl sc_Tdeed.nd rfl rfl (by decide) rfl rfl (je_call (ok_Tsentence X Z) hg hr (by decide) (by rfl) X.g_Tsentence X.f_Tsentence.kp X.b_Tsentence (ja_deck (pv 0) (ja_cons (je_var (pv 2)) (ja_cons (je_var (pv 3)) ja_nil)))) (je_call (ok_Tdraw X Z) hg hr (by decide) (by rfl) X.g_Tdraw X.f_Tdraw.kp X.b_Tdraw (ja_deck (pv 0) (ja_cons je_int ja_nil))) rfl rfl rfl rfl)
      (jss_cons (js_set (i := 8) sc_Tdeed.nd rfl (by first | exact .inl rfl | exact .inr rfl) (je_call (ok_Tone X Z) hg hr (by decide) (by rfl) X.g_Tone X.f_Tone.kp X.b_Tone (ja_deck (pv 0) (ja_cons (je_lst (ja_cons je_non (ja_cons (je_un un_neg ud_neg je_int) (ja_cons (je_b1 cr_len3 ud_len (by rfl) X.n_len (by decide +kernel) (JE.view (je_var (pv 4)))) (ja_cons je_bl (ja_cons je_bl (ja_cons je_str (ja_cons (je_tup (ja_cons je_int ja_nil)) (ja_cons (je_op op_pow od_pow je_int je_int) (ja_cons (je_lst ja_nil) (ja_cons je_int (ja_cons je_dict0 (ja_cons je_str (ja_cons (je_tup (ja_cons je_str (ja_cons je_str ja_nil))) ja_nil)))))))))))))) ja_nil))))
      (jss_cons (js_if (jc_w (jw_and (jc_cmp op_lt od_ii (je_var (pv 7)) je_int (nomark _)) (jw_and1 (jc_cmp op_lt od_ii (je_b1 cr_len3 ud_len (by rfl) X.n_len (by decide +kernel) (JE.view (je_var (pv 4)))) je_int (nomark _))))) (jss_one (js_ret (je_tup (ja_cons je_str (ja_cons (je_var (pv 6)) ja_nil))))) jss_nil)
      (jss_cons (js_if (jc_cmp op_lt od_ii (je_var (pv 7)) je_int (nomark _)) (jss_one (js_ret (je_tup (ja_cons je_str (ja_cons (je_var (pv 5)) ja_nil))))) jss_nil)
      (jss_cons (js_if (jc_cmp op_lt od_ii (je_var (pv 7)) je_int (nomark _)) (jss_one (js_ret (je_tup (ja_cons je_str (ja_cons (je_var (pv 5)) (ja_cons (je_var (pv 6)) ja_nil)))))) jss_nil)
      (jss_cons (js_set (i := 9) sc_Tdeed.nd rfl (by first | exact .inl rfl | exact .inr rfl) (je_lst (ja_cons (je_tup (ja_cons je_str (ja_cons (je_call (ok_Tspoilt X Z 70) hg hr (by decide) (by rfl) X.g_Tspoilt X.f_Tspoilt.kp X.b_Tspoilt (ja_deck (pv 0) (ja_cons (je_var (pv 6)) ja_nil))) ja_nil))) (ja_cons (je_tup (ja_cons je_str (ja_cons (je_var (pv 8)) ja_nil))) (ja_cons (je_tup (ja_cons je_str (ja_cons (je_var (pv 8)) (ja_cons (je_var (pv 6)) ja_nil)))) (ja_cons (je_tup (ja_cons je_str (ja_cons (je_var (pv 5)) (ja_cons (je_var (pv 8)) ja_nil)))) (ja_cons (je_tup (ja_cons je_str (ja_cons (je_var (pv 8)) ja_nil))) ja_nil)))))))
      (jss_cons (js_set (i := 9) sc_Tdeed.nd rfl (by first | exact .inl rfl | exact .inr rfl) (je_op or_add od_add (je_var (pv 9)) (je_lst (ja_cons (je_tup (ja_cons je_str (ja_cons (je_var (pv 8)) (ja_cons (je_var (pv 8)) ja_nil)))) (ja_cons (je_tup (ja_cons je_str (ja_cons (je_var (pv 8)) (ja_cons (je_call (ok_Tspoilt X Z 70) hg hr (by decide) (by rfl) X.g_Tspoilt X.f_Tspoilt.kp X.b_Tspoilt (ja_deck (pv 0) (ja_cons (je_var (pv 6)) ja_nil))) ja_nil)))) (ja_cons (je_tup (ja_cons je_str (ja_cons (je_b1 cr_len3 ud_len (by rfl) X.n_len (by decide +kernel) (JE.view (je_var (pv 4)))) (ja_cons je_str ja_nil)))) ja_nil))))))
      (jss_one (js_ret (je_call (ok_Tone X Z) hg hr (by decide) (by rfl) X.g_Tone X.f_Tone.kp X.b_Tone (ja_deck (pv 0) (ja_cons (je_op or_add od_add (je_var (pv 9)) (je_lst (ja_cons (je_tup (ja_cons je_str (ja_cons (je_op or_add od_add (je_tup (ja_cons je_str ja_nil)) (je_op or_mul od_mul (je_tup (ja_cons (je_tup (ja_cons je_str ja_nil)) ja_nil)) (je_call (ok_Tone X Z) hg hr (by decide) (by rfl) X.g_Tone X.f_Tone.kp X.b_Tone (ja_deck (pv 0) (ja_cons (je_lst (ja_cons je_int (ja_cons je_int ja_nil))) ja_nil))))) ja_nil))) ja_nil))) ja_nil))))))))))))))
theorem ok_Tdo [NTb] (X : Fx K mg) (Z : Exs NTb.E NTb.G X) : FnX P w K mg base 9 X.a_Tdo X.d_Tdo p_Tdo (spX K m_Tdo) :=
  ok_defX (k := 8) X.f_Tdo sc_Tdo fun cdv A outer s H E hg hr => by
    have k1 := room1 hr
    have k6 := room6 hr
    exact (jss_cons (js_if (jc_cmp (or_eqC k6) od_eq (je_ix (je_var (pv 1)) je_int (fun _ _ => rfl)) je_str (nomark _)) (jss_one (js_retX (jx_ameth (i := 0) Z.e_Shelf X.cl_Shelf X.M_Shelf_add (ok_Shelf_add X Z) hg hr (by decide) X.b_Shelf_add (pv 0) (ja_cons (je_ix (je_var (pv 1)) je_int (fun _ _ => rfl)) ja_nil)))) jss_nil)
      (jss_one (js_retX (jx_if (jc_cmp (or_eqC k6) od_eq (je_ix (je_var (pv 1)) je_int (fun _ _ => rfl)) je_str (nomark _)) (jx_ameth (i := 0) Z.e_Shelf X.cl_Shelf X.M_Shelf_drop (ok_Shelf_drop X Z) hg hr (by decide) X.b_Shelf_drop (pv 0) (ja_cons (je_ix (je_var (pv 1)) je_int (fun _ _ => rfl)) ja_nil)) (jx_ameth (i := 0) Z.e_Shelf X.cl_Shelf X.M_Shelf_turn (ok_Shelf_turn X Z) hg hr (by decide) X.b_Shelf_turn (pv 0) (ja_cons (je_ix (je_var (pv 1)) je_int (fun _ _ => rfl)) (ja_cons (je_ix (je_var (pv 1)) je_int (fun _ _ => rfl)) ja_nil)))))))
theorem ok_Ttold_of [NTb] (X : Fx K mg) (Z : Exs NTb.E NTb.G X) : FnG P w K mg base 10 X.a_Ttold_of X.d_Ttold_of p_Ttold_of (spF K m_Ttold_of) :=
  ok_def (k := 9) X.f_Ttold_of sc_Ttold_of fun cdv A outer s H hg hr => by
    have k1 := room1 hr
    have k6 := room6 hr
    exact (jss_cons (js_set (i := 2) sc_Ttold_of.nd rfl (by first | exact .inl rfl | exact .inr rfl) (je_lst (ja_cons je_str ja_nil)))
      (jss_cons (js_try2 (i := 3) (j := 2) rfl rfl sc_Ttold_of.nd rfl rfl rfl (by first | exact .inl rfl | exact .inr rfl) ⟨rfl, by decide, .inl X.gC_NoRule⟩ ⟨rfl, by decide, .inl X.gC_BadBook⟩ Z.e_NoRule Z.e_BadBook X.te_NoRule X.tx_BadBook_NoRule X.te_BadBook (by decide) (fun pn xe po => (jss_one (js_setX (i := 2) sc_Ttold_of.nd rfl (by first | exact .inl rfl | exact .inr rfl) (jx_lst2 je_str (jx_call (ok_Tdo X Z) hg hr (by decide) (by rfl) X.g_Tdo X.f_Tdo.kp X.b_Tdo (ja_am (i := 0) (pv 0) (ja_cons (je_var (pv 1)) ja_nil))))))) (fun a oe cls d pn hz hf => (ju_if (ju_is (m := [("BadBook", false), ("NoRule", true)]) Z.i_LookupError hz hf (by rfl) X.n_isinstance (pv 3) (pe_bltn (v := .ty "LookupError") (by rfl) X.n_LookupError PyProof.Rows.Boot.«LookupError» rfl) (fun _ q => q)) (ju_lst (jus_cons ju_str (jus_cons (ju_fieldC Z.f_index hz hf (pv 3)) jus_nil))) (ju_lst (jus_cons ju_str jus_nil)))) (fun a oe cls d pn hz hf => (ju_if (ju_is (m := [("BadBook", true), ("NoRule", false)]) Z.i_WordError hz hf (by rfl) X.n_isinstance (pv 3) (pe_glob (v := .ref X.C_WordError) (by rfl) X.gC_WordError rfl) (fun _ q => q)) (ju_lst (jus_cons ju_str (jus_cons (ju_fieldC Z.f_error hz hf (pv 3)) jus_nil))) (ju_lst (jus_cons ju_str jus_nil)))))
      (jss_one (js_ret (je_var (pv 2))))))
end
section
variable {P : Program} {w : World} {K : PySem.W.Frag} {mg : Str → Option Value} {base : Heap}
theorem ok_Tdeck [NTb] (X : Fx K mg) : FnG P w K mg base 1 X.a_Tdeck X.d_Tdeck p_Tdeck (spDk K) :=
  fnG_of (k := 0) X.f_Tdeck sc_Tdeck (fun vs H Q E h => by obtain ⟨_, _, _, e, _⟩ := h; rw [e]; rfl) fun cdv A outer s H vs Q hg hr h => by
    have k1 := room1 hr
    have k6 := room6 hr
    refine ⟨_, (pss_cons (js_setLc (i := 1) (own := [("_law_cell", 2)]) rfl sc_Tdeck.nd rfl rfl (sw_true rfl rfl rfl (by decide +kernel)) (ji_of (je_scr (i := 0) (n := 63) (pv 0)))
        (blkOk_by (own := [("_law_cell", 2)]) (N := n_Tdeck) (sc := defScope s_Tdeck) (by decide +kernel)) (by decide) (fun _ _ _ _ _ => (jg_name (i := 2) sc_Tdeck.nd rfl (.inl rfl))) (fun _ _ _ _ _ => jts_nil)
        (fun _ _ _ _ _ => (je_b1 call_abs ud_abs (by rfl) X.n_abs (by decide +kernel) (JE.view (je_var (pv 2))))))
      (pss_one (ps_ret (deck_lst
        (jo_comp (own := [("_law_cell", 2)]) rfl sc_Tdeck.nd (ji_of (je_var (pv 1))) (blkOk_by (own := [("_law_cell", 2)]) (N := n_Tdeck) (sc := defScope s_Tdeck) (by decide +kernel)) (by decide)
          (fun _ _ _ _ _ => (jg_name (i := 2) sc_Tdeck.nd rfl (.inl rfl))) (fun _ _ _ _ _ => (jts_one (jc_cmp op_ge od_ii (je_var (pv 2)) (je_op op_pow od_pow je_int je_int) (nomark _)))) (fun _ _ _ _ _ => (je_var (pv 2))))
        (jo_cat (je_var (pv 1)) (je_lst (ja_cons (je_op or_add od_add je_int (je_b1 cr_len3 ud_len (by rfl) X.n_len (by decide +kernel) (JE.view (je_var (pv 1))))) ja_nil))))))).nox, ?_⟩
    exact deck_reads (N := n_Tdeck) rfl h _ rfl
theorem ok_law [NTb] (X : Fx K mg) (Z : Exs NTb.E NTb.G X) (run : ∀ δ : DS, δ.cells ≠ [] → δ.obs = [] → ∃ δ', m_law (lawZ 13) δ = some (.rt (.bool true), δ')) : FnG P w K mg base 74 X.a_law X.d_law p_law (spLaw K) :=
  fnG_of (k := 73) X.f_law sc_law (fun vs H Q E h => by obtain ⟨_, _, _, e, _⟩ := h; rw [e]; rfl) fun cdv A outer s H vs Q hg hr h => by
    have k1 := room1 hr
    have k6 := room6 hr
    refine ⟨_, (pss_cons (ps_set (i := 1) sc_law.nd rfl (by first | exact .inl rfl | exact .inr rfl) (peG (ok_Tdeck X) hg (hr.mono (by decide)) (by rfl) X.g_Tdeck X.f_Tdeck.kp X.b_Tdeck (pa_cons (pv 0) pa_nil) (by decide) rfl rfl))
      ((jss_cons (js_for PassesOwn.never rfl (ji_range1 (by rfl) X.n_range je_int) (jg_name (i := 2) sc_law.nd rfl (by first | exact .inl rfl | exact .inr rfl)) (jss_cons (js_asg (je_call (ok_Tsmall X Z) hg hr (by decide) (by rfl) X.g_Tsmall X.f_Tsmall.kp X.b_Tsmall (ja_deck (pv 1) ja_nil)) (jg_tup (n := 2) rfl (jgs_cons (jg_name (i := 3) sc_law.nd rfl (by first | exact .inl rfl | exact .inr rfl)) (jgs_cons (jg_name (i := 4) sc_law.nd rfl (by first | exact .inl rfl | exact .inr rfl)) jgs_nil))))
      (jss_cons (js_par (i := 5) (j := 6) rfl sc_law.nd rfl rfl (by decide) rfl rfl (je_call (ok_Tbook X Z) hg hr (by decide) (by rfl) X.g_Tbook X.f_Tbook.kp X.b_Tbook (ja_deck (pv 1) (ja_cons (je_var (pv 3)) (ja_cons (je_var (pv 4)) ja_nil)))) je_int rfl rfl rfl rfl)
      (jss_new (i := 7) Z.e_Shelf X.Mk_Shelf (ok_Shelf_init X Z) hg hr (by decide) (by rfl) X.gC_Shelf X.b_Shelf_init sc_law.nd rfl (by first | exact .inl rfl | exact .inr rfl) (ja_cons (je_var (pv 5)) ja_nil)
      (jss_one (js_for PassesOwn.never rfl (ji_range1 (by rfl) X.n_range je_int) (jg_name (i := 8) sc_law.nd rfl (by first | exact .inl rfl | exact .inr rfl)) (jss_cons (js_set (i := 9) sc_law.nd rfl (by first | exact .inl rfl | exact .inr rfl) (je_call (ok_Tdeed X Z) hg hr (by decide) (by rfl) X.g_Tdeed X.f_Tdeed.kp X.b_Tdeed (ja_deck (pv 1) (ja_cons (je_var (pv 5)) ja_nil))))
      (jss_cons (js_par3 (i := 10) (j := 11) (l := 12) rfl sc_law.nd rfl rfl rfl (by decide) (by decide) (by decide) rfl rfl rfl (je_repr hg k1 (by rfl) X.n_repr (je_var (pv 9))) (je_call (ok_Tafter X Z) hg hr (by decide) (by rfl) X.g_Tafter X.f_Tafter.kp X.b_Tafter (ja_cons (je_var (pv 5)) (ja_cons (je_var (pv 9)) ja_nil))) (je_call (ok_Ttold_of X Z) hg hr (by decide) (by rfl) X.g_Ttold_of X.f_Ttold_of.kp X.b_Ttold_of (ja_am (i := 7) (pv 7) (ja_cons (je_var (pv 9)) ja_nil))) rfl)
      (jss_cons (js_if (jc_cmp (or_eqC k6) od_eq (je_ix (je_var (pv 11)) je_int (fun _ _ => rfl)) je_str (nomark _)) (jss_cons (js_par (i := 5) (j := 6) rfl sc_law.nd rfl rfl (by decide) rfl rfl (je_ix (je_var (pv 11)) je_int (fun _ _ => rfl)) (je_op or_add od_add (je_var (pv 6)) je_int) rfl rfl rfl rfl)
      (jss_one (js_set (i := 11) sc_law.nd rfl (by first | exact .inl rfl | exact .inr rfl) (je_lst (ja_cons je_str (ja_cons (je_var (pv 6)) ja_nil)))))) jss_nil)
      (jss_cons (js_if (jc_w (jw_or (jc_cmp (or_neC k6) od_ne (je_repr hg k1 (by rfl) X.n_repr (je_var (pv 12))) (je_repr hg k1 (by rfl) X.n_repr (je_var (pv 11))) (nomark _)) (jw_or1 (jc_cmp (or_neC k6) od_ne (je_repr hg k1 (by rfl) X.n_repr (je_var (pv 9))) (je_var (pv 10)) (nomark _))))) (jss_one (js_ret je_bl)) jss_nil)
      (jss_one (js_if (jc_cmp (or_neC k6) od_ne (je_repr hg k1 (by rfl) X.n_repr (je_lst (ja_cons (je_aprop (i := 7) Z.e_Shelf X.cl_Shelf X.P_Shelf_book (ok_Shelf_book X Z) hg hr (by decide) X.b_Shelf_book (pv 7)) (ja_cons (je_aprop (i := 7) Z.e_Shelf X.cl_Shelf X.P_Shelf_version (ok_Shelf_version X Z) hg hr (by decide) X.b_Shelf_version (pv 7)) (ja_cons (je_alen (i := 7) Z.e_Shelf X.L_Shelf___len__ X.I_Shelf___len__ (ok_Shelf___len__ X Z) hg hr (by decide) X.b_Shelf___len__ (by rfl) X.n_len (pv 7)) ja_nil))))) (je_repr hg k1 (by rfl) X.n_repr (je_lst (ja_cons (je_var (pv 5)) (ja_cons (je_var (pv 6)) (ja_cons (je_b1 cr_len3 ud_len (by rfl) X.n_len (by decide +kernel) (JE.view (je_ix (je_var (pv 5)) je_int (fun _ _ => rfl)))) ja_nil))))) (nomark _)) (jss_one (js_ret je_bl)) jss_nil))))))))))))
      (jss_new (i := 7) Z.e_Shelf X.Mk_Shelf (ok_Shelf_init X Z) hg hr (by decide) (by rfl) X.gC_Shelf X.b_Shelf_init sc_law.nd rfl (by first | exact .inl rfl | exact .inr rfl) (ja_cons (je_tup (ja_cons je_int (ja_cons je_int (ja_cons (je_op or_mul od_mul (je_tup (ja_cons je_str ja_nil)) je_int) ja_nil)))) ja_nil)
      (jss_one (js_ret (je_and (je_cmp (or_eqC k6) od_eq (je_call (ok_Ttold_of X Z) hg hr (by decide) (by rfl) X.g_Ttold_of X.f_Ttold_of.kp X.b_Ttold_of (ja_am (i := 7) (pv 7) (ja_cons (je_tup (ja_cons je_str (ja_cons je_str ja_nil))) ja_nil))) (je_lst (ja_cons je_str (ja_cons (je_tup (ja_cons je_non (ja_cons je_str ja_nil))) ja_nil))) (nomark _)) (je_one (je_cmp (or_eqC k6) od_eq (je_ofX (jx_ameth (i := 7) Z.e_Shelf X.cl_Shelf X.M_Shelf_drop (ok_Shelf_drop X Z) hg hr (by decide) X.b_Shelf_drop (pv 7) (ja_cons je_int ja_nil))) je_int (nomark _)))))))))).nox, ?_⟩
    exact law_reads (X := (cxOf CX0 P w K mg base n_law "law" (defScope s_law) X.a_law cdv A outer s H E0).nox) (N := n_law) (by decide) run h { nx := fun _ H' => Q .non H', rt := Q } rfl
theorem memn {α : Type} {P : α → Prop} : ∀ p ∈ ([] : List α), P p := fun _ m => nomatch m
theorem memc {α : Type} {P : α → Prop} {a : α} {l : List α} (h : P a) (t : ∀ p ∈ l, P p) : ∀ p ∈ a :: l, P p := fun p m => by
  rcases List.mem_cons.mp m with rfl | m
  · exact h
  · exact t p m
theorem all_mk {l : PySem.W.OpenLaw} {h : Heap} {w : World} {fa : Addr} (run : ∀ δ : DS, δ.cells ≠ [] → δ.obs = [] → ∃ δ', m_law (lawZ 13) δ = some (.rt (.bool true), δ')) (KX : K.In h) (G : h.Ns mainGlobals mg) (hfa : mg "law" = some (.ref fa))
    (z_LookupError : PySem.W.nsIn K mainGlobals "LookupError" = some none)
    (z_abs : PySem.W.nsIn K mainGlobals "abs" = some none)
    (z_bool : PySem.W.nsIn K mainGlobals "bool" = some none)
    (z_enumerate : PySem.W.nsIn K mainGlobals "enumerate" = some none)
    (z_int : PySem.W.nsIn K mainGlobals "int" = some none)
    (z_isinstance : PySem.W.nsIn K mainGlobals "isinstance" = some none)
    (z_len : PySem.W.nsIn K mainGlobals "len" = some none)
    (z_list : PySem.W.nsIn K mainGlobals "list" = some none)
    (z_max : PySem.W.nsIn K mainGlobals "max" = some none)
    (z_range : PySem.W.nsIn K mainGlobals "range" = some none)
    (z_repr : PySem.W.nsIn K mainGlobals "repr" = some none)
    (z_str : PySem.W.nsIn K mainGlobals "str" = some none)
    (z_sum : PySem.W.nsIn K mainGlobals "sum" = some none)
    (z_tuple : PySem.W.nsIn K mainGlobals "tuple" = some none)
    {tk_MAX_KINDS : Tok} (y_MAX_KINDS : PySem.W.nsIn K mainGlobals "MAX_KINDS" = some (some (.int 3 tk_MAX_KINDS)))
    {tk_MAX_LETTERS : Tok} (y_MAX_LETTERS : PySem.W.nsIn K mainGlobals "MAX_LETTERS" = some (some (.int 2 tk_MAX_LETTERS)))
    {tk_MAX_SIGNS : Tok} (y_MAX_SIGNS : PySem.W.nsIn K mainGlobals "MAX_SIGNS" = some (some (.int 40 tk_MAX_SIGNS)))
    {tk_MAX_RULES : Tok} (y_MAX_RULES : PySem.W.nsIn K mainGlobals "MAX_RULES" = some (some (.int 6 tk_MAX_RULES)))
    {ga_KINDS : Addr} {gn_KINDS : Nat} {gs_KINDS : Array (Option Value)} {tk0_KINDS tk1_KINDS tk2_KINDS : Tok} (y_KINDS : PySem.W.nsIn K mainGlobals "KINDS" = some (some (.ref ga_KINDS))) (t_KINDS : K.lookup ga_KINDS = some ⟨.type "tuple", none, .seq #[.str "A" tk0_KINDS, .str "B" tk1_KINDS, .str "C" tk2_KINDS] gn_KINDS, gs_KINDS⟩)
    {ga_LETTERS : Addr} {gn_LETTERS : Nat} {gs_LETTERS : Array (Option Value)} {tk0_LETTERS tk1_LETTERS : Tok} (y_LETTERS : PySem.W.nsIn K mainGlobals "LETTERS" = some (some (.ref ga_LETTERS))) (t_LETTERS : K.lookup ga_LETTERS = some ⟨.type "tuple", none, .seq #[.str "p" tk0_LETTERS, .str "q" tk1_LETTERS] gn_LETTERS, gs_LETTERS⟩)
    {C_Shelf : Addr} (yC_Shelf : PySem.W.nsIn K mainGlobals "Shelf" = some (some (.ref C_Shelf))) (xpg_Shelf : PySem.W.plainGet K C_Shelf Str.empty = true) (xhd_Shelf : PySem.W.hasDictIn K C_Shelf = true) (xpo_Shelf : PySem.W.plainOver K C_Shelf = true) (xst_Shelf : PySem.W.findIn K (.ref C_Shelf) "__setattr__" = some (some (.builtin "object.__setattr__"))) (xmk_Shelf : PySem.W.makesIn K C_Shelf = true) (xkp_Shelf : PySem.W.keepIn K (.ref C_Shelf) = true)
    (xno_Shelf__earlier : PySem.W.findIn K (.ref C_Shelf) "_earlier" = some none)
    (xno_Shelf__later : PySem.W.findIn K (.ref C_Shelf) "_later" = some none)
    (xno_Shelf__kinds : PySem.W.findIn K (.ref C_Shelf) "_kinds" = some none)
    (xno_Shelf__letters : PySem.W.findIn K (.ref C_Shelf) "_letters" = some none)
    (xno_Shelf__rules : PySem.W.findIn K (.ref C_Shelf) "_rules" = some none)
    {tc_Shelf_LIMIT : Tok} (xcn_Shelf_LIMIT : PySem.W.findIn K (.ref C_Shelf) "LIMIT" = some (some (.int 40 tc_Shelf_LIMIT))) (xcg_Shelf_LIMIT : PySem.W.specialIn K (.int 40 tc_Shelf_LIMIT) "__get__" = some none)
    {a_words_of : Addr} {od_words_of an_words_of : Option Addr} {sl_words_of : Array (Option Value)} {oc_words_of kV_words_of dc_words_of pm_words_of cd_words_of ct_words_of : Value}
    (y_words_of : PySem.W.nsIn K mainGlobals "words_of" = some (some (.ref a_words_of))) (l_words_of : K.lookup a_words_of = some ⟨oc_words_of, od_words_of, .func (PySem.W.fnOf "words_of" "words_of" (defArgs s_words_of) (defBody s_words_of) (defScope s_words_of) .none kV_words_of dc_words_of pm_words_of an_words_of cd_words_of ct_words_of), sl_words_of⟩) (c_words_of : PySem.W.codeIn K cd_words_of "words_of" = true) (k_words_of : PySem.W.keepIn K (.ref a_words_of) = true)
    {a_formula_error : Addr} {od_formula_error an_formula_error : Option Addr} {sl_formula_error : Array (Option Value)} {oc_formula_error kV_formula_error dc_formula_error pm_formula_error cd_formula_error ct_formula_error : Value}
    (y_formula_error : PySem.W.nsIn K mainGlobals "formula_error" = some (some (.ref a_formula_error))) (l_formula_error : K.lookup a_formula_error = some ⟨oc_formula_error, od_formula_error, .func (PySem.W.fnOf "formula_error" "formula_error" (defArgs s_formula_error) (defBody s_formula_error) (defScope s_formula_error) .none kV_formula_error dc_formula_error pm_formula_error an_formula_error cd_formula_error ct_formula_error), sl_formula_error⟩) (c_formula_error : PySem.W.codeIn K cd_formula_error "formula_error" = true) (k_formula_error : PySem.W.keepIn K (.ref a_formula_error) = true)
    {a_is_node : Addr} {od_is_node an_is_node : Option Addr} {sl_is_node : Array (Option Value)} {oc_is_node kV_is_node dc_is_node pm_is_node cd_is_node ct_is_node : Value}
    (y_is_node : PySem.W.nsIn K mainGlobals "is_node" = some (some (.ref a_is_node))) (l_is_node : K.lookup a_is_node = some ⟨oc_is_node, od_is_node, .func (PySem.W.fnOf "is_node" "is_node" (defArgs s_is_node) (defBody s_is_node) (defScope s_is_node) .none kV_is_node dc_is_node pm_is_node an_is_node cd_is_node ct_is_node), sl_is_node⟩) (c_is_node : PySem.W.codeIn K cd_is_node "is_node" = true) (k_is_node : PySem.W.keepIn K (.ref a_is_node) = true)
    {a_is_sentence : Addr} {od_is_sentence an_is_sentence : Option Addr} {sl_is_sentence : Array (Option Value)} {oc_is_sentence kV_is_sentence dc_is_sentence pm_is_sentence cd_is_sentence ct_is_sentence : Value}
    (y_is_sentence : PySem.W.nsIn K mainGlobals "is_sentence" = some (some (.ref a_is_sentence))) (l_is_sentence : K.lookup a_is_sentence = some ⟨oc_is_sentence, od_is_sentence, .func (PySem.W.fnOf "is_sentence" "is_sentence" (defArgs s_is_sentence) (defBody s_is_sentence) (defScope s_is_sentence) .none kV_is_sentence dc_is_sentence pm_is_sentence an_is_sentence cd_is_sentence ct_is_sentence), sl_is_sentence⟩) (c_is_sentence : PySem.W.codeIn K cd_is_sentence "is_sentence" = true) (k_is_sentence : PySem.W.keepIn K (.ref a_is_sentence) = true)
    {a_book_error : Addr} {od_book_error an_book_error : Option Addr} {sl_book_error : Array (Option Value)} {oc_book_error kV_book_error dc_book_error pm_book_error cd_book_error ct_book_error : Value}
    (y_book_error : PySem.W.nsIn K mainGlobals "book_error" = some (some (.ref a_book_error))) (l_book_error : K.lookup a_book_error = some ⟨oc_book_error, od_book_error, .func (PySem.W.fnOf "book_error" "book_error" (defArgs s_book_error) (defBody s_book_error) (defScope s_book_error) .none kV_book_error dc_book_error pm_book_error an_book_error cd_book_error ct_book_error), sl_book_error⟩) (c_book_error : PySem.W.codeIn K cd_book_error "book_error" = true) (k_book_error : PySem.W.keepIn K (.ref a_book_error) = true)
    {a_is_number_to : Addr} {od_is_number_to an_is_number_to : Option Addr} {sl_is_number_to : Array (Option Value)} {oc_is_number_to kV_is_number_to dc_is_number_to pm_is_number_to cd_is_number_to ct_is_number_to : Value}
    (y_is_number_to : PySem.W.nsIn K mainGlobals "is_number_to" = some (some (.ref a_is_number_to))) (l_is_number_to : K.lookup a_is_number_to = some ⟨oc_is_number_to, od_is_number_to, .func (PySem.W.fnOf "is_number_to" "is_number_to" (defArgs s_is_number_to) (defBody s_is_number_to) (defScope s_is_number_to) .none kV_is_number_to dc_is_number_to pm_is_number_to an_is_number_to cd_is_number_to ct_is_number_to), sl_is_number_to⟩) (c_is_number_to : PySem.W.codeIn K cd_is_number_to "is_number_to" = true) (k_is_number_to : PySem.W.keepIn K (.ref a_is_number_to) = true)
    {a_rule_error : Addr} {od_rule_error an_rule_error : Option Addr} {sl_rule_error : Array (Option Value)} {oc_rule_error kV_rule_error dc_rule_error pm_rule_error cd_rule_error ct_rule_error : Value}
    (y_rule_error : PySem.W.nsIn K mainGlobals "rule_error" = some (some (.ref a_rule_error))) (l_rule_error : K.lookup a_rule_error = some ⟨oc_rule_error, od_rule_error, .func (PySem.W.fnOf "rule_error" "rule_error" (defArgs s_rule_error) (defBody s_rule_error) (defScope s_rule_error) .none kV_rule_error dc_rule_error pm_rule_error an_rule_error cd_rule_error ct_rule_error), sl_rule_error⟩) (c_rule_error : PySem.W.codeIn K cd_rule_error "rule_error" = true) (k_rule_error : PySem.W.keepIn K (.ref a_rule_error) = true)
    {a_Shelf_init : Addr} {od_Shelf_init an_Shelf_init : Option Addr} {sl_Shelf_init : Array (Option Value)} {oc_Shelf_init kV_Shelf_init dc_Shelf_init pm_Shelf_init cd_Shelf_init ct_Shelf_init : Value}
    (y_Shelf_init : PySem.W.findIn K (.ref C_Shelf) "__init__" = some (some (.ref a_Shelf_init))) (l_Shelf_init : K.lookup a_Shelf_init = some ⟨oc_Shelf_init, od_Shelf_init, .func (PySem.W.fnOf "__init__" "Shelf.__init__" (defArgs s_Shelf_init) (defBody s_Shelf_init) (defScope s_Shelf_init) .none kV_Shelf_init dc_Shelf_init pm_Shelf_init an_Shelf_init cd_Shelf_init ct_Shelf_init), sl_Shelf_init⟩) (c_Shelf_init : PySem.W.codeIn K cd_Shelf_init "Shelf.__init__" = true) (k_Shelf_init : PySem.W.keepIn K (.ref a_Shelf_init) = true) (xf_Shelf_init : PySem.W.isFn K (.ref a_Shelf_init) = true)
    {pa_Shelf_book a_Shelf_book : Addr} {od_Shelf_book an_Shelf_book : Option Addr} {sl_Shelf_book : Array (Option Value)} {oc_Shelf_book kV_Shelf_book dc_Shelf_book pm_Shelf_book cd_Shelf_book ct_Shelf_book : Value} {rs_Shelf_book : List Value}
    (y_Shelf_book : PySem.W.findIn K (.ref C_Shelf) "book" = some (some (.ref pa_Shelf_book))) (xpq_Shelf_book : PySem.W.specialIn K (.ref pa_Shelf_book) "__get__" = some (some (.builtin "property.__get__"))) (xpt_Shelf_book : PySem.W.takesIn K (.ref pa_Shelf_book) = some true) (xpr_Shelf_book : PySem.W.recIn K pa_Shelf_book "property" = some (.ref a_Shelf_book :: rs_Shelf_book)) (l_Shelf_book : K.lookup a_Shelf_book = some ⟨oc_Shelf_book, od_Shelf_book, .func (PySem.W.fnOf "book" "Shelf.book" (defArgs s_Shelf_book) (defBody s_Shelf_book) (defScope s_Shelf_book) .none kV_Shelf_book dc_Shelf_book pm_Shelf_book an_Shelf_book cd_Shelf_book ct_Shelf_book), sl_Shelf_book⟩) (c_Shelf_book : PySem.W.codeIn K cd_Shelf_book "Shelf.book" = true) (k_Shelf_book : PySem.W.keepIn K (.ref a_Shelf_book) = true)
    {pa_Shelf_version a_Shelf_version : Addr} {od_Shelf_version an_Shelf_version : Option Addr} {sl_Shelf_version : Array (Option Value)} {oc_Shelf_version kV_Shelf_version dc_Shelf_version pm_Shelf_version cd_Shelf_version ct_Shelf_version : Value} {rs_Shelf_version : List Value}
    (y_Shelf_version : PySem.W.findIn K (.ref C_Shelf) "version" = some (some (.ref pa_Shelf_version))) (xpq_Shelf_version : PySem.W.specialIn K (.ref pa_Shelf_version) "__get__" = some (some (.builtin "property.__get__"))) (xpt_Shelf_version : PySem.W.takesIn K (.ref pa_Shelf_version) = some true) (xpr_Shelf_version : PySem.W.recIn K pa_Shelf_version "property" = some (.ref a_Shelf_version :: rs_Shelf_version)) (l_Shelf_version : K.lookup a_Shelf_version = some ⟨oc_Shelf_version, od_Shelf_version, .func (PySem.W.fnOf "version" "Shelf.version" (defArgs s_Shelf_version) (defBody s_Shelf_version) (defScope s_Shelf_version) .none kV_Shelf_version dc_Shelf_version pm_Shelf_version an_Shelf_version cd_Shelf_version ct_Shelf_version), sl_Shelf_version⟩) (c_Shelf_version : PySem.W.codeIn K cd_Shelf_version "Shelf.version" = true) (k_Shelf_version : PySem.W.keepIn K (.ref a_Shelf_version) = true)
    {a_Shelf_add : Addr} {od_Shelf_add an_Shelf_add : Option Addr} {sl_Shelf_add : Array (Option Value)} {oc_Shelf_add kV_Shelf_add dc_Shelf_add pm_Shelf_add cd_Shelf_add ct_Shelf_add : Value}
    (y_Shelf_add : PySem.W.findIn K (.ref C_Shelf) "add" = some (some (.ref a_Shelf_add))) (l_Shelf_add : K.lookup a_Shelf_add = some ⟨oc_Shelf_add, od_Shelf_add, .func (PySem.W.fnOf "add" "Shelf.add" (defArgs s_Shelf_add) (defBody s_Shelf_add) (defScope s_Shelf_add) .none kV_Shelf_add dc_Shelf_add pm_Shelf_add an_Shelf_add cd_Shelf_add ct_Shelf_add), sl_Shelf_add⟩) (c_Shelf_add : PySem.W.codeIn K cd_Shelf_add "Shelf.add" = true) (k_Shelf_add : PySem.W.keepIn K (.ref a_Shelf_add) = true) (xf_Shelf_add : PySem.W.isFn K (.ref a_Shelf_add) = true)
    {a_Shelf_drop : Addr} {od_Shelf_drop an_Shelf_drop : Option Addr} {sl_Shelf_drop : Array (Option Value)} {oc_Shelf_drop kV_Shelf_drop dc_Shelf_drop pm_Shelf_drop cd_Shelf_drop ct_Shelf_drop : Value}
    (y_Shelf_drop : PySem.W.findIn K (.ref C_Shelf) "drop" = some (some (.ref a_Shelf_drop))) (l_Shelf_drop : K.lookup a_Shelf_drop = some ⟨oc_Shelf_drop, od_Shelf_drop, .func (PySem.W.fnOf "drop" "Shelf.drop" (defArgs s_Shelf_drop) (defBody s_Shelf_drop) (defScope s_Shelf_drop) .none kV_Shelf_drop dc_Shelf_drop pm_Shelf_drop an_Shelf_drop cd_Shelf_drop ct_Shelf_drop), sl_Shelf_drop⟩) (c_Shelf_drop : PySem.W.codeIn K cd_Shelf_drop "Shelf.drop" = true) (k_Shelf_drop : PySem.W.keepIn K (.ref a_Shelf_drop) = true) (xf_Shelf_drop : PySem.W.isFn K (.ref a_Shelf_drop) = true)
    {a_Shelf_turn : Addr} {od_Shelf_turn an_Shelf_turn : Option Addr} {sl_Shelf_turn : Array (Option Value)} {oc_Shelf_turn kV_Shelf_turn dc_Shelf_turn pm_Shelf_turn cd_Shelf_turn ct_Shelf_turn : Value}
    (y_Shelf_turn : PySem.W.findIn K (.ref C_Shelf) "turn" = some (some (.ref a_Shelf_turn))) (l_Shelf_turn : K.lookup a_Shelf_turn = some ⟨oc_Shelf_turn, od_Shelf_turn, .func (PySem.W.fnOf "turn" "Shelf.turn" (defArgs s_Shelf_turn) (defBody s_Shelf_turn) (defScope s_Shelf_turn) .none kV_Shelf_turn dc_Shelf_turn pm_Shelf_turn an_Shelf_turn cd_Shelf_turn ct_Shelf_turn), sl_Shelf_turn⟩) (c_Shelf_turn : PySem.W.codeIn K cd_Shelf_turn "Shelf.turn" = true) (k_Shelf_turn : PySem.W.keepIn K (.ref a_Shelf_turn) = true) (xf_Shelf_turn : PySem.W.isFn K (.ref a_Shelf_turn) = true)
    {a_Shelf___len__ : Addr} {od_Shelf___len__ an_Shelf___len__ : Option Addr} {sl_Shelf___len__ : Array (Option Value)} {oc_Shelf___len__ kV_Shelf___len__ dc_Shelf___len__ pm_Shelf___len__ cd_Shelf___len__ ct_Shelf___len__ : Value}
    (y_Shelf___len__ : PySem.W.findIn K (.ref C_Shelf) "__len__" = some (some (.ref a_Shelf___len__))) (l_Shelf___len__ : K.lookup a_Shelf___len__ = some ⟨oc_Shelf___len__, od_Shelf___len__, .func (PySem.W.fnOf "__len__" "Shelf.__len__" (defArgs s_Shelf___len__) (defBody s_Shelf___len__) (defScope s_Shelf___len__) .none kV_Shelf___len__ dc_Shelf___len__ pm_Shelf___len__ an_Shelf___len__ cd_Shelf___len__ ct_Shelf___len__), sl_Shelf___len__⟩) (c_Shelf___len__ : PySem.W.codeIn K cd_Shelf___len__ "Shelf.__len__" = true) (k_Shelf___len__ : PySem.W.keepIn K (.ref a_Shelf___len__) = true) (xf_Shelf___len__ : PySem.W.isFn K (.ref a_Shelf___len__) = true)
    {a_Shelf__check_room : Addr} {od_Shelf__check_room an_Shelf__check_room : Option Addr} {sl_Shelf__check_room : Array (Option Value)} {oc_Shelf__check_room kV_Shelf__check_room dc_Shelf__check_room pm_Shelf__check_room cd_Shelf__check_room ct_Shelf__check_room : Value}
    (y_Shelf__check_room : PySem.W.findIn K (.ref C_Shelf) "_check_room" = some (some (.ref a_Shelf__check_room))) (l_Shelf__check_room : K.lookup a_Shelf__check_room = some ⟨oc_Shelf__check_room, od_Shelf__check_room, .func (PySem.W.fnOf "_check_room" "Shelf._check_room" (defArgs s_Shelf__check_room) (defBody s_Shelf__check_room) (defScope s_Shelf__check_room) .none kV_Shelf__check_room dc_Shelf__check_room pm_Shelf__check_room an_Shelf__check_room cd_Shelf__check_room ct_Shelf__check_room), sl_Shelf__check_room⟩) (c_Shelf__check_room : PySem.W.codeIn K cd_Shelf__check_room "Shelf._check_room" = true) (k_Shelf__check_room : PySem.W.keepIn K (.ref a_Shelf__check_room) = true) (xf_Shelf__check_room : PySem.W.isFn K (.ref a_Shelf__check_room) = true)
    {a_Shelf__check_index : Addr} {od_Shelf__check_index an_Shelf__check_index : Option Addr} {sl_Shelf__check_index : Array (Option Value)} {oc_Shelf__check_index kV_Shelf__check_index dc_Shelf__check_index pm_Shelf__check_index cd_Shelf__check_index ct_Shelf__check_index : Value}
    (y_Shelf__check_index : PySem.W.findIn K (.ref C_Shelf) "_check_index" = some (some (.ref a_Shelf__check_index))) (l_Shelf__check_index : K.lookup a_Shelf__check_index = some ⟨oc_Shelf__check_index, od_Shelf__check_index, .func (PySem.W.fnOf "_check_index" "Shelf._check_index" (defArgs s_Shelf__check_index) (defBody s_Shelf__check_index) (defScope s_Shelf__check_index) .none kV_Shelf__check_index dc_Shelf__check_index pm_Shelf__check_index an_Shelf__check_index cd_Shelf__check_index ct_Shelf__check_index), sl_Shelf__check_index⟩) (c_Shelf__check_index : PySem.W.codeIn K cd_Shelf__check_index "Shelf._check_index" = true) (k_Shelf__check_index : PySem.W.keepIn K (.ref a_Shelf__check_index) = true) (xf_Shelf__check_index : PySem.W.isFn K (.ref a_Shelf__check_index) = true)
    {a_Shelf__check_next : Addr} {od_Shelf__check_next an_Shelf__check_next : Option Addr} {sl_Shelf__check_next : Array (Option Value)} {oc_Shelf__check_next kV_Shelf__check_next dc_Shelf__check_next pm_Shelf__check_next cd_Shelf__check_next ct_Shelf__check_next : Value}
    (y_Shelf__check_next : PySem.W.findIn K (.ref C_Shelf) "_check_next" = some (some (.ref a_Shelf__check_next))) (l_Shelf__check_next : K.lookup a_Shelf__check_next = some ⟨oc_Shelf__check_next, od_Shelf__check_next, .func (PySem.W.fnOf "_check_next" "Shelf._check_next" (defArgs s_Shelf__check_next) (defBody s_Shelf__check_next) (defScope s_Shelf__check_next) .none kV_Shelf__check_next dc_Shelf__check_next pm_Shelf__check_next an_Shelf__check_next cd_Shelf__check_next ct_Shelf__check_next), sl_Shelf__check_next⟩) (c_Shelf__check_next : PySem.W.codeIn K cd_Shelf__check_next "Shelf._check_next" = true) (k_Shelf__check_next : PySem.W.keepIn K (.ref a_Shelf__check_next) = true) (xf_Shelf__check_next : PySem.W.isFn K (.ref a_Shelf__check_next) = true)
    {a_Shelf__edit : Addr} {od_Shelf__edit an_Shelf__edit : Option Addr} {sl_Shelf__edit : Array (Option Value)} {oc_Shelf__edit kV_Shelf__edit dc_Shelf__edit pm_Shelf__edit cd_Shelf__edit ct_Shelf__edit : Value}
    (y_Shelf__edit : PySem.W.findIn K (.ref C_Shelf) "_edit" = some (some (.ref a_Shelf__edit))) (l_Shelf__edit : K.lookup a_Shelf__edit = some ⟨oc_Shelf__edit, od_Shelf__edit, .func (PySem.W.fnOf "_edit" "Shelf._edit" (defArgs s_Shelf__edit) (defBody s_Shelf__edit) (defScope s_Shelf__edit) .none kV_Shelf__edit dc_Shelf__edit pm_Shelf__edit an_Shelf__edit cd_Shelf__edit ct_Shelf__edit), sl_Shelf__edit⟩) (c_Shelf__edit : PySem.W.codeIn K cd_Shelf__edit "Shelf._edit" = true) (k_Shelf__edit : PySem.W.keepIn K (.ref a_Shelf__edit) = true) (xf_Shelf__edit : PySem.W.isFn K (.ref a_Shelf__edit) = true)
    {a_check_book : Addr} {od_check_book an_check_book : Option Addr} {sl_check_book : Array (Option Value)} {oc_check_book kV_check_book dc_check_book pm_check_book cd_check_book ct_check_book : Value}
    (y_check_book : PySem.W.nsIn K mainGlobals "check_book" = some (some (.ref a_check_book))) (l_check_book : K.lookup a_check_book = some ⟨oc_check_book, od_check_book, .func (PySem.W.fnOf "check_book" "check_book" (defArgs s_check_book) (defBody s_check_book) (defScope s_check_book) .none kV_check_book dc_check_book pm_check_book an_check_book cd_check_book ct_check_book), sl_check_book⟩) (c_check_book : PySem.W.codeIn K cd_check_book "check_book" = true) (k_check_book : PySem.W.keepIn K (.ref a_check_book) = true)
    {a_Tdeck : Addr} {od_Tdeck an_Tdeck : Option Addr} {sl_Tdeck : Array (Option Value)} {oc_Tdeck kV_Tdeck dc_Tdeck pm_Tdeck cd_Tdeck ct_Tdeck : Value}
    (y_Tdeck : PySem.W.nsIn K mainGlobals "_law_deck" = some (some (.ref a_Tdeck))) (l_Tdeck : K.lookup a_Tdeck = some ⟨oc_Tdeck, od_Tdeck, .func (PySem.W.fnOf "_law_deck" "_law_deck" (defArgs s_Tdeck) (defBody s_Tdeck) (defScope s_Tdeck) .none kV_Tdeck dc_Tdeck pm_Tdeck an_Tdeck cd_Tdeck ct_Tdeck), sl_Tdeck⟩) (c_Tdeck : PySem.W.codeIn K cd_Tdeck "_law_deck" = true) (k_Tdeck : PySem.W.keepIn K (.ref a_Tdeck) = true)
    {a_Tdraw : Addr} {od_Tdraw an_Tdraw : Option Addr} {sl_Tdraw : Array (Option Value)} {oc_Tdraw kV_Tdraw dc_Tdraw pm_Tdraw cd_Tdraw ct_Tdraw : Value}
    (y_Tdraw : PySem.W.nsIn K mainGlobals "_law_draw" = some (some (.ref a_Tdraw))) (l_Tdraw : K.lookup a_Tdraw = some ⟨oc_Tdraw, od_Tdraw, .func (PySem.W.fnOf "_law_draw" "_law_draw" (defArgs s_Tdraw) (defBody s_Tdraw) (defScope s_Tdraw) .none kV_Tdraw dc_Tdraw pm_Tdraw an_Tdraw cd_Tdraw ct_Tdraw), sl_Tdraw⟩) (c_Tdraw : PySem.W.codeIn K cd_Tdraw "_law_draw" = true) (k_Tdraw : PySem.W.keepIn K (.ref a_Tdraw) = true)
    {a_Tone : Addr} {od_Tone an_Tone : Option Addr} {sl_Tone : Array (Option Value)} {oc_Tone kV_Tone dc_Tone pm_Tone cd_Tone ct_Tone : Value}
    (y_Tone : PySem.W.nsIn K mainGlobals "_law_one" = some (some (.ref a_Tone))) (l_Tone : K.lookup a_Tone = some ⟨oc_Tone, od_Tone, .func (PySem.W.fnOf "_law_one" "_law_one" (defArgs s_Tone) (defBody s_Tone) (defScope s_Tone) .none kV_Tone dc_Tone pm_Tone an_Tone cd_Tone ct_Tone), sl_Tone⟩) (c_Tone : PySem.W.codeIn K cd_Tone "_law_one" = true) (k_Tone : PySem.W.keepIn K (.ref a_Tone) = true)
    {a_Twhole : Addr} {od_Twhole an_Twhole : Option Addr} {sl_Twhole : Array (Option Value)} {oc_Twhole kV_Twhole dc_Twhole pm_Twhole cd_Twhole ct_Twhole : Value}
    (y_Twhole : PySem.W.nsIn K mainGlobals "_law_whole" = some (some (.ref a_Twhole))) (l_Twhole : K.lookup a_Twhole = some ⟨oc_Twhole, od_Twhole, .func (PySem.W.fnOf "_law_whole" "_law_whole" (defArgs s_Twhole) (defBody s_Twhole) (defScope s_Twhole) .none kV_Twhole dc_Twhole pm_Twhole an_Twhole cd_Twhole ct_Twhole), sl_Twhole⟩) (c_Twhole : PySem.W.codeIn K cd_Twhole "_law_whole" = true) (k_Twhole : PySem.W.keepIn K (.ref a_Twhole) = true)
    {a_Tkinds : Addr} {od_Tkinds an_Tkinds : Option Addr} {sl_Tkinds : Array (Option Value)} {oc_Tkinds kV_Tkinds dc_Tkinds pm_Tkinds cd_Tkinds ct_Tkinds : Value}
    (y_Tkinds : PySem.W.nsIn K mainGlobals "_law_kinds" = some (some (.ref a_Tkinds))) (l_Tkinds : K.lookup a_Tkinds = some ⟨oc_Tkinds, od_Tkinds, .func (PySem.W.fnOf "_law_kinds" "_law_kinds" (defArgs s_Tkinds) (defBody s_Tkinds) (defScope s_Tkinds) .none kV_Tkinds dc_Tkinds pm_Tkinds an_Tkinds cd_Tkinds ct_Tkinds), sl_Tkinds⟩) (c_Tkinds : PySem.W.codeIn K cd_Tkinds "_law_kinds" = true) (k_Tkinds : PySem.W.keepIn K (.ref a_Tkinds) = true)
    {a_Tletters : Addr} {od_Tletters an_Tletters : Option Addr} {sl_Tletters : Array (Option Value)} {oc_Tletters kV_Tletters dc_Tletters pm_Tletters cd_Tletters ct_Tletters : Value}
    (y_Tletters : PySem.W.nsIn K mainGlobals "_law_letters" = some (some (.ref a_Tletters))) (l_Tletters : K.lookup a_Tletters = some ⟨oc_Tletters, od_Tletters, .func (PySem.W.fnOf "_law_letters" "_law_letters" (defArgs s_Tletters) (defBody s_Tletters) (defScope s_Tletters) .none kV_Tletters dc_Tletters pm_Tletters an_Tletters cd_Tletters ct_Tletters), sl_Tletters⟩) (c_Tletters : PySem.W.codeIn K cd_Tletters "_law_letters" = true) (k_Tletters : PySem.W.keepIn K (.ref a_Tletters) = true)
    {a_Twords : Addr} {od_Twords an_Twords : Option Addr} {sl_Twords : Array (Option Value)} {oc_Twords kV_Twords dc_Twords pm_Twords cd_Twords ct_Twords : Value}
    (y_Twords : PySem.W.nsIn K mainGlobals "_law_words" = some (some (.ref a_Twords))) (l_Twords : K.lookup a_Twords = some ⟨oc_Twords, od_Twords, .func (PySem.W.fnOf "_law_words" "_law_words" (defArgs s_Twords) (defBody s_Twords) (defScope s_Twords) .none kV_Twords dc_Twords pm_Twords an_Twords cd_Twords ct_Twords), sl_Twords⟩) (c_Twords : PySem.W.codeIn K cd_Twords "_law_words" = true) (k_Twords : PySem.W.keepIn K (.ref a_Twords) = true)
    {a_Tformula : Addr} {od_Tformula an_Tformula : Option Addr} {sl_Tformula : Array (Option Value)} {oc_Tformula kV_Tformula dc_Tformula pm_Tformula cd_Tformula ct_Tformula : Value}
    (y_Tformula : PySem.W.nsIn K mainGlobals "_law_formula" = some (some (.ref a_Tformula))) (l_Tformula : K.lookup a_Tformula = some ⟨oc_Tformula, od_Tformula, .func (PySem.W.fnOf "_law_formula" "_law_formula" (defArgs s_Tformula) (defBody s_Tformula) (defScope s_Tformula) .none kV_Tformula dc_Tformula pm_Tformula an_Tformula cd_Tformula ct_Tformula), sl_Tformula⟩) (c_Tformula : PySem.W.codeIn K cd_Tformula "_law_formula" = true) (k_Tformula : PySem.W.keepIn K (.ref a_Tformula) = true)
    {a_Tboth : Addr} {od_Tboth an_Tboth : Option Addr} {sl_Tboth : Array (Option Value)} {oc_Tboth kV_Tboth dc_Tboth pm_Tboth cd_Tboth ct_Tboth : Value}
    (y_Tboth : PySem.W.nsIn K mainGlobals "_law_both" = some (some (.ref a_Tboth))) (l_Tboth : K.lookup a_Tboth = some ⟨oc_Tboth, od_Tboth, .func (PySem.W.fnOf "_law_both" "_law_both" (defArgs s_Tboth) (defBody s_Tboth) (defScope s_Tboth) .none kV_Tboth dc_Tboth pm_Tboth an_Tboth cd_Tboth ct_Tboth), sl_Tboth⟩) (c_Tboth : PySem.W.codeIn K cd_Tboth "_law_both" = true) (k_Tboth : PySem.W.keepIn K (.ref a_Tboth) = true)
    {a_Tsentence : Addr} {od_Tsentence an_Tsentence : Option Addr} {sl_Tsentence : Array (Option Value)} {oc_Tsentence kV_Tsentence dc_Tsentence pm_Tsentence cd_Tsentence ct_Tsentence : Value}
    (y_Tsentence : PySem.W.nsIn K mainGlobals "_law_sentence" = some (some (.ref a_Tsentence))) (l_Tsentence : K.lookup a_Tsentence = some ⟨oc_Tsentence, od_Tsentence, .func (PySem.W.fnOf "_law_sentence" "_law_sentence" (defArgs s_Tsentence) (defBody s_Tsentence) (defScope s_Tsentence) .none kV_Tsentence dc_Tsentence pm_Tsentence an_Tsentence cd_Tsentence ct_Tsentence), sl_Tsentence⟩) (c_Tsentence : PySem.W.codeIn K cd_Tsentence "_law_sentence" = true) (k_Tsentence : PySem.W.keepIn K (.ref a_Tsentence) = true)
    {a_Tbook : Addr} {od_Tbook an_Tbook : Option Addr} {sl_Tbook : Array (Option Value)} {oc_Tbook kV_Tbook dc_Tbook pm_Tbook cd_Tbook ct_Tbook : Value}
    (y_Tbook : PySem.W.nsIn K mainGlobals "_law_book" = some (some (.ref a_Tbook))) (l_Tbook : K.lookup a_Tbook = some ⟨oc_Tbook, od_Tbook, .func (PySem.W.fnOf "_law_book" "_law_book" (defArgs s_Tbook) (defBody s_Tbook) (defScope s_Tbook) .none kV_Tbook dc_Tbook pm_Tbook an_Tbook cd_Tbook ct_Tbook), sl_Tbook⟩) (c_Tbook : PySem.W.codeIn K cd_Tbook "_law_book" = true) (k_Tbook : PySem.W.keepIn K (.ref a_Tbook) = true)
    {a_Tsigns : Addr} {od_Tsigns an_Tsigns : Option Addr} {sl_Tsigns : Array (Option Value)} {oc_Tsigns kV_Tsigns dc_Tsigns pm_Tsigns cd_Tsigns ct_Tsigns : Value}
    (y_Tsigns : PySem.W.nsIn K mainGlobals "_law_signs" = some (some (.ref a_Tsigns))) (l_Tsigns : K.lookup a_Tsigns = some ⟨oc_Tsigns, od_Tsigns, .func (PySem.W.fnOf "_law_signs" "_law_signs" (defArgs s_Tsigns) (defBody s_Tsigns) (defScope s_Tsigns) .none kV_Tsigns dc_Tsigns pm_Tsigns an_Tsigns cd_Tsigns ct_Tsigns), sl_Tsigns⟩) (c_Tsigns : PySem.W.codeIn K cd_Tsigns "_law_signs" = true) (k_Tsigns : PySem.W.keepIn K (.ref a_Tsigns) = true)
    {a_Tis_formula : Addr} {od_Tis_formula an_Tis_formula : Option Addr} {sl_Tis_formula : Array (Option Value)} {oc_Tis_formula kV_Tis_formula dc_Tis_formula pm_Tis_formula cd_Tis_formula ct_Tis_formula : Value}
    (y_Tis_formula : PySem.W.nsIn K mainGlobals "_law_is_formula" = some (some (.ref a_Tis_formula))) (l_Tis_formula : K.lookup a_Tis_formula = some ⟨oc_Tis_formula, od_Tis_formula, .func (PySem.W.fnOf "_law_is_formula" "_law_is_formula" (defArgs s_Tis_formula) (defBody s_Tis_formula) (defScope s_Tis_formula) .none kV_Tis_formula dc_Tis_formula pm_Tis_formula an_Tis_formula cd_Tis_formula ct_Tis_formula), sl_Tis_formula⟩) (c_Tis_formula : PySem.W.codeIn K cd_Tis_formula "_law_is_formula" = true) (k_Tis_formula : PySem.W.keepIn K (.ref a_Tis_formula) = true)
    {a_Tformula_error : Addr} {od_Tformula_error an_Tformula_error : Option Addr} {sl_Tformula_error : Array (Option Value)} {oc_Tformula_error kV_Tformula_error dc_Tformula_error pm_Tformula_error cd_Tformula_error ct_Tformula_error : Value}
    (y_Tformula_error : PySem.W.nsIn K mainGlobals "_law_formula_error" = some (some (.ref a_Tformula_error))) (l_Tformula_error : K.lookup a_Tformula_error = some ⟨oc_Tformula_error, od_Tformula_error, .func (PySem.W.fnOf "_law_formula_error" "_law_formula_error" (defArgs s_Tformula_error) (defBody s_Tformula_error) (defScope s_Tformula_error) .none kV_Tformula_error dc_Tformula_error pm_Tformula_error an_Tformula_error cd_Tformula_error ct_Tformula_error), sl_Tformula_error⟩) (c_Tformula_error : PySem.W.codeIn K cd_Tformula_error "_law_formula_error" = true) (k_Tformula_error : PySem.W.keepIn K (.ref a_Tformula_error) = true)
    {a_Tis_sentence : Addr} {od_Tis_sentence an_Tis_sentence : Option Addr} {sl_Tis_sentence : Array (Option Value)} {oc_Tis_sentence kV_Tis_sentence dc_Tis_sentence pm_Tis_sentence cd_Tis_sentence ct_Tis_sentence : Value}
    (y_Tis_sentence : PySem.W.nsIn K mainGlobals "_law_is_sentence" = some (some (.ref a_Tis_sentence))) (l_Tis_sentence : K.lookup a_Tis_sentence = some ⟨oc_Tis_sentence, od_Tis_sentence, .func (PySem.W.fnOf "_law_is_sentence" "_law_is_sentence" (defArgs s_Tis_sentence) (defBody s_Tis_sentence) (defScope s_Tis_sentence) .none kV_Tis_sentence dc_Tis_sentence pm_Tis_sentence an_Tis_sentence cd_Tis_sentence ct_Tis_sentence), sl_Tis_sentence⟩) (c_Tis_sentence : PySem.W.codeIn K cd_Tis_sentence "_law_is_sentence" = true) (k_Tis_sentence : PySem.W.keepIn K (.ref a_Tis_sentence) = true)
    {a_Tspoilt : Addr} {od_Tspoilt an_Tspoilt : Option Addr} {sl_Tspoilt : Array (Option Value)} {oc_Tspoilt kV_Tspoilt dc_Tspoilt pm_Tspoilt cd_Tspoilt ct_Tspoilt : Value}
    (y_Tspoilt : PySem.W.nsIn K mainGlobals "_law_spoilt" = some (some (.ref a_Tspoilt))) (l_Tspoilt : K.lookup a_Tspoilt = some ⟨oc_Tspoilt, od_Tspoilt, .func (PySem.W.fnOf "_law_spoilt" "_law_spoilt" (defArgs s_Tspoilt) (defBody s_Tspoilt) (defScope s_Tspoilt) .none kV_Tspoilt dc_Tspoilt pm_Tspoilt an_Tspoilt cd_Tspoilt ct_Tspoilt), sl_Tspoilt⟩) (c_Tspoilt : PySem.W.codeIn K cd_Tspoilt "_law_spoilt" = true) (k_Tspoilt : PySem.W.keepIn K (.ref a_Tspoilt) = true)
    {a_Tbook_error : Addr} {od_Tbook_error an_Tbook_error : Option Addr} {sl_Tbook_error : Array (Option Value)} {oc_Tbook_error kV_Tbook_error dc_Tbook_error pm_Tbook_error cd_Tbook_error ct_Tbook_error : Value}
    (y_Tbook_error : PySem.W.nsIn K mainGlobals "_law_book_error" = some (some (.ref a_Tbook_error))) (l_Tbook_error : K.lookup a_Tbook_error = some ⟨oc_Tbook_error, od_Tbook_error, .func (PySem.W.fnOf "_law_book_error" "_law_book_error" (defArgs s_Tbook_error) (defBody s_Tbook_error) (defScope s_Tbook_error) .none kV_Tbook_error dc_Tbook_error pm_Tbook_error an_Tbook_error cd_Tbook_error ct_Tbook_error), sl_Tbook_error⟩) (c_Tbook_error : PySem.W.codeIn K cd_Tbook_error "_law_book_error" = true) (k_Tbook_error : PySem.W.keepIn K (.ref a_Tbook_error) = true)
    {a_Tsmall : Addr} {od_Tsmall an_Tsmall : Option Addr} {sl_Tsmall : Array (Option Value)} {oc_Tsmall kV_Tsmall dc_Tsmall pm_Tsmall cd_Tsmall ct_Tsmall : Value}
    (y_Tsmall : PySem.W.nsIn K mainGlobals "_law_small" = some (some (.ref a_Tsmall))) (l_Tsmall : K.lookup a_Tsmall = some ⟨oc_Tsmall, od_Tsmall, .func (PySem.W.fnOf "_law_small" "_law_small" (defArgs s_Tsmall) (defBody s_Tsmall) (defScope s_Tsmall) .none kV_Tsmall dc_Tsmall pm_Tsmall an_Tsmall cd_Tsmall ct_Tsmall), sl_Tsmall⟩) (c_Tsmall : PySem.W.codeIn K cd_Tsmall "_law_small" = true) (k_Tsmall : PySem.W.keepIn K (.ref a_Tsmall) = true)
    {a_Tcome : Addr} {od_Tcome an_Tcome : Option Addr} {sl_Tcome : Array (Option Value)} {oc_Tcome kV_Tcome dc_Tcome pm_Tcome cd_Tcome ct_Tcome : Value}
    (y_Tcome : PySem.W.nsIn K mainGlobals "_law_come" = some (some (.ref a_Tcome))) (l_Tcome : K.lookup a_Tcome = some ⟨oc_Tcome, od_Tcome, .func (PySem.W.fnOf "_law_come" "_law_come" (defArgs s_Tcome) (defBody s_Tcome) (defScope s_Tcome) .none kV_Tcome dc_Tcome pm_Tcome an_Tcome cd_Tcome ct_Tcome), sl_Tcome⟩) (c_Tcome : PySem.W.codeIn K cd_Tcome "_law_come" = true) (k_Tcome : PySem.W.keepIn K (.ref a_Tcome) = true)
    {a_Tafter : Addr} {od_Tafter an_Tafter : Option Addr} {sl_Tafter : Array (Option Value)} {oc_Tafter kV_Tafter dc_Tafter pm_Tafter cd_Tafter ct_Tafter : Value}
    (y_Tafter : PySem.W.nsIn K mainGlobals "_law_after" = some (some (.ref a_Tafter))) (l_Tafter : K.lookup a_Tafter = some ⟨oc_Tafter, od_Tafter, .func (PySem.W.fnOf "_law_after" "_law_after" (defArgs s_Tafter) (defBody s_Tafter) (defScope s_Tafter) .none kV_Tafter dc_Tafter pm_Tafter an_Tafter cd_Tafter ct_Tafter), sl_Tafter⟩) (c_Tafter : PySem.W.codeIn K cd_Tafter "_law_after" = true) (k_Tafter : PySem.W.keepIn K (.ref a_Tafter) = true)
    {a_Tdeed : Addr} {od_Tdeed an_Tdeed : Option Addr} {sl_Tdeed : Array (Option Value)} {oc_Tdeed kV_Tdeed dc_Tdeed pm_Tdeed cd_Tdeed ct_Tdeed : Value}
    (y_Tdeed : PySem.W.nsIn K mainGlobals "_law_deed" = some (some (.ref a_Tdeed))) (l_Tdeed : K.lookup a_Tdeed = some ⟨oc_Tdeed, od_Tdeed, .func (PySem.W.fnOf "_law_deed" "_law_deed" (defArgs s_Tdeed) (defBody s_Tdeed) (defScope s_Tdeed) .none kV_Tdeed dc_Tdeed pm_Tdeed an_Tdeed cd_Tdeed ct_Tdeed), sl_Tdeed⟩) (c_Tdeed : PySem.W.codeIn K cd_Tdeed "_law_deed" = true) (k_Tdeed : PySem.W.keepIn K (.ref a_Tdeed) = true)
    {a_Tdo : Addr} {od_Tdo an_Tdo : Option Addr} {sl_Tdo : Array (Option Value)} {oc_Tdo kV_Tdo dc_Tdo pm_Tdo cd_Tdo ct_Tdo : Value}
    (y_Tdo : PySem.W.nsIn K mainGlobals "_law_do" = some (some (.ref a_Tdo))) (l_Tdo : K.lookup a_Tdo = some ⟨oc_Tdo, od_Tdo, .func (PySem.W.fnOf "_law_do" "_law_do" (defArgs s_Tdo) (defBody s_Tdo) (defScope s_Tdo) .none kV_Tdo dc_Tdo pm_Tdo an_Tdo cd_Tdo ct_Tdo), sl_Tdo⟩) (c_Tdo : PySem.W.codeIn K cd_Tdo "_law_do" = true) (k_Tdo : PySem.W.keepIn K (.ref a_Tdo) = true)
    {a_Ttold_of : Addr} {od_Ttold_of an_Ttold_of : Option Addr} {sl_Ttold_of : Array (Option Value)} {oc_Ttold_of kV_Ttold_of dc_Ttold_of pm_Ttold_of cd_Ttold_of ct_Ttold_of : Value}
    (y_Ttold_of : PySem.W.nsIn K mainGlobals "_law_told_of" = some (some (.ref a_Ttold_of))) (l_Ttold_of : K.lookup a_Ttold_of = some ⟨oc_Ttold_of, od_Ttold_of, .func (PySem.W.fnOf "_law_told_of" "_law_told_of" (defArgs s_Ttold_of) (defBody s_Ttold_of) (defScope s_Ttold_of) .none kV_Ttold_of dc_Ttold_of pm_Ttold_of an_Ttold_of cd_Ttold_of ct_Ttold_of), sl_Ttold_of⟩) (c_Ttold_of : PySem.W.codeIn K cd_Ttold_of "_law_told_of" = true) (k_Ttold_of : PySem.W.keepIn K (.ref a_Ttold_of) = true)
    {a_law : Addr} {od_law an_law : Option Addr} {sl_law : Array (Option Value)} {oc_law kV_law dc_law pm_law cd_law ct_law : Value}
    (y_law : PySem.W.nsIn K mainGlobals "law" = some (some (.ref a_law))) (l_law : K.lookup a_law = some ⟨oc_law, od_law, .func (PySem.W.fnOf "law" "law" (defArgs s_law) (defBody s_law) (defScope s_law) .none kV_law dc_law pm_law an_law cd_law ct_law), sl_law⟩) (c_law : PySem.W.codeIn K cd_law "law" = true) (k_law : PySem.W.keepIn K (.ref a_law) = true)
    {C_WordError : Addr} (yC_WordError : PySem.W.nsIn K mainGlobals "WordError" = some (some (.ref C_WordError)))
    {C_BadBook : Addr} (yC_BadBook : PySem.W.nsIn K mainGlobals "BadBook" = some (some (.ref C_BadBook)))
    {nm_BadBook q_BadBook : Str} {N_BadBook : Addr} {bs_BadBook : List Value} {sn_BadBook : List Str} {sub_BadBook : List Value} {ab_BadBook : Bool} {col_BadBook : Option Bool} {dd_BadBook : Option Addr} {m0_BadBook m1_BadBook m2_BadBook m3_BadBook m5_BadBook : Option Value} (xL_BadBook : K.lookup C_BadBook = some (excClassObj nm_BadBook q_BadBook C_BadBook N_BadBook bs_BadBook [.ref C_WordError, .type "ValueError", .type "Exception", .type "BaseException", .type "object"] true sn_BadBook sub_BadBook ab_BadBook col_BadBook dd_BadBook m0_BadBook m1_BadBook m2_BadBook m3_BadBook m5_BadBook "ValueError.__new__"))
    (xsa_BadBook : PySem.W.findIn K (.ref C_BadBook) "__setattr__" = some (some (.builtin "object.__setattr__"))) (xga_BadBook : PySem.W.findIn K (.ref C_BadBook) "__getattribute__" = some (some (.builtin "BaseException.__getattribute__"))) (xgg_BadBook : PySem.W.findIn K (.ref C_BadBook) "__getattr__" = some none)
    (xkC_BadBook : PySem.W.keepIn K (.ref C_BadBook) = true) (xeC_BadBook : PySem.W.subIn K (.ref C_BadBook) (.type "BaseException") = some true) (xtC_BadBook : PySem.W.typeIn K (.ref C_BadBook) = some (.type "type")) (xhC_BadBook : PySem.W.hasDictIn K C_BadBook = true) (xiC_BadBook : PySem.W.isClsIn K C_BadBook = true) (xsC_BadBook : PySem.W.subIn K (.ref C_BadBook) (.ref C_BadBook) = some true)
    (xcc_BadBook : PySem.W.findIn K (.ref C_BadBook) "__class__" = some (some (.builtin "object.__class__"))) (xmr_BadBook : PySem.W.mroIn K C_BadBook (.type "object") = some true)
    {fI_BadBook : Addr} {odI_BadBook anI_BadBook : Option Addr} {slI_BadBook : Array (Option Value)} {ocI_BadBook kVI_BadBook dcI_BadBook pmI_BadBook cdI_BadBook ctI_BadBook : Value} (xi_BadBook : PySem.W.findIn K (.ref C_BadBook) "__init__" = some (some (.ref fI_BadBook))) (xti_BadBook : PySem.W.typeIn K (.ref fI_BadBook) = some (.type "function"))
    (xl_BadBook : K.lookup fI_BadBook = some ⟨ocI_BadBook, odI_BadBook, .func (PySem.W.fnOf "__init__" "BadBook.__init__" (defArgs (clsS (topS 30) 0)) (defBody (clsS (topS 30) 0)) (defScope (clsS (topS 30) 0)) .none kVI_BadBook dcI_BadBook pmI_BadBook anI_BadBook cdI_BadBook ctI_BadBook), slI_BadBook⟩) (xc_BadBook : PySem.W.codeIn K cdI_BadBook "BadBook.__init__" = true) (xk_BadBook : PySem.W.keepIn K (.ref fI_BadBook) = true)
    (xn_BadBook_error : PySem.W.findIn K (.ref C_BadBook) "error" = some none)
    (xn_BadBook_index : PySem.W.findIn K (.ref C_BadBook) "index" = some none)
    (xw_BadBook_LookupError : PySem.W.subIn K (.ref C_BadBook) (.type "LookupError") = some false)
    (xw_BadBook_WordError : PySem.W.subIn K (.ref C_BadBook) (.ref C_WordError) = some true)
    {C_Full : Addr} (yC_Full : PySem.W.nsIn K mainGlobals "Full" = some (some (.ref C_Full)))
    {C_NoRule : Addr} (yC_NoRule : PySem.W.nsIn K mainGlobals "NoRule" = some (some (.ref C_NoRule)))
    {nm_NoRule q_NoRule : Str} {N_NoRule : Addr} {bs_NoRule : List Value} {sn_NoRule : List Str} {sub_NoRule : List Value} {ab_NoRule : Bool} {col_NoRule : Option Bool} {dd_NoRule : Option Addr} {m0_NoRule m1_NoRule m2_NoRule m3_NoRule m5_NoRule : Option Value} (xL_NoRule : K.lookup C_NoRule = some (excClassObj nm_NoRule q_NoRule C_NoRule N_NoRule bs_NoRule [.type "LookupError", .type "Exception", .type "BaseException", .type "object"] true sn_NoRule sub_NoRule ab_NoRule col_NoRule dd_NoRule m0_NoRule m1_NoRule m2_NoRule m3_NoRule m5_NoRule "LookupError.__new__"))
    (xsa_NoRule : PySem.W.findIn K (.ref C_NoRule) "__setattr__" = some (some (.builtin "object.__setattr__"))) (xga_NoRule : PySem.W.findIn K (.ref C_NoRule) "__getattribute__" = some (some (.builtin "BaseException.__getattribute__"))) (xgg_NoRule : PySem.W.findIn K (.ref C_NoRule) "__getattr__" = some none)
    (xkC_NoRule : PySem.W.keepIn K (.ref C_NoRule) = true) (xeC_NoRule : PySem.W.subIn K (.ref C_NoRule) (.type "BaseException") = some true) (xtC_NoRule : PySem.W.typeIn K (.ref C_NoRule) = some (.type "type")) (xhC_NoRule : PySem.W.hasDictIn K C_NoRule = true) (xiC_NoRule : PySem.W.isClsIn K C_NoRule = true) (xsC_NoRule : PySem.W.subIn K (.ref C_NoRule) (.ref C_NoRule) = some true)
    (xcc_NoRule : PySem.W.findIn K (.ref C_NoRule) "__class__" = some (some (.builtin "object.__class__"))) (xmr_NoRule : PySem.W.mroIn K C_NoRule (.type "object") = some true)
    {fI_NoRule : Addr} {odI_NoRule anI_NoRule : Option Addr} {slI_NoRule : Array (Option Value)} {ocI_NoRule kVI_NoRule dcI_NoRule pmI_NoRule cdI_NoRule ctI_NoRule : Value} (xi_NoRule : PySem.W.findIn K (.ref C_NoRule) "__init__" = some (some (.ref fI_NoRule))) (xti_NoRule : PySem.W.typeIn K (.ref fI_NoRule) = some (.type "function"))
    (xl_NoRule : K.lookup fI_NoRule = some ⟨ocI_NoRule, odI_NoRule, .func (PySem.W.fnOf "__init__" "NoRule.__init__" (defArgs (clsS (topS 34) 0)) (defBody (clsS (topS 34) 0)) (defScope (clsS (topS 34) 0)) .none kVI_NoRule dcI_NoRule pmI_NoRule anI_NoRule cdI_NoRule ctI_NoRule), slI_NoRule⟩) (xc_NoRule : PySem.W.codeIn K cdI_NoRule "NoRule.__init__" = true) (xk_NoRule : PySem.W.keepIn K (.ref fI_NoRule) = true)
    (xn_NoRule_error : PySem.W.findIn K (.ref C_NoRule) "error" = some none)
    (xn_NoRule_index : PySem.W.findIn K (.ref C_NoRule) "index" = some none)
    (xw_NoRule_LookupError : PySem.W.subIn K (.ref C_NoRule) (.type "LookupError") = some true)
    (xw_NoRule_WordError : PySem.W.subIn K (.ref C_NoRule) (.ref C_WordError) = some false)
    (xx_BadBook_NoRule : PySem.W.subIn K (.ref C_BadBook) (.ref C_NoRule) = some false)
    (xwi_WordError : PySem.W.isClsIn K C_WordError = true) (xwt_WordError : PySem.W.typeIn K (.ref C_WordError) = some (.type "type"))
    (xsp : PySem.W.specialIn K (.builtin "object.__class__") "__get__" = some (some (.builtin "getset_descriptor.__get__"))) (xtk : PySem.W.takesIn K (.builtin "object.__class__") = some true) :
    ∃ nt : NTb, @LawAtG nt l w K 74 "_law_script" mg fa h := by
  letI nt : NTb := ⟨[], fun _ _ _ => False, fun c => ([("BadBook", C_BadBook), ("NoRule", C_NoRule), ("Shelf", C_Shelf)] : List (Str × Addr)).lookup c, w, K⟩
  have e := hfa.symm.trans (PySem.W.mg_of KX G y_law)
  cases e
  have F_words_of := fun_mk (st := s_words_of) l_words_of c_words_of k_words_of
  have B_words_of := F_words_of.binds (ps := p_words_of) fun _ _ _ _ _ _ us hl => match us, hl with | [_, _], _ => rfl
  have F_formula_error := fun_mk (st := s_formula_error) l_formula_error c_formula_error k_formula_error
  have B_formula_error := F_formula_error.binds (ps := p_formula_error) fun _ _ _ _ _ _ us hl => match us, hl with | [_, _, _], _ => rfl
  have F_is_node := fun_mk (st := s_is_node) l_is_node c_is_node k_is_node
  have B_is_node := F_is_node.binds (ps := p_is_node) fun _ _ _ _ _ _ us hl => match us, hl with | [_], _ => rfl
  have F_is_sentence := fun_mk (st := s_is_sentence) l_is_sentence c_is_sentence k_is_sentence
  have B_is_sentence := F_is_sentence.binds (ps := p_is_sentence) fun _ _ _ _ _ _ us hl => match us, hl with | [_], _ => rfl
  have F_book_error := fun_mk (st := s_book_error) l_book_error c_book_error k_book_error
  have B_book_error := F_book_error.binds (ps := p_book_error) fun _ _ _ _ _ _ us hl => match us, hl with | [_], _ => rfl
  have F_is_number_to := fun_mk (st := s_is_number_to) l_is_number_to c_is_number_to k_is_number_to
  have B_is_number_to := F_is_number_to.binds (ps := p_is_number_to) fun _ _ _ _ _ _ us hl => match us, hl with | [_, _], _ => rfl
  have F_rule_error := fun_mk (st := s_rule_error) l_rule_error c_rule_error k_rule_error
  have B_rule_error := F_rule_error.binds (ps := p_rule_error) fun _ _ _ _ _ _ us hl => match us, hl with | [_, _, _], _ => rfl
  have F_Shelf_init := fun_mk (st := s_Shelf_init) l_Shelf_init c_Shelf_init k_Shelf_init
  have B_Shelf_init := F_Shelf_init.binds (ps := p_Shelf_init) fun _ _ _ _ _ _ us hl => match us, hl with | [_, _], _ => rfl
  have F_Shelf_book := fun_mk (st := s_Shelf_book) l_Shelf_book c_Shelf_book k_Shelf_book
  have B_Shelf_book := F_Shelf_book.binds (ps := p_Shelf_book) fun _ _ _ _ _ _ us hl => match us, hl with | [_], _ => rfl
  have F_Shelf_version := fun_mk (st := s_Shelf_version) l_Shelf_version c_Shelf_version k_Shelf_version
  have B_Shelf_version := F_Shelf_version.binds (ps := p_Shelf_version) fun _ _ _ _ _ _ us hl => match us, hl with | [_], _ => rfl
  have F_Shelf_add := fun_mk (st := s_Shelf_add) l_Shelf_add c_Shelf_add k_Shelf_add
  have B_Shelf_add := F_Shelf_add.binds (ps := p_Shelf_add) fun _ _ _ _ _ _ us hl => match us, hl with | [_, _], _ => rfl
  have F_Shelf_drop := fun_mk (st := s_Shelf_drop) l_Shelf_drop c_Shelf_drop k_Shelf_drop
  have B_Shelf_drop := F_Shelf_drop.binds (ps := p_Shelf_drop) fun _ _ _ _ _ _ us hl => match us, hl with | [_, _], _ => rfl
  have F_Shelf_turn := fun_mk (st := s_Shelf_turn) l_Shelf_turn c_Shelf_turn k_Shelf_turn
  have B_Shelf_turn := F_Shelf_turn.binds (ps := p_Shelf_turn) fun _ _ _ _ _ _ us hl => match us, hl with | [_, _, _], _ => rfl
  have F_Shelf___len__ := fun_mk (st := s_Shelf___len__) l_Shelf___len__ c_Shelf___len__ k_Shelf___len__
  have B_Shelf___len__ := F_Shelf___len__.binds (ps := p_Shelf___len__) fun _ _ _ _ _ _ us hl => match us, hl with | [_], _ => rfl
  have F_Shelf__check_room := fun_mk (st := s_Shelf__check_room) l_Shelf__check_room c_Shelf__check_room k_Shelf__check_room
  have B_Shelf__check_room := F_Shelf__check_room.binds (ps := p_Shelf__check_room) fun _ _ _ _ _ _ us hl => match us, hl with | [_], _ => rfl
  have F_Shelf__check_index := fun_mk (st := s_Shelf__check_index) l_Shelf__check_index c_Shelf__check_index k_Shelf__check_index
  have B_Shelf__check_index := F_Shelf__check_index.binds (ps := p_Shelf__check_index) fun _ _ _ _ _ _ us hl => match us, hl with | [_, _], _ => rfl
  have F_Shelf__check_next := fun_mk (st := s_Shelf__check_next) l_Shelf__check_next c_Shelf__check_next k_Shelf__check_next
  have B_Shelf__check_next := F_Shelf__check_next.binds (ps := p_Shelf__check_next) fun _ _ _ _ _ _ us hl => match us, hl with | [_, _], _ => rfl
  have F_Shelf__edit := fun_mk (st := s_Shelf__edit) l_Shelf__edit c_Shelf__edit k_Shelf__edit
  have B_Shelf__edit := F_Shelf__edit.binds (ps := p_Shelf__edit) fun _ _ _ _ _ _ us hl => match us, hl with | [_, _], _ => rfl
  have F_check_book := fun_mk (st := s_check_book) l_check_book c_check_book k_check_book
  have B_check_book := F_check_book.binds (ps := p_check_book) fun _ _ _ _ _ _ us hl => match us, hl with | [_], _ => rfl
  have F_Tdeck := fun_mk (st := s_Tdeck) l_Tdeck c_Tdeck k_Tdeck
  have B_Tdeck := F_Tdeck.binds (ps := p_Tdeck) fun _ _ _ _ _ _ us hl => match us, hl with | [_], _ => rfl
  have F_Tdraw := fun_mk (st := s_Tdraw) l_Tdraw c_Tdraw k_Tdraw
  have B_Tdraw := F_Tdraw.binds (ps := p_Tdraw) fun _ _ _ _ _ _ us hl => match us, hl with | [_, _], _ => rfl
  have F_Tone := fun_mk (st := s_Tone) l_Tone c_Tone k_Tone
  have B_Tone := F_Tone.binds (ps := p_Tone) fun _ _ _ _ _ _ us hl => match us, hl with | [_, _], _ => rfl
  have F_Twhole := fun_mk (st := s_Twhole) l_Twhole c_Twhole k_Twhole
  have B_Twhole := F_Twhole.binds (ps := p_Twhole) fun _ _ _ _ _ _ us hl => match us, hl with | [_, _, _], _ => rfl
  have F_Tkinds := fun_mk (st := s_Tkinds) l_Tkinds c_Tkinds k_Tkinds
  have B_Tkinds := F_Tkinds.binds (ps := p_Tkinds) fun _ _ _ _ _ _ us hl => match us, hl with | [_], _ => rfl
  have F_Tletters := fun_mk (st := s_Tletters) l_Tletters c_Tletters k_Tletters
  have B_Tletters := F_Tletters.binds (ps := p_Tletters) fun _ _ _ _ _ _ us hl => match us, hl with | [_], _ => rfl
  have F_Twords := fun_mk (st := s_Twords) l_Twords c_Twords k_Twords
  have B_Twords := F_Twords.binds (ps := p_Twords) fun _ _ _ _ _ _ us hl => match us, hl with | [_, _], _ => rfl
  have F_Tformula := fun_mk (st := s_Tformula) l_Tformula c_Tformula k_Tformula
  have B_Tformula := F_Tformula.binds (ps := p_Tformula) fun _ _ _ _ _ _ us hl => match us, hl with | [_, _, _, _, _], _ => rfl
  have F_Tboth := fun_mk (st := s_Tboth) l_Tboth c_Tboth k_Tboth
  have B_Tboth := F_Tboth.binds (ps := p_Tboth) fun _ _ _ _ _ _ us hl => match us, hl with | [_, _], _ => rfl
  have F_Tsentence := fun_mk (st := s_Tsentence) l_Tsentence c_Tsentence k_Tsentence
  have B_Tsentence := F_Tsentence.binds (ps := p_Tsentence) fun _ _ _ _ _ _ us hl => match us, hl with | [_, _, _], _ => rfl
  have F_Tbook := fun_mk (st := s_Tbook) l_Tbook c_Tbook k_Tbook
  have B_Tbook := F_Tbook.binds (ps := p_Tbook) fun _ _ _ _ _ _ us hl => match us, hl with | [_, _, _], _ => rfl
  have F_Tsigns := fun_mk (st := s_Tsigns) l_Tsigns c_Tsigns k_Tsigns
  have B_Tsigns := F_Tsigns.binds (ps := p_Tsigns) fun _ _ _ _ _ _ us hl => match us, hl with | [_], _ => rfl
  have F_Tis_formula := fun_mk (st := s_Tis_formula) l_Tis_formula c_Tis_formula k_Tis_formula
  have B_Tis_formula := F_Tis_formula.binds (ps := p_Tis_formula) fun _ _ _ _ _ _ us hl => match us, hl with | [_, _], _ => rfl
  have F_Tformula_error := fun_mk (st := s_Tformula_error) l_Tformula_error c_Tformula_error k_Tformula_error
  have B_Tformula_error := F_Tformula_error.binds (ps := p_Tformula_error) fun _ _ _ _ _ _ us hl => match us, hl with | [_, _], _ => rfl
  have F_Tis_sentence := fun_mk (st := s_Tis_sentence) l_Tis_sentence c_Tis_sentence k_Tis_sentence
  have B_Tis_sentence := F_Tis_sentence.binds (ps := p_Tis_sentence) fun _ _ _ _ _ _ us hl => match us, hl with | [_], _ => rfl
  have F_Tspoilt := fun_mk (st := s_Tspoilt) l_Tspoilt c_Tspoilt k_Tspoilt
  have B_Tspoilt := F_Tspoilt.binds (ps := p_Tspoilt) fun _ _ _ _ _ _ us hl => match us, hl with | [_, _], _ => rfl
  have F_Tbook_error := fun_mk (st := s_Tbook_error) l_Tbook_error c_Tbook_error k_Tbook_error
  have B_Tbook_error := F_Tbook_error.binds (ps := p_Tbook_error) fun _ _ _ _ _ _ us hl => match us, hl with | [_], _ => rfl
  have F_Tsmall := fun_mk (st := s_Tsmall) l_Tsmall c_Tsmall k_Tsmall
  have B_Tsmall := F_Tsmall.binds (ps := p_Tsmall) fun _ _ _ _ _ _ us hl => match us, hl with | [_], _ => rfl
  have F_Tcome := fun_mk (st := s_Tcome) l_Tcome c_Tcome k_Tcome
  have B_Tcome := F_Tcome.binds (ps := p_Tcome) fun _ _ _ _ _ _ us hl => match us, hl with | [_, _], _ => rfl
  have F_Tafter := fun_mk (st := s_Tafter) l_Tafter c_Tafter k_Tafter
  have B_Tafter := F_Tafter.binds (ps := p_Tafter) fun _ _ _ _ _ _ us hl => match us, hl with | [_, _], _ => rfl
  have F_Tdeed := fun_mk (st := s_Tdeed) l_Tdeed c_Tdeed k_Tdeed
  have B_Tdeed := F_Tdeed.binds (ps := p_Tdeed) fun _ _ _ _ _ _ us hl => match us, hl with | [_, _], _ => rfl
  have F_Tdo := fun_mk (st := s_Tdo) l_Tdo c_Tdo k_Tdo
  have B_Tdo := F_Tdo.binds (ps := p_Tdo) fun _ _ _ _ _ _ us hl => match us, hl with | [_, _], _ => rfl
  have F_Ttold_of := fun_mk (st := s_Ttold_of) l_Ttold_of c_Ttold_of k_Ttold_of
  have B_Ttold_of := F_Ttold_of.binds (ps := p_Ttold_of) fun _ _ _ _ _ _ us hl => match us, hl with | [_, _], _ => rfl
  have F_law := fun_mk (st := s_law) l_law c_law k_law
  have B_law := F_law.binds (ps := p_law) fun _ _ _ _ _ _ us hl => match us, hl with | [_], _ => rfl
  have FI_BadBook := fun_mk (st := (clsS (topS 30) 0)) xl_BadBook xc_BadBook xk_BadBook
  have BI_BadBook := FI_BadBook.binds (ps := [Str.ofString "self", "error"]) fun _ _ _ _ _ _ us hl => match us, hl with | [_, _], _ => rfl
  have FI_NoRule := fun_mk (st := (clsS (topS 34) 0)) xl_NoRule xc_NoRule xk_NoRule
  have BI_NoRule := FI_NoRule.binds (ps := [Str.ofString "self", "index"]) fun _ _ _ _ _ _ us hl => match us, hl with | [_, _], _ => rfl
  let X : Fx K mg := { n_LookupError := PySem.W.mg_none_of KX G z_LookupError, n_abs := PySem.W.mg_none_of KX G z_abs, n_bool := PySem.W.mg_none_of KX G z_bool, n_enumerate := PySem.W.mg_none_of KX G z_enumerate, n_int := PySem.W.mg_none_of KX G z_int, n_isinstance := PySem.W.mg_none_of KX G z_isinstance, n_len := PySem.W.mg_none_of KX G z_len, n_list := PySem.W.mg_none_of KX G z_list, n_max := PySem.W.mg_none_of KX G z_max, n_range := PySem.W.mg_none_of KX G z_range, n_repr := PySem.W.mg_none_of KX G z_repr, n_str := PySem.W.mg_none_of KX G z_str, n_sum := PySem.W.mg_none_of KX G z_sum, n_tuple := PySem.W.mg_none_of KX G z_tuple, v_MAX_KINDS := .int 3, u_MAX_KINDS := .int 3 tk_MAX_KINDS, g_MAX_KINDS := PySem.W.mg_of KX G y_MAX_KINDS, r_MAX_KINDS := ⟨_, rfl⟩, t_MAX_KINDS := fun _ => .int _, v_MAX_LETTERS := .int 2, u_MAX_LETTERS := .int 2 tk_MAX_LETTERS, g_MAX_LETTERS := PySem.W.mg_of KX G y_MAX_LETTERS, r_MAX_LETTERS := ⟨_, rfl⟩, t_MAX_LETTERS := fun _ => .int _, v_MAX_SIGNS := .int 40, u_MAX_SIGNS := .int 40 tk_MAX_SIGNS, g_MAX_SIGNS := PySem.W.mg_of KX G y_MAX_SIGNS, r_MAX_SIGNS := ⟨_, rfl⟩, t_MAX_SIGNS := fun _ => .int _, v_MAX_RULES := .int 6, u_MAX_RULES := .int 6 tk_MAX_RULES, g_MAX_RULES := PySem.W.mg_of KX G y_MAX_RULES, r_MAX_RULES := ⟨_, rfl⟩, t_MAX_RULES := fun _ => .int _, v_KINDS := .ref ga_KINDS, u_KINDS := .ref ga_KINDS, g_KINDS := PySem.W.mg_of KX G y_KINDS, r_KINDS := rfl, t_KINDS := fun _ => .tup (xs := [.str "A", .str "B", .str "C"]) (.inr ⟨_, _, _, t_KINDS, rfl, rfl, (show 3 ≤ sizeLine by decide), (.cons ⟨_, rfl⟩ (.cons ⟨_, rfl⟩ (.cons ⟨_, rfl⟩ (.nil))))⟩) (.cons (.str _) (.cons (.str _) (.cons (.str _) (.nil)))), v_LETTERS := .ref ga_LETTERS, u_LETTERS := .ref ga_LETTERS, g_LETTERS := PySem.W.mg_of KX G y_LETTERS, r_LETTERS := rfl, t_LETTERS := fun _ => .tup (xs := [.str "p", .str "q"]) (.inr ⟨_, _, _, t_LETTERS, rfl, rfl, (show 2 ≤ sizeLine by decide), (.cons ⟨_, rfl⟩ (.cons ⟨_, rfl⟩ (.nil)))⟩) (.cons (.str _) (.cons (.str _) (.nil))), C_Shelf := C_Shelf, gC_Shelf := PySem.W.mg_of KX G yC_Shelf, cl_Shelf := ⟨xpg_Shelf, xhd_Shelf, xpo_Shelf, xst_Shelf⟩, na_Shelf__earlier := xno_Shelf__earlier, na_Shelf__later := xno_Shelf__later, na_Shelf__kinds := xno_Shelf__kinds, na_Shelf__letters := xno_Shelf__letters, na_Shelf__rules := xno_Shelf__rules, uc_Shelf_LIMIT := .int 40 tc_Shelf_LIMIT, cn_Shelf_LIMIT := ⟨xcn_Shelf_LIMIT, ⟨_, rfl⟩, xcg_Shelf_LIMIT, by decide +kernel⟩, a_words_of := a_words_of, d_words_of := _, f_words_of := F_words_of, b_words_of := B_words_of, g_words_of := PySem.W.mg_of KX G y_words_of, a_formula_error := a_formula_error, d_formula_error := _, f_formula_error := F_formula_error, b_formula_error := B_formula_error, g_formula_error := PySem.W.mg_of KX G y_formula_error, a_is_node := a_is_node, d_is_node := _, f_is_node := F_is_node, b_is_node := B_is_node, g_is_node := PySem.W.mg_of KX G y_is_node, a_is_sentence := a_is_sentence, d_is_sentence := _, f_is_sentence := F_is_sentence, b_is_sentence := B_is_sentence, g_is_sentence := PySem.W.mg_of KX G y_is_sentence, a_book_error := a_book_error, d_book_error := _, f_book_error := F_book_error, b_book_error := B_book_error, g_book_error := PySem.W.mg_of KX G y_book_error, a_is_number_to := a_is_number_to, d_is_number_to := _, f_is_number_to := F_is_number_to, b_is_number_to := B_is_number_to, g_is_number_to := PySem.W.mg_of KX G y_is_number_to, a_rule_error := a_rule_error, d_rule_error := _, f_rule_error := F_rule_error, b_rule_error := B_rule_error, g_rule_error := PySem.W.mg_of KX G y_rule_error, a_Shelf_init := a_Shelf_init, d_Shelf_init := _, f_Shelf_init := F_Shelf_init, b_Shelf_init := B_Shelf_init, Mk_Shelf := ⟨xmk_Shelf, y_Shelf_init, xf_Shelf_init, xkp_Shelf⟩, a_Shelf_book := a_Shelf_book, d_Shelf_book := _, f_Shelf_book := F_Shelf_book, b_Shelf_book := B_Shelf_book, pa_Shelf_book := pa_Shelf_book, P_Shelf_book := ⟨y_Shelf_book, xpq_Shelf_book, xpt_Shelf_book, ⟨_, xpr_Shelf_book⟩⟩, a_Shelf_version := a_Shelf_version, d_Shelf_version := _, f_Shelf_version := F_Shelf_version, b_Shelf_version := B_Shelf_version, pa_Shelf_version := pa_Shelf_version, P_Shelf_version := ⟨y_Shelf_version, xpq_Shelf_version, xpt_Shelf_version, ⟨_, xpr_Shelf_version⟩⟩, a_Shelf_add := a_Shelf_add, d_Shelf_add := _, f_Shelf_add := F_Shelf_add, b_Shelf_add := B_Shelf_add, M_Shelf_add := ⟨y_Shelf_add, xf_Shelf_add, k_Shelf_add⟩, a_Shelf_drop := a_Shelf_drop, d_Shelf_drop := _, f_Shelf_drop := F_Shelf_drop, b_Shelf_drop := B_Shelf_drop, M_Shelf_drop := ⟨y_Shelf_drop, xf_Shelf_drop, k_Shelf_drop⟩, a_Shelf_turn := a_Shelf_turn, d_Shelf_turn := _, f_Shelf_turn := F_Shelf_turn, b_Shelf_turn := B_Shelf_turn, M_Shelf_turn := ⟨y_Shelf_turn, xf_Shelf_turn, k_Shelf_turn⟩, a_Shelf___len__ := a_Shelf___len__, d_Shelf___len__ := _, f_Shelf___len__ := F_Shelf___len__, b_Shelf___len__ := B_Shelf___len__, L_Shelf___len__ := y_Shelf___len__, I_Shelf___len__ := xf_Shelf___len__, a_Shelf__check_room := a_Shelf__check_room, d_Shelf__check_room := _, f_Shelf__check_room := F_Shelf__check_room, b_Shelf__check_room := B_Shelf__check_room, M_Shelf__check_room := ⟨y_Shelf__check_room, xf_Shelf__check_room, k_Shelf__check_room⟩, a_Shelf__check_index := a_Shelf__check_index, d_Shelf__check_index := _, f_Shelf__check_index := F_Shelf__check_index, b_Shelf__check_index := B_Shelf__check_index, M_Shelf__check_index := ⟨y_Shelf__check_index, xf_Shelf__check_index, k_Shelf__check_index⟩, a_Shelf__check_next := a_Shelf__check_next, d_Shelf__check_next := _, f_Shelf__check_next := F_Shelf__check_next, b_Shelf__check_next := B_Shelf__check_next, M_Shelf__check_next := ⟨y_Shelf__check_next, xf_Shelf__check_next, k_Shelf__check_next⟩, a_Shelf__edit := a_Shelf__edit, d_Shelf__edit := _, f_Shelf__edit := F_Shelf__edit, b_Shelf__edit := B_Shelf__edit, M_Shelf__edit := ⟨y_Shelf__edit, xf_Shelf__edit, k_Shelf__edit⟩, a_check_book := a_check_book, d_check_book := _, f_check_book := F_check_book, b_check_book := B_check_book, g_check_book := PySem.W.mg_of KX G y_check_book, a_Tdeck := a_Tdeck, d_Tdeck := _, f_Tdeck := F_Tdeck, b_Tdeck := B_Tdeck, g_Tdeck := PySem.W.mg_of KX G y_Tdeck, a_Tdraw := a_Tdraw, d_Tdraw := _, f_Tdraw := F_Tdraw, b_Tdraw := B_Tdraw, g_Tdraw := PySem.W.mg_of KX G y_Tdraw, a_Tone := a_Tone, d_Tone := _, f_Tone := F_Tone, b_Tone := B_Tone, g_Tone := PySem.W.mg_of KX G y_Tone, a_Twhole := a_Twhole, d_Twhole := _, f_Twhole := F_Twhole, b_Twhole := B_Twhole, g_Twhole := PySem.W.mg_of KX G y_Twhole, a_Tkinds := a_Tkinds, d_Tkinds := _, f_Tkinds := F_Tkinds, b_Tkinds := B_Tkinds, g_Tkinds := PySem.W.mg_of KX G y_Tkinds, a_Tletters := a_Tletters, d_Tletters := _, f_Tletters := F_Tletters, b_Tletters := B_Tletters, g_Tletters := PySem.W.mg_of KX G y_Tletters, a_Twords := a_Twords, d_Twords := _, f_Twords := F_Twords, b_Twords := B_Twords, g_Twords := PySem.W.mg_of KX G y_Twords, a_Tformula := a_Tformula, d_Tformula := _, f_Tformula := F_Tformula, b_Tformula := B_Tformula, g_Tformula := PySem.W.mg_of KX G y_Tformula, a_Tboth := a_Tboth, d_Tboth := _, f_Tboth := F_Tboth, b_Tboth := B_Tboth, g_Tboth := PySem.W.mg_of KX G y_Tboth, a_Tsentence := a_Tsentence, d_Tsentence := _, f_Tsentence := F_Tsentence, b_Tsentence := B_Tsentence, g_Tsentence := PySem.W.mg_of KX G y_Tsentence, a_Tbook := a_Tbook, d_Tbook := _, f_Tbook := F_Tbook, b_Tbook := B_Tbook, g_Tbook := PySem.W.mg_of KX G y_Tbook, a_Tsigns := a_Tsigns, d_Tsigns := _, f_Tsigns := F_Tsigns, b_Tsigns := B_Tsigns, g_Tsigns := PySem.W.mg_of KX G y_Tsigns, a_Tis_formula := a_Tis_formula, d_Tis_formula := _, f_Tis_formula := F_Tis_formula, b_Tis_formula := B_Tis_formula, g_Tis_formula := PySem.W.mg_of KX G y_Tis_formula, a_Tformula_error := a_Tformula_error, d_Tformula_error := _, f_Tformula_error := F_Tformula_error, b_Tformula_error := B_Tformula_error, g_Tformula_error := PySem.W.mg_of KX G y_Tformula_error, a_Tis_sentence := a_Tis_sentence, d_Tis_sentence := _, f_Tis_sentence := F_Tis_sentence, b_Tis_sentence := B_Tis_sentence, g_Tis_sentence := PySem.W.mg_of KX G y_Tis_sentence, a_Tspoilt := a_Tspoilt, d_Tspoilt := _, f_Tspoilt := F_Tspoilt, b_Tspoilt := B_Tspoilt, g_Tspoilt := PySem.W.mg_of KX G y_Tspoilt, a_Tbook_error := a_Tbook_error, d_Tbook_error := _, f_Tbook_error := F_Tbook_error, b_Tbook_error := B_Tbook_error, g_Tbook_error := PySem.W.mg_of KX G y_Tbook_error, a_Tsmall := a_Tsmall, d_Tsmall := _, f_Tsmall := F_Tsmall, b_Tsmall := B_Tsmall, g_Tsmall := PySem.W.mg_of KX G y_Tsmall, a_Tcome := a_Tcome, d_Tcome := _, f_Tcome := F_Tcome, b_Tcome := B_Tcome, g_Tcome := PySem.W.mg_of KX G y_Tcome, a_Tafter := a_Tafter, d_Tafter := _, f_Tafter := F_Tafter, b_Tafter := B_Tafter, g_Tafter := PySem.W.mg_of KX G y_Tafter, a_Tdeed := a_Tdeed, d_Tdeed := _, f_Tdeed := F_Tdeed, b_Tdeed := B_Tdeed, g_Tdeed := PySem.W.mg_of KX G y_Tdeed, a_Tdo := a_Tdo, d_Tdo := _, f_Tdo := F_Tdo, b_Tdo := B_Tdo, g_Tdo := PySem.W.mg_of KX G y_Tdo, a_Ttold_of := a_Ttold_of, d_Ttold_of := _, f_Ttold_of := F_Ttold_of, b_Ttold_of := B_Ttold_of, g_Ttold_of := PySem.W.mg_of KX G y_Ttold_of, a_law := fa, d_law := _, f_law := F_law, b_law := B_law, g_law := PySem.W.mg_of KX G y_law, C_WordError := C_WordError, gC_WordError := PySem.W.mg_of KX G yC_WordError, C_BadBook := C_BadBook, gC_BadBook := PySem.W.mg_of KX G yC_BadBook, fI_BadBook := fI_BadBook, fd_BadBook := _, T_BadBook := ⟨⟨_, _, _, _, _, _, _, _, _, _, _, _, _, _, _, xL_BadBook, by rfl⟩, xsa_BadBook, xeC_BadBook, xtC_BadBook, xkC_BadBook⟩, F_BadBook := FI_BadBook, bI_BadBook := BI_BadBook, iC_BadBook := xi_BadBook, tI_BadBook := xti_BadBook, no_BadBook := xn_BadBook_error, te_BadBook := exm_own xeC_BadBook xiC_BadBook xtC_BadBook xsC_BadBook, C_Full := C_Full, gC_Full := PySem.W.mg_of KX G yC_Full, C_NoRule := C_NoRule, gC_NoRule := PySem.W.mg_of KX G yC_NoRule, fI_NoRule := fI_NoRule, fd_NoRule := _, T_NoRule := ⟨⟨_, _, _, _, _, _, _, _, _, _, _, _, _, _, _, xL_NoRule, by rfl⟩, xsa_NoRule, xeC_NoRule, xtC_NoRule, xkC_NoRule⟩, F_NoRule := FI_NoRule, bI_NoRule := BI_NoRule, iC_NoRule := xi_NoRule, tI_NoRule := xti_NoRule, no_NoRule := xn_NoRule_index, te_NoRule := exm_own xeC_NoRule xiC_NoRule xtC_NoRule xsC_NoRule, tx_BadBook_NoRule := exm_of xeC_NoRule xiC_NoRule xtC_NoRule xx_BadBook_NoRule }
  exact ⟨nt, _, [], (fun _ q => nomatch q), (fun _ q => nomatch q), (fun _ q => nomatch q), (fun s v => .of_eq rfl), (fun _ q => nomatch q), fun base _ _ _ => ok_law X ⟨rfl, (show ([("BadBook", C_BadBook), ("NoRule", C_NoRule), ("Shelf", C_Shelf)] : List (Str × Addr)).lookup ("BadBook" : Str) = some C_BadBook by first | rfl | simp [List.lookup]), (show ([("BadBook", C_BadBook), ("NoRule", C_NoRule), ("Shelf", C_Shelf)] : List (Str × Addr)).lookup ("NoRule" : Str) = some C_NoRule by first | rfl | simp [List.lookup]), (show ([("BadBook", C_BadBook), ("NoRule", C_NoRule), ("Shelf", C_Shelf)] : List (Str × Addr)).lookup ("Shelf" : Str) = some C_Shelf by first | rfl | simp [List.lookup]), (fun c m C e => (lookup_all (R := fun c C => c ∈ (["BadBook", "NoRule"] : List Str) → XfC K C ∧ PySem.W.findIn K (.ref C) "error" = some none) (memc (fun _ => ⟨⟨xga_BadBook, xgg_BadBook, xeC_BadBook, xhC_BadBook⟩, xn_BadBook_error⟩) (memc (fun _ => ⟨⟨xga_NoRule, xgg_NoRule, xeC_NoRule, xhC_NoRule⟩, xn_NoRule_error⟩) (memc (fun m => absurd (show ("Shelf" : Str) ∈ (["BadBook", "NoRule"] : List Str) from m) (by decide +kernel)) memn)))) c C e m), (fun c m C e => (lookup_all (R := fun c C => c ∈ (["BadBook", "NoRule"] : List Str) → XfC K C ∧ PySem.W.findIn K (.ref C) "index" = some none) (memc (fun _ => ⟨⟨xga_BadBook, xgg_BadBook, xeC_BadBook, xhC_BadBook⟩, xn_BadBook_index⟩) (memc (fun _ => ⟨⟨xga_NoRule, xgg_NoRule, xeC_NoRule, xhC_NoRule⟩, xn_NoRule_index⟩) (memc (fun m => absurd (show ("Shelf" : Str) ∈ (["BadBook", "NoRule"] : List Str) from m) (by decide +kernel)) memn)))) c C e m), (fun c C b e1 e2 => (lookup_all (R := fun c C => ∀ b, ([("BadBook", false), ("NoRule", true)] : List (Str × Bool)).lookup c = some b → IsiC K C ∧ PySem.W.kitOne K (.ref C) (.type "LookupError") = some b) (memc (fun b hb => ⟨⟨(show (PySem.W.clsIn K C_BadBook).isSome = true from xiC_BadBook), xga_BadBook, xgg_BadBook, xeC_BadBook, xcc_BadBook, xsp, xtk, xmr_BadBook⟩, by have hb2 : b = false := (by first | (simp [List.lookup] at hb; first | exact hb | exact hb.symm) | (injection (show some false = some b from hb) with hb3; exact hb3.symm)); rw [hb2]; exact kit_blt (by decide) xw_BadBook_LookupError⟩) (memc (fun b hb => ⟨⟨(show (PySem.W.clsIn K C_NoRule).isSome = true from xiC_NoRule), xga_NoRule, xgg_NoRule, xeC_NoRule, xcc_NoRule, xsp, xtk, xmr_NoRule⟩, by have hb2 : b = true := (by first | (simp [List.lookup] at hb; first | exact hb | exact hb.symm) | (injection (show some true = some b from hb) with hb3; exact hb3.symm)); rw [hb2]; exact kit_blt (by decide) xw_NoRule_LookupError⟩) (memc (fun b hb => by have q : ([("BadBook", false), ("NoRule", true)] : List (Str × Bool)).lookup ("Shelf" : Str) = none := (by decide +kernel); exact nomatch (q.symm.trans hb)) memn)))) c C e1 b e2), (fun c C b e1 e2 => (lookup_all (R := fun c C => ∀ b, ([("BadBook", true), ("NoRule", false)] : List (Str × Bool)).lookup c = some b → IsiC K C ∧ PySem.W.kitOne K (.ref C) (.ref C_WordError) = some b) (memc (fun b hb => ⟨⟨(show (PySem.W.clsIn K C_BadBook).isSome = true from xiC_BadBook), xga_BadBook, xgg_BadBook, xeC_BadBook, xcc_BadBook, xsp, xtk, xmr_BadBook⟩, by have hb2 : b = true := (by first | (simp [List.lookup] at hb; first | exact hb | exact hb.symm) | (injection (show some true = some b from hb) with hb3; exact hb3.symm)); rw [hb2]; exact kit_own xwi_WordError xwt_WordError xw_BadBook_WordError xsC_BadBook⟩) (memc (fun b hb => ⟨⟨(show (PySem.W.clsIn K C_NoRule).isSome = true from xiC_NoRule), xga_NoRule, xgg_NoRule, xeC_NoRule, xcc_NoRule, xsp, xtk, xmr_NoRule⟩, by have hb2 : b = false := (by first | (simp [List.lookup] at hb; first | exact hb | exact hb.symm) | (injection (show some false = some b from hb) with hb3; exact hb3.symm)); rw [hb2]; exact kit_own xwi_WordError xwt_WordError xw_NoRule_WordError xsC_NoRule⟩) (memc (fun b hb => by have q : ([("BadBook", true), ("NoRule", false)] : List (Str × Bool)).lookup ("Shelf" : Str) = none := (by decide +kernel); exact nomatch (q.symm.trans hb)) memn)))) c C e1 b e2)⟩ run⟩
end
end VL.k61
set_option Elab.async false
set_option linter.all false
set_option maxRecDepth 100000
set_option maxHeartbeats 4000000
namespace VL.k61
open PySem PySem.Spec L2 VL VL.cm VL.cm3 VL.cm4 VL.cm5 VL.cm14 VL.cm15
open PyProof.Rows hiding St
section
variable {δ : DS} {k l : Nat} {rs es : List PyData} {w : PyData} {Q : PyData → DS → Prop} {q : Dd}
theorem W_told (h : q.Ok) (hb : Bk k l rs) (he : es.length < 40) (fe : flatDs es = true) (h0 : ∀ i, q.come rs = .inl i → Q (.list [.str "rule", i]) (st δ k l rs es w))
    (h1 : ∀ r2, q.come rs = .inr r2 → isNone (bkR (bkD k l r2)) = false → Q (.list [.str "book", bkR (bkD k l r2)]) (st δ k l rs es w))
    (h2 : ∀ r2, q.come rs = .inr r2 → isNone (bkR (bkD k l r2)) = true → Bk k l r2 → Q (.list [.str "told", .int ((es.length : Int) + 1)]) (st δ k l r2 (es ++ [.tuple rs]) (.tuple []))) : W (m_Ttold_of [.am 0, .d q.D]) (st δ k l rs es w) Q := by
  have z1 : 1 ≤ sizeLine := by decide
  have z2 : 2 ≤ sizeLine := by decide
  unfold m_Ttold_of
  rw [W_runB (show [AV.am 0, .d q.D].length = 2 from rfl), W_sSeq]
  simp [avSV, startA, z1]
  refine W_sTry2 ?_
  simp only [W_sSetX, W_xLst2, W_xCall]
  simp
  refine W_do (h.low hb) hb he fe (fun i e => ?_) (fun r2 e n => ?_) fun r2 e n b => ?_
  · simpa [uIf, uIs, uLst, uCons, uC, uFc, uNil, z2, List.lookup, (show (("NoRule" : Str) == "BadBook") = false by decide +kernel)] using h0 i e
  · simpa [uIf, uIs, uLst, uCons, uC, uFc, uNil, z2, List.lookup, (show (("BadBook" : Str) = "NoRule") = False from eq_false (by decide +kernel))] using h1 r2 e n
  · simpa [z2] using h2 r2 e n b
end
/-- the slots -/
abbrev Z (a b c d e f g h i j k : SV) : AS := [.un, .deck, a, b, c, d, e, f, g, h, i, j, k]
def I0 (z : AS) : Prop := ∃ a b c d e f g h i j k : SV, z = Z a b c d e f g h i j k
/-- amid the deeds: the shelf is as the law's book and version say -/
structure Mid (k l n : Nat) (δ : DS) (z : AS) (rs es : List PyData) : Prop where
  c : δ.cells ≠ []
  b : Bk k l rs
  n : es.length ≤ n
  f : flatDs es = true
  o : δ.obs = [(("Shelf" : Str), shF (.int (k : Int)) (.int (l : Int)) (.tuple rs) (.tuple es) (.tuple []))]
  z : ∃ a b' c g h i j m : SV, z = Z a b' c (.dat (bkD k l rs)) (.dat (.int (es.length : Int))) (.gx (.am 0)) g h i j m
theorem amid {k l n : Nat} (hn : n < 14) {δ : DS} {z : AS} {rs es : List PyData} (I : Mid k l n δ z rs es) : W ((sSeq (sSet 9 (eCall m_Tdeed (aDeck 1 (aCons (eVar 5) aNil))))
      (sSeq (sPar3 10 11 12 (eUn reprC (eVar 9)) (eCall m_Tafter (aCons (eVar 5) (aCons (eVar 9) aNil))) (eCall m_Ttold_of (aAm 7 (aCons (eVar 9) aNil))))
      (sSeq (sIf (cBin eqC (eBin ixC (eVar 11) (eC (.int 0))) (eC (.str "told"))) (sSeq (sPar 5 6 (eBin ixC (eVar 11) (eC (.int 1))) (eBin addC (eVar 6) (eC (.int 1))))
      (sSet 11 (eLst (aCons (eC (.str "told")) (aCons (eVar 6) aNil))))) sNil)
      (sSeq (sIf (cOr (cBin neC (eUn reprC (eVar 12)) (eUn reprC (eVar 11))) (cBin neC (eUn reprC (eVar 9)) (eVar 10))) (sRet (eC (.bool false))) sNil)
      (sIf (cBin neC (eUn reprC (eLst (aCons (eAProp 7 "Shelf" m_Shelf_book) (aCons (eAProp 7 "Shelf" m_Shelf_version) (aCons (eALen 7 "Shelf" m_Shelf___len__) aNil))))) (eUn reprC (eLst (aCons (eVar 5) (aCons (eVar 6) (aCons (eUn lenC (eBin ixC (eVar 5) (eC (.int 2)))) aNil)))))) (sRet (eC (.bool false))) sNil))))) z) δ fun fl δ => ∃ z rs es, fl = .nx z ∧ Mid k l (n + 1) δ z rs es := by
  have z1 : 1 ≤ sizeLine := by decide
  have z2 : 2 ≤ sizeLine := by decide
  have z3 : 3 ≤ sizeLine := by decide
  obtain ⟨hc, hb, hle, hf, ho, a, b', c, g, h, i, j, m, rfl⟩ := I
  letI ob : Ob := ⟨[(("Shelf" : Str), shF (.int (k : Int)) (.int (l : Int)) (.tuple rs) (.tuple es) (.tuple []))]⟩
  refine W_seqA (fun z δ => Good δ ∧ ∃ q : Dd, q.Ok ∧ z = Z a b' c (.dat (bkD k l rs)) (.dat (.int (es.length : Int))) (.gx (.am 0)) g (.dat q.D) i j m) (fun A hA => ?_) ?_
  · simp
    refine W_tot (tot_Tdeed hb) ⟨hc, ho⟩ fun d δ g ⟨q, e, hq⟩ => ?_
    subst e
    exact hA _ _ ⟨g, q, hq, rfl⟩
  rintro z δ ⟨⟨hc, ho⟩, q, hq, rfl⟩
  have ho' : δ.obs = [(("Shelf" : Str), shF (.int (k : Int)) (.int (l : Int)) (.tuple rs) (.tuple es) (.tuple []))] := ho
  have l6 : rs.length ≤ 6 := hb.2.2.2.1
  have e40 : es.length < 40 := by omega
  have back : δ = st δ k l rs es (.tuple []) := by
    obtain ⟨d1, d2, d3, d4⟩ := δ
    obtain rfl : d4 = _ := ho'
    rfl
  -- the deed is done: book, version, what was due and what was found
  refine W_seqA (fun z δ2 => δ2.cells ≠ [] ∧ ((∃ u : PyData, ∃ x y : Str, (x = "rule" ∨ x = "book") ∧ Dw u ∧ PyData.str x ∈ leafZ ∧ δ2 = δ ∧ z = Z a b' c (.dat (bkD k l rs)) (.dat (.int (es.length : Int))) (.gx (.am 0)) g (.dat q.D) (.dat (.str q.D.shown)) (.dat (.list [.str x, u])) (.dat (.list [.str x, u]))) ∨
      ∃ r2, Bk k l r2 ∧ δ2 = st δ k l r2 (es ++ [.tuple rs]) (.tuple []) ∧ z = Z a b' c (.dat (bkD k l rs)) (.dat (.int (es.length : Int))) (.gx (.am 0)) g (.dat q.D) (.dat (.str q.D.shown)) (.dat (.list [.str "told", bkD k l r2])) (.dat (.list [.str "told", .int ((es.length : Int) + 1)])))) (fun A hA => ?_) ?_
  · simp [hq.repr, W_ev (ev_Tafter (k := k) (l := l) l6 (hq.low hb)), ho']
    rw [back]
    refine W_told hq hb e40 hf (fun i e => ?_) (fun r2 e nn => ?_) fun r2 e nn b2 => ?_
    · have hd : q.due k l rs = .list [.str "rule", i] := by unfold Dd.due; rw [e]
      rw [hd]
      exact hA _ _ ⟨hc, .inl ⟨i, "rule", "", .inl rfl, hq.index e, inZ (by simp), back.symm, rfl⟩⟩
    · have hd : q.due k l rs = .list [.str "book", bkR (bkD k l r2)] := by
        unfold Dd.due
        rw [e]
        simp [nn]
      rw [hd]
      exact hA _ _ ⟨hc, .inl ⟨_, "book", "", .inr rfl, Dw.err _, leafYZ _ (List.mem_append_right _ (by simp)), back.symm, rfl⟩⟩
    · have hd : q.due k l rs = .list [.str "told", bkD k l r2] := by
        unfold Dd.due
        rw [e]
        simp [nn]
      rw [hd]
      exact hA _ _ ⟨hc, .inr ⟨r2, b2, rfl, rfl⟩⟩
  have tz : PyData.str "told" ∈ leafZ := inZ (by simp)
  rintro z δ2 ⟨hc2, ⟨u, x, y, hx, hu, hxz, rfl, rfl⟩ | ⟨r2, b2, rfl, rfl⟩⟩
  · have xt : (x = "told") = False := by
      rcases hx with rfl | rfl
      · exact eq_false (by decide +kernel)
      · exact eq_false (by decide +kernel)
    simp [ix0, eqS, xt, Dw.two hxz hu, hq.repr, neS]
    rw [back]
    simp [W_book, W_version]
    refine W_eALen ?_
    simp [W_len]
    refine ⟨by omega, ?_⟩
    have rep := repr_state (n := es.length) (m := rs.length) hb (by omega) (by omega)
    simp [z3, ix2, show PyData.tuple [.int (k : Int), .int (l : Int), .tuple rs] = bkD k l rs from rfl, rep, neS]
    exact ⟨rs, es, hc2, hb, by omega, hf, rfl, _, _, _, _, _, _, _, _, rfl⟩
  · have dn : Dw (.int ((es.length : Int) + 1)) := .int (n := es.length + 1) (by omega)
    have rep : reprC (.list [bkD k l r2, .int ((es.length : Int) + 1), .int (r2.length : Int)]) = some (.str (PyData.list [bkD k l r2, .int ((es.length : Int) + 1), .int (r2.length : Int)]).shown) := repr_state (n := es.length + 1) (m := r2.length) b2 (by omega) (by have := b2.2.2.2.1; omega)
    have l26 : r2.length ≤ 6 := b2.2.2.2.1
    have ln : (es ++ [PyData.tuple rs]).length = es.length + 1 := by simp
    have fe2 : flatDs (es ++ [.tuple rs]) = true := flatDs_app hf (show (flatD (.tuple rs) && true) = true by rw [rules_flat hb.2.2.2.2]; rfl)
    simp [ix0, ix1, eqS, z2]
    simp [Dw.two tz dn, hq.repr, neS]
    refine W_book.mpr ?_
    simp
    refine (W_version (δ := δ)).mpr ?_
    refine W_eALen ?_
    simp
    refine (W_len (δ := δ)).mpr ?_
    refine ⟨_, rfl, by omega, by omega, ?_⟩
    simp [z3, ix2, show PyData.tuple [.int (k : Int), .int (l : Int), .tuple r2] = bkD k l r2 from rfl, rep, neS]
    refine ⟨r2, es ++ [.tuple rs], hc2, b2, by simp; omega, fe2, rfl, a, b', c, g, .dat q.D, .dat (.str q.D.shown), .dat (.list [.str "told", .int ((es.length : Int) + 1)]), .dat (.list [.str "told", .int ((es.length : Int) + 1)]), ?_⟩
    rw [ln]
    rfl
abbrev P6 : List PyData := [.str "p", .str "p", .str "p", .str "p", .str "p", .str "p"]
theorem P6_of {r : PyData} (h : r ∈ P6) : r = .str "p" := by simpa using h
theorem rules7 : bkR (bkD 0 1 (P6 ++ [.str "p"])) = .tuple [.none, .str "rules"] := by rfl
theorem p6 : Bk 0 1 P6 := ⟨by omega, by omega, by omega, by simp, fun r hr => by
  rw [P6_of hr]
  exact ⟨by decide +kernel, by decide +kernel, by decide +kernel⟩⟩
theorem p5 : bkR (bkD 0 1 (List.take 5 P6 ++ List.drop (5 + 1) P6)) = .none := by
  refine bkR_ok (k := 0) (l := 1) ⟨by omega, by omega, by omega, by simp, fun r hr => p6.2.2.2.2 r ?_⟩
  rcases List.mem_append.mp hr with h | h
  · exact List.mem_of_mem_take h
  · exact List.mem_of_mem_drop h
theorem tot_law : Tot (m_law (lawZ 13)) (fun fl => fl = .rt (.bool true)) := by
  have z1 : 1 ≤ sizeLine := by decide
  have z2 : 2 ≤ sizeLine := by decide
  have z3 : 3 ≤ sizeLine := by decide
  letI : Ob := noOb
  refine tot_W fun δ g => ?_
  refine W_seqA (fun z δ => Good δ ∧ I0 z) (fun B hB => ?_) ?_
  rotate_left
  · -- the end
    rintro z δ ⟨⟨hc, ho⟩, a, b, c, d, e, f, g, h, i, j, k, rfl⟩
    have ob : δ.obs = [] := ho
    have m6 : mulC (.tuple [.str "p"]) (.int 6) = some (.tuple P6) := rfl
    have dp : Dw (.str "p") := .leaf (leafYZ _ (leaf0Y _ (by simp [leaf0, odd1]))) (by decide) (by decide)
    have ee : eqC (.list [.str "book", .tuple [.none, .str "rules"]]) (.list [.str "book", .tuple [.none, .str "rules"]]) = some true := by rfl
    have e1 : eqC (.int 1) (.int 1) = some true := by rfl
    have nd : (shF (.int ((0 : Nat) : Int)) (.int ((1 : Nat) : Int)) (.tuple P6) (.tuple []) (.tuple [])).lookup ("drop" : Str) = none := shF_no
    refine W_sNew ?_
    simp [ob, m6, z1, z3]
    refine ⟨hc, ?_⟩
    show W (m_Shelf_init [.am 0, .d (bkD 0 1 P6)]) (sh δ "Shelf" []) _
    refine W_begun p6 ?_
    simp [z1, z2]
    show W (m_Ttold_of [.am 0, .d (Dd.D (.add (.str "p")))]) (st δ 0 1 P6 [] (.tuple [])) _
    refine W_told (q := .add (.str "p")) dp p6 (by simp) rfl (fun i e => by cases e) (fun r2 e n => ?_) fun r2 e n b => ?_
    · injection e with e
      subst e
      rw [rules7, ee]
      simp
      refine W_eX ?_
      rw [W_xAMeth]
      simp only [amOf_s, amOf_0, oW_some]
      refine ⟨⟨rfl, nd⟩, ?_⟩
      simp only [W_aCons, W_eC, W_aNil]
      refine W_drop (w := .tuple []) (fun n => ?_) p6 (by simp) rfl (fun q => ?_) (fun n e hn q => ?_) fun n e hn q b => ?_
      · refine low_of fun r m => ?_
        have : r = .str "p" := by
          rcases List.mem_append.mp m with m | m
          · exact P6_of (List.mem_of_mem_take m)
          · exact P6_of (List.mem_of_mem_drop m)
        rw [this]
        exact ⟨by decide, by decide⟩
      · exact absurd q (by decide)
      · injection e with e
        obtain rfl : n = 5 := by omega
        rw [p5] at q
        cases q
      · refine ⟨_, rfl, ?_⟩
        simp [e1]
        exact ⟨⟨hc, rfl⟩, rfl⟩
    · injection e with e
      subst e
      rw [rules7] at n
      cases n
  rw [W_sFor, W_iRange1]
  simp only [W_eC, asI_i, oW_some]
  refine ⟨by decide, ?_⟩
  have e5 : rangeD 0 (5 : Int).toNat = enI 0 5 := rangeD_eq 5
  rw [e5]
  refine W_forA (fun es z δ => Good δ ∧ I0 z ∧ ∃ i r, es = enI i r) ⟨g, ⟨.un, .un, .un, .un, .un, .un, .un, .un, .un, .un, .un, rfl⟩, 0, 5, rfl⟩ (fun C R hC _ => ?_) fun z δ h => hB _ _ ⟨h.1, h.2.1⟩
  rintro tn ds z δ ⟨g, ⟨a, b, c, d, e, f, g', h, i, j, k0, rfl⟩, t0, r0, e0⟩
  obtain ⟨t, e1, r1, e2⟩ : ∃ t : Nat, tn = .int (t : Int) ∧ ∃ r, ds = enI (t + 1) r := by
    cases r0 with
    | zero => cases e0
    | succ r => injection e0 with q1 q2; exact ⟨t0, q1, r, q2⟩
  subst e1
  refine ⟨_, rfl, ?_⟩
  -- a book
  refine W_seqA (fun z δ => Good δ ∧ ∃ k l : Nat, (k ≤ 3 ∧ l ≤ 2 ∧ 1 ≤ k + l) ∧ z = Z (.dat (.int (t : Int))) (.dat (.int (k : Int))) (.dat (.int (l : Int))) d e f g' h i j k0) (fun A hA => ?_) ?_
  · simp
    refine W_tot tot_Tsmall g fun b δ g ⟨k, l, e, hh⟩ => ?_
    subst e
    simp [gT, gsCons, gsNil]
    exact hA _ _ ⟨g, k, l, hh, rfl⟩
  rintro z δ ⟨g, k, l, ⟨hk, hl, h1⟩, rfl⟩
  refine W_seqA (fun z δ => Good δ ∧ ∃ rs, Bk k l rs ∧ z = Z (.dat (.int (t : Int))) (.dat (.int (k : Int))) (.dat (.int (l : Int))) (.dat (bkD k l rs)) (.dat (.int 0)) f g' h i j k0) (fun A hA => ?_) ?_
  · simp
    refine W_tot (tot_Tbook hk hl h1) g fun b δ g ⟨rs, e, lr, hr⟩ => ?_
    subst e
    exact hA _ _ ⟨g, rs, ⟨hk, hl, h1, by omega, hr⟩, rfl⟩
  rintro z δ ⟨⟨hc, ho⟩, rs, hb, rfl⟩
  have ob : δ.obs = [] := ho
  refine W_sNew ?_
  simp [ob]
  refine ⟨hc, ?_⟩
  show W (m_Shelf_init [.am 0, .d (bkD k l rs)]) (sh δ "Shelf" []) _
  refine W_begun hb ?_
  have e14 : rangeD 0 14 = enI 0 14 := rangeD_eq 14
  simp
  rw [e14]
  refine W_forA (fun ds z δ => ∃ n r rs es, n + r = 14 ∧ ds = enI n r ∧ Mid k l n δ z rs es) ⟨0, 14, rs, [], rfl, rfl, hc, hb, by simp, rfl, rfl, _, _, _, _, _, _, _, _, rfl⟩ (fun C2 R2 hC2 _ => ?_) ?_
  · rintro d2 es2 z δ ⟨n, r, rs, es, hn, e, I⟩
    cases r with
    | zero => cases e
    | succ r =>
      injection e with e1 e2
      subst e1 e2
      obtain ⟨a1, a2, a3, a4, a5, x1, x2, x3, x4, x5, x6, x7, x8, rfl⟩ := I
      refine ⟨_, rfl, (amid (n := n) (by omega) ⟨a1, a2, a3, a4, a5, _, _, _, _, _, _, _, _, rfl⟩).mono ?_⟩
      rintro fl δ' ⟨z, rs, es, rfl, I⟩
      exact hC2 _ _ _ ⟨n + 1, r, rs, es, by omega, rfl, I⟩
  · rintro z δ ⟨n, r, rs, es, hn, e, I⟩
    obtain ⟨a1, a2, a3, a4, a5, x1, x2, x3, x4, x5, x6, x7, x8, rfl⟩ := I
    refine hC _ _ _ ⟨⟨a1, rfl⟩, ⟨_, _, _, _, _, _, _, _, _, _, _, rfl⟩, t + 1, r1, e2⟩
theorem run : ∀ δ : DS, δ.cells ≠ [] → δ.obs = [] → ∃ δ', m_law (lawZ 13) δ = some (.rt (.bool true), δ') := fun δ g0 g1 => by
  have g : Good δ := ⟨g0, g1⟩
  obtain ⟨fl, δ', e, _, q⟩ := tot_law δ g
  subst q
  exact ⟨δ', e⟩
end VL.k61
open PySem PySem.W PyProof.Rows
set_option maxHeartbeats 0 in
theorem PySem.Challenge.cw_tellwords_k61_shelves_edited_holds : PySem.Challenge.rw_tellwords_k61_shelves_edited.Holds := by
  w_on; o_law; k_head; (case hw => w_witness2)
  k_fill
  refine VL.walkT (l := PySem.Challenge.rw_tellwords_k61_shelves_edited) (n := 63) (k := 74) (x := "_law_script") rfl (by decide) rfl ⟨rfl, by decide, by decide⟩ (fun w h Y => PySem.W.km_in_of Y) ?F
  case F =>
    intro w mg fa h Y KX G hmg
    refine' VL.k61.all_mk VL.k61.run KX G hmg ?z_LookupError ?z_abs ?z_bool ?z_enumerate ?z_int ?z_isinstance ?z_len ?z_list ?z_max ?z_range ?z_repr ?z_str ?z_sum ?z_tuple ?y_MAX_KINDS ?y_MAX_LETTERS ?y_MAX_SIGNS ?y_MAX_RULES ?y_KINDS ?t_KINDS ?y_LETTERS ?t_LETTERS ?yC_Shelf ?xpg_Shelf ?xhd_Shelf ?xpo_Shelf ?xst_Shelf ?xmk_Shelf ?xkp_Shelf ?xno_Shelf__earlier ?xno_Shelf__later ?xno_Shelf__kinds ?xno_Shelf__letters ?xno_Shelf__rules ?xcn_Shelf_LIMIT ?xcg_Shelf_LIMIT ?y_words_of ?l_words_of ?c_words_of ?k_words_of ?y_formula_error ?l_formula_error ?c_formula_error ?k_formula_error ?y_is_node ?l_is_node ?c_is_node ?k_is_node ?y_is_sentence ?l_is_sentence ?c_is_sentence ?k_is_sentence ?y_book_error ?l_book_error ?c_book_error ?k_book_error ?y_is_number_to ?l_is_number_to ?c_is_number_to ?k_is_number_to ?y_rule_error ?l_rule_error ?c_rule_error ?k_rule_error ?y_Shelf_init ?l_Shelf_init ?c_Shelf_init ?k_Shelf_init ?xf_Shelf_init ?y_Shelf_book ?xpq_Shelf_book ?xpt_Shelf_book ?xpr_Shelf_book ?l_Shelf_book ?c_Shelf_book ?k_Shelf_book ?y_Shelf_version ?xpq_Shelf_version ?xpt_Shelf_version ?xpr_Shelf_version ?l_Shelf_version ?c_Shelf_version ?k_Shelf_version ?y_Shelf_add ?l_Shelf_add ?c_Shelf_add ?k_Shelf_add ?xf_Shelf_add ?y_Shelf_drop ?l_Shelf_drop ?c_Shelf_drop ?k_Shelf_drop ?xf_Shelf_drop ?y_Shelf_turn ?l_Shelf_turn ?c_Shelf_turn ?k_Shelf_turn ?xf_Shelf_turn ?y_Shelf___len__ ?l_Shelf___len__ ?c_Shelf___len__ ?k_Shelf___len__ ?xf_Shelf___len__ ?y_Shelf__check_room ?l_Shelf__check_room ?c_Shelf__check_room ?k_Shelf__check_room ?xf_Shelf__check_room ?y_Shelf__check_index ?l_Shelf__check_index ?c_Shelf__check_index ?k_Shelf__check_index ?xf_Shelf__check_index ?y_Shelf__check_next ?l_Shelf__check_next ?c_Shelf__check_next ?k_Shelf__check_next ?xf_Shelf__check_next ?y_Shelf__edit ?l_Shelf__edit ?c_Shelf__edit ?k_Shelf__edit ?xf_Shelf__edit ?y_check_book ?l_check_book ?c_check_book ?k_check_book ?y_Tdeck ?l_Tdeck ?c_Tdeck ?k_Tdeck ?y_Tdraw ?l_Tdraw ?c_Tdraw ?k_Tdraw ?y_Tone ?l_Tone ?c_Tone ?k_Tone ?y_Twhole ?l_Twhole ?c_Twhole ?k_Twhole ?y_Tkinds ?l_Tkinds ?c_Tkinds ?k_Tkinds ?y_Tletters ?l_Tletters ?c_Tletters ?k_Tletters ?y_Twords ?l_Twords ?c_Twords ?k_Twords ?y_Tformula ?l_Tformula ?c_Tformula ?k_Tformula ?y_Tboth ?l_Tboth ?c_Tboth ?k_Tboth ?y_Tsentence ?l_Tsentence ?c_Tsentence ?k_Tsentence ?y_Tbook ?l_Tbook ?c_Tbook ?k_Tbook ?y_Tsigns ?l_Tsigns ?c_Tsigns ?k_Tsigns ?y_Tis_formula ?l_Tis_formula ?c_Tis_formula ?k_Tis_formula ?y_Tformula_error ?l_Tformula_error ?c_Tformula_error ?k_Tformula_error ?y_Tis_sentence ?l_Tis_sentence ?c_Tis_sentence ?k_Tis_sentence ?y_Tspoilt ?l_Tspoilt ?c_Tspoilt ?k_Tspoilt ?y_Tbook_error ?l_Tbook_error ?c_Tbook_error ?k_Tbook_error ?y_Tsmall ?l_Tsmall ?c_Tsmall ?k_Tsmall ?y_Tcome ?l_Tcome ?c_Tcome ?k_Tcome ?y_Tafter ?l_Tafter ?c_Tafter ?k_Tafter ?y_Tdeed ?l_Tdeed ?c_Tdeed ?k_Tdeed ?y_Tdo ?l_Tdo ?c_Tdo ?k_Tdo ?y_Ttold_of ?l_Ttold_of ?c_Ttold_of ?k_Ttold_of ?y_law ?l_law ?c_law ?k_law ?yC_WordError ?yC_BadBook ?xL_BadBook ?xsa_BadBook ?xga_BadBook ?xgg_BadBook ?xkC_BadBook ?xeC_BadBook ?xtC_BadBook ?xhC_BadBook ?xiC_BadBook ?xsC_BadBook ?xcc_BadBook ?xmr_BadBook ?xi_BadBook ?xti_BadBook ?xl_BadBook ?xc_BadBook ?xk_BadBook ?xn_BadBook_error ?xn_BadBook_index ?xw_BadBook_LookupError ?xw_BadBook_WordError ?yC_Full ?yC_NoRule ?xL_NoRule ?xsa_NoRule ?xga_NoRule ?xgg_NoRule ?xkC_NoRule ?xeC_NoRule ?xtC_NoRule ?xhC_NoRule ?xiC_NoRule ?xsC_NoRule ?xcc_NoRule ?xmr_NoRule ?xi_NoRule ?xti_NoRule ?xl_NoRule ?xc_NoRule ?xk_NoRule ?xn_NoRule_error ?xn_NoRule_index ?xw_NoRule_LookupError ?xw_NoRule_WordError ?xx_BadBook_NoRule ?xwi_WordError ?xwt_WordError ?xsp ?xtk
    (case z_LookupError => k_is)
    (case z_abs => k_is)
    (case z_bool => k_is)
    (case z_enumerate => k_is)
    (case z_int => k_is)
    (case z_isinstance => k_is)
    (case z_len => k_is)
    (case z_list => k_is)
    (case z_max => k_is)
    (case z_range => k_is)
    (case z_repr => k_is)
    (case z_str => k_is)
    (case z_sum => k_is)
    (case z_tuple => k_is)
    (case y_MAX_KINDS => k_is)
    (case y_MAX_LETTERS => k_is)
    (case y_MAX_SIGNS => k_is)
    (case y_MAX_RULES => k_is)
    (case y_KINDS => k_is)
    (case t_KINDS => k_is)
    (case y_LETTERS => k_is)
    (case t_LETTERS => k_is)
    (case yC_Shelf => k_is)
    (case xpg_Shelf => k_is)
    (case xhd_Shelf => k_is)
    (case xpo_Shelf => k_is)
    (case xst_Shelf => k_is)
    (case xmk_Shelf => k_is)
    (case xkp_Shelf => k_is)
    (case xno_Shelf__earlier => k_is)
    (case xno_Shelf__later => k_is)
    (case xno_Shelf__kinds => k_is)
    (case xno_Shelf__letters => k_is)
    (case xno_Shelf__rules => k_is)
    (case xcn_Shelf_LIMIT => k_is)
    (case xcg_Shelf_LIMIT => k_is)
    (case y_words_of => k_is)
    (case l_words_of => k_is)
    (case c_words_of => k_is)
    (case k_words_of => k_is)
    (case y_formula_error => k_is)
    (case l_formula_error => k_is)
    (case c_formula_error => k_is)
    (case k_formula_error => k_is)
    (case y_is_node => k_is)
    (case l_is_node => k_is)
    (case c_is_node => k_is)
    (case k_is_node => k_is)
    (case y_is_sentence => k_is)
    (case l_is_sentence => k_is)
    (case c_is_sentence => k_is)
    (case k_is_sentence => k_is)
    (case y_book_error => k_is)
    (case l_book_error => k_is)
    (case c_book_error => k_is)
    (case k_book_error => k_is)
    (case y_is_number_to => k_is)
    (case l_is_number_to => k_is)
    (case c_is_number_to => k_is)
    (case k_is_number_to => k_is)
    (case y_rule_error => k_is)
    (case l_rule_error => k_is)
    (case c_rule_error => k_is)
    (case k_rule_error => k_is)
    (case y_Shelf_init => k_is)
    (case l_Shelf_init => k_is)
    (case c_Shelf_init => k_is)
    (case k_Shelf_init => k_is)
    (case xf_Shelf_init => k_is)
    (case y_Shelf_book => k_is)
    (case xpq_Shelf_book => k_is)
    (case xpt_Shelf_book => k_is)
    (case xpr_Shelf_book => k_is)
    (case l_Shelf_book => k_is)
    (case c_Shelf_book => k_is)
    (case k_Shelf_book => k_is)
    (case y_Shelf_version => k_is)
    (case xpq_Shelf_version => k_is)
    (case xpt_Shelf_version => k_is)
    (case xpr_Shelf_version => k_is)
    (case l_Shelf_version => k_is)
    (case c_Shelf_version => k_is)
    (case k_Shelf_version => k_is)
    (case y_Shelf_add => k_is)
    (case l_Shelf_add => k_is)
    (case c_Shelf_add => k_is)
    (case k_Shelf_add => k_is)
    (case xf_Shelf_add => k_is)
    (case y_Shelf_drop => k_is)
    (case l_Shelf_drop => k_is)
    (case c_Shelf_drop => k_is)
    (case k_Shelf_drop => k_is)
    (case xf_Shelf_drop => k_is)
    (case y_Shelf_turn => k_is)
    (case l_Shelf_turn => k_is)
    (case c_Shelf_turn => k_is)
    (case k_Shelf_turn => k_is)
    (case xf_Shelf_turn => k_is)
    (case y_Shelf___len__ => k_is)
    (case l_Shelf___len__ => k_is)
    (case c_Shelf___len__ => k_is)
    (case k_Shelf___len__ => k_is)
    (case xf_Shelf___len__ => k_is)
    (case y_Shelf__check_room => k_is)
    (case l_Shelf__check_room => k_is)
    (case c_Shelf__check_room => k_is)
    (case k_Shelf__check_room => k_is)
    (case xf_Shelf__check_room => k_is)
    (case y_Shelf__check_index => k_is)
    (case l_Shelf__check_index => k_is)
    (case c_Shelf__check_index => k_is)
    (case k_Shelf__check_index => k_is)
    (case xf_Shelf__check_index => k_is)
    (case y_Shelf__check_next => k_is)
    (case l_Shelf__check_next => k_is)
    (case c_Shelf__check_next => k_is)
    (case k_Shelf__check_next => k_is)
    (case xf_Shelf__check_next => k_is)
    (case y_Shelf__edit => k_is)
    (case l_Shelf__edit => k_is)
    (case c_Shelf__edit => k_is)
    (case k_Shelf__edit => k_is)
    (case xf_Shelf__edit => k_is)
    (case y_check_book => k_is)
    (case l_check_book => k_is)
    (case c_check_book => k_is)
    (case k_check_book => k_is)
    (case y_Tdeck => k_is)
    (case l_Tdeck => k_is)
    (case c_Tdeck => k_is)
    (case k_Tdeck => k_is)
    (case y_Tdraw => k_is)
    (case l_Tdraw => k_is)
    (case c_Tdraw => k_is)
    (case k_Tdraw => k_is)
    (case y_Tone => k_is)
    (case l_Tone => k_is)
    (case c_Tone => k_is)
    (case k_Tone => k_is)
    (case y_Twhole => k_is)
    (case l_Twhole => k_is)
    (case c_Twhole => k_is)
    (case k_Twhole => k_is)
    (case y_Tkinds => k_is)
    (case l_Tkinds => k_is)
    (case c_Tkinds => k_is)
    (case k_Tkinds => k_is)
    (case y_Tletters => k_is)
    (case l_Tletters => k_is)
    (case c_Tletters => k_is)
    (case k_Tletters => k_is)
    (case y_Twords => k_is)
    (case l_Twords => k_is)
    (case c_Twords => k_is)
    (case k_Twords => k_is)
    (case y_Tformula => k_is)
    (case l_Tformula => k_is)
    (case c_Tformula => k_is)
    (case k_Tformula => k_is)
    (case y_Tboth => k_is)
    (case l_Tboth => k_is)
    (case c_Tboth => k_is)
    (case k_Tboth => k_is)
    (case y_Tsentence => k_is)
    (case l_Tsentence => k_is)
    (case c_Tsentence => k_is)
    (case k_Tsentence => k_is)
    (case y_Tbook => k_is)
    (case l_Tbook => k_is)
    (case c_Tbook => k_is)
    (case k_Tbook => k_is)
    (case y_Tsigns => k_is)
    (case l_Tsigns => k_is)
    (case c_Tsigns => k_is)
    (case k_Tsigns => k_is)
    (case y_Tis_formula => k_is)
    (case l_Tis_formula => k_is)
    (case c_Tis_formula => k_is)
    (case k_Tis_formula => k_is)
    (case y_Tformula_error => k_is)
    (case l_Tformula_error => k_is)
    (case c_Tformula_error => k_is)
    (case k_Tformula_error => k_is)
    (case y_Tis_sentence => k_is)
    (case l_Tis_sentence => k_is)
    (case c_Tis_sentence => k_is)
    (case k_Tis_sentence => k_is)
    (case y_Tspoilt => k_is)
    (case l_Tspoilt => k_is)
    (case c_Tspoilt => k_is)
    (case k_Tspoilt => k_is)
    (case y_Tbook_error => k_is)
    (case l_Tbook_error => k_is)
    (case c_Tbook_error => k_is)
    (case k_Tbook_error => k_is)
    (case y_Tsmall => k_is)
    (case l_Tsmall => k_is)
    (case c_Tsmall => k_is)
    (case k_Tsmall => k_is)
    (case y_Tcome => k_is)
    (case l_Tcome => k_is)
    (case c_Tcome => k_is)
    (case k_Tcome => k_is)
    (case y_Tafter => k_is)
    (case l_Tafter => k_is)
    (case c_Tafter => k_is)
    (case k_Tafter => k_is)
    (case y_Tdeed => k_is)
    (case l_Tdeed => k_is)
    (case c_Tdeed => k_is)
    (case k_Tdeed => k_is)
    (case y_Tdo => k_is)
    (case l_Tdo => k_is)
    (case c_Tdo => k_is)
    (case k_Tdo => k_is)
    (case y_Ttold_of => k_is)
    (case l_Ttold_of => k_is)
    (case c_Ttold_of => k_is)
    (case k_Ttold_of => k_is)
    (case y_law => k_is)
    (case l_law => k_is)
    (case c_law => k_is)
    (case k_law => k_is)
    (case yC_WordError => k_is)
    (case yC_BadBook => k_is)
    (case xL_BadBook => k_is)
    (case xsa_BadBook => k_is)
    (case xga_BadBook => k_is)
    (case xgg_BadBook => k_is)
    (case xkC_BadBook => k_is)
    (case xeC_BadBook => k_is)
    (case xtC_BadBook => k_is)
    (case xhC_BadBook => k_is)
    (case xiC_BadBook => k_is)
    (case xsC_BadBook => k_is)
    (case xcc_BadBook => k_is)
    (case xmr_BadBook => k_is)
    (case xi_BadBook => k_is)
    (case xti_BadBook => k_is)
    (case xl_BadBook => k_is)
    (case xc_BadBook => k_is)
    (case xk_BadBook => k_is)
    (case xn_BadBook_error => k_is)
    (case xn_BadBook_index => k_is)
    (case xw_BadBook_LookupError => k_is)
    (case xw_BadBook_WordError => k_is)
    (case yC_Full => k_is)
    (case yC_NoRule => k_is)
    (case xL_NoRule => k_is)
    (case xsa_NoRule => k_is)
    (case xga_NoRule => k_is)
    (case xgg_NoRule => k_is)
    (case xkC_NoRule => k_is)
    (case xeC_NoRule => k_is)
    (case xtC_NoRule => k_is)
    (case xhC_NoRule => k_is)
    (case xiC_NoRule => k_is)
    (case xsC_NoRule => k_is)
    (case xcc_NoRule => k_is)
    (case xmr_NoRule => k_is)
    (case xi_NoRule => k_is)
    (case xti_NoRule => k_is)
    (case xl_NoRule => k_is)
    (case xc_NoRule => k_is)
    (case xk_NoRule => k_is)
    (case xn_NoRule_error => k_is)
    (case xn_NoRule_index => k_is)
    (case xw_NoRule_LookupError => k_is)
    (case xw_NoRule_WordError => k_is)
    (case xx_BadBook_NoRule => k_is)
    (case xwi_WordError => k_is)
    (case xwt_WordError => k_is)
    (case xsp => k_is)
    (case xtk => k_is)
