import PyProof.Rows.All
import Wide.All
import OpenK.AllK
import Wide.FinOn
import HandS.ForMost
import HandS.Exc
import HandS.TryOnly
import HandS.ExcOwn
import HandS.CallSlots
import HandS.Evl
import HandS.Wide
import HandS.Lambda
import HandS.Deep
import HandS.IsInst
import HandS.StrMore
import HandS.Walk
import HandS.WordsExc
import HandS.Defaults
import HandS.TupSets
import HandS.Zip
import HandS.ExcIs
import HandS.Star
import HandS.MakeKw
import HandS.MakeKwOnly
import HandS.Gcd
import HandS.SortInts
import HandS.SetBool
import HandS.SetKeys
import HandS.SortKw
import HandS.Nested
import HandS.EndTab
import KE.KMinKey
import PyProof.ListIndex
import HandS.List
import HandS.RaiseMore
import PyProof.ReprRoads
import KE.DataMinMax
import PyProof.Claim2Refuses
import KE.SortData
import HandS.Conv
import HandS.TryMany
import HandS.Text
import PyProof.FactsAll.list_3
import HandS.Style
import KE.GoesEnum
import HandS.FStr
import HandS.DictComp
import HandS.Dict
import PySem.Challenge.RW_cushioned_k08_texts_of_no_setup
set_option Elab.async false
set_option linter.all false
set_option maxRecDepth 100000
set_option maxHeartbeats 4000000
/-! Den0: what of one heap's knowledge stands in another's: all stays, but the tables of code objects, which grow. -/
namespace Den
open PySem L2
/-- the name that all code objects of a table bear -/
class Named where
  nm : Addr → Str
  tb : List Addr
/-- triples whose code objects are known -/
def Trp (H : Hp) (q : Str) (ps : List Value) : Prop := TriplesOk ps ∧ ∀ (pos : Pos) (cv : Value), codeAmong pos ps = some cv → ∃ c, cv = .ref c ∧ H c = some (LamX.CodeO c q)
section
variable [Named]
def ExO (H' : Hp) (a : Addr) : HO → Prop
  | .tbl ps => ∃ more : Array Value, H' a = some (.tbl (ps ++ more)) ∧ Trp H' (Named.nm a) more.toList
  | o => H' a = some o
def Ex (H H' : Hp) : Prop := ∀ a o, H a = some o → ExO H' a o
theorem ExO.of {H' : Hp} {a : Addr} {o : HO} (h : ∀ ps, o ≠ .tbl ps) : ExO H' a o ↔ H' a = some o := by
  cases o with
  | tbl ps => exact absurd rfl (h ps)
  | _ => exact Iff.rfl
theorem Trp.nil {H : Hp} {q : Str} : Trp H q [] := ⟨trivial, fun pos cv h => by simp [codeAmong] at h⟩
theorem ExO.same {H' : Hp} {a : Addr} {o : HO} (h : H' a = some o) : ExO H' a o := by
  cases o with
  | tbl ps => exact ⟨#[], by simpa using h, .nil⟩
  | _ => exact h
theorem Trp.up {H H' : Hp} {q : Str} {ps : List Value} (h : Trp H q ps) (k : ∀ c, H c = some (LamX.CodeO c q) → H' c = some (LamX.CodeO c q)) : Trp H' q ps :=
  ⟨h.1, fun pos cv e => by
    obtain ⟨c, e1, e2⟩ := h.2 pos cv e
    exact ⟨c, e1, k c e2⟩⟩
theorem Ex.code {H H' : Hp} (e : Ex H H') {c : Addr} {q : Str} (h : H c = some (LamX.CodeO c q)) : H' c = some (LamX.CodeO c q) := (ExO.of LamX.codeO_ne).mp (e c _ h)
theorem tri_app {m : List Value} (l : List Value) (h : TriplesOk l) (hm : TriplesOk m) : TriplesOk (l ++ m) := by
  fun_induction TriplesOk l with
  | case1 => exact hm
  | case2 a t b u x rest ih => simp only [List.cons_append, TriplesOk]; exact ih h
  | case3 l h1 h2 => exact h.elim
theorem tri_among {m : List Value} {pos : Pos} {cv : Value} (l : List Value) (h : TriplesOk l) (hc : codeAmong pos (l ++ m) = some cv) : codeAmong pos l = some cv ∨ codeAmong pos m = some cv := by
  fun_induction TriplesOk l with
  | case1 => exact .inr hc
  | case2 a t b u x rest ih =>
    simp only [List.cons_append, codeAmong] at hc ⊢
    split at hc
    · rename_i q
      rw [if_pos q]
      exact .inl hc
    · rename_i q
      rw [if_neg q]
      exact ih h hc
  | case3 l h1 h2 => exact h.elim
theorem trp_app {H : Hp} {q : Str} {l m : List Value} (a : Trp H q l) (b : Trp H q m) : Trp H q (l ++ m) := ⟨tri_app l a.1 b.1, fun pos cv h => (tri_among l a.1 h).elim (a.2 pos cv) (b.2 pos cv)⟩
theorem Ex.refl (H : Hp) : Ex H H := fun _ _ h => ExO.same h
theorem Ex.trans {H H1 H2 : Hp} (a : Ex H H1) (b : Ex H1 H2) : Ex H H2 := fun x o h => by
  have h1 := a x o h
  cases o with
  | tbl ps =>
    obtain ⟨m1, e1, t1⟩ := h1
    obtain ⟨m2, e2, t2⟩ := b x _ e1
    refine ⟨m1 ++ m2, by rw [← Array.append_assoc]; exact e2, ?_⟩
    rw [Array.toList_append]
    exact trp_app (t1.up fun c => b.code) t2
  | _ => exact b x _ h1
theorem Ex.new {H : Hp} {p : Addr} {o : HO} (h : H p = none) : Ex H (upd H p o) := fun a u e => ExO.same (by rw [upd_ne (ne_of_none e h)]; exact e)
theorem fresh_back {H H' : Hp} {p : Addr} (e : Ex H H') (h : H' p = none) : H p = none := by
  cases h1 : H p with
  | none => rfl
  | some o =>
    have h2 := e p o h1
    cases o with
    | tbl ps => obtain ⟨m, e1, _⟩ := h2; rw [h] at e1; cases e1
    | _ => rw [show H' p = _ from h2] at h; cases h
/-- an object that H does not know may change -/
theorem ExO.mut {H' : Hp} {a p : Addr} {o o2 : HO} (h : ExO H' a o) (hn : a ≠ p) (hc : ∀ q, H' p ≠ some (LamX.CodeO p q)) : ExO (upd H' p o2) a o := by
  cases o with
  | tbl ps =>
    obtain ⟨m, e1, t1⟩ := h
    refine ⟨m, by rw [upd_ne hn]; exact e1, t1.up fun c hcc => ?_⟩
    rw [upd_ne (fun z => hc _ (by rw [z] at hcc; exact hcc))]
    exact hcc
  | _ => show upd H' p o2 a = _; rw [upd_ne hn]; exact h
theorem ExO.some {H' : Hp} {a : Addr} {o : HO} (h : ExO H' a o) : ∃ o', H' a = some o' := by
  cases o with
  | tbl ps => obtain ⟨m, e, _⟩ := h; exact ⟨_, e⟩
  | _ => exact ⟨_, h⟩
theorem ExO.upd {H : Hp} {a p : Addr} {o o2 : HO} (h : ExO H a o) (c : a ≠ p) (hp : H p = none) : ExO (upd H p o2) a o := h.mut c fun q z => by rw [hp] at z; cases z
theorem noCode {H : Hp} {p : Addr} {o : HO} (h : H p = some o) (n : ∀ φ, o ≠ .ext φ) (q : Str) : H p ≠ some (LamX.CodeO p q) := fun z => by
  rw [h] at z
  injection z with z
  exact n _ z
theorem extNoCode {H : Hp} {p : Addr} {φ : Heap → Prop} (h : H p = some (.ext φ)) (n : ∀ (hp : Heap) (o : Obj) (vs : Array Value), φ hp → hp.get? p = some o → o.data ≠ .fields vs) (q : Str) : H p ≠ some (LamX.CodeO p q) := fun z => by
  rw [h] at z
  injection z with z
  injection z with z
  let ob : Obj := { cls := .none, data := .fields #[.none, .str q default] }
  let hp : Heap := { objs := Array.replicate (p + 1) ob }
  have g : hp.get? p = some ob := by
    unfold Heap.get?
    have : hp.objs[p]? = some ob := by
      show (Array.replicate (p + 1) ob)[p]? = _
      rw [Array.getElem?_replicate, if_pos (by omega)]
    rw [this]
  have k : φ hp := by
    rw [z]
    exact ⟨ob, _, _, g, rfl, rfl⟩
  exact n hp ob _ k g rfl
/-- an object changes that is no code -/
theorem Ex.mut {H H' : Hp} {p : Addr} {o : HO} (e : Ex H H') (h : H p = none) (hc : ∀ q, H' p ≠ some (LamX.CodeO p q)) : Ex H (L2.upd H' p o) := fun a u ha => (e a u ha).mut (ne_of_none ha h) hc
theorem ex_rd {H H' : Hp} {a : Addr} {u : HO} (e : Ex H H') (n : ∀ ps, u ≠ .tbl ps) (h : Rd H a u) : Rd H' a u := by
  rcases h with h | ⟨o, h⟩
  · exact Or.inl ((ExO.of n).mp (e a _ h))
  · exact Or.inr ⟨o, e a _ h⟩
theorem ex_l {K : PySem.W.Frag} {H H' : Hp} {a : Addr} {xs : List V} (e : Ex H H') (h : SqL K H a xs) : SqL K H' a xs := by
  rcases h with h | h
  · exact Or.inl (ex_rd e (fun _ z => nomatch z) h)
  · exact Or.inr h
theorem ex_t {K : PySem.W.Frag} {H H' : Hp} {a : Addr} {xs : List V} (e : Ex H H') (h : SqT K H a xs) : SqT K H' a xs := by
  rcases h with h | h
  · exact Or.inl (ex_rd e (fun _ z => nomatch z) h)
  · exact Or.inr h
/-- a table that was empty at the start -/
theorem Ex.tab {H H' : Hp} (e : Ex H H') {P : Addr} (h : H P = some (.tbl #[])) : LamX.TabS H' P (Named.nm P) := by
  obtain ⟨m, e1, t1⟩ := e P _ h
  rw [Array.empty_append] at e1
  exact ⟨m, e1, t1.1, t1.2⟩
/-- a table's knowledge goes on -/
theorem Ex.tabS {H H' : Hp} (e : Ex H H') {P : Addr} (h : LamX.TabS H P (Named.nm P)) : LamX.TabS H' P (Named.nm P) := by
  obtain ⟨ps, h1, h2, h3⟩ := h
  obtain ⟨m, e1, t1⟩ := e P _ h1
  have t := trp_app ((show Trp H (Named.nm P) ps.toList from ⟨h2, h3⟩).up fun c => e.code) t1
  exact ⟨ps ++ m, e1, by rw [Array.toList_append]; exact t.1, by rw [Array.toList_append]; exact t.2⟩
/-- the tables are told -/
def Tb (F : Hp) : Prop := ∀ P ∈ Named.tb, LamX.TabS F P (Named.nm P)
theorem Tb.up {F F' : Hp} (t : Tb F) (e : Ex F F') : Tb F' := fun P hP => e.tabS (t P hP)
end
end Den
set_option Elab.async false
set_option linter.all false
set_option maxRecDepth 100000
set_option maxHeartbeats 4000000
/-! Den: a def's body as a function of data. D: data without addresses; Rep: a value stands for data, in a part F of the heap that never changes. -/
namespace Den
open PySem L2
variable [Named]

/-- data -/
inductive D where
  | non | bl (b : Bool) | int (i : Int) | str (s : Str)
  | tup (ds : List D) | lst (ds : List D) | dic (ks : List Key) (ds : List D) | obj (c : Nat) (ds : List D)
  deriving Inhabited
/-- the program's classes: where each stands, its fields in their order -/
structure Core where
  cl : Nat → Addr
  fn : Nat → List Str
/-- with the instance that is being made -/
structure Cfg extends Core where
  self : Addr
  xd : Option Addr
  xc : Nat
instance : Coe Cfg Core := ⟨Cfg.toCore⟩

mutual
inductive Rep (K : PySem.W.Frag) (Y : Core) (F : Hp) : V → D → Prop
  | non : Rep K Y F .non .non
  | bl (b : Bool) : Rep K Y F (.bl b) (.bl b)
  | int (i : Int) : Rep K Y F (.int i) (.int i)
  | str (x : Str) : Rep K Y F (.str x) (.str x)
  | tup {a : Addr} {xs : List V} {ds : List D} : SqT K F a xs → RepL K Y F xs ds → Rep K Y F (.ref a) (.tup ds)
  | lst {a : Addr} {xs : List V} {ds : List D} : SqL K F a xs → RepL K Y F xs ds → Rep K Y F (.ref a) (.lst ds)
  | dic {a : Addr} {xs : List V} {ks : List Key} {ds : List D} : F a = some (.dK (ks.zip xs)) → ks.length = xs.length → RepL K Y F xs ds → Rep K Y F (.ref a) (.dic ks ds)
  | obj {a dx : Addr} {xs : List V} {c : Nat} {ds : List D} : F a = some (.ins (Y.cl c) dx ((Y.fn c).zip xs)) → (Y.fn c).length = xs.length → RepL K Y F xs ds → Rep K Y F (.ref a) (.obj c ds)
inductive RepL (K : PySem.W.Frag) (Y : Core) (F : Hp) : List V → List D → Prop
  | nil : RepL K Y F [] []
  | cons {v : V} {vs : List V} {d : D} {ds : List D} : Rep K Y F v d → RepL K Y F vs ds → RepL K Y F (v :: vs) (d :: ds)
end

section
variable {K : PySem.W.Frag} {Y : Core} {F F' : Hp}
theorem ex_rdT {a : Addr} {xs : List V} (e : Ex F F') (h : SqT K F a xs) : SqT K F' a xs := ex_t e h
mutual
theorem Rep.mono (e : Ex F F') : ∀ {d : D} {v : V}, Rep K Y F v d → Rep K Y F' v d
  | _, _, .non => .non
  | _, _, .bl b => .bl b
  | _, _, .int i => .int i
  | _, _, .str x => .str x
  | _, _, .tup h r => .tup (ex_t e h) (RepL.mono e r)
  | _, _, .lst h r => .lst (ex_l e h) (RepL.mono e r)
  | _, _, .dic h l r => .dic (e _ _ h) l (RepL.mono e r)
  | _, _, .obj h l r => .obj (e _ _ h) l (RepL.mono e r)
theorem RepL.mono (e : Ex F F') : ∀ {ds : List D} {vs : List V}, RepL K Y F vs ds → RepL K Y F' vs ds
  | _, _, .nil => .nil
  | _, _, .cons h r => .cons (Rep.mono e h) (RepL.mono e r)
end
theorem RepL.len {vs : List V} {ds : List D} (h : RepL K Y F vs ds) : vs.length = ds.length := by
  induction ds generalizing vs with
  | nil => cases h; rfl
  | cons d ds ih => cases h with | cons a b => simp [ih b]
theorem RepL.get {vs : List V} {ds : List D} (h : RepL K Y F vs ds) {i : Nat} {d : D} (hd : ds[i]? = some d) : ∃ v, vs[i]? = some v ∧ Rep K Y F v d := by
  induction ds generalizing vs i with
  | nil => simp at hd
  | cons e es ih =>
    cases h with
    | cons a b =>
      cases i with
      | zero => simp at hd; subst hd; exact ⟨_, rfl, a⟩
      | succ i => simpa using ih b (by simpa using hd)
theorem RepL.getV {vs : List V} {ds : List D} (h : RepL K Y F vs ds) {i : Nat} {v : V} (hv : vs[i]? = some v) : ∃ d, ds[i]? = some d ∧ Rep K Y F v d := by
  have hl := h.len
  have : i < ds.length := by rw [← hl]; exact (List.getElem?_eq_some_iff.mp hv).1
  obtain ⟨w, hw, r⟩ := h.get (List.getElem?_eq_getElem this)
  rw [hv] at hw; cases hw
  exact ⟨_, List.getElem?_eq_getElem this, r⟩
theorem RepL.append {vs ws : List V} {ds es : List D} (h : RepL K Y F vs ds) (g : RepL K Y F ws es) : RepL K Y F (vs ++ ws) (ds ++ es) := by
  induction ds generalizing vs with
  | nil => cases h; exact g
  | cons d ds ih => cases h with | cons a b => exact .cons a (ih b)
theorem RepL.drop {vs : List V} {ds : List D} (n : Nat) (h : RepL K Y F vs ds) : RepL K Y F (vs.drop n) (ds.drop n) := by
  induction n generalizing vs ds with
  | zero => exact h
  | succ n ih => cases h with
    | nil => exact .nil
    | cons a b => exact ih b
theorem RepL.take {vs : List V} {ds : List D} (n : Nat) (h : RepL K Y F vs ds) : RepL K Y F (vs.take n) (ds.take n) := by
  induction n generalizing vs ds with
  | zero => exact .nil
  | succ n ih => cases h with
    | nil => exact .nil
    | cons a b => exact .cons a (ih b)
theorem RepL.rev {vs : List V} {ds : List D} (h : RepL K Y F vs ds) : RepL K Y F vs.reverse ds.reverse := by
  induction ds generalizing vs with
  | nil => cases h; exact .nil
  | cons d ds ih => cases h with | cons a b => rw [List.reverse_cons, List.reverse_cons]; exact (ih b).append (.cons a .nil)
theorem RepL.set {vs : List V} {ds : List D} {v : V} {d : D} (h : RepL K Y F vs ds) (r : Rep K Y F v d) (n : Nat) : RepL K Y F (vs.set n v) (ds.set n d) := by
  induction n generalizing vs ds with
  | zero => cases h with
    | nil => exact .nil
    | cons a b => exact .cons r b
  | succ n ih => cases h with
    | nil => exact .nil
    | cons a b => exact .cons a (ih b)
end

/-! ### what grows: F the part that never changes -/
structure Gr (F H F' H' : Hp) : Prop where
  f : Ex F F'
  fh : Ex F' H'
  h : Ex H H'
  old : ∀ a o, H a = some o → F' a = F a
theorem Gr.refl {F H : Hp} (e : Ex F H) : Gr F H F H := ⟨Ex.refl F, e, Ex.refl H, fun _ _ _ => rfl⟩
theorem Gr.trans {F H F1 H1 F2 H2 : Hp} (a : Gr F H F1 H1) (b : Gr F1 H1 F2 H2) : Gr F H F2 H2 :=
  ⟨a.f.trans b.f, b.fh, a.h.trans b.h, fun x o e => by
    obtain ⟨o', e'⟩ := (a.h x o e).some
    exact (b.old x o' e').trans (a.old x o e)⟩
/-- a new object, told at once -/
theorem Gr.new {F H : Hp} {p : Addr} {o : HO} (e : Ex F H) (hp : H p = none) : Gr F H (upd F p o) (upd H p o) := by
  have fp : F p = none := fresh_back e hp
  refine ⟨Ex.new fp, fun a u h => ?_, Ex.new hp, fun a u h => ?_⟩
  · by_cases c : a = p
    · subst c; rw [upd_same] at h; exact ExO.same (by rw [upd_same]; exact h)
    · rw [upd_ne c] at h; exact (e a u h).upd c hp
  · rw [upd_ne (ne_of_none h hp)]
/-- what is new in the heap is told or left untold -/
theorem Gr.heap {F H H' : Hp} (e : Ex F H) (h : Ex H H') : Gr F H F H' := ⟨Ex.refl F, e.trans h, h, fun _ _ _ => rfl⟩

/-- an exception: its class, its fields -/
structure Xd where
  c : Nat
  fs : List D
/-- an exception's own dict -/
def XRep (K : PySem.W.Frag) (Y : Core) (F H : Hp) (x : Xd) (d : Option Addr) : Prop :=
  if (Y.fn x.c).isEmpty then d = none else ∃ a xs, d = some a ∧ H a = some (.xd ((Y.fn x.c).zip xs)) ∧ (Y.fn x.c).length = xs.length ∧ RepL K Y F xs x.fs
theorem XRep.grow {K : PySem.W.Frag} {Y : Core} {F H F1 H1 : Hp} {x : Xd} {d : Option Addr} (h : XRep K Y F H x d) (e : Ex F F1) (k : ∀ a fs, H a = some (.xd fs) → H1 a = some (.xd fs)) : XRep K Y F1 H1 x d := by
  unfold XRep at h ⊢
  by_cases c : (Y.fn x.c).isEmpty = true
  · rw [if_pos c] at h ⊢
    exact h
  · rw [if_neg c] at h ⊢
    obtain ⟨a, xs, h1, h2, h3, h4⟩ := h
    exact ⟨a, xs, h1, k _ _ h2, h3, h4.mono e⟩

/-! ### a frame's slots -/
inductive Sl where
  | val (d : D)
  | own (ds : List D)
  | ins (c : Nat) (fs : List (Str × D))
  | exv (x : Xd)
abbrev Env := List (Option Sl)

def RepF (K : PySem.W.Frag) (Y : Core) (F : Hp) (xs : List (Str × V)) (fs : List (Str × D)) : Prop := xs.map (·.1) = fs.map (·.1) ∧ RepL K Y F (xs.map (·.2)) (fs.map (·.2))

/-- the slot's value: frozen data; a list of this frame's own; an instance that is being made -/
def RelSl (K : PySem.W.Frag) (Y : Cfg) (H0 F H : Hp) (v : V) : Sl → Prop
  | .val d => Rep K Y F v d
  | .own ds => ∃ p xs, v = .ref p ∧ H0 p = none ∧ F p = none ∧ H p = some (.lst xs) ∧ RepL K Y F xs ds
  | .ins c fs => ∃ dx xs, v = .ref Y.self ∧ H0 Y.self = none ∧ F Y.self = none ∧ H Y.self = some (.ins (Y.cl c) dx xs) ∧ RepF K Y F xs fs
  | .exv x => v = .ref Y.self ∧ x.c = Y.xc ∧ XRep K Y F H x Y.xd
def Sl.mut : Sl → Bool
  | .val _ => false
  | .exv _ => false
  | _ => true

structure Rel (K : PySem.W.Frag) (Y : Cfg) (F0 H0 F : Hp) (σ : L2.St) (H : Hp) (ρ : Env) : Prop where
  gr : Gr F0 H0 F H
  len : ρ.length = σ.length
  sl : ∀ (i : Nat) (s : Sl), ρ[i]? = some (some s) → ∃ v, σ[i]? = some (some v) ∧ RelSl K Y H0 F H v s
  dis : ∀ (i j : Nat) (s t : Sl) (p : Addr), i ≠ j → ρ[i]? = some (some s) → ρ[j]? = some (some t) → s.mut = true → t.mut = true → σ[i]? = some (some (.ref p)) → σ[j]? ≠ some (some (.ref p))
  tb : Tb F0

section
variable {K : PySem.W.Frag} {Y : Cfg} {F0 H0 F F1 H H1 : Hp} {σ : L2.St} {ρ : Env}
theorem RepF.mono {Y : Core} {xs : List (Str × V)} {fs : List (Str × D)} (e : Ex F F1) (h : RepF K Y F xs fs) : RepF K Y F1 xs fs := ⟨h.1, h.2.mono e⟩
theorem RelSl.grow {v : V} {s : Sl} (g : Gr F H F1 H1) (h : RelSl K Y H0 F H v s) : RelSl K Y H0 F1 H1 v s := by
  cases s with
  | val d => exact Rep.mono g.f h
  | own ds =>
    obtain ⟨p, xs, e, a, b, c, r⟩ := h
    exact ⟨p, xs, e, a, (g.old p _ c).trans b, g.h p _ c, r.mono g.f⟩
  | ins c fs =>
    obtain ⟨dx, xs, e, a, b, k, r⟩ := h
    exact ⟨dx, xs, e, a, (g.old _ _ k).trans b, g.h _ _ k, r.mono g.f⟩
  | exv x => exact ⟨h.1, h.2.1, h.2.2.grow g.f fun a fs e => g.h a _ e⟩
theorem Rel.grow (g : Gr F H F1 H1) (h : Rel K Y F0 H0 F σ H ρ) : Rel K Y F0 H0 F1 σ H1 ρ :=
  ⟨h.gr.trans g, h.len, fun i s e => (h.sl i s e).imp fun _ q => ⟨q.1, q.2.grow g⟩, h.dis, h.tb⟩
theorem Rel.tbF (h : Rel K Y F0 H0 F σ H ρ) : Tb F := h.tb.up h.gr.f
theorem Rel.ex (h : Rel K Y F0 H0 F σ H ρ) : Ex F H := h.gr.fh
theorem Rel.val {i : Nat} {d : D} (h : Rel K Y F0 H0 F σ H ρ) (e : ρ[i]? = some (some (.val d))) : ∃ v, σ[i]? = some (some v) ∧ Rep K Y F v d := h.sl i _ e
/-- a slot takes frozen data -/
theorem Rel.set {i : Nat} {v : V} {d : D} (h : Rel K Y F0 H0 F σ H ρ) (r : Rep K Y F v d) : Rel K Y F0 H0 F (σ.set i (some v)) H (ρ.set i (some (.val d))) := by
  refine ⟨h.gr, by simp [h.len], fun j s e => ?_, fun j k s t p hjk ej ek ms mt vj => ?_, h.tb⟩
  · by_cases c : i = j
    · subst c
      have hi : i < ρ.length := by
        rcases Nat.lt_or_ge i ρ.length with q | q
        · exact q
        · rw [List.getElem?_eq_none (by simpa using q)] at e; cases e
      rw [List.getElem?_set_self hi] at e; cases e
      exact ⟨v, List.getElem?_set_self (by rw [← h.len]; exact hi), r⟩
    · rw [List.getElem?_set_ne c] at e ⊢
      exact h.sl j s e
  · have nj : i ≠ j := fun c => by
      subst c
      have hi : i < ρ.length := by
        rcases Nat.lt_or_ge i ρ.length with q | q
        · exact q
        · rw [List.getElem?_eq_none (by simpa using q)] at ej; cases ej
      rw [List.getElem?_set_self hi] at ej; cases ej; cases ms
    have nk : i ≠ k := fun c => by
      subst c
      have hi : i < ρ.length := by
        rcases Nat.lt_or_ge i ρ.length with q | q
        · exact q
        · rw [List.getElem?_eq_none (by simpa using q)] at ek; cases ek
      rw [List.getElem?_set_self hi] at ek; cases ek; cases mt
    rw [List.getElem?_set_ne nj] at ej vj
    rw [List.getElem?_set_ne nk] at ek ⊢
    exact h.dis j k s t p hjk ej ek ms mt vj
/-- a slot takes a new list of the frame's own, which is not told -/
theorem Rel.setOwn {i : Nat} {p : Addr} {xs : List V} {ds : List D} (h : Rel K Y F0 H0 F σ H ρ) (hp : H p = none) (r : RepL K Y F xs ds) :
    Rel K Y F0 H0 F (σ.set i (some (.ref p))) (upd H p (.lst xs)) (ρ.set i (some (.own ds))) := by
  have g : Gr F H F (upd H p (.lst xs)) := Gr.heap h.ex (Ex.new hp)
  have h1 := h.grow g
  have fp : F p = none := fresh_back h.ex hp
  have hp0 : H0 p = none := fresh_back h.gr.h hp
  have other : ∀ (j : Nat) (s : Sl), i ≠ j → ρ[j]? = some (some s) → s.mut = true → σ[j]? ≠ some (some (.ref p)) := fun j s _ ej ms z => by
    obtain ⟨v, e1, q⟩ := h.sl j s ej
    rw [z] at e1; cases e1
    cases s with
    | val d => cases ms
    | own es => obtain ⟨p', xs', e, _, _, c, _⟩ := q; cases e; rw [hp] at c; cases c
    | ins c fs => obtain ⟨dx, xs', e, _, _, c, _⟩ := q; cases e; rw [hp] at c; cases c
    | exv x => cases ms
  have lt : ∀ {s : Sl}, (ρ.set i (some (.own ds)))[i]? = some (some s) → i < ρ.length := fun {s} e => by
    rcases Nat.lt_or_ge i ρ.length with q | q
    · exact q
    · rw [List.getElem?_eq_none (by simpa using q)] at e; cases e
  refine ⟨h1.gr, by simp [h.len], fun j s e => ?_, fun j k s t p' hjk ej ek ms mt vj => ?_, h.tb⟩
  · by_cases c : i = j
    · subst c
      have hi := lt e
      rw [List.getElem?_set_self hi] at e; cases e
      exact ⟨.ref p, List.getElem?_set_self (by rw [← h.len]; exact hi), p, xs, rfl, hp0, fp, upd_same, r⟩
    · rw [List.getElem?_set_ne c] at e ⊢
      exact h1.sl j s e
  · by_cases cj : i = j
    · subst cj
      have hi := lt ej
      rw [List.getElem?_set_self (by rw [← h.len]; exact hi)] at vj; cases vj
      rw [List.getElem?_set_ne hjk] at ek ⊢
      exact other k t hjk ek mt
    · rw [List.getElem?_set_ne cj] at ej vj
      by_cases ck : i = k
      · subst ck
        have hi := lt ek
        rw [List.getElem?_set_self (by rw [← h.len]; exact hi)]
        intro z; cases z
        exact other j s cj ej ms vj
      · rw [List.getElem?_set_ne ck] at ek ⊢
        exact h.dis j k s t p' hjk ej ek ms mt vj
/-- an own list changes -/
theorem Rel.change {i : Nat} {p : Addr} {s s' : Sl} {o : HO} (h : Rel K Y F0 H0 F σ H ρ) (ei : ρ[i]? = some (some s)) (ms : s.mut = true) (vi : σ[i]? = some (some (.ref p)))
    (h0 : H0 p = none) (fp : F p = none) (ho : ∀ a fs, H a = some (.xd fs) → a ≠ p) (new : RelSl K Y H0 F (upd H p o) (.ref p) s') (ms' : s'.mut = true) : Rel K Y F0 H0 F σ (upd H p o) (ρ.set i (some s')) := by
  have hc : ∀ q, H p ≠ some (LamX.CodeO p q) := by
    obtain ⟨v, e1, r⟩ := h.sl i s ei
    rw [vi] at e1
    cases e1
    cases s with
    | val d => cases ms
    | own es => obtain ⟨p', xs', e, _, _, c, _⟩ := r; cases e; exact noCode c fun _ z => nomatch z
    | ins c fs => obtain ⟨dx, xs', e, _, _, c, _⟩ := r; cases e; exact noCode c fun _ z => nomatch z
    | exv x => cases ms
  have fh : Ex F (upd H p o) := h.ex.mut fp hc
  have hi : i < ρ.length := (List.getElem?_eq_some_iff.mp ei).1
  refine ⟨⟨h.gr.f, fh, h.gr.h.mut h0 hc, h.gr.old⟩, by simp [h.len], fun j t e => ?_, fun j k t t' q hjk ej ek mt mt' vj => ?_, h.tb⟩
  · by_cases c : i = j
    · subst c
      rw [List.getElem?_set_self hi] at e; cases e
      exact ⟨.ref p, vi, new⟩
    · rw [List.getElem?_set_ne c] at e
      obtain ⟨v, e1, q⟩ := h.sl j t e
      refine ⟨v, e1, ?_⟩
      cases t with
      | val d => exact q
      | own es =>
        obtain ⟨p', xs', rfl, a, b, c', r⟩ := q
        refine ⟨p', xs', rfl, a, b, ?_, r⟩
        rw [upd_ne]; exact c'
        intro z; subst z; exact h.dis i j s _ _ c ei e ms rfl vi e1
      | ins c2 fs =>
        obtain ⟨dx, xs', rfl, a, b, c', r⟩ := q
        refine ⟨dx, xs', rfl, a, b, ?_, r⟩
        rw [upd_ne]; exact c'
        intro z; rw [← z] at vi; exact h.dis i j s _ _ c ei e ms rfl vi e1
      | exv x => exact ⟨q.1, q.2.1, q.2.2.grow (Ex.refl F) fun a fs e => by rw [upd_ne (ho a fs e)]; exact e⟩
  · have fix : ∀ (j : Nat) (t : Sl), (ρ.set i (some s'))[j]? = some (some t) → t.mut = true → ∃ t0, ρ[j]? = some (some t0) ∧ t0.mut = true := fun j t e m => by
      by_cases c : i = j
      · subst c; exact ⟨s, ei, ms⟩
      · rw [List.getElem?_set_ne c] at e; exact ⟨t, e, m⟩
    obtain ⟨t0, a0, b0⟩ := fix j t ej mt
    obtain ⟨t1, a1, b1⟩ := fix k t' ek mt'
    exact h.dis j k t0 t1 q hjk a0 a1 b0 b1 vj
/-- an own list is frozen: from here on it is told -/
theorem Rel.freeze {i : Nat} {ds : List D} (h : Rel K Y F0 H0 F σ H ρ) (ei : ρ[i]? = some (some (.own ds))) : ∃ F', Ex F F' ∧ Rel K Y F0 H0 F' σ H (ρ.set i (some (.val (.lst ds)))) := by
  have hi : i < ρ.length := (List.getElem?_eq_some_iff.mp ei).1
  obtain ⟨v, vi, p, xs, rfl, h0, fp, hp, r⟩ := h.sl i _ ei
  have e : Ex F (upd F p (.lst xs)) := Ex.new fp
  refine ⟨upd F p (.lst xs), e, ⟨h.gr.f.trans e, fun a u q => ?_, h.gr.h, fun a u q => ?_⟩, by simp [h.len], fun j s q => ?_, fun j k s t p' hjk ej ek ms mt vj => ?_, h.tb⟩
  · by_cases c : a = p
    · subst c; rw [upd_same] at q; cases q; exact hp
    · rw [upd_ne c] at q; exact h.ex a u q
  · rw [upd_ne (ne_of_none q h0)]; exact h.gr.old a u q
  · by_cases c : i = j
    · subst c
      rw [List.getElem?_set_self hi] at q; cases q
      exact ⟨_, vi, .lst (SqL.of upd_same) (r.mono e)⟩
    · rw [List.getElem?_set_ne c] at q
      obtain ⟨v, e1, z⟩ := h.sl j s q
      refine ⟨v, e1, ?_⟩
      cases s with
      | val d => exact Rep.mono e z
      | own es =>
        obtain ⟨p', xs', rfl, a, b, c', r'⟩ := z
        refine ⟨p', xs', rfl, a, ?_, c', r'.mono e⟩
        rw [upd_ne]; exact b
        intro z; subst z; exact h.dis i j _ _ _ c ei q rfl rfl vi e1
      | ins c2 fs =>
        obtain ⟨dx, xs', rfl, a, b, c', r'⟩ := z
        refine ⟨dx, xs', rfl, a, ?_, c', r'.mono e⟩
        rw [upd_ne]; exact b
        intro z; rw [← z] at vi; exact h.dis i j _ _ _ c ei q rfl rfl vi e1
      | exv x => exact ⟨z.1, z.2.1, z.2.2.grow e fun a fs e => e⟩
  · have nj : i ≠ j := fun c => by subst c; rw [List.getElem?_set_self hi] at ej; cases ej; cases ms
    have nk : i ≠ k := fun c => by subst c; rw [List.getElem?_set_self hi] at ek; cases ek; cases mt
    rw [List.getElem?_set_ne nj] at ej
    rw [List.getElem?_set_ne nk] at ek
    exact h.dis j k s t p' hjk ej ek ms mt vj
end
end Den
set_option Elab.async false
set_option linter.all false
set_option maxRecDepth 100000
set_option maxHeartbeats 4000000
namespace Den
open PySem L2
variable [Named]

inductive R where
  | ok (d : D)
  | exc (x : Xd)
abbrev M := Option R
def bd (m : M) (f : D → M) : M := match m with
  | some (.ok d) => f d
  | some (.exc x) => some (.exc x)
  | none => none
def lift (o : Option D) : M := match o with
  | some d => some (.ok d)
  | none => none
/-- an argument list -/
inductive RL where
  | ok (ds : List D)
  | exc (x : Xd)
abbrev ML := Option RL
def bdL (m : ML) (f : List D → M) : M := match m with
  | some (.ok ds) => f ds
  | some (.exc x) => some (.exc x)
  | none => none
def consL (m : M) (ms : ML) : ML := match m with
  | some (.ok d) => match ms with
    | some (.ok ds) => some (.ok (d :: ds))
    | some (.exc x) => some (.exc x)
    | none => none
  | some (.exc x) => some (.exc x)
  | none => none

section
variable (Y : Cfg) (X : Cx) (W : WX)
/-- what is wanted behind an expression -/
def WantE (K : PySem.W.Frag) (F : Hp) (σ : L2.St) (H : Hp) (r : R) (Q : VK) : Prop := match r with
  | .ok d => ∀ v F' H', Gr F H F' H' → Rep K Y F' v d → Q v H'
  | .exc x => ∀ F' H' dx, Gr F H F' H' → XRep K Y F' H' x dx → W (.ref (Y.cl x.c)) dx σ H'
def SatE (K : PySem.W.Frag) (t : TE) (ρ : Env) (r : R) : Prop := ∀ F0 H0 F σ H, Rel K Y F0 H0 F σ H ρ → ∀ Q : VK, WantE Y W K F σ H r Q → t σ H Q
def GE (e : Expr) (m : Env → M) : Prop := ∃ t, PE X e t ∧ ∀ ρ r, m ρ = some r → SatE Y W X.K t ρ r
/-- a test -/
def WantT (K : PySem.W.Frag) (F : Hp) (σ : L2.St) (H : Hp) (r : R) (Q : Bool → Hp → Prop) : Prop := match r with
  | .ok d => ∀ b, d = .bl b → ∀ F' H', Gr F H F' H' → Q b H'
  | .exc x => ∀ F' H' dx, Gr F H F' H' → XRep K Y F' H' x dx → W (.ref (Y.cl x.c)) dx σ H'
def SatT (K : PySem.W.Frag) (t : TT) (ρ : Env) (r : R) : Prop := ∀ F0 H0 F σ H, Rel K Y F0 H0 F σ H ρ → ∀ Q : Bool → Hp → Prop, WantT Y W K F σ H r Q → t σ H Q
/-- a test's answer is a bool: others are no answer -/
def isB (m : M) : M := bd m fun d => match d with
  | .bl b => some (.ok (.bl b))
  | _ => none
def GT (e : Expr) (m : Env → M) : Prop := ∃ t, PT X e t ∧ ∀ ρ r, m ρ = some r → SatT Y W X.K t ρ r
def GW (e : Expr) (m : Env → M) : Prop := ∃ t, PW X e t ∧ ∀ ρ r, m ρ = some r → SatT Y W X.K t ρ r
/-- arguments -/
def WantA (K : PySem.W.Frag) (F : Hp) (σ : L2.St) (H : Hp) (r : RL) (Q : List V → Hp → Prop) : Prop := match r with
  | .ok ds => ∀ vs F' H', Gr F H F' H' → RepL K Y F' vs ds → Q vs H'
  | .exc x => ∀ F' H' dx, Gr F H F' H' → XRep K Y F' H' x dx → W (.ref (Y.cl x.c)) dx σ H'
def SatA (K : PySem.W.Frag) (t : TA) (ρ : Env) (r : RL) : Prop := ∀ F0 H0 F σ H, Rel K Y F0 H0 F σ H ρ → ∀ Q : List V → Hp → Prop, WantA Y W K F σ H r Q → t σ H Q
def GA (es : List Expr) (m : Env → ML) : Prop := ∃ t, PA X es t ∧ ∀ ρ r, m ρ = some r → SatA Y W X.K t ρ r
end

section
variable {Y : Cfg} {X : Cx} {W : WX} {K : PySem.W.Frag} {a b c e : Expr} {es : List Expr} {ma mb mc : Env → M} {pos : Pos}
theorem WantE.ok {F : Hp} {σ : L2.St} {H : Hp} {d : D} {Q : VK} (h : WantE Y W K F σ H (.ok d) Q) {v : V} {F' H' : Hp} (g : Gr F H F' H') (r : Rep K Y F' v d) : Q v H' := h v F' H' g r
theorem WantE.exc {F F1 : Hp} {σ : L2.St} {H H1 : Hp} {x : Xd} {Q Q' : VK} (h : WantE Y W K F σ H (.exc x) Q) (g : Gr F H F1 H1) : WantE Y W K F1 σ H1 (.exc x) Q' := fun F' H' dx g' r => h F' H' dx (g.trans g') r
theorem WantE.grow {F F1 : Hp} {σ : L2.St} {H H1 : Hp} {r : R} {Q : VK} (h : WantE Y W K F σ H r Q) (g : Gr F H F1 H1) : WantE Y W K F1 σ H1 r Q := by
  cases r with
  | ok d => exact fun v F' H' g' q => h v F' H' (g.trans g') q
  | exc x => exact fun F' H' dx g' q => h F' H' dx (g.trans g') q
/-- first one expression, then what hangs on its data -/
theorem bd_some {m : M} {f : D → M} {r : R} (h : bd m f = some r) : (∃ d, m = some (.ok d) ∧ f d = some r) ∨ ∃ x, m = some (.exc x) ∧ r = .exc x := by
  unfold bd at h
  split at h
  · exact .inl ⟨_, rfl, h⟩
  · cases h; exact .inr ⟨_, rfl, rfl⟩
  · cases h
theorem lift_some {o : Option D} {r : R} (h : lift o = some r) : ∃ d, o = some d ∧ r = .ok d := by
  unfold lift at h
  split at h
  · cases h; exact ⟨_, rfl, rfl⟩
  · cases h

/-! ### names and constants -/
def dVar (i : Nat) : Env → M := fun ρ => match ρ[i]? with
  | some (some (.val d)) => some (.ok d)
  | _ => none
theorem ge_var (i : Nat) {x : Str} (hN : X.N[i]? = some x := by rfl) (hv : Vis X.env.scope x := by first | exact Or.inl rfl | exact Or.inr (Or.inl rfl) | exact Or.inr (Or.inr rfl)) (hd : (x == ("__debug__" : Str)) = false := by decide)
    (hcd : (x == ("__classdict__" : Str)) = false := by decide) : GE Y X W (.Name x pos) (dVar i) := by
  refine ⟨_, pe_var hN hv hd hcd, fun ρ r h F0 H0 F σ H R Q w => ?_⟩
  unfold dVar at h
  split at h
  · rename_i d e
    cases h
    obtain ⟨v, hv, q⟩ := R.val e
    exact ⟨v, hv, w v F H (Gr.refl R.ex) q⟩
  · cases h
def dC (d : D) : Env → M := fun _ => some (.ok d)
theorem ge_c {v : V} {d : D} (h : PE X e (tC v)) (r : ∀ F, Rep X.K Y F v d) : GE Y X W e (dC d) := ⟨_, h, fun ρ r' q F0 H0 F σ H R Q w => by
  cases q
  exact w v F H (Gr.refl R.ex) (r F)⟩
theorem ge_int {i j} : GE Y X W (.Constant (.int i) j pos) (dC (.int i)) := ge_c pe_int fun _ => .int i
theorem ge_bl {b j} : GE Y X W (.Constant (.bool b) j pos) (dC (.bl b)) := ge_c pe_bl fun _ => .bl b
theorem ge_non {j} : GE Y X W (.Constant .none j pos) (dC .non) := ge_c pe_non fun _ => .non
theorem ge_str {x j} : GE Y X W (.Constant (.str x) j pos) (dC (.str x)) := ge_c pe_str fun _ => .str x
/-- a name of the module that holds data -/
theorem ge_glob {x : Str} {v : V} {u : Value} {d : D} (hg : Gl X x) (hm : X.mg x = some u) (r : RelV v u) (q : ∀ F, Rep X.K Y F v d) (hd : (x == ("__debug__" : Str)) = false := by decide) : GE Y X W (.Name x pos) (dC d) := ge_c (pe_glob hg hm r hd) q

/-! ### operators on data -/
/-- from data to data, whatever stands there -/
def rD (Y : Core) (K : PySem.W.Frag) (g : D → D → Option D) : R2 := fun x y H Q => ∃ F d e z, Ex F H ∧ Rep K Y F x d ∧ Rep K Y F y e ∧ g d e = some z ∧ ∀ v F' H', Gr F H F' H' → Rep K Y F' v z → Q v H'
def OpD (Y : Core) (X : Cx) (f : Value → Value → Sem Value) (g : D → D → Option D) : Prop := OpR X f (rD Y X.K g)
def dOp (g : D → D → Option D) (ma mb : Env → M) : Env → M := fun ρ => bd (ma ρ) fun x => bd (mb ρ) fun y => lift (g x y)
theorem sat_op {g : D → D → Option D} {ta tb : TE} {ρ : Env} (ha : ∀ ρ r, ma ρ = some r → SatE Y W K ta ρ r) (hb : ∀ ρ r, mb ρ = some r → SatE Y W K tb ρ r) : ∀ r, dOp g ma mb ρ = some r → SatE Y W K (tOp (rD Y K g) ta tb) ρ r := by
  intro r h F0 H0 F σ H R Q w
  rcases bd_some h with ⟨d, e1, h⟩ | ⟨x, e1, rfl⟩
  · refine ha ρ _ e1 F0 H0 F σ H R _ fun v F1 H1 g1 q1 => ?_
    rcases bd_some h with ⟨d2, e2, h⟩ | ⟨x, e2, rfl⟩
    · refine hb ρ _ e2 F0 H0 F1 σ H1 (R.grow g1) _ fun u F2 H2 g2 q2 => ?_
      obtain ⟨z, e3, rfl⟩ := lift_some h
      exact ⟨F2, d, d2, z, g2.fh, q1.mono g2.f, q2, e3, fun v' F' H' g3 q3 => w v' F' H' ((g1.trans g2).trans g3) q3⟩
    · exact hb ρ _ e2 F0 H0 F1 σ H1 (R.grow g1) _ (w.exc g1)
  · exact ha ρ _ e1 F0 H0 F σ H R _ (w.exc (Gr.refl R.ex))
theorem ge_op {op : Operator} {g : D → D → Option D} (ho : OpD Y X (binaryOp op) g) (ha : GE Y X W a ma) (hb : GE Y X W b mb) : GE Y X W (.BinOp a op b pos) (dOp g ma mb) := by
  obtain ⟨ta, pa, sa⟩ := ha
  obtain ⟨tb, pb, sb⟩ := hb
  exact ⟨_, pe_op ho pa pb, fun ρ r h => sat_op sa sb r h⟩
theorem ge_cmp {op : CmpOp} {g : D → D → Option D} (ho : OpD Y X (compareOp op) g) (ha : GE Y X W a ma) (hb : GE Y X W b mb) (hm : behindInMarks op b = false := by first | exact nobehind _ (by decide) (by decide) | rfl) : GE Y X W (.Compare a [op] [b] pos) (dOp g ma mb) := by
  obtain ⟨ta, pa, sa⟩ := ha
  obtain ⟨tb, pb, sb⟩ := hb
  exact ⟨_, pe_cmpR ho pa pb hm, fun ρ r h => sat_op sa sb r h⟩
/-- a test by an expression whose value is a bool -/
def tst (m : Env → M) : Env → M := fun ρ => isB (m ρ)
theorem isB_some {m : M} {r : R} (h : isB m = some r) : (∃ b, m = some (.ok (.bl b)) ∧ r = .ok (.bl b)) ∨ ∃ x, m = some (.exc x) ∧ r = .exc x := by
  rcases bd_some h with ⟨d, e1, h⟩ | h
  · split at h
    · cases h; exact .inl ⟨_, e1, rfl⟩
    · cases h
  · exact .inr h
theorem SatE.test {t : TE} {ρ : Env} (h : ∀ r, ma ρ = some r → SatE Y W K t ρ r) : ∀ r, tst ma ρ = some r → SatT Y W K (tB t) ρ r := by
  intro r e F0 H0 F σ H R Q w
  rcases isB_some e with ⟨b, e1, rfl⟩ | ⟨x, e1, rfl⟩
  · refine h _ e1 F0 H0 F σ H R _ fun v F' H' g q => ?_
    cases q
    exact ⟨b, rfl, w b rfl F' H' g⟩
  · exact h _ e1 F0 H0 F σ H R _ w
theorem gt_val (h : GE Y X W e ma) (he : ∀ whole, isTrue e X.env whole = (do let v ← whole; standAt e.pos; holding [v] (truthy v)) := by intro _; rfl) : GT Y X W e (tst ma) := by
  obtain ⟨t, p, q⟩ := h
  exact ⟨_, pt_val p he, fun ρ r h => SatE.test (q ρ) r h⟩
theorem gt_cmp {op : CmpOp} {g : D → D → Option D} (ho : OpD Y X (compareOp op) g) (ha : GE Y X W a ma) (hb : GE Y X W b mb) (hm : behindInMarks op b = false := by first | exact nobehind _ (by decide) (by decide) | rfl) : GT Y X W (.Compare a [op] [b] pos) (tst (dOp g ma mb)) := by
  obtain ⟨ta, pa, sa⟩ := ha
  obtain ⟨tb, pb, sb⟩ := hb
  exact ⟨_, pt_cmpR ho pa pb hm, fun ρ r h => SatE.test (sat_op sa sb) r h⟩
/-- a value's truth -/
def truD (d : D) : Option D := match d with
  | .non => some (.bl false)
  | .bl b => some (.bl b)
  | .int i => some (.bl (i != 0))
  | .str y => if y.length ≤ sizeLine then some (.bl ((y.length : Int) != 0)) else none
  | .lst ds => some (.bl (!ds.isEmpty))
  | .tup ds => some (.bl (!ds.isEmpty))
  | .dic ks ds => if ks.length = ds.length then some (.bl (!ks.isEmpty)) else none
  | _ => none
def tru (m : Env → M) : Env → M := fun ρ => bd (m ρ) fun d => lift (truD d)
theorem empty_len {α β : Type} {xs : List α} {ys : List β} (h : xs.length = ys.length) : (!xs.isEmpty) = !ys.isEmpty := by
  cases xs <;> cases ys <;> simp at h ⊢
theorem tru_sat {d z : D} {v : V} {F H : Hp} (e : Ex F H) (h : Rep K Y F v d) (t : truD d = some z) : ∃ b, z = .bl b ∧ TruV K v H b := by
  cases h with
  | non => cases t; exact ⟨_, rfl, rfl⟩
  | bl b => cases t; exact ⟨_, rfl, rfl⟩
  | int i => cases t; exact ⟨_, rfl, rfl⟩
  | str x =>
    simp only [truD] at t
    split at t
    · rename_i hz
      cases t; exact ⟨_, rfl, hz, rfl⟩
    · cases t
  | tup a r => cases t; exact ⟨_, rfl, .inr (.inl ⟨_, ex_t e a, (empty_len r.len).symm⟩)⟩
  | lst a r => cases t; exact ⟨_, rfl, .inl ⟨_, (ex_l e a), (empty_len r.len).symm⟩⟩
  | dic a l r =>
    simp only [truD] at t
    split at t
    · cases t; exact ⟨_, rfl, .inr (.inr ⟨_, e _ _ a, empty_len (by simp [l])⟩)⟩
    · cases t
  | obj a l r => cases t
theorem gt_tru (h : GE Y X W e ma) (he : ∀ whole, isTrue e X.env whole = (do let v ← whole; standAt e.pos; holding [v] (truthy v)) := by intro _; rfl) : GT Y X W e (tru ma) := by
  obtain ⟨t, p, q⟩ := h
  refine ⟨_, pt_truth p he, fun ρ r h F0 H0 F σ H R Q w => ?_⟩
  rcases bd_some h with ⟨d, e1, h⟩ | ⟨x, e1, rfl⟩
  · obtain ⟨z, e2, rfl⟩ := lift_some h
    refine q ρ _ e1 F0 H0 F σ H R _ fun v F' H' g r => ?_
    obtain ⟨b, rfl, tv⟩ := tru_sat g.fh r e2
    exact ⟨b, tv, w b rfl F' H' g⟩
  · exact q ρ _ e1 F0 H0 F σ H R _ w

/-! ### and, or, not as tests -/
def dAnd (ma mb : Env → M) : Env → M := fun ρ => bd (ma ρ) fun x => match x with
  | .bl true => mb ρ
  | .bl false => some (.ok (.bl false))
  | _ => none
def dOr (ma mb : Env → M) : Env → M := fun ρ => bd (ma ρ) fun x => match x with
  | .bl false => mb ρ
  | .bl true => some (.ok (.bl true))
  | _ => none
def dNot (ma : Env → M) : Env → M := fun ρ => bd (ma ρ) fun x => match x with
  | .bl b => some (.ok (.bl (!b)))
  | _ => none
theorem WantT.grow {F F1 : Hp} {σ : L2.St} {H H1 : Hp} {r : R} {Q : Bool → Hp → Prop} (h : WantT Y W K F σ H r Q) (g : Gr F H F1 H1) : WantT Y W K F1 σ H1 r Q := by
  cases r with
  | ok d => exact fun b e F' H' g' => h b e F' H' (g.trans g')
  | exc x => exact fun F' H' dx g' q => h F' H' dx (g.trans g') q
theorem GW.pt (h : GW Y X W e ma) : GT Y X W e ma := by
  obtain ⟨t, p, q⟩ := h
  exact ⟨t, p.pt, q⟩
theorem gw_and1 (h : GT Y X W a ma) : GW Y X W (.BoolOp .And [a] pos) ma := by
  obtain ⟨t, p, q⟩ := h
  exact ⟨t, pw_and1 p, q⟩
theorem gw_or1 (h : GT Y X W a ma) : GW Y X W (.BoolOp .Or [a] pos) ma := by
  obtain ⟨t, p, q⟩ := h
  exact ⟨t, pw_or1 p, q⟩
theorem gw_and {rest : List Expr} (ha : GT Y X W a ma) (hb : GW Y X W (.BoolOp .And (b :: rest) pos) mb) : GW Y X W (.BoolOp .And (a :: b :: rest) pos) (dAnd ma mb) := by
  obtain ⟨t, p, q⟩ := ha
  obtain ⟨t2, p2, q2⟩ := hb
  refine ⟨_, pw_and p p2, fun ρ r h F0 H0 F σ H R Q w => ?_⟩
  rcases bd_some h with ⟨d, e1, h⟩ | ⟨x, e1, rfl⟩
  · refine q ρ _ e1 F0 H0 F σ H R _ fun b eb F' H' g => ?_
    subst eb
    cases b with
    | true => exact iteT (q2 ρ r h F0 H0 F' σ H' (R.grow g) Q (w.grow g))
    | false =>
      cases h
      exact iteF (w false rfl F' H' g)
  · exact q ρ _ e1 F0 H0 F σ H R _ w
theorem gw_or {rest : List Expr} (ha : GT Y X W a ma) (hb : GW Y X W (.BoolOp .Or (b :: rest) pos) mb) : GW Y X W (.BoolOp .Or (a :: b :: rest) pos) (dOr ma mb) := by
  obtain ⟨t, p, q⟩ := ha
  obtain ⟨t2, p2, q2⟩ := hb
  refine ⟨_, pw_or p p2, fun ρ r h F0 H0 F σ H R Q w => ?_⟩
  rcases bd_some h with ⟨d, e1, h⟩ | ⟨x, e1, rfl⟩
  · refine q ρ _ e1 F0 H0 F σ H R _ fun b eb F' H' g => ?_
    subst eb
    cases b with
    | false => exact iteF (q2 ρ r h F0 H0 F' σ H' (R.grow g) Q (w.grow g))
    | true =>
      cases h
      exact iteT (w true rfl F' H' g)
  · exact q ρ _ e1 F0 H0 F σ H R _ w
theorem gt_not (ha : GT Y X W a ma) : GT Y X W (.UnaryOp .Not a pos) (dNot ma) := by
  obtain ⟨t, p, q⟩ := ha
  refine ⟨_, pt_not p, fun ρ r h F0 H0 F σ H R Q w => ?_⟩
  rcases bd_some h with ⟨d, e1, h⟩ | ⟨x, e1, rfl⟩
  · refine q ρ _ e1 F0 H0 F σ H R _ fun b eb F' H' g => ?_
    subst eb
    cases h
    exact w (!b) rfl F' H' g
  · exact q ρ _ e1 F0 H0 F σ H R _ w

/-! ### and, or, not as values; a if t else b -/
theorem ge_one {op} (h : GE Y X W a ma) : GE Y X W (.BoolOp op [a] pos) ma := by
  obtain ⟨t, p, q⟩ := h
  exact ⟨t, pe_one p, q⟩
theorem ge_and {rest : List Expr} (ha : GE Y X W a ma) (hb : GE Y X W (.BoolOp .And (b :: rest) pos) mb) : GE Y X W (.BoolOp .And (a :: b :: rest) pos) (dAnd ma mb) := by
  obtain ⟨t, p, q⟩ := ha
  obtain ⟨t2, p2, q2⟩ := hb
  refine ⟨_, pe_and p p2, fun ρ r h F0 H0 F σ H R Q w => ?_⟩
  rcases bd_some h with ⟨d, e1, h⟩ | ⟨x, e1, rfl⟩
  · refine q ρ _ e1 F0 H0 F σ H R _ fun v F' H' g rv => ?_
    split at h
    · cases rv
      exact ⟨true, rfl, iteT (q2 ρ r h F0 H0 F' σ H' (R.grow g) Q (w.grow g))⟩
    · cases rv; cases h
      exact ⟨false, rfl, iteF (w _ F' H' g (.bl false))⟩
    · cases h
  · exact q ρ _ e1 F0 H0 F σ H R _ w
theorem ge_or {rest : List Expr} (ha : GE Y X W a ma) (hb : GE Y X W (.BoolOp .Or (b :: rest) pos) mb) : GE Y X W (.BoolOp .Or (a :: b :: rest) pos) (dOr ma mb) := by
  obtain ⟨t, p, q⟩ := ha
  obtain ⟨t2, p2, q2⟩ := hb
  refine ⟨_, pe_or p p2, fun ρ r h F0 H0 F σ H R Q w => ?_⟩
  rcases bd_some h with ⟨d, e1, h⟩ | ⟨x, e1, rfl⟩
  · refine q ρ _ e1 F0 H0 F σ H R _ fun v F' H' g rv => ?_
    split at h
    · cases rv
      exact ⟨false, rfl, iteF (q2 ρ r h F0 H0 F' σ H' (R.grow g) Q (w.grow g))⟩
    · cases rv; cases h
      exact ⟨true, rfl, iteT (w _ F' H' g (.bl true))⟩
    · cases h
  · exact q ρ _ e1 F0 H0 F σ H R _ w
theorem ge_not (ha : GE Y X W a ma) : GE Y X W (.UnaryOp .Not a pos) (dNot ma) := by
  obtain ⟨t, p, q⟩ := ha
  refine ⟨_, pe_not p, fun ρ r h F0 H0 F σ H R Q w => ?_⟩
  rcases bd_some h with ⟨d, e1, h⟩ | ⟨x, e1, rfl⟩
  · refine q ρ _ e1 F0 H0 F σ H R _ fun v F' H' g rv => ?_
    split at h
    · cases rv; cases h
      exact ⟨_, rfl, w _ F' H' g (.bl _)⟩
    · cases h
  · exact q ρ _ e1 F0 H0 F σ H R _ w
def dIf (mc ma mb : Env → M) : Env → M := fun ρ => bd (mc ρ) fun x => match x with
  | .bl true => ma ρ
  | .bl false => mb ρ
  | _ => none
theorem ge_if (hc : GT Y X W c mc) (ha : GE Y X W a ma) (hb : GE Y X W b mb) : GE Y X W (.IfExp c a b pos) (dIf mc ma mb) := by
  obtain ⟨t, p, q⟩ := hc
  obtain ⟨t1, p1, q1⟩ := ha
  obtain ⟨t2, p2, q2⟩ := hb
  refine ⟨_, pe_ifExp p p1 p2, fun ρ r h F0 H0 F σ H R Q w => ?_⟩
  rcases bd_some h with ⟨d, e1, h⟩ | ⟨x, e1, rfl⟩
  · refine q ρ _ e1 F0 H0 F σ H R _ fun b eb F' H' g => ?_
    subst eb
    cases b with
    | true => exact iteT (q1 ρ r h F0 H0 F' σ H' (R.grow g) Q (w.grow g))
    | false => exact iteF (q2 ρ r h F0 H0 F' σ H' (R.grow g) Q (w.grow g))
  · exact q ρ _ e1 F0 H0 F σ H R _ w

/-! ### a < b < c -/
def dChain (g g' : D → D → Option D) (ma mb mc : Env → M) : Env → M := fun ρ => bd (ma ρ) fun x => bd (mb ρ) fun y => bd (lift (g x y)) fun z => match z with
  | .bl true => bd (mc ρ) fun u => bd (lift (g' y u)) fun z' => match z' with
    | .bl k => some (.ok (.bl k))
    | _ => none
  | .bl false => some (.ok (.bl false))
  | _ => none
/-! ### arguments -/
theorem WantA.grow {F F1 : Hp} {σ : L2.St} {H H1 : Hp} {r : RL} {Q : List V → Hp → Prop} (h : WantA Y W K F σ H r Q) (g : Gr F H F1 H1) : WantA Y W K F1 σ H1 r Q := by
  cases r with
  | ok d => exact fun v F' H' g' q => h v F' H' (g.trans g') q
  | exc x => exact fun F' H' dx g' q => h F' H' dx (g.trans g') q
def dNil : Env → ML := fun _ => some (.ok [])
def dCons (m : Env → M) (ms : Env → ML) : Env → ML := fun ρ => consL (m ρ) (ms ρ)
theorem ga_nil : GA Y X W [] dNil := ⟨_, pa_nil, fun ρ r h F0 H0 F σ H R Q w => by
  cases h
  exact w [] F H (Gr.refl R.ex) .nil⟩
theorem ga_cons {ms : Env → ML} (ha : GE Y X W e ma) (hr : GA Y X W es ms) (hs : starEach (e :: es) X.env = (false, eval e X.env) :: starEach es X.env := by rfl) : GA Y X W (e :: es) (dCons ma ms) := by
  obtain ⟨t, p, q⟩ := ha
  obtain ⟨t2, p2, q2⟩ := hr
  refine ⟨_, pa_cons p p2 hs, fun ρ r h F0 H0 F σ H R Q w => ?_⟩
  unfold dCons consL at h
  split at h
  · rename_i d e1
    refine q ρ _ e1 F0 H0 F σ H R _ fun v F' H' g rv => ?_
    split at h
    · rename_i ds e2
      cases h
      exact q2 ρ _ e2 F0 H0 F' σ H' (R.grow g) _ fun vs F2 H2 g2 rs => w _ F2 H2 (g.trans g2) (.cons (rv.mono g2.f) rs)
    · rename_i x e2
      cases h
      exact q2 ρ _ e2 F0 H0 F' σ H' (R.grow g) _ fun F2 H2 dx g2 xr => w F2 H2 dx (g.trans g2) xr
    · cases h
  · rename_i x e1
    cases h
    exact q ρ _ e1 F0 H0 F σ H R _ w
  · cases h
theorem bdL_some {m : ML} {f : List D → M} {r : R} (h : bdL m f = some r) : (∃ d, m = some (.ok d) ∧ f d = some r) ∨ ∃ x, m = some (.exc x) ∧ r = .exc x := by
  unfold bdL at h
  split at h
  · exact .inl ⟨_, rfl, h⟩
  · cases h; exact .inr ⟨_, rfl, rfl⟩
  · cases h
/-- (a, b, ..), [a, b, ..] -/
def dTup (ms : Env → ML) : Env → M := fun ρ => bdL (ms ρ) fun ds => if ds.length ≤ sizeLine then some (.ok (.tup ds)) else none
def dLst (ms : Env → ML) : Env → M := fun ρ => bdL (ms ρ) fun ds => if ds.length ≤ sizeLine then some (.ok (.lst ds)) else none
theorem ge_tup {ms : Env → ML} {k} (h : GA Y X W es ms) : GE Y X W (.Tuple es k pos) (dTup ms) := by
  obtain ⟨t, p, q⟩ := h
  refine ⟨_, pe_tup p, fun ρ r h F0 H0 F σ H R Q w => ?_⟩
  rcases bdL_some h with ⟨ds, e1, h⟩ | ⟨x, e1, rfl⟩
  · split at h
    · rename_i hz
      cases h
      refine q ρ _ e1 F0 H0 F σ H R _ fun vs F' H' g rs => ⟨by rw [rs.len]; exact hz, fun a ha => ?_⟩
      have n := Gr.new (o := .tup vs) g.fh ha
      exact w _ _ _ (g.trans n) (.tup (SqT.of upd_same) (rs.mono n.f))
    · cases h
  · exact q ρ _ e1 F0 H0 F σ H R _ w
theorem ge_lst {ms : Env → ML} (h : GA Y X W es ms) : GE Y X W (.List es pos) (dLst ms) := by
  obtain ⟨t, p, q⟩ := h
  refine ⟨_, pe_lst p, fun ρ r h F0 H0 F σ H R Q w => ?_⟩
  rcases bdL_some h with ⟨ds, e1, h⟩ | ⟨x, e1, rfl⟩
  · split at h
    · rename_i hz
      cases h
      refine q ρ _ e1 F0 H0 F σ H R _ fun vs F' H' g rs => ⟨by rw [rs.len]; exact hz, fun a ha => ?_⟩
      have n := Gr.new (o := .lst vs) g.fh ha
      exact w _ _ _ (g.trans n) (.lst (SqL.of upd_same) (rs.mono n.f))
    · cases h
  · exact q ρ _ e1 F0 H0 F σ H R _ w
end
end Den
set_option Elab.async false
set_option linter.all false
set_option maxRecDepth 100000
set_option maxHeartbeats 4000000
namespace Den
open PySem L2
variable [Named]

/-! ### numbers -/
def inB (i : Int) : Prop := -(2 ^ 64) < i ∧ i < 2 ^ 64
instance (i : Int) : Decidable (inB i) := inferInstanceAs (Decidable (_ ∧ _))
def addD (x y : D) : Option D := match x, y with
  | .int i, .int j => some (.int (i + j))
  | .str a, .str b => if a.length + b.length ≤ sizeLine then some (.str (a ++ b)) else none
  | .lst a, .lst b => if a.length + b.length ≤ sizeLine then some (.lst (a ++ b)) else none
  | .tup a, .tup b => if a = [] then none else if a.length + b.length ≤ sizeLine then some (.tup (a ++ b)) else none
  | _, _ => none
def subD (x y : D) : Option D := match x, y with
  | .int i, .int j => some (.int (i - j))
  | _, _ => none
def mulD (x y : D) : Option D := match x, y with
  | .int i, .int j => if inB i ∨ inB j ∨ i.natAbs.log2 + j.natAbs.log2 < 1000000 then some (.int (i * j)) else none
  | _, _ => none
def divD (x y : D) : Option D := match x, y with
  | .int i, .int j => if 0 < j ∧ j.natAbs.log2 < 9000 then some (.int (i / j)) else none
  | _, _ => none
def modD (x y : D) : Option D := match x, y with
  | .int i, .int j => if 0 < j then some (.int (i % j)) else none
  | _, _ => none
def powD (x y : D) : Option D := match x, y with
  | .int i, .int j => if 0 ≤ j ∧ j ≤ 1000000 ∧ i.natAbs < 2 ^ 64 then some (.int (i ^ j.toNat)) else none
  | _, _ => none
def ordD (p : Int → Int → Bool) (x y : D) : Option D := match x, y with
  | .int i, .int j => some (.bl (p i j))
  | _, _ => none
def ltD : D → D → Option D := ordD fun i j => decide (i < j)
def leD : D → D → Option D := ordD fun i j => decide (i ≤ j)
def gtD : D → D → Option D := ordD fun i j => decide (j < i)
def geD : D → D → Option D := ordD fun i j => decide (j ≤ i)

section
variable {Y : Core} {X : Cx} {K : PySem.W.Frag} {F H : Hp}
theorem rep_int {v : V} {i : Int} (h : Rep K Y F v (.int i)) : v = .int i := by cases h; rfl
theorem rep_str {v : V} {i : Str} (h : Rep K Y F v (.str i)) : v = .str i := by cases h; rfl
theorem rep_bl {v : V} {i : Bool} (h : Rep K Y F v (.bl i)) : v = .bl i := by cases h; rfl
theorem rep_non {v : V} (h : Rep K Y F v .non) : v = .non := by cases h; rfl
theorem rep_lst {v : V} {ds : List D} (h : Rep K Y F v (.lst ds)) : ∃ a xs, v = .ref a ∧ SqL K F a xs ∧ RepL K Y F xs ds := by cases h with | lst a r => exact ⟨_, _, rfl, a, r⟩
theorem rep_tup {v : V} {ds : List D} (h : Rep K Y F v (.tup ds)) : ∃ a xs, v = .ref a ∧ SqT K F a xs ∧ RepL K Y F xs ds := by cases h with | tup a r => exact ⟨_, _, rfl, a, r⟩
theorem rep_obj {v : V} {c : Nat} {ds : List D} (h : Rep K Y F v (.obj c ds)) : ∃ a dx xs, v = .ref a ∧ F a = some (.ins (Y.cl c) dx ((Y.fn c).zip xs)) ∧ (Y.fn c).length = xs.length ∧ RepL K Y F xs ds := by cases h with | obj a l r => exact ⟨_, _, _, rfl, a, l, r⟩
/-- two ints to an int by a rule -/
theorem od_int {f : Value → Value → Sem Value} {C : Int → Int → Prop} {g : Int → Int → V} {gd : Int → Int → D} {h : D → D → Option D} (ho : OpR X f (rI C g)) (hg : ∀ F i j, Rep X.K Y F (g i j) (gd i j))
    (hh : ∀ d e z, h d e = some z → ∃ i j, d = .int i ∧ e = .int j ∧ C i j ∧ z = gd i j) : OpD Y X f h := by
  intro pins s σ H x y v u Q I rx ry hq
  obtain ⟨F, d, e, z, ex, rd, re, eq, k⟩ := hq
  obtain ⟨i, j, rfl, rfl, c, rfl⟩ := hh d e z eq
  rw [rep_int rd] at rx
  rw [rep_int re] at ry
  exact ho pins s σ H _ _ v u Q I rx ry ⟨i, j, rfl, rfl, c, k _ F H (Gr.refl ex) (hg F i j)⟩
theorem od_int0 {f : Value → Value → Sem Value} {g : Int → Int → V} {gd : Int → Int → D} {h : D → D → Option D} (ho : OpR X f (rI0 g)) (hg : ∀ F i j, Rep X.K Y F (g i j) (gd i j))
    (hh : ∀ d e z, h d e = some z → ∃ i j, d = .int i ∧ e = .int j ∧ z = gd i j) : OpD Y X f h := by
  intro pins s σ H x y v u Q I rx ry hq
  obtain ⟨F, d, e, z, ex, rd, re, eq, k⟩ := hq
  obtain ⟨i, j, rfl, rfl, rfl⟩ := hh d e z eq
  rw [rep_int rd] at rx
  rw [rep_int re] at ry
  exact ho pins s σ H _ _ v u Q I rx ry ⟨i, j, rfl, rfl, k _ F H (Gr.refl ex) (hg F i j)⟩
theorem od_sub : OpD Y X (binaryOp .Sub) subD := od_int0 op_sub (fun _ _ _ => .int _) fun d e z h => by
  unfold subD at h; split at h <;> cases h; exact ⟨_, _, rfl, rfl, rfl⟩
theorem od_mod : OpD Y X (binaryOp .Mod) modD := od_int op_mod (fun _ _ _ => .int _) fun d e z h => by
  unfold modD at h
  split at h
  · split at h
    · rename_i hc; cases h; exact ⟨_, _, rfl, rfl, hc, rfl⟩
    · cases h
  · cases h
theorem od_div : OpD Y X (binaryOp .FloorDiv) divD := od_int op_fdivW (fun _ _ _ => .int _) fun d e z h => by
  unfold divD at h
  split at h
  · split at h
    · rename_i hc; cases h; exact ⟨_, _, rfl, rfl, hc, rfl⟩
    · cases h
  · cases h
theorem od_pow : OpD Y X (binaryOp .Pow) powD := od_int op_pow (fun _ _ _ => .int _) fun d e z h => by
  unfold powD at h
  split at h
  · split at h
    · rename_i hc; cases h; exact ⟨_, _, rfl, rfl, hc, rfl⟩
    · cases h
  · cases h
theorem ordD_some {p : Int → Int → Bool} {d e z : D} (h : ordD p d e = some z) : ∃ i j, d = .int i ∧ e = .int j ∧ z = .bl (p i j) := by
  unfold ordD at h; split at h <;> cases h; exact ⟨_, _, rfl, rfl, rfl⟩
theorem od_lt : OpD Y X (compareOp .Lt) ltD := od_int0 op_lt (fun _ _ _ => .bl _) fun _ _ _ h => ordD_some h
theorem od_le : OpD Y X (compareOp .LtE) leD := od_int0 op_le (fun _ _ _ => .bl _) fun _ _ _ h => ordD_some h
theorem od_gt : OpD Y X (compareOp .Gt) gtD := od_int0 op_gt (fun _ _ _ => .bl _) fun _ _ _ h => ordD_some h
theorem od_ge : OpD Y X (compareOp .GtE) geD := od_int0 op_ge (fun _ _ _ => .bl _) fun _ _ _ h => ordD_some h
theorem cat_sq {pins : List (Addr × Obj)} {σ : L2.St} {s : Shared} {a b : Addr} {xs ys : List V} {Q : VK} (I : Inv X pins σ H s) (ra : SqL X.K H a xs) (rb : SqL X.K H b ys) (hz : xs.length + ys.length ≤ sizeLine)
    (k : ∀ p, H p = none → Q (.ref p) (upd H p (.lst (xs ++ ys)))) : wpAny (model X.prog X.w) X.A (binaryOp .Add (.ref a) (.ref b)) (EP X pins σ Q) X.xe s := by
  obtain ⟨i1, v1, ⟨⟨c1, d1, t1, s1⟩, n1, g1, k1, q1, e1⟩, _⟩ := I.list ra
  obtain ⟨i2, v2, ⟨⟨c2, d2, t2, s2⟩, n2, g2, k2, q2, e2⟩, _⟩ := I.list rb
  have l1 := v1.length
  have l2 := v2.length
  simp only at k1 q1 e1 k2 q2 e2
  subst k1 q1 e1 k2 q2 e2
  have w := PyProof.Rows.list_addW a b i1.toArray i2.toArray n1 n2 none none s1 s2 (by simp only [List.size_toArray]; omega)
  have e : i1.toArray ++ i2.toArray = (i1 ++ i2).toArray := by simp
  refine concat_meets (T := "list") ⟨_, g1, rfl⟩ ⟨_, g2, rfl⟩ noFill_list_add seq_list_add PySem.F.slot_list_add PySem.F.entry_list_add
    (PySem.F.args_list_add_2 _ _) w ⟨g1, g2, ?_⟩
  rw [e]
  refine ⟨.ref _, _, I.lnew (t' := s.toks) (v1.append v2) ?_, rfl, k _ I.fresh⟩
  rw [List.length_append]; omega
theorem od_add : OpD Y X (binaryOp .Add) addD := by
  intro pins s σ H x y v u Q I rx ry hq
  obtain ⟨F, d, e, z, ex, rd, re, eq, k⟩ := hq
  unfold addD at eq
  split at eq
  · cases eq
    rw [rep_int rd] at rx; rw [rep_int re] at ry
    exact op_add pins s σ H _ _ v u Q I rx ry ⟨_, _, rfl, rfl, k _ F H (Gr.refl ex) (.int _)⟩
  · split at eq
    · rename_i hz
      cases eq
      rw [rep_str rd] at rx; rw [rep_str re] at ry
      exact op_add_str pins s σ H _ _ v u Q I rx ry ⟨_, _, rfl, rfl, hz, k _ F H (Gr.refl ex) (.str _)⟩
    · cases eq
  · split at eq
    · rename_i hz
      cases eq
      obtain ⟨a, xs, rfl, ha, ra⟩ := rep_lst rd
      obtain ⟨b, ys, rfl, hb, rb⟩ := rep_lst re
      cases rx; cases ry
      refine cat_sq I (ex_l ex ha) (ex_l ex hb) (by rw [ra.len, rb.len]; exact hz) fun p hp => ?_
      have g := Gr.new (o := .lst (xs ++ ys)) ex hp
      exact k _ _ _ g (.lst (SqL.of upd_same) ((ra.append rb).mono g.f))
    · cases eq
  · split at eq
    · cases eq
    · rename_i hn
      split at eq
      · rename_i hz
        cases eq
        obtain ⟨a, xs, rfl, ha, ra⟩ := rep_tup rd
        obtain ⟨b, ys, rfl, hb, rb⟩ := rep_tup re
        refine op_catT pins s σ H _ _ v u Q I rx ry ⟨a, b, xs, ys, rfl, rfl, ex_t ex ha, ex_t ex hb, fun z => hn ?_, by rw [ra.len, rb.len]; exact hz, fun z => ?_, fun _ p hp => ?_⟩
        · subst z; cases ra; rfl
        · subst z
          cases rb
          rw [List.append_nil] at k
          exact k _ F H (Gr.refl ex) (.tup ha ra)
        · have g := Gr.new (o := .tup (xs ++ ys)) ex hp
          exact k _ _ _ g (.tup (SqT.of upd_same) ((ra.append rb).mono g.f))
      · cases eq
  · cases eq
theorem od_mul : OpD Y X (binaryOp .Mult) mulD := by
  intro pins s σ H x y v u Q I rx ry hq
  obtain ⟨F, d, e, z, ex, rd, re, eq, k⟩ := hq
  unfold mulD at eq
  split at eq
  · split at eq
    · rename_i hc
      cases eq
      rw [rep_int rd] at rx; rw [rep_int re] at ry
      have q := k _ F H (Gr.refl ex) (.int _)
      rcases hc with c | c | c
      · exact op_mul pins s σ H _ _ v u Q I rx ry ⟨_, _, rfl, rfl, .inl c, q⟩
      · exact op_mul pins s σ H _ _ v u Q I rx ry ⟨_, _, rfl, rfl, .inr c, q⟩
      · exact op_mulW pins s σ H _ _ v u Q I rx ry ⟨_, _, rfl, rfl, c, q⟩
    · cases eq
  · cases eq
end

/-! ### == -/
mutual
def D.py : D → PyData
  | .non => .none
  | .bl b => .bool b
  | .int i => .int i
  | .str s => .str s
  | .tup ds => .tuple (D.pys ds)
  | .lst ds => .list (D.pys ds)
  | .dic _ _ => .dict []
  | .obj _ _ => .dict []
def D.pys : List D → List PyData
  | [] => []
  | d :: ds => d.py :: D.pys ds
end
def shD (d : D) : Bool := SeqAt.shaped d.py
/-- both may be compared at any depth, or both are plain -/
def eqD (x y : D) : Option Bool := match x, y with
  | .int i, .int j => some (i == j)
  | .str a, .str b => some (a == b)
  | .bl a, .bl b => some (a == b)
  | .non, .non => some true
  | .non, .int _ => some false
  | .int _, .non => some false
  | .non, .str _ => some false
  | .str _, .non => some false
  | x, y => if shD x = true ∧ shD y = true then some (PyData.eqv x.py y.py) else none
def eqO (x y : D) : Option D := (eqD x y).map fun b => .bl b
def neO (x y : D) : Option D := (eqD x y).map fun b => .bl (!b)
section
variable {Y : Core} {X : Cx} {K : PySem.W.Frag} {F H : Hp}
mutual
theorem Rep.dp : ∀ {d : D} {v : V}, Rep K Y F v d → PyData.canLay0 d.py = true → Dp K F v d.py
  | _, _, .non, _ => .non
  | _, _, .bl b, _ => .bl b
  | _, _, .int i, _ => .int i
  | _, _, .str x, _ => .str x
  | _, _, .tup (ds := ds) h r, q => .tup h (RepL.dp r (by simpa [D.py, PyData.canLay0] using q))
  | _, _, .lst (ds := ds) h r, q => .lst h (RepL.dp r (by simpa [D.py, PyData.canLay0] using q))
  | _, _, .dic h l r, q => by simp [D.py, PyData.canLay0] at q
  | _, _, .obj h l r, q => by simp [D.py, PyData.canLay0] at q
theorem RepL.dp : ∀ {ds : List D} {vs : List V}, RepL K Y F vs ds → PyData.canLayAll0 (D.pys ds) = true → DpAll K F vs (D.pys ds)
  | _, _, .nil, _ => .nil
  | _, _, .cons h r, q => by
    simp only [D.pys, PyData.canLayAll0, Bool.and_eq_true] at q
    exact .cons (Rep.dp h q.1) (RepL.dp r q.2)
end
theorem dp_ex {F F' : Hp} (e : Ex F F') {v : V} {d : D} (h : Rep K Y F v d) (q : shD d = true) : Dp K F' v d.py := (h.mono e).dp (SeqAt.canLay_of_shaped q)
theorem od_eqG (hu : X.A.units + 65 < cLine) {x y : V} {v u : Value} {pins : List (Addr × Obj)} {σ : L2.St} {H : Hp} {s : Shared} {Q : VK} (I : Inv X pins σ H s) (rx : RelV x v) (ry : RelV y u) {F : Hp} {d e : D} {b : Bool} (ex : Ex F H)
    (rd : Rep X.K Y F x d) (re : Rep X.K Y F y e) (eq : eqD d e = some b) :
    (Q (.bl b) H → wpAny (model X.prog X.w) X.A (compareOp .Eq v u) (EP X pins σ Q) X.xe s) ∧ (Q (.bl (!b)) H → wpAny (model X.prog X.w) X.A (compareOp .NotEq v u) (EP X pins σ Q) X.xe s) := by
  have scal_go : ∀ {x y : V}, RelV x v → RelV y u → L2.scal x y = true → decide (x = y) = b →
      (Q (.bl b) H → wpAny (model X.prog X.w) X.A (compareOp .Eq v u) (EP X pins σ Q) X.xe s) ∧ (Q (.bl (!b)) H → wpAny (model X.prog X.w) X.A (compareOp .NotEq v u) (EP X pins σ Q) X.xe s) := fun {x y} rx ry h hb =>
    ⟨fun q => op_eq pins s σ H x y v u Q I rx ry ⟨h, by rw [hb]; exact q⟩, fun q => op_ne pins s σ H x y v u Q I rx ry ⟨h, by rw [hb]; exact q⟩⟩
  unfold eqD at eq
  split at eq
  · cases eq; rw [rep_int rd] at rx; rw [rep_int re] at ry; exact scal_go rx ry rfl L2.dec_int
  · cases eq; rw [rep_str rd] at rx; rw [rep_str re] at ry; exact scal_go rx ry rfl L2.dec_str
  · cases eq; rw [rep_bl rd] at rx; rw [rep_bl re] at ry; exact scal_go rx ry rfl L2.dec_bl
  · cases eq; rw [rep_non rd] at rx; rw [rep_non re] at ry; exact scal_go rx ry rfl rfl
  · cases eq; rw [rep_non rd] at rx; rw [rep_int re] at ry; exact scal_go rx ry rfl (decide_eq_false fun h => nomatch h)
  · cases eq; rw [rep_int rd] at rx; rw [rep_non re] at ry; exact scal_go rx ry rfl (decide_eq_false fun h => nomatch h)
  · cases eq; rw [rep_non rd] at rx; rw [rep_str re] at ry; exact scal_go rx ry rfl (decide_eq_false fun h => nomatch h)
  · cases eq; rw [rep_str rd] at rx; rw [rep_non re] at ry; exact scal_go rx ry rfl (decide_eq_false fun h => nomatch h)
  · split at eq
    · rename_i hs
      cases eq
      exact ⟨fun q => op_eqD (by omega) pins s σ H _ _ v u Q I rx ry ⟨_, _, dp_ex ex rd hs.1, dp_ex ex re hs.2, hs.1, hs.2, q⟩,
        fun q => op_neD (by omega) pins s σ H _ _ v u Q I rx ry ⟨_, _, dp_ex ex rd hs.1, dp_ex ex re hs.2, hs.1, hs.2, q⟩⟩
    · cases eq
theorem od_eq (hu : X.A.units + 65 < cLine) : OpD Y X (compareOp .Eq) eqO := by
  intro pins s σ H x y v u Q I rx ry hq
  obtain ⟨F, d, e, z, ex, rd, re, eq, k⟩ := hq
  unfold eqO at eq
  cases hb : eqD d e with
  | none => rw [hb] at eq; cases eq
  | some b =>
    rw [hb] at eq; cases eq
    exact (od_eqG hu I rx ry ex rd re hb).1 (k _ F H (Gr.refl ex) (.bl _))
theorem od_ne (hu : X.A.units + 65 < cLine) : OpD Y X (compareOp .NotEq) neO := by
  intro pins s σ H x y v u Q I rx ry hq
  obtain ⟨F, d, e, z, ex, rd, re, eq, k⟩ := hq
  unfold neO at eq
  cases hb : eqD d e with
  | none => rw [hb] at eq; cases eq
  | some b =>
    rw [hb] at eq; cases eq
    exact (od_eqG hu I rx ry ex rd re hb).2 (k _ F H (Gr.refl ex) (.bl _))

/-! ### x in y, x is None -/
def strIn (a b : Str) : Bool := match a.cps.toList with
  | [c] => decide (c ∈ b.cps.toList)
  | _ => !(Builtin.Str.occurrences b a 0 b.length 1).isEmpty
theorem strIn_eq (a b : Str) : (!(Builtin.Str.occurrences b a 0 b.length 1).isEmpty) = strIn a b := by
  unfold strIn
  split
  · rename_i c hc
    have : a = ⟨#[c]⟩ := by
      cases a with | mk l => cases l with | mk l => simp at hc; subst hc; rfl
    subst this
    exact (PySem.StrLaws.found_one b c).symm ▸ rfl
  · rfl
def inD (x y : D) : Option Bool := match y with
  | .str b => match x with
    | .str a => some (strIn a b)
    | _ => none
  | .lst ds => if shD x = true ∧ shD (.lst ds) = true then some (ds.any fun z => PyData.eqv z.py x.py) else none
  | .tup ds => if shD x = true ∧ shD (.tup ds) = true then some (ds.any fun z => PyData.eqv z.py x.py) else none
  | _ => none
def inO (x y : D) : Option D := (inD x y).map fun b => .bl b
def niO (x y : D) : Option D := (inD x y).map fun b => .bl (!b)
theorem any_pys (ds : List D) (f : PyData → Bool) : (D.pys ds).any f = ds.any fun z => f z.py := by
  induction ds with
  | nil => rfl
  | cons d ds ih => simp [D.pys, ih]
theorem od_inG (hu : X.A.units + 65 < cLine) {x y : V} {v u : Value} {pins : List (Addr × Obj)} {σ : L2.St} {H : Hp} {s : Shared} {Q : VK} (I : Inv X pins σ H s) (rx : RelV x v) (ry : RelV y u) {F : Hp} {d e : D} {b : Bool} (ex : Ex F H)
    (rd : Rep X.K Y F x d) (re : Rep X.K Y F y e) (eq : inD d e = some b) :
    (Q (.bl b) H → wpAny (model X.prog X.w) X.A (compareOp .In v u) (EP X pins σ Q) X.xe s) ∧ (Q (.bl (!b)) H → wpAny (model X.prog X.w) X.A (compareOp .NotIn v u) (EP X pins σ Q) X.xe s) := by
  unfold inD at eq
  split at eq
  · split at eq
    · cases eq
      rw [rep_str rd] at rx; rw [rep_str re] at ry
      exact ⟨fun q => op_in_str pins s σ H _ _ v u Q I rx ry ⟨_, _, rfl, rfl, by rw [strIn_eq]; exact q⟩, fun q => op_notIn_str pins s σ H _ _ v u Q I rx ry ⟨_, _, rfl, rfl, by rw [strIn_eq]; exact q⟩⟩
    · cases eq
  · split at eq
    · rename_i ds hs
      cases eq
      have q1 := dp_ex ex rd hs.1
      have q2 : Dp X.K H y (.list (D.pys ds)) := dp_ex ex re hs.2
      obtain ⟨as, r1⟩ := Dp.reads I _ x v q1 rx
      obtain ⟨bs, r2⟩ := Dp.reads I _ y u q2 ry
      have l2 : (PyData.list (D.pys ds)).canLay0 = true := SeqAt.canLay_of_shaped hs.2
      have hr : X.A.units + 1 + min (PyData.depthAll (D.pys ds)) d.py.depth < cLine := by have := SeqAt.depth_of_shaped hs.1; omega
      refine ⟨fun q => SeqAt.in_list_reads r2 r1 l2 (SeqAt.canLay_of_shaped hs.1) hr ⟨.bl _, H, I, rfl, ?_⟩, fun q => SeqAt.notIn_list_reads r2 r1 l2 (SeqAt.canLay_of_shaped hs.1) hr ⟨.bl _, H, I, rfl, ?_⟩⟩
      · rw [any_pys]; exact q
      · rw [any_pys]; exact q
    · cases eq
  · split at eq
    · rename_i ds hs
      cases eq
      have q1 := dp_ex ex rd hs.1
      have q2 : Dp X.K H y (.tuple (D.pys ds)) := dp_ex ex re hs.2
      obtain ⟨as, r1⟩ := Dp.reads I _ x v q1 rx
      obtain ⟨bs, r2⟩ := Dp.reads I _ y u q2 ry
      have l2 : (PyData.tuple (D.pys ds)).canLay0 = true := SeqAt.canLay_of_shaped hs.2
      have hr : X.A.units + 1 + min (PyData.depthAll (D.pys ds)) d.py.depth < cLine := by have := SeqAt.depth_of_shaped hs.1; omega
      refine ⟨fun q => SeqAt.in_tuple_reads r2 r1 l2 (SeqAt.canLay_of_shaped hs.1) hr ⟨.bl _, H, I, rfl, ?_⟩, fun q => SeqAt.notIn_tuple_reads r2 r1 l2 (SeqAt.canLay_of_shaped hs.1) hr ⟨.bl _, H, I, rfl, ?_⟩⟩
      · rw [any_pys]; exact q
      · rw [any_pys]; exact q
    · cases eq
  · cases eq
theorem od_in (hu : X.A.units + 65 < cLine) : OpD Y X (compareOp .In) inO := by
  intro pins s σ H x y v u Q I rx ry hq
  obtain ⟨F, d, e, z, ex, rd, re, eq, k⟩ := hq
  unfold inO at eq
  cases hb : inD d e with
  | none => rw [hb] at eq; cases eq
  | some b =>
    rw [hb] at eq; cases eq
    exact (od_inG hu I rx ry ex rd re hb).1 (k _ F H (Gr.refl ex) (.bl _))
theorem od_ni (hu : X.A.units + 65 < cLine) : OpD Y X (compareOp .NotIn) niO := by
  intro pins s σ H x y v u Q I rx ry hq
  obtain ⟨F, d, e, z, ex, rd, re, eq, k⟩ := hq
  unfold niO at eq
  cases hb : inD d e with
  | none => rw [hb] at eq; cases eq
  | some b =>
    rw [hb] at eq; cases eq
    exact (od_inG hu I rx ry ex rd re hb).2 (k _ F H (Gr.refl ex) (.bl _))
/-- x is None -/
def isNb : D → Bool
  | .non => true
  | _ => false
theorem rep_isN {v : V} {d : D} (h : Rep K Y F v d) : decide (v = .non) = isNb d := by cases h <;> rfl
/-- x is True, x is False -/
def isBb (b : Bool) : D → Bool
  | .bl a => a == b
  | _ => false
def isO (x y : D) : Option D := match y with
  | .non => some (.bl (isNb x))
  | .bl b => some (.bl (isBb b x))
  | _ => none
def isnO (x y : D) : Option D := match y with
  | .non => some (.bl (!isNb x))
  | .bl b => some (.bl (!isBb b x))
  | _ => none
theorem is_same_bl {M : Model} {A : Around} {E : Value → Shared → Prop} {s : Shared} {Q : Value → Shared → Prop} {v : V} {d : D} {b : Bool} {u : Value} (h : Rep K Y F v d) (r : RelV v u) (q : Q (.bool (isBb b d)) s) : wpAny M A (compareOp .Is u (.bool b)) Q E s := by
  cases h with
  | non => cases r; exact wpAny_pure q
  | bl a => cases r; cases a <;> cases b <;> exact wpAny_pure q
  | int i => obtain ⟨t, rfl⟩ := r; exact wpAny_pure q
  | str x => obtain ⟨t, rfl⟩ := r; exact wpAny_pure q
  | tup _ _ => cases r; exact wpAny_pure q
  | lst _ _ => cases r; exact wpAny_pure q
  | dic _ _ _ => cases r; exact wpAny_pure q
  | obj _ _ _ => cases r; exact wpAny_pure q
theorem isn_same_bl {M : Model} {A : Around} {E : Value → Shared → Prop} {s : Shared} {Q : Value → Shared → Prop} {v : V} {d : D} {b : Bool} {u : Value} (h : Rep K Y F v d) (r : RelV v u) (q : Q (.bool (!isBb b d)) s) : wpAny M A (compareOp .IsNot u (.bool b)) Q E s := by
  cases h with
  | non => cases r; exact wpAny_pure q
  | bl a => cases r; cases a <;> cases b <;> exact wpAny_pure q
  | int i => obtain ⟨t, rfl⟩ := r; exact wpAny_pure q
  | str x => obtain ⟨t, rfl⟩ := r; exact wpAny_pure q
  | tup _ _ => cases r; exact wpAny_pure q
  | lst _ _ => cases r; exact wpAny_pure q
  | dic _ _ _ => cases r; exact wpAny_pure q
  | obj _ _ _ => cases r; exact wpAny_pure q
theorem od_is : OpD Y X (compareOp .Is) isO := by
  intro pins s σ H x y v u Q I rx ry hq
  obtain ⟨F, d, e, z, ex, rd, re, eq, k⟩ := hq
  unfold isO at eq
  split at eq
  · cases eq
    exact op_isN pins s σ H x y v u Q I rx ry ⟨rep_non re, by rw [rep_isN rd]; exact k _ F H (Gr.refl ex) (.bl _)⟩
  · cases eq
    cases re
    cases ry
    exact is_same_bl rd rx (fin_bl I (k _ F H (Gr.refl ex) (.bl _)) rfl)
  · cases eq
theorem od_isn : OpD Y X (compareOp .IsNot) isnO := by
  intro pins s σ H x y v u Q I rx ry hq
  obtain ⟨F, d, e, z, ex, rd, re, eq, k⟩ := hq
  unfold isnO at eq
  split at eq
  · cases eq
    exact op_notN pins s σ H x y v u Q I rx ry ⟨rep_non re, by rw [rep_isN rd]; exact k _ F H (Gr.refl ex) (.bl _)⟩
  · cases eq
    cases re
    cases ry
    exact isn_same_bl rd rx (fin_bl I (k _ F H (Gr.refl ex) (.bl _)) rfl)
  · cases eq
end
end Den
set_option Elab.async false
set_option linter.all false
set_option maxRecDepth 100000
set_option maxHeartbeats 4000000
namespace Den
open PySem L2
variable [Named]

/-! ### places and cuts -/
def cutA {α : Type} (xs : List α) (lo hi : Option Int) : List α := (xs.drop (HT.sIx xs.length 0 lo)).take (HT.sIx xs.length xs.length hi - HT.sIx xs.length 0 lo)
def ixD (x y : D) : Option D := match x, y with
  | .lst ds, .int i => atI ds i
  | .tup ds, .int i => atI ds i
  | .str z, .int i => if z.length ≤ sizeLine then (atI z.cps.toList i).map fun c => .str ⟨#[c]⟩ else none
  | _, _ => none
def cutD (x : D) (lo hi : Option Int) : Option D := match x with
  | .lst ds => some (.lst (cutA ds lo hi))
  | .tup ds => if HT.sIx ds.length 0 lo = 0 ∧ HT.sIx ds.length ds.length hi = ds.length then none else some (.tup (cutA ds lo hi))
  | .str z => if z.length ≤ sizeLine then some (.str (cutS z lo hi)) else none
  | _ => none
section
variable {Y : Cfg} {X : Cx} {W : WX} {K : PySem.W.Frag} {F H : Hp} {a b e : Expr} {es : List Expr} {ma mb : Env → M} {ms : Env → ML} {pos p2 : Pos}
theorem atI_rep {Y : Core} {xs : List V} {ds : List D} (r : RepL K Y F xs ds) {i : Int} {d : D} (h : atI ds i = some d) : ∃ v, atI xs i = some v ∧ Rep K Y F v d := by
  unfold atI at h ⊢
  rw [r.len]
  cases e : ixN ds.length i with
  | none => rw [e] at h; cases h
  | some j =>
    rw [e] at h
    exact r.get h
theorem cut_rep {Y : Core} {xs : List V} {ds : List D} (r : RepL K Y F xs ds) (lo hi : Option Int) : RepL K Y F (cutV xs lo hi) (cutA ds lo hi) := by
  unfold cutV cutA
  rw [r.len]
  exact (r.drop _).take _
theorem ge_ix (ha : GE Y X W a ma) (hb : GE Y X W b mb) (hs : PlainIx b := by intro _ _; rfl) : GE Y X W (.Subscript a b pos) (dOp ixD ma mb) := by
  obtain ⟨ta, pa, sa⟩ := ha
  obtain ⟨tb, pb, sb⟩ := hb
  refine ⟨_, pe_ix (r := rD Y X.K ixD) ?_ pa pb hs, fun ρ r h => sat_op sa sb r h⟩
  intro value slice pins s σ H x y v u Q I rx ry hq hs
  obtain ⟨F, d, e, z, ex, rd, re, eq, k⟩ := hq
  unfold ixD at eq
  split at eq
  · rw [rep_int re] at ry
    obtain ⟨a, xs, rfl, ha, ra⟩ := rep_lst rd
    obtain ⟨w, hw, rw'⟩ := atI_rep ra eq
    exact ix_list value slice pins s σ H _ _ v u Q I rx ry ⟨a, xs, _, w, rfl, rfl, (ex_l ex ha), hw, k _ F H (Gr.refl ex) rw'⟩ hs
  · rw [rep_int re] at ry
    obtain ⟨a, xs, rfl, ha, ra⟩ := rep_tup rd
    obtain ⟨w, hw, rw'⟩ := atI_rep ra eq
    exact ix_tup value slice pins s σ H _ _ v u Q I rx ry ⟨a, xs, _, w, rfl, rfl, ex_t ex ha, hw, k _ F H (Gr.refl ex) rw'⟩ hs
  · rename_i z i
    split at eq
    · rename_i hz
      cases hc : atI z.cps.toList i with
      | none => rw [hc] at eq; cases eq
      | some c =>
        rw [hc] at eq; cases eq
        rw [rep_int re] at ry; rw [rep_str rd] at rx
        exact ix_str value slice pins s σ H _ _ v u Q I rx ry ⟨z, i, c, rfl, rfl, hz, hc, k _ F H (Gr.refl ex) (.str _)⟩ hs
    · cases eq
  · cases eq

/-- a slice's part -/
def GO (Y : Cfg) (X : Cx) (e : Option Expr) (m : Env → Option (Option Int)) : Prop := ∃ t, PO X e t ∧ ∀ ρ o, m ρ = some o → ∀ F0 H0 F σ H, Rel X.K Y F0 H0 F σ H ρ → ∀ Q : Option Int → Hp → Prop, (∀ F' H', Gr F H F' H' → Q o H') → t σ H Q
def oNone : Env → Option (Option Int) := fun _ => some none
def oSome (m : Env → M) : Env → Option (Option Int) := fun ρ => match m ρ with
  | some (.ok (.int i)) => some (some i)
  | _ => none
theorem go_none : GO Y X none oNone := ⟨_, po_none, fun ρ o h F0 H0 F σ H R Q k => by
  cases h
  exact k F H (Gr.refl R.ex)⟩
theorem go_some (h : GE Y X (fun _ _ _ _ => False) e ma) : GO Y X (some e) (oSome ma) := by
  obtain ⟨t, p, q⟩ := h
  refine ⟨_, po_some p, fun ρ o h F0 H0 F σ H R Q k => ?_⟩
  unfold oSome at h
  split at h
  · rename_i i hi
    cases h
    refine q ρ _ hi F0 H0 F σ H R _ fun v F' H' g r => ⟨i, rep_int r, k F' H' g⟩
  · cases h
def dCut (m : Env → M) (lo hi : Env → Option (Option Int)) : Env → M := fun ρ => bd (m ρ) fun d => match lo ρ with
  | some l => match hi ρ with
    | some u => lift (cutD d l u)
    | none => none
  | none => none
theorem ge_cut {lo hi : Option Expr} {ml mh : Env → Option (Option Int)} (h : GE Y X W a ma) (hl : GO Y X lo ml) (hh : GO Y X hi mh) : GE Y X W (.Subscript a (.Slice lo hi none p2) pos) (dCut ma ml mh) := by
  obtain ⟨t, p, q⟩ := h
  obtain ⟨tl, pl, ql⟩ := hl
  obtain ⟨th, ph, qh⟩ := hh
  refine ⟨_, pe_slice (SlR.or (SlR.or (sl_list (X := X)) (sl_tup (X := X))) (sl_str (X := X))) p pl ph, fun ρ r h F0 H0 F σ H R Q w => ?_⟩
  rcases bd_some h with ⟨d, e1, h⟩ | ⟨x, e1, rfl⟩
  · split at h
    · rename_i l hl'
      split at h
      · rename_i u hu'
        obtain ⟨z, e3, rfl⟩ := lift_some h
        refine q ρ _ e1 F0 H0 F σ H R _ fun v F1 H1 g1 r1 => ?_
        refine ql ρ _ hl' F0 H0 F1 σ H1 (R.grow g1) _ fun F2 H2 g2 => ?_
        refine qh ρ _ hu' F0 H0 F2 σ H2 ((R.grow g1).grow g2) _ fun F3 H3 g3 => ?_
        have g := (g1.trans g2).trans g3
        have r3 := r1.mono (g2.trans g3).f
        unfold cutD at e3
        split at e3
        · cases e3
          obtain ⟨p, xs, rfl, ha, ra⟩ := rep_lst r3
          refine .inl (.inl ⟨p, xs, rfl, (ex_l g3.fh ha), fun n hn => ?_⟩)
          have gn := Gr.new (o := .lst (cutV xs l u)) g3.fh hn
          exact w _ _ _ (g.trans gn) (.lst (SqL.of upd_same) ((cut_rep ra l u).mono gn.f))
        · split at e3
          · cases e3
          · rename_i hw
            cases e3
            obtain ⟨p, xs, rfl, ha, ra⟩ := rep_tup r3
            refine .inl (.inr ⟨p, xs, rfl, ex_t g3.fh ha, by rw [ra.len]; exact hw, fun n hn => ?_⟩)
            have gn := Gr.new (o := .tup (cutV xs l u)) g3.fh hn
            exact w _ _ _ (g.trans gn) (.tup (SqT.of upd_same) ((cut_rep ra l u).mono gn.f))
        · split at e3
          · rename_i hz
            cases e3
            exact .inr ⟨_, rep_str r3, hz, w _ F3 H3 g (.str _)⟩
          · cases e3
        · cases e3
      · cases h
    · cases h
  · exact q ρ _ e1 F0 H0 F σ H R _ w

/-! ### built-in calls -/
def rCD (Y : Core) (K : PySem.W.Frag) (g : List D → Option D) : List V → Hp → VK → Prop := fun xs H Q => ∃ F ds z, Ex F H ∧ RepL K Y F xs ds ∧ g ds = some z ∧ ∀ v F' H', Gr F H F' H' → Rep K Y F' v z → Q v H'
def CallD (Y : Core) (X : Cx) (f : Value) (g : List D → Option D) : Prop := CallR X f (rCD Y X.K g)
def dCB (g : List D → Option D) (ms : Env → ML) : Env → M := fun ρ => bdL (ms ρ) fun ds => lift (g ds)
theorem sat_cb {g : List D → Option D} {t : TA} (hs : ∀ ρ r, ms ρ = some r → SatA Y W K t ρ r) : ∀ ρ r, dCB g ms ρ = some r → SatE Y W K (tCB (rCD Y K g) t) ρ r := by
  intro ρ r h F0 H0 F σ H R Q w
  rcases bdL_some h with ⟨ds, e1, h⟩ | ⟨x, e1, rfl⟩
  · obtain ⟨z, e2, rfl⟩ := lift_some h
    exact hs ρ _ e1 F0 H0 F σ H R _ fun vs F' H' g rs => ⟨F', ds, z, g.fh, rs, e2, fun v F2 H2 g2 q => w v F2 H2 (g.trans g2) q⟩
  · exact hs ρ _ e1 F0 H0 F σ H R _ w
theorem ge_cb {x : Str} {p : Pos} {id : String} {g : List D → Option D} (hc : CallD Y X (.builtin id) g) (hg : Gl X x) (hm : X.mg x = none) (hv : bootBuiltins x = some (.builtin id)) (ha : GA Y X W (e :: es) ms) (hn : x ≠ "__name__" := by decide) (hdb : (x == ("__debug__" : Str)) = false := by decide)
    (he : starEach (e :: es) X.env = (false, eval e X.env) :: starEach es X.env := by rfl) (hpl : (backTo pos (starEach es X.env)).any (·.1) = false := by rfl) : GE Y X W (.Call (.Name x p) (e :: es) [] pos) (dCB g ms) := by
  obtain ⟨t, pt, q⟩ := ha
  exact ⟨_, pe_callB hc hg hm hv pt hn hdb he hpl, fun ρ r h => sat_cb q ρ r h⟩
theorem ge_ct {x : Str} {p : Pos} {T : String} {g : List D → Option D} (hc : CallD Y X (.type T) g) (hg : Gl X x) (hm : X.mg x = none) (hv : bootBuiltins x = some (.type T)) (ha : GA Y X W (e :: es) ms) (hn : x ≠ "__name__" := by decide) (hdb : (x == ("__debug__" : Str)) = false := by decide)
    (he : starEach (e :: es) X.env = (false, eval e X.env) :: starEach es X.env := by rfl) (hpl : (backTo pos (starEach es X.env)).any (·.1) = false := by rfl) : GE Y X W (.Call (.Name x p) (e :: es) [] pos) (dCB g ms) := by
  obtain ⟨t, pt, q⟩ := ha
  exact ⟨_, pe_callTy hc hg hm hv pt hn hdb he hpl, fun ρ r h => sat_cb q ρ r h⟩
end

/-! ### which -/
def lenD : List D → Option D
  | [.str a] => if a.length ≤ sizeLine then some (.int a.length) else none
  | [.lst ds] => some (.int ds.length)
  | [.tup ds] => some (.int ds.length)
  | _ => none
def absD : List D → Option D
  | [.int i] => some (.int (if i < 0 then -i else i))
  | _ => none
def maxD : List D → Option D
  | [.int i, .int j] => some (.int (if j > i then j else i))
  | _ => none
def minD : List D → Option D
  | [.int i, .int j] => some (.int (if j < i then j else i))
  | _ => none
def intD : List D → Option D
  | [.int i] => some (.int i)
  | [.bl b] => some (.int (if b then 1 else 0))
  | [.str a] => match PySem.intText? a with
    | some n => if a.length ≤ 640 then some (.int n) else none
    | none => none
  | _ => none
def strD : List D → Option D
  | [.int i] => if i.natAbs.log2 < 1920 then some (.str (toString i)) else none
  | _ => none
def listD : List D → Option D
  | [.lst ds] => some (.lst ds)
  | [.tup ds] => some (.lst ds)
  | _ => none
def tupleD : List D → Option D
  | [.lst ds] => some (.tup ds)
  | [.tup ds] => some (.tup ds)
  | _ => none
def blsOf : List D → Option (List Bool)
  | [] => some []
  | .bl b :: ds => (blsOf ds).map (b :: ·)
  | _ => none
def intsOf : List D → Option (List Int)
  | [] => some []
  | .int i :: ds => (intsOf ds).map (i :: ·)
  | _ => none
def allD : List D → Option D
  | [.lst ds] => (blsOf ds).map fun bs => .bl (bs.all id)
  | _ => none
def anyD : List D → Option D
  | [.lst ds] => (blsOf ds).map fun bs => .bl (bs.any id)
  | _ => none
def sumD : List D → Option D
  | [.lst ds] => (intsOf ds).map fun ns => .int ns.sum
  | _ => none
/-- the type's name -/
def D.ty : D → String
  | .non => "NoneType"
  | .bl _ => "bool"
  | .int _ => "int"
  | .str _ => "str"
  | .tup _ => "tuple"
  | .lst _ => "list"
  | .dic _ _ => "dict"
  | .obj _ _ => ""
def isiD (T : String) (d : D) : Option D := match d with
  | .obj _ _ => none
  | d => (kitB d.ty T).map fun b => .bl b
section
variable {Y : Cfg} {X : Cx} {W : WX} {K : PySem.W.Frag} {F H : Hp}
theorem repL1 {Y : Core} {vs : List V} {d : D} (h : RepL K Y F vs [d]) : ∃ v, vs = [v] ∧ Rep K Y F v d := by
  cases h with | cons a b => cases b; exact ⟨_, rfl, a⟩
theorem repL2 {Y : Core} {vs : List V} {d e : D} (h : RepL K Y F vs [d, e]) : ∃ v u, vs = [v, u] ∧ Rep K Y F v d ∧ Rep K Y F u e := by
  cases h with | cons a b => cases b with | cons c d => cases d; exact ⟨_, _, rfl, a, c⟩
theorem cd_len : CallD Y X (.builtin "len") lenD := by
  intro pins s σ H xs us Q I r hq
  obtain ⟨F, ds, z, ex, rs, eq, k⟩ := hq
  unfold lenD at eq
  split at eq
  · split at eq
    · rename_i hz
      cases eq
      obtain ⟨v, rfl, q⟩ := repL1 rs
      exact call_len pins s σ H _ us Q I r ⟨v, _, rfl, by rw [rep_str q]; exact ⟨hz, rfl⟩, k _ F H (Gr.refl ex) (.int _)⟩
    · cases eq
  · cases eq
    obtain ⟨v, rfl, q⟩ := repL1 rs
    obtain ⟨a, ys, rfl, ha, ra⟩ := rep_lst q
    refine call_len pins s σ H _ us Q I r ⟨_, _, rfl, .inl ⟨ys, (ex_l ex ha), rfl⟩, ?_⟩
    rw [ra.len]; exact k _ F H (Gr.refl ex) (.int _)
  · cases eq
    obtain ⟨v, rfl, q⟩ := repL1 rs
    obtain ⟨a, ys, rfl, ha, ra⟩ := rep_tup q
    refine call_len pins s σ H _ us Q I r ⟨_, _, rfl, .inr ⟨ys, ex_t ex ha, rfl⟩, ?_⟩
    rw [ra.len]; exact k _ F H (Gr.refl ex) (.int _)
  · cases eq
theorem cd_abs : CallD Y X (.builtin "abs") absD := by
  intro pins s σ H xs us Q I r hq
  obtain ⟨F, ds, z, ex, rs, eq, k⟩ := hq
  unfold absD at eq
  split at eq
  · cases eq
    obtain ⟨v, rfl, q⟩ := repL1 rs
    exact call_abs pins s σ H _ us Q I r ⟨_, by rw [rep_int q], k _ F H (Gr.refl ex) (.int _)⟩
  · cases eq
theorem cd_max (hc : X.calm = true) : CallD Y X (.builtin "max") maxD := by
  intro pins s σ H xs us Q I r hq
  obtain ⟨F, ds, z, ex, rs, eq, k⟩ := hq
  unfold maxD at eq
  split at eq
  · cases eq
    obtain ⟨v, u, rfl, q, q2⟩ := repL2 rs
    exact call_max2 hc pins s σ H _ us Q I r ⟨_, _, by rw [rep_int q, rep_int q2], k _ F H (Gr.refl ex) (.int _)⟩
  · cases eq
theorem cd_min (hc : X.calm = true) : CallD Y X (.builtin "min") minD := by
  intro pins s σ H xs us Q I r hq
  obtain ⟨F, ds, z, ex, rs, eq, k⟩ := hq
  unfold minD at eq
  split at eq
  · cases eq
    obtain ⟨v, u, rfl, q, q2⟩ := repL2 rs
    exact call_min2 hc pins s σ H _ us Q I r ⟨_, _, by rw [rep_int q, rep_int q2], k _ F H (Gr.refl ex) (.int _)⟩
  · cases eq
theorem cd_int : CallD Y X (.type "int") intD := by
  intro pins s σ H xs us Q I r hq
  obtain ⟨F, ds, z, ex, rs, eq, k⟩ := hq
  unfold intD at eq
  split at eq
  · cases eq
    obtain ⟨v, rfl, q⟩ := repL1 rs
    exact call_int1 pins s σ H _ us Q I r (.inl ⟨_, by rw [rep_int q], k _ F H (Gr.refl ex) (.int _)⟩)
  · cases eq
    obtain ⟨v, rfl, q⟩ := repL1 rs
    exact call_int1 pins s σ H _ us Q I r (.inr ⟨_, by rw [rep_bl q], k _ F H (Gr.refl ex) (.int _)⟩)
  · split at eq
    · rename_i n hn
      split at eq
      · rename_i hz
        cases eq
        obtain ⟨v, rfl, q⟩ := repL1 rs
        exact call_int_str pins s σ H _ us Q I r ⟨_, n, by rw [rep_str q], hn, hz, k _ F H (Gr.refl ex) (.int _)⟩
      · cases eq
    · cases eq
  · cases eq
theorem cd_str : CallD Y X (.type "str") strD := by
  intro pins s σ H xs us Q I r hq
  obtain ⟨F, ds, z, ex, rs, eq, k⟩ := hq
  unfold strD at eq
  split at eq
  · split at eq
    · rename_i hz
      cases eq
      obtain ⟨v, rfl, q⟩ := repL1 rs
      exact call_str_int pins s σ H _ us Q I r ⟨_, by rw [rep_int q], hz, k _ F H (Gr.refl ex) (.str _)⟩
    · cases eq
  · cases eq
theorem cd_list : CallD Y X (.type "list") listD := by
  intro pins s σ H xs us Q I r hq
  obtain ⟨F, ds, z, ex, rs, eq, k⟩ := hq
  have fin : ∀ {p : Addr} {ys : List V} {es : List D}, RepL X.K Y F ys es → z = .lst es → ∀ l, H l = none → Q (.ref l) (upd H l (.lst ys)) := fun {p ys es} ra e l hl => by
    subst e
    have g := Gr.new (o := .lst ys) ex hl
    exact k _ _ _ g (.lst (SqL.of upd_same) (ra.mono g.f))
  unfold listD at eq
  split at eq
  · cases eq
    obtain ⟨v, rfl, q⟩ := repL1 rs
    obtain ⟨a, ys, rfl, ha, ra⟩ := rep_lst q
    exact call_list_of pins s σ H _ us Q I r ⟨a, ys, rfl, .inl ((ex_l ex ha)), fin (p := a) ra rfl⟩
  · cases eq
    obtain ⟨v, rfl, q⟩ := repL1 rs
    obtain ⟨a, ys, rfl, ha, ra⟩ := rep_tup q
    exact call_list_of pins s σ H _ us Q I r ⟨a, ys, rfl, .inr (ex_t ex ha), fin (p := a) ra rfl⟩
  · cases eq
theorem cd_tuple : CallD Y X (.type "tuple") tupleD := by
  intro pins s σ H xs us Q I r hq
  obtain ⟨F, ds, z, ex, rs, eq, k⟩ := hq
  unfold tupleD at eq
  split at eq
  · cases eq
    obtain ⟨v, rfl, q⟩ := repL1 rs
    obtain ⟨a, ys, rfl, ha, ra⟩ := rep_lst q
    refine call_tuple_of pins s σ H _ us Q I r ⟨a, ys, rfl, .inl ⟨(ex_l ex ha), fun l hl => ?_⟩⟩
    have g := Gr.new (o := .tup ys) ex hl
    exact k _ _ _ g (.tup (SqT.of upd_same) (ra.mono g.f))
  · cases eq
    obtain ⟨v, rfl, q⟩ := repL1 rs
    obtain ⟨a, ys, rfl, ha, ra⟩ := rep_tup q
    exact call_tuple_of pins s σ H _ us Q I r ⟨a, ys, rfl, .inr ⟨ex_t ex ha, k _ F H (Gr.refl ex) q⟩⟩
  · cases eq
theorem bls_rep {Y : Core} : ∀ {ds : List D} {vs : List V} {bs : List Bool}, RepL K Y F vs ds → blsOf ds = some bs → vs = bs.map V.bl
  | [], _, _, h, e => by cases h; cases e; rfl
  | d :: ds, _, _, h, e => by
    cases h with
    | cons a r =>
      unfold blsOf at e
      split at e
      · rename_i h1; cases h1
      · rename_i b ds' h1
        cases h1
        cases hb : blsOf ds with
        | none => rw [hb] at e; cases e
        | some bs =>
          rw [hb] at e; cases e
          rw [rep_bl a, bls_rep r hb]; rfl
      · cases e
theorem ints_rep {Y : Core} : ∀ {ds : List D} {vs : List V} {bs : List Int}, RepL K Y F vs ds → intsOf ds = some bs → vs = bs.map V.int
  | [], _, _, h, e => by cases h; cases e; rfl
  | d :: ds, _, _, h, e => by
    cases h with
    | cons a r =>
      unfold intsOf at e
      split at e
      · rename_i h1; cases h1
      · rename_i b ds' h1
        cases h1
        cases hb : intsOf ds with
        | none => rw [hb] at e; cases e
        | some bs =>
          rw [hb] at e; cases e
          rw [rep_int a, ints_rep r hb]; rfl
      · cases e
theorem cd_all (hc : X.calm = true) : CallD Y X (.builtin "all") allD := by
  intro pins s σ H xs us Q I r hq
  obtain ⟨F, ds, z, ex, rs, eq, k⟩ := hq
  unfold allD at eq
  split at eq
  · rename_i es
    cases hb : blsOf es with
    | none => rw [hb] at eq; cases eq
    | some bs =>
      rw [hb] at eq; cases eq
      obtain ⟨v, rfl, q⟩ := repL1 rs
      obtain ⟨a, ys, rfl, ha, ra⟩ := rep_lst q
      have e := bls_rep ra hb
      subst e
      exact cr_all hc pins s σ H _ us Q I r ⟨a, bs, rfl, (ex_l ex ha), k _ F H (Gr.refl ex) (.bl _)⟩
  · cases eq
theorem cd_any (hc : X.calm = true) : CallD Y X (.builtin "any") anyD := by
  intro pins s σ H xs us Q I r hq
  obtain ⟨F, ds, z, ex, rs, eq, k⟩ := hq
  unfold anyD at eq
  split at eq
  · rename_i es
    cases hb : blsOf es with
    | none => rw [hb] at eq; cases eq
    | some bs =>
      rw [hb] at eq; cases eq
      obtain ⟨v, rfl, q⟩ := repL1 rs
      obtain ⟨a, ys, rfl, ha, ra⟩ := rep_lst q
      have e := bls_rep ra hb
      subst e
      exact cr_any hc pins s σ H _ us Q I r ⟨a, bs, rfl, (ex_l ex ha), k _ F H (Gr.refl ex) (.bl _)⟩
  · cases eq
theorem cd_sum (hc : X.calm = true) : CallD Y X (.builtin "sum") sumD := by
  intro pins s σ H xs us Q I r hq
  obtain ⟨F, ds, z, ex, rs, eq, k⟩ := hq
  unfold sumD at eq
  split at eq
  · rename_i es
    cases hb : intsOf es with
    | none => rw [hb] at eq; cases eq
    | some bs =>
      rw [hb] at eq; cases eq
      obtain ⟨v, rfl, q⟩ := repL1 rs
      obtain ⟨a, ys, rfl, ha, ra⟩ := rep_lst q
      have e := ints_rep ra hb
      subst e
      exact cr_sum hc pins s σ H _ us Q I r ⟨a, bs, rfl, (ex_l ex ha), k _ F H (Gr.refl ex) (.int _)⟩
  · cases eq
theorem tyX_of {Y : Core} {v : V} {d : D} (h : Rep K Y F v d) (e : Ex F H) (n : ∀ c fs, d ≠ .obj c fs) : TyX K H v (.type d.ty) := by
  cases h with
  | non => exact .base .non
  | bl b => exact .base (.bl b)
  | int i => exact .base (.int i)
  | str x => exact .base (.str x)
  | tup a r =>
    rcases a with (a | ⟨o, a⟩) | ⟨o, its, m, h1, h2, _⟩
    · exact .base (.tup (e _ _ a))
    · exact .fTuple (e _ _ a)
    · exact .kTuple h1 h2
  | lst a r =>
    rcases a with (a | ⟨o, a⟩) | ⟨o, its, m, h1, h2, _⟩
    · exact .base (.lst (e _ _ a))
    · exact .base (.frz (e _ _ a))
    · exact .kList h1 h2
  | dic a l r => exact .base (.dK (e _ _ a))
  | obj a l r => exact absurd rfl (n _ _)
/-- isinstance(x, T), T a built-in type -/
theorem ge_isi {a : Expr} {ma : Env → M} {T : Str} {t : String} {p p2 pos : Pos} (hg : Gl X "isinstance") (hm : X.mg "isinstance" = none) (hgT : Gl X T) (hmT : X.mg T = none) (hv : bootBuiltins T = some (.type t)) (ha : GE Y X W a ma)
    (hn : T ≠ "__name__" := by decide) (hdb : (T == ("__debug__" : Str)) = false := by decide) (he : starEach [a, .Name T p2] X.env = (false, eval a X.env) :: starEach [.Name T p2] X.env := by rfl) (he2 : starEach [.Name T p2] X.env = (false, eval (.Name T p2) X.env) :: starEach [] X.env := by rfl)
    (hpl : (backTo pos (starEach [.Name T p2] X.env)).any (·.1) = false := by rfl) : GE Y X W (.Call (.Name "isinstance" p) [a, .Name T p2] [] pos) (fun ρ => bd (ma ρ) fun d => lift (isiD t d)) := by
  obtain ⟨ta, pa, sa⟩ := ha
  refine ⟨_, pe_callB (x := "isinstance") call_isi hg hm PyProof.Rows.boot_isinstance (pa_cons pa (pa_cons (pe_bltn (v := .ty t) hgT hmT hv rfl hn hdb) pa_nil he2) he) (by decide) (by decide) he hpl, fun ρ r h F0 H0 F σ H R Q w => ?_⟩
  rcases bd_some h with ⟨d, e1, h⟩ | ⟨x, e1, rfl⟩
  · obtain ⟨z, e2, rfl⟩ := lift_some h
    refine sa ρ _ e1 F0 H0 F σ H R _ fun v F' H' g q => ?_
    have hno : ∀ c fs, d ≠ .obj c fs := fun c fs e => by subst e; cases e2
    have e3 : (kitB d.ty t).map (fun b => D.bl b) = some z := by
      unfold isiD at e2
      split at e2
      · cases e2
      · exact e2
    cases hb : kitB d.ty t with
    | none => rw [hb] at e3; cases e3
    | some b =>
      rw [hb] at e3; cases e3
      exact ⟨v, .ty t, .type d.ty, .type t, b, rfl, .ty t, tyX_of q g.fh hno, kit_ty hb, w _ F' H' g (.bl b)⟩
  · exact sa ρ _ e1 F0 H0 F σ H R _ w
end
end Den
set_option Elab.async false
set_option linter.all false
set_option maxRecDepth 100000
set_option maxHeartbeats 4000000
namespace Den
open PySem L2
variable [Named]

/-- how a statement ends -/
inductive O where
  | nx (ρ : Env) | ret (d : D) | bk (ρ : Env) | ct (ρ : Env) | exc (x : Xd) (ρ : Env)
abbrev SM := Env → Option O
section
variable (Y : Cfg) (X : Cx) (W : WX)
/-- what is wanted behind a statement -/
def WantS (K : PySem.W.Frag) (F0 H0 F : Hp) (o : O) (D : Ends) : Prop := match o with
  | .nx ρ => ∀ F' σ' H', Ex F F' → Rel K Y F0 H0 F' σ' H' ρ → D.nx σ' H'
  | .bk ρ => ∀ F' σ' H', Ex F F' → Rel K Y F0 H0 F' σ' H' ρ → D.bk σ' H'
  | .ct ρ => ∀ F' σ' H', Ex F F' → Rel K Y F0 H0 F' σ' H' ρ → D.ct σ' H'
  | .ret d => ∀ v F' H', Ex F F' → Gr F0 H0 F' H' → Rep K Y F' v d → D.rt v H'
  | .exc x ρ => ∀ F' σ' H' dx, Ex F F' → Rel K Y F0 H0 F' σ' H' ρ → XRep K Y F' H' x dx → W (.ref (Y.cl x.c)) dx σ' H'
def SatS (K : PySem.W.Frag) (t : TS) (ρ : Env) (o : O) : Prop := ∀ F0 H0 F σ H, Rel K Y F0 H0 F σ H ρ → ∀ D : Ends, WantS Y W K F0 H0 F o D → t D σ H
def GS (s : Stmt) (m : SM) : Prop := ∃ t, PS X s t ∧ ∀ ρ o, m ρ = some o → SatS Y W X.K t ρ o
def GSs (s : List Stmt) (m : SM) : Prop := ∃ t, PSs X s t ∧ ∀ ρ o, m ρ = some o → SatS Y W X.K t ρ o
end
section
variable {Y : Cfg} {X : Cx} {W : WX} {K : PySem.W.Frag} {a b e : Expr} {es : List Expr} {ma mb mc : Env → M} {pos p2 : Pos} {st : Stmt} {sts : List Stmt} {m m1 m2 : SM} {F0 H0 F F1 H H1 : Hp} {σ : L2.St} {ρ : Env}
theorem WantS.grow {o : O} {D : Ends} (w : WantS Y W K F0 H0 F o D) (e : Ex F F1) : WantS Y W K F0 H0 F1 o D := by
  cases o with
  | nx ρ => exact fun F' σ' H' g => w F' σ' H' (e.trans g)
  | bk ρ => exact fun F' σ' H' g => w F' σ' H' (e.trans g)
  | ct ρ => exact fun F' σ' H' g => w F' σ' H' (e.trans g)
  | ret d => exact fun v F' H' g => w v F' H' (e.trans g)
  | exc x ρ => exact fun F' σ' H' dx g => w F' σ' H' dx (e.trans g)
def dPass : SM := fun ρ => some (.nx ρ)
def dBrk : SM := fun ρ => some (.bk ρ)
def dCnt : SM := fun ρ => some (.ct ρ)
def dSeq (m1 m2 : SM) : SM := fun ρ => match m1 ρ with
  | some (.nx ρ') => m2 ρ'
  | some (.ret d) => some (.ret d)
  | some (.bk ρ') => some (.bk ρ')
  | some (.ct ρ') => some (.ct ρ')
  | some (.exc x ρ') => some (.exc x ρ')
  | none => none
theorem gs_pass : GS Y X W (.Pass pos) dPass := ⟨_, ps_pass, fun ρ o h F0 H0 F σ H R D w => by cases h; exact w F σ H (Ex.refl F) R⟩
theorem gs_break : GS Y X W (.Break pos) dBrk := ⟨_, ps_break, fun ρ o h F0 H0 F σ H R D w => by cases h; exact w F σ H (Ex.refl F) R⟩
theorem gs_continue : GS Y X W (.Continue pos) dCnt := ⟨_, ps_continue, fun ρ o h F0 H0 F σ H R D w => by cases h; exact w F σ H (Ex.refl F) R⟩
theorem gs_doc {x j pos'} : GS Y X W (.Expr (.Constant (.str x) j pos) pos') dPass := ⟨_, ps_doc, fun ρ o h F0 H0 F σ H R D w => by cases h; exact w F σ H (Ex.refl F) R⟩
theorem gss_nil : GSs Y X W [] dPass := ⟨_, pss_nil, fun ρ o h F0 H0 F σ H R D w => by cases h; exact w F σ H (Ex.refl F) R⟩
theorem gss_one (h : GS Y X W st m) : GSs Y X W [st] m := by
  obtain ⟨t, p, q⟩ := h
  exact ⟨t, pss_one p, q⟩
theorem sat_seq {t u : TS} (ht : ∀ ρ o, m1 ρ = some o → SatS Y W K t ρ o) (hu : ∀ ρ o, m2 ρ = some o → SatS Y W K u ρ o) : ∀ ρ o, dSeq m1 m2 ρ = some o → SatS Y W K (tSeq t u) ρ o := by
  intro ρ o h F0 H0 F σ H R D w
  unfold dSeq at h
  show t { D with nx := u D } σ H
  split at h
  · rename_i ρ' h1
    exact ht ρ _ h1 F0 H0 F σ H R _ fun F' σ' H' e R' => hu ρ' o h F0 H0 F' σ' H' R' D (w.grow e)
  · rename_i d h1; cases h; exact ht ρ _ h1 F0 H0 F σ H R _ w
  · rename_i d h1; cases h; exact ht ρ _ h1 F0 H0 F σ H R _ w
  · rename_i d h1; cases h; exact ht ρ _ h1 F0 H0 F σ H R _ w
  · rename_i x d h1; cases h; exact ht ρ _ h1 F0 H0 F σ H R _ w
  · cases h
theorem gss_cons (h1 : GS Y X W st m1) (h2 : GSs Y X W sts m2) : GSs Y X W (st :: sts) (dSeq m1 m2) := by
  obtain ⟨t, p, q⟩ := h1
  obtain ⟨t2, p2, q2⟩ := h2
  exact ⟨_, pss_cons p p2, sat_seq q q2⟩

/-! ### what an expression's data go to -/
/-- from an expression's answer to a statement's -/
def bo (m : M) (ρ : Env) (f : D → Option O) : Option O := match m with
  | some (.ok d) => f d
  | some (.exc x) => some (.exc x ρ)
  | none => none
theorem bo_some {mm : M} {ρ : Env} {f : D → Option O} {o : O} (h : bo mm ρ f = some o) : (∃ d, mm = some (.ok d) ∧ f d = some o) ∨ ∃ x, mm = some (.exc x) ∧ o = .exc x ρ := by
  unfold bo at h
  split at h
  · exact .inl ⟨_, rfl, h⟩
  · cases h; exact .inr ⟨_, rfl, rfl⟩
  · cases h
theorem WantS.excE {x : Xd} {D : Ends} {Q : VK} (w : WantS Y W K F0 H0 F (.exc x ρ) D) (R : Rel K Y F0 H0 F σ H ρ) : WantE Y W K F σ H (.exc x) Q := fun F' H' dx g q => w F' σ H' dx g.f (R.grow g) q
theorem WantS.excT {x : Xd} {D : Ends} {Q : Bool → Hp → Prop} (w : WantS Y W K F0 H0 F (.exc x ρ) D) (R : Rel K Y F0 H0 F σ H ρ) : WantT Y W K F σ H (.exc x) Q := fun F' H' dx g q => w F' σ H' dx g.f (R.grow g) q
def dRet (m : Env → M) : SM := fun ρ => bo (m ρ) ρ fun d => some (.ret d)
def dRetN : SM := fun _ => some (.ret .non)
def dDrop (m : Env → M) : SM := fun ρ => bo (m ρ) ρ fun _ => some (.nx ρ)
theorem gs_ret (h : GE Y X W e ma) : GS Y X W (.Return (some e) pos) (dRet ma) := by
  obtain ⟨t, p, q⟩ := h
  refine ⟨_, ps_ret p, fun ρ o h F0 H0 F σ H R D w => ?_⟩
  rcases bo_some h with ⟨d, e1, h⟩ | ⟨x, e1, rfl⟩
  · cases h
    exact q ρ _ e1 F0 H0 F σ H R _ fun v F' H' g r => w v F' H' g.f (R.gr.trans g) r
  · exact q ρ _ e1 F0 H0 F σ H R _ (w.excE R)
theorem gs_retN : GS Y X W (.Return none pos) dRetN := ⟨_, ps_retN, fun ρ o h F0 H0 F σ H R D w => by
  cases h
  exact w .non F H (Ex.refl F) R.gr .non⟩
theorem gs_expr (h : GE Y X W e ma) (hs : swapsWith e none pos.line X.env = pure false := by rfl) : GS Y X W (.Expr e pos) (dDrop ma) := by
  obtain ⟨t, p, q⟩ := h
  refine ⟨_, ps_expr p hs, fun ρ o h F0 H0 F σ H R D w => ?_⟩
  rcases bo_some h with ⟨d, e1, h⟩ | ⟨x, e1, rfl⟩
  · cases h
    exact q ρ _ e1 F0 H0 F σ H R _ fun v F' H' g r => w F' σ H' g.f (R.grow g)
  · exact q ρ _ e1 F0 H0 F σ H R _ (w.excE R)
def dIfS (mc : Env → M) (m1 m2 : SM) : SM := fun ρ => bo (mc ρ) ρ fun d => match d with
  | .bl true => m1 ρ
  | .bl false => m2 ρ
  | _ => none
theorem gs_if {c : Expr} {s1 s2 : List Stmt} (hc : GT Y X W c mc) (h1 : GSs Y X W s1 m1) (h2 : GSs Y X W s2 m2) : GS Y X W (.If c s1 s2 pos) (dIfS mc m1 m2) := by
  obtain ⟨t, p, q⟩ := hc
  obtain ⟨t1, p1, q1⟩ := h1
  obtain ⟨t2, p2, q2⟩ := h2
  refine ⟨_, ps_if p p1 p2, fun ρ o h F0 H0 F σ H R D w => ?_⟩
  rcases bo_some h with ⟨d, e1, h⟩ | ⟨x, e1, rfl⟩
  · refine q ρ _ e1 F0 H0 F σ H R _ fun b eb F' H' g => ?_
    subst eb
    cases b with
    | true => exact iteT (q1 ρ o h F0 H0 F' σ H' (R.grow g) D (w.grow g.f))
    | false => exact iteF (q2 ρ o h F0 H0 F' σ H' (R.grow g) D (w.grow g.f))
  · exact q ρ _ e1 F0 H0 F σ H R _ (w.excT R)

/-! ### targets -/
/-- data go to a target; js: the slots that may change -/
abbrev TM := D → Env → Option Env
def Only (js : List Nat) (σ σ' : L2.St) : Prop := σ'.length = σ.length ∧ ∀ j, j ∉ js → σ'[j]? = σ[j]?
theorem Only.refl {js : List Nat} {σ : L2.St} : Only js σ σ := ⟨rfl, fun _ _ => rfl⟩
def SatG (Y : Cfg) (K : PySem.W.Frag) (js : List Nat) (g : TG) (d : D) (ρ ρ' : Env) : Prop := ∀ F0 H0 F σ H v, Rel K Y F0 H0 F σ H ρ → Rep K Y F v d → ∀ Q : L2.St → Hp → Prop, (∀ σ', Only js σ σ' → Rel K Y F0 H0 F σ' H ρ' → Q σ' H) → g v σ H Q
def GG (Y : Cfg) (X : Cx) (e : Expr) (js : List Nat) (m : TM) : Prop := ∃ g, PG X e g ∧ ∀ d ρ ρ', m d ρ = some ρ' → SatG Y X.K js g d ρ ρ'
abbrev TMs := List D → Env → Option Env
def SatGs (Y : Cfg) (K : PySem.W.Frag) (js : List Nat) (g : TGs) (ds : List D) (ρ ρ' : Env) : Prop := ∀ F0 H0 F σ H vs, Rel K Y F0 H0 F σ H ρ → RepL K Y F vs ds → ∀ Q : L2.St → Hp → Prop, (∀ σ', Only js σ σ' → Rel K Y F0 H0 F σ' H ρ' → Q σ' H) → g vs σ H Q
def GGs (Y : Cfg) (X : Cx) (es : List Expr) (js : List Nat) (m : TMs) : Prop := ∃ g, PGs X es g ∧ ∀ ds ρ ρ', m ds ρ = some ρ' → SatGs Y X.K js g ds ρ ρ'
def tgN (i : Nat) : TM := fun d ρ => some (ρ.set i (some (.val d)))
theorem only_set {i : Nat} {σ : L2.St} {x : Option V} : Only [i] σ (σ.set i x) := ⟨by simp, fun j hj => by
  have : i ≠ j := fun e => hj (by simp [e])
  exact List.getElem?_set_ne this⟩
theorem gg_name (i : Nat) {x : Str} (hN : X.N.Nodup) (hi : X.N[i]? = some x := by rfl) (hx : Loc X.env.scope x := by first | exact Or.inl rfl | exact Or.inr rfl) (hf : X.fn x = true ∨ X.env.scope.names.lookup x = some .local := by first | exact .inl rfl | exact .inr rfl | assumption) : GG Y X (.Name x pos) [i] (tgN i) :=
  ⟨_, pg_name (i := i) hN hi hx hf, fun d ρ ρ' h F0 H0 F σ H v R r Q k => by
    cases h
    exact k _ only_set (R.set r)⟩
def tgsNil : TMs := fun ds ρ => match ds with
  | [] => some ρ
  | _ => none
def tgsCons (m : TM) (ms : TMs) : TMs := fun ds ρ => match ds with
  | d :: ds => match m d ρ with
    | some ρ' => ms ds ρ'
    | none => none
  | [] => none
theorem ggs_nil : GGs Y X [] [] tgsNil := ⟨_, pgs_nil, fun ds ρ ρ' h F0 H0 F σ H vs R r Q k => by
  unfold tgsNil at h
  split at h
  · cases h; cases r; exact ⟨rfl, k σ Only.refl R⟩
  · cases h⟩
theorem ggs_cons {mm : TM} {ms : TMs} {js ks : List Nat} (h1 : GG Y X e js mm) (h2 : GGs Y X es ks ms) (hs : (assignEach (e :: es) X.env).map (·.2) = assign e X.env :: (assignEach es X.env).map (·.2) := by rfl) : GGs Y X (e :: es) (js ++ ks) (tgsCons mm ms) := by
  obtain ⟨t, p, q⟩ := h1
  obtain ⟨t2, p2, q2⟩ := h2
  refine ⟨_, pgs_cons p p2 hs, fun ds ρ ρ' h F0 H0 F σ H vs R r Q k => ?_⟩
  cases ds with
  | nil => cases h
  | cons d ds =>
    cases r with
    | cons a rs =>
      cases e1 : mm d ρ with
      | none => simp only [tgsCons, e1] at h; cases h
      | some ρ1 =>
        simp only [tgsCons, e1] at h
        refine ⟨_, _, rfl, q d ρ ρ1 e1 F0 H0 F σ H _ R a _ fun σ' o' R' => q2 _ ρ1 ρ' h F0 H0 F σ' H _ R' rs Q fun σ2 o2 R2 => k σ2 ?_ R2⟩
        exact ⟨o2.1.trans o'.1, fun j hj => (o2.2 j fun z => hj (List.mem_append_right _ z)).trans (o'.2 j fun z => hj (List.mem_append_left _ z))⟩
def tgTup (n : Nat) (ms : TMs) : TM := fun d ρ => match d with
  | .tup ds => if ds.length = n then ms ds ρ else none
  | _ => none
theorem gg_tup {ms : TMs} {k n : Nat} {js : List Nat} (hc : X.calm = true) (h : GGs Y X es js ms) (hn : (assignEach es X.env).length = n := by rfl) (hst : (assignEach es X.env).findIdx? (·.1) = none := by rfl) : GG Y X (.Tuple es k pos) js (tgTup n ms) := by
  obtain ⟨t, p, q⟩ := h
  refine ⟨_, pg_tup (n := n) hc p hn hst, fun d ρ ρ' h F0 H0 F σ H v R r Q k => ?_⟩
  unfold tgTup at h
  split at h
  · split at h
    · rename_i ds hl
      obtain ⟨a, xs, rfl, ha, ra⟩ := rep_tup r
      exact ⟨a, xs, rfl, ex_t R.ex ha, by rw [ra.len]; exact hl, q _ ρ ρ' h F0 H0 F σ H xs R ra Q k⟩
    · cases h
  · cases h
/-- a, b = [..] -/
def tgLst (n : Nat) (ms : TMs) : TM := fun d ρ => match d with
  | .lst ds => if ds.length = n then ms ds ρ else none
  | _ => none
theorem gg_lst {ms : TMs} {k n : Nat} {js : List Nat} (hc : X.calm = true) (h : GGs Y X es js ms) (hn : (assignEach es X.env).length = n := by rfl) (hst : (assignEach es X.env).findIdx? (·.1) = none := by rfl) : GG Y X (.Tuple es k pos) js (tgLst n ms) := by
  obtain ⟨t, p, q⟩ := h
  refine ⟨_, pg_lst (n := n) hc p hn hst, fun d ρ ρ' h F0 H0 F σ H v R r Q k => ?_⟩
  unfold tgLst at h
  split at h
  · split at h
    · rename_i ds hl
      obtain ⟨a, xs, rfl, ha, ra⟩ := rep_lst r
      exact ⟨a, xs, rfl, (ex_l R.ex ha), by rw [ra.len]; exact hl, q _ ρ ρ' h F0 H0 F σ H xs R ra Q k⟩
    · cases h
  · cases h

/-! ### assignments -/
def dAsg (m : Env → M) (g : TM) : SM := fun ρ => bo (m ρ) ρ fun d => match g d ρ with
  | some ρ' => some (.nx ρ')
  | none => none
theorem gs_asg {tg : Expr} {g : TM} (he : GE Y X W e ma) {js : List Nat} (hg : GG Y X tg js g) (hs : swapsWithSole [tg] e pos.line X.env = pure false := by rfl) (hw : swappedStores [tg] e X.env = pure none := by rfl) (h1 : (assignEach [tg] X.env).map (·.2) = [assign tg X.env] := by rfl) : GS Y X W (.Assign [tg] e pos) (dAsg ma g) := by
  obtain ⟨t, p, q⟩ := he
  obtain ⟨t2, p2, q2⟩ := hg
  refine ⟨_, ps_asg p p2 hs hw h1, fun ρ o h F0 H0 F σ H R D w => ?_⟩
  rcases bo_some h with ⟨d, e1, h⟩ | ⟨x, e1, rfl⟩
  · split at h
    · rename_i ρ' e2
      cases h
      exact q ρ _ e1 F0 H0 F σ H R _ fun v F' H' g r => q2 d ρ ρ' e2 F0 H0 F' σ H' v (R.grow g) r _ fun σ' _ R' => w F' σ' H' g.f R'
    · cases h
  · exact q ρ _ e1 F0 H0 F σ H R _ (w.excE R)
/-- x = e, x a name -/
theorem gs_set (i : Nat) {x : Str} {pos' : Pos} (hN : X.N.Nodup) (he : GE Y X W e ma) (hi : X.N[i]? = some x := by rfl) (hx : Loc X.env.scope x := by first | exact Or.inl rfl | exact Or.inr rfl) (hs : swapsWith e (some (.Name x pos')) pos.line X.env = pure false := by rfl)
    (hf : X.fn x = true ∨ X.env.scope.names.lookup x = some .local := by first | exact .inl rfl | exact .inr rfl | assumption) : GS Y X W (.Assign [.Name x pos'] e pos) (dAsg ma (tgN i)) := by
  obtain ⟨t, p, q⟩ := he
  refine ⟨_, ps_set (i := i) hN hi hx p hs hf, fun ρ o h F0 H0 F σ H R D w => ?_⟩
  rcases bo_some h with ⟨d, e1, h⟩ | ⟨x, e1, rfl⟩
  · cases h
    exact q ρ _ e1 F0 H0 F σ H R _ fun v F' H' g r => w F' _ H' g.f ((R.grow g).set r)
  · exact q ρ _ e1 F0 H0 F σ H R _ (w.excE R)
/-- x = [..], the frame's own list -/
def dOwn (i : Nat) (ms : Env → ML) : SM := fun ρ => match ms ρ with
  | some (.ok ds) => if ds.length ≤ sizeLine then some (.nx (ρ.set i (some (.own ds)))) else none
  | some (.exc x) => some (.exc x ρ)
  | none => none
theorem gs_own (i : Nat) {x : Str} {pos' lpos : Pos} {ms : Env → ML} (hN : X.N.Nodup) (ha : GA Y X W es ms) (hi : X.N[i]? = some x := by rfl) (hx : Loc X.env.scope x := by first | exact Or.inl rfl | exact Or.inr rfl) (hs : swapsWith (.List es lpos) (some (.Name x pos')) pos.line X.env = pure false := by rfl)
    (hf : X.fn x = true ∨ X.env.scope.names.lookup x = some .local := by first | exact .inl rfl | exact .inr rfl | assumption) : GS Y X W (.Assign [.Name x pos'] (.List es lpos) pos) (dOwn i ms) := by
  obtain ⟨t, p, q⟩ := ha
  refine ⟨_, ps_set (i := i) hN hi hx (pe_lst p) hs hf, fun ρ o h F0 H0 F σ H R D w => ?_⟩
  unfold dOwn at h
  split at h
  · rename_i ds e1
    split at h
    · rename_i hz
      cases h
      refine q ρ _ e1 F0 H0 F σ H R _ fun vs F' H' g rs => ⟨by rw [rs.len]; exact hz, fun a ha => ?_⟩
      exact w F' _ _ g.f ((R.grow g).setOwn ha rs)
    · cases h
  · rename_i x e1
    cases h
    exact q ρ _ e1 F0 H0 F σ H R _ fun F' H' dx g xr => w F' σ H' dx g.f (R.grow g) xr
  · cases h
/-- x.append(e), x the frame's own list -/
def dApp (i : Nat) (m : Env → M) : SM := fun ρ => match ρ[i]? with
  | some (some (.own ds)) => bo (m ρ) ρ fun d => if ds.length < sizeLine then some (.nx (ρ.set i (some (.own (ds ++ [d]))))) else none
  | _ => none
theorem gs_app (i : Nat) {x : Str} {p1 apos cpos : Pos} (he : GE Y X W e ma) (hN : X.N[i]? = some x := by rfl) (hv : Vis X.env.scope x := by first | exact Or.inl rfl | exact Or.inr (Or.inl rfl) | exact Or.inr (Or.inr rfl)) (hd : (x == ("__debug__" : Str)) = false := by decide)
    (hcd : (x == ("__classdict__" : Str)) = false := by decide) (hbase : attributeBase (.Name x p1) "append" X.env (eval (.Name x p1) X.env) = eval (.Name x p1) X.env := by rfl)
    (hfew : ((backTo cpos (starEach [e] X.env)).all (fun x => !x.1) && (backToKw cpos (keywordEach [] X.env)).all (fun x => x.1.isSome) && decide (([e] : List Expr).length + ([] : List Keyword).length + (if ([] : List Keyword).isEmpty then 0 else 1) < 30)) = true := by rfl)
    (hline : (apos.endLine == cpos.line) = true := by rfl) (hst : starEach [e] X.env = (false, eval e X.env) :: starEach [] X.env := by rfl) (hplain : (backTo cpos (starEach [] X.env)).any (·.1) = false := by rfl)
    (hs : swapsWith (.Call (.Attribute (.Name x p1) "append" apos) [e] [] cpos) none pos.line X.env = pure false := by rfl) : GS Y X W (.Expr (.Call (.Attribute (.Name x p1) "append" apos) [e] [] cpos) pos) (dApp i ma) := by
  obtain ⟨t, p, q⟩ := he
  refine ⟨_, ps_expr (pe_bm PySem.F.plainAttrs_list PySem.F.slot_list_append PySem.F.type_list_append mt_append (pe_var hN hv hd hcd) (pa_cons p pa_nil hst) hbase hfew hline hst hplain) hs, fun ρ o h F0 H0 F σ H R D w => ?_⟩
  unfold dApp at h
  split at h
  · rename_i ds ei
    obtain ⟨v, vi, pp, xs, rfl, h0, fp, hp, rr⟩ := R.sl i _ ei
    refine ⟨.ref pp, vi, .inl ⟨rfl, xs, SqL.of hp⟩, ?_⟩
    rcases bo_some h with ⟨d, e1, h⟩ | ⟨x, e1, rfl⟩
    · split at h
      · rename_i hz
        cases h
        refine q ρ _ e1 F0 H0 F σ H R _ fun v' F' H' g r => ?_
        have R' := R.grow g
        have hp' : H' pp = some (.lst xs) := g.h pp _ hp
        have fp' : F' pp = none := (g.old pp _ hp).trans fp
        refine ⟨pp, xs, v', rfl, rfl, hp', by rw [rr.len]; exact hz, ?_⟩
        exact w F' σ _ g.f (R'.change ei rfl vi h0 fp' (fun a fs e z => by rw [z, hp'] at e; cases e) ⟨pp, _, rfl, h0, fp', upd_same, (rr.mono g.f).append (.cons r .nil)⟩ rfl)
      · cases h
    · exact q ρ _ e1 F0 H0 F σ H R _ fun F' H' dx g xr => w F' σ H' dx g.f (R.grow g) xr
  · cases h
/-- from here on the list is not changed -/
def frz (i : Nat) (ρ : Env) : Option Env := match ρ[i]? with
  | some (some (.own ds)) => some (ρ.set i (some (.val (.lst ds))))
  | some (some (.val d)) => some ρ
  | _ => none
def dFrz (i : Nat) (m : SM) : SM := fun ρ => match frz i ρ with
  | some ρ' => m ρ'
  | none => none
theorem frz_rel {i : Nat} {ρ ρ' : Env} (h : frz i ρ = some ρ') (R : Rel K Y F0 H0 F σ H ρ) : ∃ F', Ex F F' ∧ Rel K Y F0 H0 F' σ H ρ' := by
  unfold frz at h
  split at h
  · rename_i ds e; cases h; exact R.freeze e
  · cases h; exact ⟨F, Ex.refl F, R⟩
  · cases h
theorem gss_frz (i : Nat) (h : GSs Y X W sts m) : GSs Y X W sts (dFrz i m) := by
  obtain ⟨t, p, q⟩ := h
  refine ⟨t, p, fun ρ o h F0 H0 F σ H R D w => ?_⟩
  unfold dFrz at h
  split at h
  · rename_i ρ' e
    obtain ⟨F', ex, R'⟩ := frz_rel e R
    exact q ρ' o h F0 H0 F' σ H R' D (w.grow ex)
  · cases h
end
end Den
set_option Elab.async false
set_option linter.all false
set_option maxRecDepth 100000
set_option maxHeartbeats 4000000
namespace Den
open PySem L2
variable [Named]

/-- while the told part of the heap stands, J gives these data, one after another -/
def WalkD (K : PySem.W.Frag) (Y : Core) (F : Hp) (J : It) (ds : List D) : Prop := ∃ (G : Hp → Prop) (Yf : Nat → Hp → V → Hp → Prop), Walk J ds.length G Yf ∧ (∀ H, Ex F H → G H) ∧
  ∀ i H x H', i < ds.length → Ex F H → Yf i H x H' → ∀ F1, Ex F F1 → Ex F1 H → ∃ d F2, ds[i]? = some d ∧ Gr F1 H F2 H' ∧ Rep K Y F2 x d
section
variable (Y : Cfg) (X : Cx) (W : WX)
/-- what is walked: its data, or the exception of the expression -/
def WantI (K : PySem.W.Frag) (F : Hp) (σ : L2.St) (H : Hp) (r : RL) (R : It → Hp → Prop) : Prop := match r with
  | .ok ds => ∀ J F' H', Gr F H F' H' → WalkD K Y F' J ds → R J H'
  | .exc x => ∀ F' H' dx, Gr F H F' H' → XRep K Y F' H' x dx → W (.ref (Y.cl x.c)) dx σ H'
def GI (tg iter : Expr) (mi : Env → ML) : Prop := ∃ wi, PI X tg iter wi ∧ ∀ ρ r, mi ρ = some r → ∀ F0 H0 F σ H, Rel X.K Y F0 H0 F σ H ρ → ∀ R : It → Hp → Prop, WantI Y W X.K F σ H r R → wi σ H R
end
section
variable {Y : Cfg} {X : Cx} {W : WX} {K : PySem.W.Frag} {a b e tg : Expr} {es : List Expr} {ma mb mc : Env → M} {pos p2 : Pos} {st : Stmt} {sts : List Stmt} {m m1 m2 : SM} {F0 H0 F F1 H H1 : Hp} {σ : L2.St} {ρ : Env}

/-! ### the sources -/
def itemsD (d : D) : Option (List D) := match d with
  | .lst ds => some ds
  | .tup ds => some ds
  | .str z => some (z.cps.toList.map fun c => .str ⟨#[c]⟩)
  | _ => none
/-- the items of a list, a tuple -/
def iSeq (m : Env → M) : Env → ML := fun ρ => match m ρ with
  | some (.ok (.lst ds)) => some (.ok ds)
  | some (.ok (.tup ds)) => some (.ok ds)
  | some (.exc x) => some (.exc x)
  | _ => none
theorem walkd_list {p : Addr} {xs : List V} {ds : List D} (hs : SqL K F p xs) (r : RepL K Y F xs ds) : WalkD K Y F (Itl K p) ds := by
  refine ⟨_, _, r.len ▸ walk_list (xs := xs), fun H e => ex_l e hs, fun i H x H' hi e y F1 e1 e2 => ?_⟩
  obtain ⟨rfl, hx⟩ := y
  obtain ⟨d, hd, q⟩ := r.getV hx
  exact ⟨d, F1, hd, Gr.refl e2, q.mono e1⟩
theorem walkd_tup {p : Addr} {xs : List V} {ds : List D} (hs : SqT K F p xs) (r : RepL K Y F xs ds) : WalkD K Y F (Itt K p) ds := by
  refine ⟨_, _, r.len ▸ walk_tup (xs := xs), fun H e => ex_t e hs, fun i H x H' hi e y F1 e1 e2 => ?_⟩
  obtain ⟨rfl, hx⟩ := y
  obtain ⟨d, hd, q⟩ := r.getV hx
  exact ⟨d, F1, hd, Gr.refl e2, q.mono e1⟩
def jSeq (K : PySem.W.Frag) (tl : TE) : TI := fun σ H R => tl σ H fun x H1 => ∃ a, x = .ref a ∧ (((∃ xs, SqL K H1 a xs) ∧ R (Itl K a) H1) ∨ ((∃ xs, SqT K H1 a xs) ∧ R (Itt K a) H1))
theorem pi_seq {l : Expr} {tl : TE} (hl : PE X l tl) : PI X tg l (jSeq X.K tl) := by
  refine ⟨fun pins s σ H R I h => ?_⟩
  refine thn (hl.run pins s σ H _ I h) fun v s1 ⟨x, H1, I1, r1, q1⟩ => ?_
  obtain ⟨a, rfl, q⟩ := q1
  cases r1
  have fp : ∀ b, b ∈ [s1.heap.objs.size] → FpOk X pins H1 b := fun b hb => by
    have e : b = s1.heap.objs.size := by simpa using hb
    rw [e]
    exact I1.fpOk (Nat.le_refl _) (I1.hok.fresh (Nat.le_refl _))
  rcases q with ⟨⟨xs, hq⟩, q⟩ | ⟨⟨xs, hq⟩, q⟩
  · obtain ⟨its, rv, p, _⟩ := I1.list hq
    refine wpAny_pyIter_list p.isList ⟨s1.heap.objs.size, [s1.heap.objs.size], _, _, H1, rfl, ?_, turn_list a _, ?_, fp, q⟩
    · exact I1.kept (t' := s1.toks) fun b o e => Heap.get?_push_of_some _ e
    · exact ⟨_, Heap.get?_push_size _ rfl, rfl, rfl⟩
  · obtain ⟨its, rv, p, _⟩ := I1.tuple hq
    refine wpAny_pyIter_tuple (show s1.heap.IsTuple a its.toArray from p) ⟨s1.heap.objs.size, [s1.heap.objs.size], _, _, H1, rfl, ?_, turn_tuple a _, ?_, fp, q⟩
    · exact I1.kept (t' := s1.toks) fun b o e => Heap.get?_push_of_some _ e
    · exact ⟨_, Heap.get?_push_size _ rfl, rfl, rfl⟩
theorem gi_seq (h : GE Y X W e ma) : GI Y X W tg e (iSeq ma) := by
  obtain ⟨t, p, q⟩ := h
  refine ⟨_, pi_seq p, fun ρ r h F0 H0 F σ H R Q w => ?_⟩
  unfold iSeq at h
  split at h
  · rename_i ds e1
    cases h
    refine q ρ _ e1 F0 H0 F σ H R _ fun v F' H' g r => ?_
    obtain ⟨p, xs, rfl, ha, ra⟩ := rep_lst r
    exact ⟨p, rfl, .inl ⟨⟨xs, (ex_l g.fh ha)⟩, w _ F' H' g (walkd_list ha ra)⟩⟩
  · rename_i ds e1
    cases h
    refine q ρ _ e1 F0 H0 F σ H R _ fun v F' H' g r => ?_
    obtain ⟨p, xs, rfl, ha, ra⟩ := rep_tup r
    exact ⟨p, rfl, .inr ⟨⟨xs, ex_t g.fh ha⟩, w _ F' H' g (walkd_tup ha ra)⟩⟩
  · rename_i x e1
    cases h
    exact q ρ _ e1 F0 H0 F σ H R _ w
  · cases h
theorem walkd_str (z : Str) : WalkD K Y F (Its z) (z.cps.toList.map fun c => D.str ⟨#[c]⟩) := by
  have hl : (z.cps.toList.map fun c => D.str ⟨#[c]⟩).length = z.cps.size := by simp
  refine ⟨_, _, (by rw [hl]; exact walk_str), fun _ _ => trivial, fun i H x H' hi e y F1 e1 e2 => ?_⟩
  obtain ⟨rfl, c, hc, rfl⟩ := y
  exact ⟨.str ⟨#[c]⟩, F1, by rw [List.getElem?_map, Array.getElem?_toList, hc]; rfl, Gr.refl e2, .str _⟩
/-- the signs of a text -/
def iTxt (m : Env → M) : Env → ML := fun ρ => match m ρ with
  | some (.ok (.str z)) => some (.ok (z.cps.toList.map fun c => .str ⟨#[c]⟩))
  | some (.exc x) => some (.exc x)
  | _ => none
theorem gi_str (h : GE Y X W e ma) : GI Y X W tg e (iTxt ma) := by
  obtain ⟨t, p, q⟩ := h
  refine ⟨_, pi_str p, fun ρ r h F0 H0 F σ H R Q w => ?_⟩
  unfold iTxt at h
  split at h
  · rename_i z e1
    cases h
    refine q ρ _ e1 F0 H0 F σ H R _ fun v F' H' g r => ⟨z, rep_str r, w _ F' H' g (walkd_str z)⟩
  · rename_i x e1
    cases h
    exact q ρ _ e1 F0 H0 F σ H R _ w
  · cases h
def okR (i : Int) : Prop := -(2 ^ 62) ≤ i ∧ i < 2 ^ 62
instance (i : Int) : Decidable (okR i) := inferInstanceAs (Decidable (_ ∧ _))
def rngD (lo hi : Int) : List D := (List.range (hi - lo).toNat).map fun (k : Nat) => .int (lo + k)
def iRg1 (ms : Env → ML) : Env → ML := fun ρ => match ms ρ with
  | some (.ok [.int j]) => if okR j then some (.ok (rngD 0 j)) else none
  | some (.exc x) => some (.exc x)
  | _ => none
def iRg2 (ms : Env → ML) : Env → ML := fun ρ => match ms ρ with
  | some (.ok [.int i, .int j]) => if okR i ∧ okR j then some (.ok (rngD i j)) else none
  | some (.exc x) => some (.exc x)
  | _ => none
theorem walkd_range {lo hi : Int} : WalkD K Y F (Itr lo (hi - lo).toNat) (rngD lo hi) := by
  have hl : (rngD lo hi).length = (hi - lo).toNat := by simp [rngD]
  refine ⟨_, _, (by rw [hl]; exact walk_range (lo := lo)), fun _ _ => trivial, fun i H x H' hi e y F1 e1 e2 => ?_⟩
  obtain ⟨rfl, rfl⟩ := y
  rw [hl] at hi
  exact ⟨.int (lo + i), F1, by simp [rngD, hi], Gr.refl e2, .int _⟩
theorem gi_range1 {p : Pos} {ms : Env → ML} (hg : Gl X "range") (hm : X.mg "range" = none) (ha : GA Y X W [a] ms) (hs : starEach [a] X.env = [(false, eval a X.env)] := by rfl) : GI Y X W tg (.Call (.Name "range" p) [a] [] pos) (iRg1 ms) := by
  obtain ⟨t, pa, q⟩ := ha
  refine ⟨_, pi_range1 hg hm pa hs, fun ρ r h F0 H0 F σ H R Q w => ?_⟩
  unfold iRg1 at h
  split at h
  · rename_i j e1
    split at h
    · rename_i hj
      cases h
      refine q ρ _ e1 F0 H0 F σ H R _ fun vs F' H' g rs => ?_
      obtain ⟨v, rfl, rv⟩ := repL1 rs
      refine ⟨j, by rw [rep_int rv], hj.1, hj.2, w _ F' H' g ?_⟩
      have := walkd_range (K := X.K) (Y := Y) (F := F') (lo := 0) (hi := j)
      rwa [Int.sub_zero] at this
    · cases h
  · rename_i x e1
    cases h
    exact q ρ _ e1 F0 H0 F σ H R _ w
  · cases h
theorem gi_range2 {p : Pos} {ms : Env → ML} (hg : Gl X "range") (hm : X.mg "range" = none) (ha : GA Y X W [a, b] ms) (hs : starEach [a, b] X.env = [(false, eval a X.env), (false, eval b X.env)] := by rfl) (hs2 : starEach [b] X.env = [(false, eval b X.env)] := by rfl) :
    GI Y X W tg (.Call (.Name "range" p) [a, b] [] pos) (iRg2 ms) := by
  obtain ⟨t, pa, q⟩ := ha
  refine ⟨_, pi_range2 hg hm pa hs hs2, fun ρ r h F0 H0 F σ H R Q w => ?_⟩
  unfold iRg2 at h
  split at h
  · rename_i i j e1
    split at h
    · rename_i hj
      cases h
      refine q ρ _ e1 F0 H0 F σ H R _ fun vs F' H' g rs => ?_
      obtain ⟨v, u, rfl, rv, ru⟩ := repL2 rs
      exact ⟨i, j, by rw [rep_int rv, rep_int ru], ⟨hj.1.1, hj.1.2, hj.2.1, hj.2.2⟩, w _ F' H' g walkd_range⟩
    · cases h
  · rename_i x e1
    cases h
    exact q ρ _ e1 F0 H0 F σ H R _ w
  · cases h
def numD : Nat → List D → List D
  | _, [] => []
  | n, d :: ds => .tup [.int (n : Int), d] :: numD (n + 1) ds
theorem numD_len : ∀ (ds : List D) (n : Nat), (numD n ds).length = ds.length
  | [], _ => rfl
  | _ :: ds, n => by simp [numD, numD_len ds]
theorem numD_get : ∀ {ds : List D} {n i : Nat} {d : D}, ds[i]? = some d → (numD n ds)[i]? = some (.tup [.int ((n + i : Nat) : Int), d])
  | [], _, _, _, h => by simp at h
  | e :: ds, n, 0, d, h => by simp at h; subst h; rfl
  | e :: ds, n, i + 1, d, h => by
    have := numD_get (n := n + 1) (by simpa using h : ds[i]? = some d)
    simp only [numD, List.getElem?_cons_succ, this]
    congr 4; omega
theorem walkd_enum {p : Addr} {xs : List V} {ds : List D} (hp : SqL K F p xs) (rx : RepL K Y F xs ds) : WalkD K Y F (Ite K p) (numD 0 ds) := by
  have hl : (numD 0 ds).length = xs.length := by rw [numD_len, ← rx.len]
  refine ⟨_, _, (by rw [hl]; exact walk_enum (xs := xs)), fun H e => (ex_l e hp), fun i H x H' hi e y F1 e1 e2 => ?_⟩
  obtain ⟨T, x1, y1, rfl, hT, rfl, hx1, hy1⟩ := y
  cases hx1
  obtain ⟨d, hd, rd⟩ := rx.getV hy1
  have gn := Gr.new (o := .tup [V.int (i : Nat), y1]) e2 hT
  refine ⟨_, _, numD_get hd, gn, ?_⟩
  rw [Nat.zero_add]
  exact .tup (SqT.of upd_same) (.cons (.int _) (.cons (rd.mono (e1.trans gn.f)) .nil))
def iEnm (ms : Env → ML) : Env → ML := fun ρ => match ms ρ with
  | some (.ok [.lst ds]) => some (.ok (numD 0 ds))
  | some (.exc x) => some (.exc x)
  | _ => none
theorem gi_enum {p tpos : Pos} {elts : List Expr} {kk : Nat} {ms : Env → ML} (hg : Gl X "enumerate") (hm : X.mg "enumerate" = none) (ha : GA Y X W [e] ms) (hs : starEach [e] X.env = [(false, eval e X.env)] := by rfl) :
    GI Y X W (.Tuple elts kk tpos) (.Call (.Name "enumerate" p) [e] [] pos) (iEnm ms) := by
  obtain ⟨t, pa, q⟩ := ha
  refine ⟨_, pi_enum hg hm pa hs, fun ρ r h F0 H0 F σ H R Q w => ?_⟩
  unfold iEnm at h
  split at h
  · rename_i ds e1
    cases h
    refine q ρ _ e1 F0 H0 F σ H R _ fun vs F' H' g rs => ?_
    obtain ⟨v, rfl, rv⟩ := repL1 rs
    obtain ⟨p, xs, rfl, hp, rx⟩ := rep_lst rv
    exact ⟨p, xs, rfl, (ex_l g.fh hp), w _ F' H' g (walkd_enum hp rx)⟩
  · rename_i x e1
    cases h
    exact q ρ _ e1 F0 H0 F σ H R _ w
  · cases h

/-! ### for -/
def forD (g : TM) (m : SM) : List D → SM
  | [], ρ => some (.nx ρ)
  | d :: ds, ρ => match g d ρ with
    | none => none
    | some ρ1 => match m ρ1 with
      | some (.nx ρ2) => forD g m ds ρ2
      | some (.ct ρ2) => forD g m ds ρ2
      | some (.bk ρ2) => some (.nx ρ2)
      | some (.ret v) => some (.ret v)
      | some (.exc x ρ2) => some (.exc x ρ2)
      | none => none
def dFor (mi : Env → ML) (g : TM) (m : SM) : SM := fun ρ => match mi ρ with
  | some (.ok ds) => forD g m ds ρ
  | some (.exc x) => some (.exc x ρ)
  | none => none
theorem sat_for {wi : TI} {tgt : TG} {tb : TS} {mi : Env → ML} {g : TM} (hi : ∀ ρ r, mi ρ = some r → ∀ F0 H0 F σ H, Rel K Y F0 H0 F σ H ρ → ∀ R : It → Hp → Prop, WantI Y W K F σ H r R → wi σ H R) {js : List Nat} (hg : ∀ d ρ ρ', g d ρ = some ρ' → SatG Y K js tgt d ρ ρ')
    (hb : ∀ ρ o, m ρ = some o → SatS Y W K tb ρ o) : ∀ ρ o, dFor mi g m ρ = some o → SatS Y W K (tFor wi tgt tb) ρ o := by
  intro ρ o h F0 H0 F σ H R D w
  unfold dFor at h
  split at h
  · rename_i ds e1
    refine hi ρ _ e1 F0 H0 F σ H R _ fun J F1 H1 g1 wk => ?_
    obtain ⟨G, Yf, wlk, hG, hY⟩ := wk
    refine for_it wlk (fun i σ' H' => ∃ ρ' F', Ex F1 F' ∧ Rel K Y F0 H0 F' σ' H' ρ' ∧ forD g m (ds.drop i) ρ' = some o) ⟨ρ, F1, Ex.refl F1, R.grow g1, h⟩ (fun i σ' H' _ ⟨ρ', F', e', R', _⟩ => hG H' (e'.trans R'.ex)) ?_ ?_
    · rintro i x σ' H2 H3 hi ⟨ρ', F', e', R', hf⟩ y
      obtain ⟨d, F2, hd, g2, rd⟩ := hY i H2 x H3 hi (e'.trans R'.ex) y F' e' R'.ex
      have hdrop : ds.drop i = d :: ds.drop (i + 1) := by
        have hl := (List.getElem?_eq_some_iff.mp hd).2
        rw [← hl]; exact List.drop_eq_getElem_cons hi
      rw [hdrop] at hf
      unfold forD at hf
      cases e2 : g d ρ' with
      | none => rw [e2] at hf; cases hf
      | some ρ1 =>
        simp only [e2] at hf
        refine hg d ρ' ρ1 e2 F0 H0 F2 σ' H3 x (R'.grow g2) rd _ fun σ2 _ R2 => ?_
        have e12 : Ex F1 F2 := e'.trans g2.f
        cases e3 : m ρ1 with
        | none => rw [e3] at hf; cases hf
        | some o1 =>
          simp only [e3] at hf
          refine hb ρ1 o1 e3 F0 H0 F2 σ2 H3 R2 _ ?_
          have back : Ex F F2 := g1.f.trans e12
          cases o1 with
          | nx ρ2 => exact fun F' σ' H' e R' => ⟨ρ2, F', e12.trans e, R', hf⟩
          | ct ρ2 => exact fun F' σ' H' e R' => ⟨ρ2, F', e12.trans e, R', hf⟩
          | bk ρ2 => cases hf; exact fun F' σ' H' e R' => w F' σ' H' (back.trans e) R'
          | ret v => cases hf; exact fun v F' H' e => w v F' H' (back.trans e)
          | exc x ρ2 => cases hf; exact fun F' σ' H' dx e => w F' σ' H' dx (back.trans e)
    · rintro σ' H' ⟨ρ', F', e', R', hf⟩
      rw [List.drop_length] at hf
      cases hf
      exact w F' σ' H' (g1.f.trans e') R'
  · rename_i x e1
    cases h
    exact hi ρ _ e1 F0 H0 F σ H R _ fun F' H' dx g xr => w F' σ H' dx g.f (R.grow g) xr
  · cases h
theorem gs_for {iter : Expr} {mi : Env → ML} {g : TM} (hp : PassesOwn (model X.prog X.w) X.A X.env X.xe) (hc : X.calm = true) {js : List Nat} (hi : GI Y X W tg iter mi) (hg : GG Y X tg js g) (hb : GSs Y X W sts m) (hs : ∀ x, foldedSetIterable iter X.env x = pure x := by intro _; rfl) : GS Y X W (.For tg iter sts [] pos) (dFor mi g m) := by
  obtain ⟨wi, p1, q1⟩ := hi
  obtain ⟨t, p2, q2⟩ := hg
  obtain ⟨tb, p3, q3⟩ := hb
  exact ⟨_, ps_for hp hc p1 p2 p3 hs, sat_for q1 q2 q3⟩

/-! ### while: by a number of turns that is enough -/
def whD (n : Nat) (mc : Env → M) (m : SM) : SM := match n with
  | 0 => fun _ => none
  | n + 1 => fun ρ => bo (mc ρ) ρ fun d => match d with
    | .bl true => match m ρ with
      | some (.nx ρ2) => whD n mc m ρ2
      | some (.ct ρ2) => whD n mc m ρ2
      | some (.bk ρ2) => some (.nx ρ2)
      | some (.ret v) => some (.ret v)
      | some (.exc x ρ2) => some (.exc x ρ2)
      | none => none
    | .bl false => some (.nx ρ)
    | _ => none
open Classical in
noncomputable def dWh (mc : Env → M) (m : SM) : SM := fun ρ => if h : ∃ n o, whD n mc m ρ = some o then some (Classical.choose (Classical.choose_spec h)) else none
theorem whD_more {mc : Env → M} : ∀ {n : Nat} {ρ : Env} {o : O}, whD n mc m ρ = some o → ∀ k, whD (n + k) mc m ρ = some o
  | 0, _, _, h, _ => by cases h
  | n + 1, ρ, o, h, k => by
    have e : n + 1 + k = (n + k) + 1 := by omega
    rw [e]
    unfold whD at h ⊢
    rcases bo_some h with ⟨d, e1, h⟩ | ⟨x, e1, rfl⟩
    · rw [e1]
      show (match d with | .bl true => _ | .bl false => _ | _ => _) = _
      split at h
      · cases e2 : m ρ with
        | none => rw [e2] at h; cases h
        | some o1 =>
          simp only [e2] at h ⊢
          cases o1 with
          | nx ρ2 => exact whD_more h k
          | ct ρ2 => exact whD_more h k
          | bk ρ2 => exact h
          | ret v => exact h
          | exc x ρ2 => exact h
      · exact h
      · cases h
    · rw [e1]; rfl
theorem dWh_of {mc : Env → M} {n : Nat} {o : O} (h : whD n mc m ρ = some o) : dWh mc m ρ = some o := by
  unfold dWh
  have hx : ∃ n o, whD n mc m ρ = some o := ⟨n, o, h⟩
  rw [dif_pos hx]
  have h2 := Classical.choose_spec (Classical.choose_spec hx)
  have a := whD_more h (Classical.choose hx)
  have b := whD_more h2 n
  rw [Nat.add_comm] at b
  rw [a] at b
  exact congrArg some (Option.some.inj b).symm
theorem dWh_ex {mc : Env → M} {o : O} (h : dWh mc m ρ = some o) : ∃ n, whD n mc m ρ = some o := by
  unfold dWh at h
  split at h
  · rename_i hx
    cases h
    exact ⟨_, Classical.choose_spec (Classical.choose_spec hx)⟩
  · cases h
theorem gs_while {c : Expr} (hp : PassesOwn (model X.prog X.w) X.A X.env X.xe) (hc : GT Y X W c mc) (hb : GSs Y X W sts m) : GS Y X W (.While c sts [] pos) (dWh mc m) := by
  obtain ⟨t, p, q⟩ := hc
  obtain ⟨tb, p2, q2⟩ := hb
  refine ⟨_, ps_while hp p p2, fun ρ o h F0 H0 F σ H R D w => ?_⟩
  obtain ⟨n, h⟩ := dWh_ex h
  refine ⟨fun n σ' H' => ∃ ρ' F', Ex F F' ∧ Rel X.K Y F0 H0 F' σ' H' ρ' ∧ whD n mc m ρ' = some o, ⟨n, ρ, F, Ex.refl F, R, h⟩, ?_⟩
  rintro n σ' H' ⟨ρ', F', e', R', h⟩
  cases n with
  | zero => cases h
  | succ n =>
    unfold whD at h
    have w' := w.grow e'
    rcases bo_some h with ⟨d, e1, h⟩ | ⟨x, e1, rfl⟩
    · refine q ρ' _ e1 F0 H0 F' σ' H' R' _ fun b eb F2 H2 g2 => ?_
      subst eb
      cases b with
      | true =>
        simp only at h
        rw [if_pos rfl]
        refine ⟨fun σ' H' => ∃ ρ' F', Ex F F' ∧ Rel X.K Y F0 H0 F' σ' H' ρ' ∧ whD n mc m ρ' = some o, fun σ3 H3 hh => ⟨n, Nat.lt_succ_self n, hh⟩, ?_⟩
        cases e3 : m ρ' with
        | none => rw [e3] at h; cases h
        | some o1 =>
          simp only [e3] at h
          refine q2 ρ' o1 e3 F0 H0 F2 σ' H2 (R'.grow g2) _ ?_
          have e2 : Ex F F2 := e'.trans g2.f
          cases o1 with
          | nx ρ2 => exact fun F3 σ3 H3 e R3 => ⟨ρ2, F3, e2.trans e, R3, h⟩
          | ct ρ2 => exact fun F3 σ3 H3 e R3 => ⟨ρ2, F3, e2.trans e, R3, h⟩
          | bk ρ2 => cases h; exact fun F3 σ3 H3 e R3 => w F3 σ3 H3 (e2.trans e) R3
          | ret v => cases h; exact fun v F3 H3 e => w v F3 H3 (e2.trans e)
          | exc x ρ2 => cases h; exact fun F3 σ3 H3 dx e => w F3 σ3 H3 dx (e2.trans e)
      | false =>
        cases h
        rw [if_neg Bool.false_ne_true]
        exact w F2 σ' H2 (e'.trans g2.f) (R'.grow g2)
    · exact q ρ' _ e1 F0 H0 F' σ' H' R' _ (w'.excT R')
end
end Den
set_option Elab.async false
set_option linter.all false
set_option maxRecDepth 100000
set_option maxHeartbeats 4000000
namespace Den
open PySem L2
variable [Named]
/-! ### one reading for each denotation -/
section
variable (Y : Cfg) (W : WX) (K : PySem.W.Frag)
def tM (m : Env → M) : TE := fun σ H Q => ∃ F0 H0 F ρ r, Rel K Y F0 H0 F σ H ρ ∧ m ρ = some r ∧ WantE Y W K F σ H r Q
def tMT (m : Env → M) : TT := fun σ H Q => ∃ F0 H0 F ρ r, Rel K Y F0 H0 F σ H ρ ∧ m ρ = some r ∧ WantT Y W K F σ H r Q
def gM (js : List Nat) (m : TM) : TG := fun v σ H Q => ∃ F0 H0 F ρ d ρ', Rel K Y F0 H0 F σ H ρ ∧ Rep K Y F v d ∧ m d ρ = some ρ' ∧ ∀ σ', Only js σ σ' → Rel K Y F0 H0 F σ' H ρ' → Q σ' H
def iM (mi : Env → ML) : TI := fun σ H R => ∃ F0 H0 F ρ r, Rel K Y F0 H0 F σ H ρ ∧ mi ρ = some r ∧ WantI Y W K F σ H r R
def sM (m : SM) : TS := fun D σ H => ∃ F0 H0 F ρ o, Rel K Y F0 H0 F σ H ρ ∧ m ρ = some o ∧ WantS Y W K F0 H0 F o D
end
section
variable {Y : Cfg} {X : Cx} {W : WX} {K : PySem.W.Frag} {a b e tg iter elt : Expr} {es : List Expr} {ma mb mc : Env → M} {pos p2 : Pos} {st : Stmt} {sts : List Stmt} {m m1 m2 : SM} {F0 H0 F F1 H H1 : Hp} {σ : L2.St} {ρ : Env}
theorem GE.pe (h : GE Y X W e ma) : PE X e (tM Y W X.K ma) := by
  obtain ⟨t, p, q⟩ := h
  refine ⟨fun pins s σ H Q I h => ?_⟩
  obtain ⟨F0, H0, F, ρ, r, R, e, w⟩ := h
  exact p.run pins s σ H Q I (q ρ r e F0 H0 F σ H R Q w)
theorem GT.pt (h : GT Y X W e ma) : PT X e (tMT Y W X.K ma) := by
  obtain ⟨t, p, q⟩ := h
  refine ⟨fun pins s σ H Q I h => ?_⟩
  obtain ⟨F0, H0, F, ρ, r, R, e, w⟩ := h
  exact p.run pins s σ H Q I (q ρ r e F0 H0 F σ H R Q w)
theorem GG.pg {js : List Nat} {g : TM} (h : GG Y X tg js g) : PG X tg (gM Y X.K js g) := by
  obtain ⟨t, p, q⟩ := h
  refine ⟨fun pins s σ H v u Q I r h => ?_⟩
  obtain ⟨F0, H0, F, ρ, d, ρ', R, rv, e, w⟩ := h
  exact p.run pins s σ H v u Q I r (q d ρ ρ' e F0 H0 F σ H v R rv Q w)
theorem GI.pi {mi : Env → ML} (h : GI Y X W tg iter mi) : PI X tg iter (iM Y W X.K mi) := by
  obtain ⟨t, p, q⟩ := h
  refine ⟨fun pins s σ H Q I h => ?_⟩
  obtain ⟨F0, H0, F, ρ, r, R, e, w⟩ := h
  exact p.run pins s σ H Q I (q ρ r e F0 H0 F σ H R Q w)
theorem GSs.ps (h : GSs Y X W sts m) : PSs X sts (sM Y W X.K m) := by
  obtain ⟨t, p, q⟩ := h
  refine ⟨fun pins s σ H D I h => ?_⟩
  obtain ⟨F0, H0, F, ρ, r, R, e, w⟩ := h
  exact p.run pins s σ H D I (q ρ r e F0 H0 F σ H R D w)

/-! ### [elt for tg in iter if ..] -/
abbrev W0 : WX := fun _ _ _ _ => False
/-- the comprehension's tests -/
def GTs (Y : Cfg) (X : Cx) (ifs : List Expr) (m : Env → M) : Prop := ∃ t, PTs X ifs t ∧ ∀ ρ r, m ρ = some r → SatT Y W0 X.K t ρ r
def dYes : Env → M := fun _ => some (.ok (.bl true))
theorem gts_nil : GTs Y X [] dYes := ⟨_, pts_nil, fun ρ r h F0 H0 F σ H R Q w => by
  cases h
  exact w true rfl F H (Gr.refl R.ex)⟩
theorem gts_one {c : Expr} (h : GT Y X W0 c mc) : GTs Y X [c] mc := by
  obtain ⟨t, p, q⟩ := h
  exact ⟨t, pts_one p, q⟩
theorem GTs.pts {ifs : List Expr} (h : GTs Y X ifs mc) : PTs X ifs (tMT Y W0 X.K mc) := by
  obtain ⟨t, p, q⟩ := h
  refine ⟨fun pins s σ H Q I h => ?_⟩
  obtain ⟨F0, H0, F, ρ, r, R, e, w⟩ := h
  exact p.run pins s σ H Q I (q ρ r e F0 H0 F σ H R Q w)
def wipeE (ρ : Env) : List Nat → Env
  | [] => ρ
  | v :: vs => (wipeE ρ vs).set v none
theorem Rel.forget {i : Nat} (R : Rel K Y F0 H0 F σ H ρ) (x : Option V) : Rel K Y F0 H0 F (σ.set i x) H (ρ.set i none) := by
  have drop : ∀ {j : Nat} {s : Sl}, (ρ.set i none)[j]? = some (some s) → i ≠ j ∧ ρ[j]? = some (some s) := fun {j s} e => by
    by_cases c : i = j
    · subst c
      rcases Nat.lt_or_ge i ρ.length with q | q
      · rw [List.getElem?_set_self q] at e; cases e
      · rw [List.getElem?_eq_none (by simpa using q)] at e; cases e
    · rw [List.getElem?_set_ne c] at e; exact ⟨c, e⟩
  refine ⟨R.gr, by simp [R.len], fun j s e => ?_, fun j k s t p hjk ej ek ms mt vj => ?_, R.tb⟩
  · obtain ⟨c, e⟩ := drop e
    rw [List.getElem?_set_ne c]; exact R.sl j s e
  · obtain ⟨cj, ej⟩ := drop ej
    obtain ⟨ck, ek⟩ := drop ek
    rw [List.getElem?_set_ne cj] at vj
    rw [List.getElem?_set_ne ck]
    exact R.dis j k s t p hjk ej ek ms mt vj
theorem Rel.wipe (R : Rel K Y F0 H0 F σ H ρ) : ∀ vs : List Nat, Rel K Y F0 H0 F (L2.wipe σ vs) H (wipeE ρ vs)
  | [] => R
  | v :: vs => (Rel.wipe R vs).forget none
theorem wipe_get (σ : L2.St) : ∀ (vs : List Nat) (j : Nat), (L2.wipe σ vs)[j]? = if j ∈ vs ∧ j < σ.length then some none else σ[j]?
  | [], j => by simp [L2.wipe]
  | v :: vs, j => by
    unfold L2.wipe
    have ih := wipe_get σ vs j
    by_cases c : v = j
    · subst c
      by_cases hl : v < σ.length
      · rw [List.getElem?_set_self (by rw [L2.wipe_length]; exact hl), if_pos ⟨List.mem_cons_self, hl⟩]
      · rw [List.getElem?_eq_none (by rw [List.length_set, L2.wipe_length]; omega), if_neg (fun z => hl z.2), List.getElem?_eq_none (by omega)]
    · rw [List.getElem?_set_ne c, ih]
      have : (j ∈ v :: vs) ↔ j ∈ vs := by simp [Ne.symm c]
      simp only [this]
theorem wipe_only {js vs : List Nat} {σ σ' : L2.St} (o : Only js (L2.wipe σ vs) σ') (hj : ∀ j ∈ js, j ∈ vs) : L2.wipe σ' vs = L2.wipe σ vs := by
  apply List.ext_getElem?
  intro j
  have hl : σ'.length = σ.length := by rw [o.1, L2.wipe_length]
  rw [wipe_get, wipe_get, hl]
  by_cases c : j ∈ vs ∧ j < σ.length
  · rw [if_pos c, if_pos c]
  · rw [if_neg c, if_neg c]
    by_cases d : j ∈ vs
    · have : ¬ j < σ.length := fun z => c ⟨d, z⟩
      rw [List.getElem?_eq_none (by omega), List.getElem?_eq_none (by omega)]
    · rw [o.2 j (fun z => d (hj j z)), wipe_get, if_neg (fun z => d z.1)]
/-- the items that are made -/
def compD (g : TM) (mt me : Env → M) (ρ : Env) : List D → Option (List D)
  | [] => some []
  | d :: ds => match g d ρ with
    | none => none
    | some ρ1 => match mt ρ1 with
      | some (.ok (.bl true)) => match me ρ1 with
        | some (.ok x) => match compD g mt me ρ ds with
          | some xs => some (x :: xs)
          | none => none
        | _ => none
      | some (.ok (.bl false)) => compD g mt me ρ ds
      | _ => none
def dLc (vs : List Nat) (mi : Env → ML) (g : TM) (mt me : Env → M) : Env → ML := fun ρ => match mi ρ with
  | some (.ok ds) => if ds.length < sizeLine then match compD g mt me (wipeE ρ vs) ds with
    | some xs => some (.ok xs)
    | none => none
    else none
  | some (.exc x) => some (.exc x)
  | none => none
theorem sat_lc {js vs : List Nat} {mi : Env → ML} {g : TM} {mt me : Env → M} (hj : ∀ j ∈ js, j ∈ vs) : ∀ ρ r, dLc vs mi g mt me ρ = some r → ∀ F0 H0 F σ H, Rel K Y F0 H0 F σ H ρ → ∀ Q : VK,
    (match r with
      | .ok ds => ∀ p xs F' H', H p = none → Gr F H F' H' → F' p = none → H' p = some (.lst xs) → RepL K Y F' xs ds → Q (.ref p) H'
      | .exc x => ∀ F' H' dx, Gr F H F' H' → XRep K Y F' H' x dx → W (.ref (Y.cl x.c)) dx σ H') → tLc (iM Y W K mi) (gM Y K js g) (tMT Y W0 K mt) (tM Y W0 K me) vs σ H Q := by
  intro ρ r h F0 H0 F σ H R Q w
  unfold dLc at h
  split at h
  · rename_i ds e1
    split at h
    · rename_i hz
      split at h
      · rename_i res e2
        cases h
        refine ⟨F0, H0, F, ρ, _, R, e1, fun J F1 H1 g1 wk Dl hD => ?_⟩
        obtain ⟨G, Yf, wlk, hG, hY⟩ := wk
        have R1 := (R.grow g1).wipe vs
        refine lc_it wlk (fun i H' => ∃ F' accV acc rest, Gr F1 H1 F' H' ∧ F' Dl = none ∧ H' Dl = some (.lst accV) ∧ RepL K Y F' accV acc ∧ accV.length ≤ i ∧ compD g mt me (wipeE ρ vs) (ds.drop i) = some rest ∧ acc ++ rest = res)
          ⟨F1, [], [], res, Gr.heap g1.fh (Ex.new hD), fresh_back g1.fh hD, upd_same, .nil, Nat.le_refl _, e2, rfl⟩ ?_ ?_ ?_
        · rintro i H' _ ⟨F', accV, acc, rest, g', _⟩
          exact hG H' (g'.f.trans g'.fh)
        · rintro i x H2 H3 hi ⟨F', accV, acc, rest, g', fD, hDl, ra, hle, hc, hres⟩ y
          obtain ⟨d, F2, hd, g2, rd⟩ := hY i H2 x H3 hi (g'.f.trans g'.fh) y F' g'.f g'.fh
          have hdrop : ds.drop i = d :: ds.drop (i + 1) := by
            have hl := (List.getElem?_eq_some_iff.mp hd).2
            rw [← hl]; exact List.drop_eq_getElem_cons hi
          rw [hdrop] at hc
          have g12 := g'.trans g2
          have R2 := R1.grow g12
          have fD2 : F2 Dl = none := (g2.old _ _ hDl).trans fD
          have hD2 : H3 Dl = some (.lst accV) := g2.h _ _ hDl
          unfold compD at hc
          cases e3 : g d (wipeE ρ vs) with
          | none => rw [e3] at hc; cases hc
          | some ρ1 =>
            simp only [e3] at hc
            refine ⟨F0, H0, F2, wipeE ρ vs, d, ρ1, R2, rd, e3, fun σ' o' R' => ⟨wipe_only o' hj, ?_⟩⟩
            cases e4 : mt ρ1 with
            | none => rw [e4] at hc; cases hc
            | some r4 =>
              cases r4 with
              | exc z => rw [e4] at hc; cases hc
              | ok d4 =>
                cases d4 with
                | bl b4 =>
                  refine ⟨F0, H0, F2, ρ1, _, R', e4, fun b eb F4 H4 g4 => ?_⟩
                  cases eb
                  have fD4 : F4 Dl = none := (g4.old _ _ hD2).trans fD2
                  have hD4 := g4.h _ _ hD2
                  cases b4 with
                  | false =>
                    simp only [e4] at hc
                    exact iteF ⟨F4, accV, acc, rest, g12.trans g4, fD4, hD4, ra.mono (g2.f.trans g4.f), by omega, hc, hres⟩
                  | true =>
                    simp only [e4] at hc
                    refine iteT ?_
                    cases e5 : me ρ1 with
                    | none => rw [e5] at hc; cases hc
                    | some r5 =>
                      cases r5 with
                      | exc z => rw [e5] at hc; cases hc
                      | ok x5 =>
                        simp only [e5] at hc
                        refine ⟨F0, H0, F4, ρ1, _, R'.grow g4, e5, fun v F5 H5 g5 r5 => ?_⟩
                        have fD5 : F5 Dl = none := (g5.old _ _ hD4).trans fD4
                        have hD5 := g5.h _ _ hD4
                        cases e6 : compD g mt me (wipeE ρ vs) (ds.drop (i + 1)) with
                        | none => rw [e6] at hc; cases hc
                        | some rest' =>
                          rw [e6] at hc; cases hc
                          have gg := (g12.trans g4).trans g5
                          refine ⟨accV, hD5, by omega, F5, accV ++ [v], acc ++ [x5], rest', ⟨gg.f, fun c u q => ?_, fun c u q => ?_, gg.old⟩, fD5, upd_same, (ra.mono ((g2.f.trans g4.f).trans g5.f)).append (.cons r5 .nil), by rw [List.length_append]; simp; omega, rfl, by rw [← hres]; simp⟩
                          · exact (gg.fh c u q).mut (ne_of_none q fD5) (noCode hD5 fun _ z => nomatch z)
                          · exact (gg.h c u q).mut (ne_of_none q hD) (noCode hD5 fun _ z => nomatch z)
                | _ => rw [e4] at hc; cases hc
        · rintro H' ⟨F', accV, acc, rest, g', fD, hDl, ra, hle, hc, hres⟩
          rw [List.drop_length] at hc
          cases hc
          rw [List.append_nil] at hres
          subst hres
          exact w Dl accV F' H' (fresh_back g1.h hD) (g1.trans g') fD hDl ra
      · cases h
    · cases h
  · rename_i x e1
    cases h
    exact ⟨F0, H0, F, ρ, _, R, e1, w⟩
  · cases h
/-- a list that the expression has made -/
def dLcV (ms : Env → ML) : Env → M := fun ρ => bdL (ms ρ) fun ds => some (.ok (.lst ds))
theorem ge_lc {js : List Nat} {ifs : List Expr} {scope : Scope} (own : List (Str × Nat)) {mi : Env → ML} {g : TM} {mt me : Env → M} (hc : X.calm = true) (hN : X.N.Nodup) (hi : GI Y X W tg iter mi) (ok : BlkOk X.N X.env.scope scope own)
    (hg : ∀ (s : Shared) (H : Hp) (C : Addr) (cl : List (Str × Addr)) (fp : List Addr), GG Y (X.blk s H scope (compEnvC scope cl C X.env) fp) tg js g) (hj : ∀ j ∈ js, j ∈ own.map (·.2))
    (ht : ∀ (s : Shared) (H : Hp) (C : Addr) (cl : List (Str × Addr)) (fp : List Addr), GTs Y (X.blk s H scope (compEnvC scope cl C X.env) fp) ifs mt)
    (he : ∀ (s : Shared) (H : Hp) (C : Addr) (cl : List (Str × Addr)) (fp : List Addr), GE Y (X.blk s H scope (compEnvC scope cl C X.env) fp) W0 elt me) (hs : ∀ x, foldedSetIterable iter X.env x = pure x := by intro _; rfl) :
    GE Y X W (.ListComp elt [⟨tg, iter, ifs, 0⟩] scope pos) (dLcV (dLc (own.map (·.2)) mi g mt me)) := by
  refine ⟨_, pe_lc (g := gM Y X.K js g) (tt := tMT Y W0 X.K mt) (te := tM Y W0 X.K me) hc hN hi.pi ok (fun s H C cl fp => (hg s H C cl fp).pg) (fun s H C cl fp => (ht s H C cl fp).pts) (fun s H C cl fp => (he s H C cl fp).pe) hs, fun ρ r h F0 H0 F σ H R Q w => ?_⟩
  rcases bdL_some h with ⟨ds, e1, h⟩ | ⟨x, e1, rfl⟩
  · cases h
    refine sat_lc (W := W) hj ρ _ e1 F0 H0 F σ H R Q fun p xs F' H' hp g fp hp' ra => ?_
    have e : Ex F' (upd F' p (.lst xs)) := Ex.new fp
    refine w _ (upd F' p (.lst xs)) H' ⟨g.f.trans e, fun c u q => ?_, g.h, fun c u q => ?_⟩ (.lst (SqL.of upd_same) (ra.mono e))
    · by_cases k : c = p
      · subst k; rw [upd_same] at q; cases q; exact hp'
      · rw [upd_ne k] at q; exact g.fh c u q
    · rw [upd_ne (ne_of_none q hp)]; exact g.old c u q
  · exact sat_lc (W := W) hj ρ _ e1 F0 H0 F σ H R Q w
/-- x = [elt for ..], told or the frame's own -/
def dAsgLc (i : Nat) (ms : Env → ML) : SM := fun ρ => match ms ρ with
  | some (.ok ds) => some (.nx (ρ.set i (some (.val (.lst ds)))))
  | some (.exc x) => some (.exc x ρ)
  | none => none
def dOwnLc (i : Nat) (ms : Env → ML) : SM := fun ρ => match ms ρ with
  | some (.ok ds) => some (.nx (ρ.set i (some (.own ds))))
  | some (.exc x) => some (.exc x ρ)
  | none => none
section
variable {js : List Nat} {ifs : List Expr} {scope : Scope} {mi : Env → ML} {g : TM} {mt me : Env → M} {y : Str} {py spos : Pos}
/-- a list that the frame has just made goes to a slot of its own -/
theorem Rel.putOwn {i : Nat} {p : Addr} {xs : List V} {ds : List D} (h : Rel K Y F0 H0 F σ H ρ) (hp : H p = none) {F' H' : Hp} (g : Gr F H F' H') (fp : F' p = none) (hp' : H' p = some (.lst xs)) (r : RepL K Y F' xs ds) :
    Rel K Y F0 H0 F' (σ.set i (some (.ref p))) H' (ρ.set i (some (.own ds))) := by
  have h1 := h.grow g
  have hp0 : H0 p = none := fresh_back h.gr.h hp
  have other : ∀ (j : Nat) (s : Sl), ρ[j]? = some (some s) → s.mut = true → σ[j]? ≠ some (some (.ref p)) := fun j s ej ms z => by
    obtain ⟨v, e1, q⟩ := h.sl j s ej
    rw [z] at e1; cases e1
    cases s with
    | val d => cases ms
    | own es => obtain ⟨p', xs', e, _, _, c, _⟩ := q; cases e; rw [hp] at c; cases c
    | ins c fs => obtain ⟨dx, xs', e, _, _, c, _⟩ := q; cases e; rw [hp] at c; cases c
    | exv x => cases ms
  have lt : ∀ {s : Sl}, (ρ.set i (some (.own ds)))[i]? = some (some s) → i < ρ.length := fun {s} e => by
    rcases Nat.lt_or_ge i ρ.length with q | q
    · exact q
    · rw [List.getElem?_eq_none (by simpa using q)] at e; cases e
  refine ⟨h1.gr, by simp [h.len], fun j s e => ?_, fun j k s t p' hjk ej ek ms mt vj => ?_, h.tb⟩
  · by_cases c : i = j
    · subst c
      have hi := lt e
      rw [List.getElem?_set_self hi] at e; cases e
      exact ⟨.ref p, List.getElem?_set_self (by rw [← h.len]; exact hi), p, xs, rfl, hp0, fp, hp', r⟩
    · rw [List.getElem?_set_ne c] at e ⊢
      exact h1.sl j s e
  · by_cases cj : i = j
    · subst cj
      have hi := lt ej
      rw [List.getElem?_set_self (by rw [← h.len]; exact hi)] at vj; cases vj
      rw [List.getElem?_set_ne hjk] at ek ⊢
      exact other k t ek mt
    · rw [List.getElem?_set_ne cj] at ej vj
      by_cases ck : i = k
      · subst ck
        have hi := lt ek
        rw [List.getElem?_set_self (by rw [← h.len]; exact hi)]
        intro z; cases z
        exact other j s ej ms vj
      · rw [List.getElem?_set_ne ck] at ek ⊢
        exact h.dis j k s t p' hjk ej ek ms mt vj
theorem sat_ownlc {i : Nat} {vs : List Nat} (hj : ∀ j ∈ js, j ∈ vs) : ∀ ρ o, dOwnLc i (dLc vs mi g mt me) ρ = some o → SatS Y W K (tAsg (tLc (iM Y W K mi) (gM Y K js g) (tMT Y W0 K mt) (tM Y W0 K me) vs) (gName i)) ρ o := by
  intro ρ o h F0 H0 F σ H R D w
  unfold dOwnLc at h
  split at h
  · rename_i ds e1
    cases h
    exact sat_lc (W := W) hj ρ _ e1 F0 H0 F σ H R _ fun p xs F' H' hp g fp hp' ra => w F' _ H' g.f (R.putOwn hp g fp hp' ra)
  · rename_i x e1
    cases h
    exact sat_lc (W := W) hj ρ _ e1 F0 H0 F σ H R _ fun F' H' dx g xr => w F' σ H' dx g.f (R.grow g) xr
  · cases h
theorem gs_ownLc (i : Nat) (own : List (Str × Nat)) (hc : X.calm = true) (hN : X.N.Nodup) (hi : GI Y X W tg iter mi) (ok : BlkOk X.N X.env.scope scope own)
    (hg : ∀ (s : Shared) (H : Hp) (C : Addr) (cl : List (Str × Addr)) (fp : List Addr), GG Y (X.blk s H scope (compEnvC scope cl C X.env) fp) tg js g) (hj : ∀ j ∈ js, j ∈ own.map (·.2))
    (ht : ∀ (s : Shared) (H : Hp) (C : Addr) (cl : List (Str × Addr)) (fp : List Addr), GTs Y (X.blk s H scope (compEnvC scope cl C X.env) fp) ifs mt)
    (he : ∀ (s : Shared) (H : Hp) (C : Addr) (cl : List (Str × Addr)) (fp : List Addr), GE Y (X.blk s H scope (compEnvC scope cl C X.env) fp) W0 elt me) (hy : X.N[i]? = some y := by rfl) (hyl : X.env.scope.names.lookup y = some .local := by rfl)
    (hsw : swapsWith (.ListComp elt [⟨tg, iter, ifs, 0⟩] scope pos) (some (.Name y py)) spos.line X.env = pure true := by exact sw_true rfl rfl rfl (by decide +kernel)) (hs : ∀ x, foldedSetIterable iter X.env x = pure x := by intro _; rfl) :
    GS Y X W (.Assign [.Name y py] (.ListComp elt [⟨tg, iter, ifs, 0⟩] scope pos) spos) (dOwnLc i (dLc (own.map (·.2)) mi g mt me)) :=
  ⟨_, ps_setLc (g := gM Y X.K js g) (tt := tMT Y W0 X.K mt) (te := tM Y W0 X.K me) hc hN hy hyl hsw hi.pi ok (fun s H C cl fp => (hg s H C cl fp).pg) (fun s H C cl fp => (ht s H C cl fp).pts) (fun s H C cl fp => (he s H C cl fp).pe) hs, sat_ownlc hj⟩
theorem gs_asgLc (i : Nat) (own : List (Str × Nat)) (hc : X.calm = true) (hN : X.N.Nodup) (hi : GI Y X W tg iter mi) (ok : BlkOk X.N X.env.scope scope own)
    (hg : ∀ (s : Shared) (H : Hp) (C : Addr) (cl : List (Str × Addr)) (fp : List Addr), GG Y (X.blk s H scope (compEnvC scope cl C X.env) fp) tg js g) (hj : ∀ j ∈ js, j ∈ own.map (·.2))
    (ht : ∀ (s : Shared) (H : Hp) (C : Addr) (cl : List (Str × Addr)) (fp : List Addr), GTs Y (X.blk s H scope (compEnvC scope cl C X.env) fp) ifs mt)
    (he : ∀ (s : Shared) (H : Hp) (C : Addr) (cl : List (Str × Addr)) (fp : List Addr), GE Y (X.blk s H scope (compEnvC scope cl C X.env) fp) W0 elt me) (hy : X.N[i]? = some y := by rfl) (hyl : X.env.scope.names.lookup y = some .local := by rfl)
    (hsw : swapsWith (.ListComp elt [⟨tg, iter, ifs, 0⟩] scope pos) (some (.Name y py)) spos.line X.env = pure true := by exact sw_true rfl rfl rfl (by decide +kernel)) (hs : ∀ x, foldedSetIterable iter X.env x = pure x := by intro _; rfl) :
    GS Y X W (.Assign [.Name y py] (.ListComp elt [⟨tg, iter, ifs, 0⟩] scope pos) spos) (dAsgLc i (dLc (own.map (·.2)) mi g mt me)) := by
  refine ⟨_, ps_setLc (g := gM Y X.K js g) (tt := tMT Y W0 X.K mt) (te := tM Y W0 X.K me) hc hN hy hyl hsw hi.pi ok (fun s H C cl fp => (hg s H C cl fp).pg) (fun s H C cl fp => (ht s H C cl fp).pts) (fun s H C cl fp => (he s H C cl fp).pe) hs, fun ρ o h F0 H0 F σ H R D w => ?_⟩
  unfold dAsgLc at h
  split at h
  · rename_i ds e1
    cases h
    refine sat_ownlc hj ρ (.nx (ρ.set i (some (.own ds)))) (by unfold dOwnLc; rw [e1]) F0 H0 F σ H R D fun F' σ' H' e R' => ?_
    by_cases hi : i < ρ.length
    · obtain ⟨F2, e2, R2⟩ := R'.freeze (i := i) (ds := ds) (List.getElem?_set_self hi)
      rw [List.set_set] at R2
      exact w F2 σ' H' (e.trans e2) R2
    · have e0 : ∀ x : Option Sl, ρ.set i x = ρ := fun x => List.set_eq_of_length_le (by omega)
      rw [e0] at R'
      exact w F' σ' H' e (by rw [e0]; exact R')
  · rename_i x e1
    cases h
    exact sat_ownlc hj ρ (.exc x ρ) (by unfold dOwnLc; rw [e1]) F0 H0 F σ H R D w
  · cases h
end
end
end Den
set_option Elab.async false
set_option linter.all false
set_option maxRecDepth 100000
set_option maxHeartbeats 4000000
namespace Den
open PySem L2
variable [Named]
/-! ### what a def means -/
abbrev Mn := List D → M
/-- the promise: n arguments that stand for ds; where f tells an answer, it is given -/
def spD (Y : Core) (K : PySem.W.Frag) (n : Nat) (f : Mn) : Sp := fun vs H Q E => ∃ F ds r, (Ex F H ∧ Tb F) ∧ RepL K Y F vs ds ∧ ds.length = n ∧ f ds = some r ∧ match r with
  | .ok d => ∀ v F' H', Gr F H F' H' → Rep K Y F' v d → Q v H'
  | .exc x => ∀ F' H' dx, Gr F H F' H' → XRep K Y F' H' x dx → E (.ref (Y.cl x.c)) dx H'
/-- a def of n parameters that keeps it, at level k -/
abbrev DOk (Y : Core) (P : Program) (w : World) (K : PySem.W.Frag) (mg : Str → Option Value) (base : Heap) (k : Nat) (f : Addr) (fd : FuncData) (ps : List Str) (m : Mn) : Prop :=
  FnOk P w K mg base (L2.CX P w) k f fd ps (spD Y K ps.length m)
section
variable {Y : Cfg} {X : Cx} {W : WX} {K : PySem.W.Frag} {P : Program} {w : World} {mg : Str → Option Value} {base : Heap} {a b e o : Expr} {es : List Expr} {ma mb mo : Env → M} {ms : Env → ML} {pos p2 p apos : Pos} {k : Nat} {f C : Addr} {fd : FuncData} {ps : List Str} {m : Mn} {x nm : Str}
  {F0 H0 F F1 H H1 : Hp} {σ : L2.St} {ρ : Env} {dvs : List V} {dls : List D} {vls : List Value}
/-- the body's names at the entry -/
def startE (N : List Str) (ds : List D) : Env := ds.map (fun d => some (.val d)) ++ List.replicate (N.length - ds.length) none
theorem rel_start {N : List Str} {vs : List V} {ds : List D} (e : Ex F H) (tb : Tb F) (r : RepL K Y F vs ds) : Rel K Y F H F (L2.start N vs) H (startE N ds) := by
  have only : ∀ {i : Nat} {s : Sl}, (startE N ds)[i]? = some (some s) → ∃ d, ds[i]? = some d ∧ s = .val d := fun {i s} q => by
    unfold startE at q
    by_cases hi : i < ds.length
    · rw [List.getElem?_append_left (by simpa using hi), List.getElem?_map, List.getElem?_eq_getElem hi] at q
      cases q
      exact ⟨_, List.getElem?_eq_getElem hi, rfl⟩
    · rw [List.getElem?_append_right (by simpa using hi), List.getElem?_replicate] at q
      split at q <;> cases q
  refine ⟨Gr.refl e, by simp [startE, L2.start, r.len], fun i s q => ?_, fun i j s t p _ q _ ms => ?_, tb⟩
  · obtain ⟨d, hd, rfl⟩ := only q
    obtain ⟨v, hv, rv⟩ := r.get hd
    have hi : i < vs.length := (List.getElem?_eq_some_iff.mp hv).1
    refine ⟨v, ?_, rv⟩
    unfold L2.start
    rw [List.getElem?_append_left (by simpa using hi), List.getElem?_map, hv]; rfl
  · obtain ⟨d, _, rfl⟩ := only q
    cases ms
/-- a body run from the arguments' data -/
def runD (N : List Str) (n : Nat) (body : SM) : Mn := fun ds => if ds.length = n then match body (startE N ds) with
  | some (.nx _) => some (.ok .non)
  | some (.ret d) => some (.ok d)
  | some (.exc x _) => some (.exc x)
  | _ => none
  else none
/-- THE RULE for a def: its body's meaning -/
theorem dok {qual : Str} {st : Stmt} {N : List Str} {body : SM} {dvv : List V} {kwv : List (Str × V)} (Fn : FunD K x qual (defArgs st) (defBody st) (defScope st) dvv kwv f fd) (S : FnScope N ps (defScope st))
    (hb : ∀ (cdv : Value) (A : Around) (outer : List PySem.Env) (s : Shared) (H : Hp) (E : XK), Room k (A.deeper (PyProof.Rows.envOfC qual (defScope st) s.heap.objs.size f cdv)) →
      Takes (cxOf (L2.CX P w) P w K mg base N qual (defScope st) f cdv A outer s H E) (fun cls d _ H => E cls d H) →
      PassesOwn (model P w) (A.deeper (PyProof.Rows.envOfC qual (defScope st) s.heap.objs.size f cdv)) (PyProof.Rows.envOfC qual (defScope st) s.heap.objs.size f cdv) (cxOf (L2.CX P w) P w K mg base N qual (defScope st) f cdv A outer s H E).xe →
      GSs Y (cxOf (L2.CX P w) P w K mg base N qual (defScope st) f cdv A outer s H E) (fun cls d _ H => E cls d H) (defBody st) body) :
    DOk Y P w K mg base (k + 1) f fd ps (runD N ps.length body) := by
  refine Fn.ok (CX := L2.CX P w) S (fun vs H Q E h => ?_) (fun cdv A outer s H vs Q E hr h => ?_)
  · obtain ⟨F, ds, r, e, rs, hl, _⟩ := h
    rw [rs.len, hl]
  · obtain ⟨F, ds, r, e, rs, hl, hf, want⟩ := h
    obtain ⟨t, pt, q⟩ := hb cdv A outer s H E hr (takes_of rfl rfl rfl rfl) PassesOwn.leaving
    refine ⟨t, pt, ?_⟩
    unfold runD at hf
    rw [if_pos hl] at hf
    have R := rel_start (N := N) e.1 e.2 rs
    cases ho : body (startE N ds) with
    | none => rw [ho] at hf; cases hf
    | some oo =>
      refine q _ oo ho F H F _ H R _ ?_
      cases oo with
      | nx ρ => rw [ho] at hf; cases hf; exact fun F' σ' H' e' R' => want .non F' H' R'.gr .non
      | ret d => rw [ho] at hf; cases hf; exact fun v F' H' e' g rv => want v F' H' g rv
      | exc z ρ => rw [ho] at hf; cases hf; exact fun F' σ' H' dx e' R' xr => want F' H' dx R'.gr xr
      | bk ρ => rw [ho] at hf; cases hf
      | ct ρ => rw [ho] at hf; cases hf

/-! ### calls -/
def dCall (m : Mn) (dls : List D) (ms : Env → ML) : Env → M := fun ρ => bdL (ms ρ) fun ds => m (ds ++ dls)
/-- the defaults stand for data anywhere -/
def Dfl (K : PySem.W.Frag) (Y : Core) (dvs : List V) (vls : List Value) (dls : List D) : Prop := Vals dvs vls ∧ ∀ F, RepL K Y F dvs dls
theorem dfl_nil {Y : Core} : Dfl K Y [] [] [] := ⟨.nil, fun _ => .nil⟩
theorem sp_want {n : Nat} {E : XK} {r : R} {Q : VK} {vs : List V} {ds : List D} (e : Ex F H) (tb : Tb F) (rs : RepL K Y F vs ds) (hl : ds.length = n) (hm : m ds = some r) (hE : ∀ x, r = .exc x → ∀ F' H' dx, Gr F H F' H' → XRep K Y F' H' x dx → E (.ref (Y.cl x.c)) dx H')
    (hQ : ∀ d, r = .ok d → ∀ v F' H', Gr F H F' H' → Rep K Y F' v d → Q v H') : spD Y K n m vs H Q E := by
  refine ⟨F, ds, r, ⟨e, tb⟩, rs, hl, hm, ?_⟩
  cases r with
  | ok d => exact hQ d rfl
  | exc x => exact hE x rfl
theorem ge_call (Fn : DOk Y X.prog X.w X.K X.mg X.base k f fd ps m) (hr : Room k X.A) (tk : Takes X W) (hg : Gl X x) (hm : X.mg x = some (.ref f)) (hk : PySem.W.keepIn X.K (.ref f) = true) (hb : Binds X.K fd ps vls) (hd : Dfl X.K Y dvs vls dls) (hlen : ∀ ds r, m ds = some r → ds.length = ps.length)
    (ha : GA Y X W (e :: es) ms) (hdb : (x == ("__debug__" : Str)) = false := by decide) (he : starEach (e :: es) X.env = (false, eval e X.env) :: starEach es X.env := by rfl) (hpl : (backTo pos (starEach es X.env)).any (·.1) = false := by rfl) :
    GE Y X W (.Call (.Name x p) (e :: es) [] pos) (dCall m dls ms) := by
  obtain ⟨t, pt, q⟩ := ha
  refine ⟨_, pe_callSD Fn hr hg hm hk hb hd.1 (fun σ => passAt tk σ) pt hdb he hpl, fun ρ r h F0 H0 F σ H R Q w => ?_⟩
  rcases bdL_some h with ⟨ds, e1, h⟩ | ⟨z, e1, rfl⟩
  · refine q ρ _ e1 F0 H0 F σ H R _ fun vs F' H' g rs => ?_
    have w' := w.grow g
    exact sp_want g.fh (R.tbF.up g.f) (rs.append (hd.2 F')) (hlen _ _ h) h (fun z hz => by subst hz; exact w') (fun d hd => by subst hd; exact w')
  · exact q ρ _ e1 F0 H0 F σ H R _ w
/-- o.m(..), what is raised wished for at the slots -/
theorem methS {pl : Sem Bool} {E : L2.St → XK} {sp : Sp} {ta : TE} {t : TA} (he : PE X o ta) (c : Cls X.K C) (hm : Meth X.K C nm f) (Fn : FnOk X.prog X.w X.K X.mg X.base (L2.CX X.prog X.w) k f fd ps sp) (hr : Room k X.A) (hb : Binds X.K fd ps vls) (hd : Vals dvs vls)
    (hx : ∀ σ, PassesAt (L2.CX X.prog X.w) X σ (E σ)) (ha : PA X (e :: es) t) (hst : starEach (e :: es) X.env = (false, eval e X.env) :: starEach es X.env := by rfl) (hpl : (backTo pos (starEach es X.env)).any (·.1) = false := by rfl)
    (ht : eval (.Call (.Attribute o nm apos) (e :: es) [] pos) X.env = (eval o X.env >>= fun ov => standAt apos.atName >>= fun _ => holding [ov] (getMethod ov nm pl) >>= fun r => callWith pos r.1 r.2 (backTo pos (starEach (e :: es) X.env)) (backToKw pos (keywordEach [] X.env))) := by rfl) :
    PE X (.Call (.Attribute o nm apos) (e :: es) [] pos) (fun σ H Q => ta σ H fun x H1 => ∃ a dx fs, x = .ref a ∧ H1 a = some (.ins C dx fs) ∧ fs.lookup nm = none ∧ t σ H1 fun vs H2 => sp (x :: (vs ++ dvs)) H2 Q (E σ)) :=
  ⟨fun pins s σ H Q I h => PySem.W.methodCall_KW (pl := pl) (thn (he.run pins s σ H _ I h) fun u s1 ⟨x, H1, I1, rx, a, dx, fs, ex, ea, l, q⟩ => by
    cases ex; cases (show u = Value.ref a from rx)
    exact getmeth_ok I1 ea c hm l (PySem.W.callWith_K (first := [.ref a]) (h₀ := X.base) I.ok.mod.kin hm.kp (thn (ha.run pos pins s1 σ H1 _ I1 q) fun us s2 ⟨vs, H2, I2, r, q2⟩ =>
      ⟨I2.kIn, run_fnSD (us := .ref a :: us) (vs := .ref a :: vs) Fn hr hb hd (hx σ) I2 (.cons rfl r) q2⟩) hst hpl)) ht⟩
theorem methS0 {pl : Sem Bool} {E : L2.St → XK} {sp : Sp} {ta : TE} (he : PE X o ta) (c : Cls X.K C) (hm : Meth X.K C nm f) (Fn : FnOk X.prog X.w X.K X.mg X.base (L2.CX X.prog X.w) k f fd ps sp) (hr : Room k X.A) (hb : Binds X.K fd ps vls) (hd : Vals dvs vls)
    (hx : ∀ σ, PassesAt (L2.CX X.prog X.w) X σ (E σ))
    (ht : eval (.Call (.Attribute o nm apos) [] [] pos) X.env = (eval o X.env >>= fun ov => standAt apos.atName >>= fun _ => holding [ov] (getMethod ov nm pl) >>= fun r => callWith pos r.1 r.2 (backTo pos (starEach [] X.env)) (backToKw pos (keywordEach [] X.env))) := by rfl) :
    PE X (.Call (.Attribute o nm apos) [] [] pos) (fun σ H Q => ta σ H fun x H1 => ∃ a dx fs, x = .ref a ∧ H1 a = some (.ins C dx fs) ∧ fs.lookup nm = none ∧ sp (x :: dvs) H1 Q (E σ)) :=
  ⟨fun pins s σ H Q I h => PySem.W.methodCall_KW (pl := pl) (thn (he.run pins s σ H _ I h) fun u s1 ⟨x, H1, I1, rx, a, dx, fs, ex, ea, l, q⟩ => by
    cases ex; cases (show u = Value.ref a from rx)
    exact getmeth_ok I1 ea c hm l (PySem.W.callWith_K0 (first := [.ref a]) I1.kIn hm.kp (run_fnSD (us := [.ref a]) (vs := [.ref a]) Fn hr hb hd (hx σ) I1 (.cons rfl .nil) q))) ht⟩
theorem zip_none {xs : List V} : ∀ {ns : List Str}, ns.contains nm = false → (ns.zip xs).lookup nm = none := by
  induction xs with
  | nil => intro ns _; simp
  | cons v vs ih =>
    intro ns h
    cases ns with
    | nil => rfl
    | cons n ns =>
      simp only [List.contains_cons, Bool.or_eq_false_iff] at h
      simp only [List.zip_cons_cons, List.lookup_cons, h.1]
      exact ih h.2
def dMeth (c : Nat) (m : Mn) (dls : List D) (mo : Env → M) (ms : Env → ML) : Env → M := fun ρ => bd (mo ρ) fun d => match d with
  | .obj c' fs => if c' = c then bdL (ms ρ) fun ds => m (.obj c fs :: (ds ++ dls)) else none
  | _ => none
theorem obj_some {mo : Env → M} {c : Nat} {g : List D → M} {r : R} {ρ : Env} (h : (bd (mo ρ) fun d => match d with
  | .obj c' fs => if c' = c then g fs else none
  | _ => none) = some r) : (∃ fs, mo ρ = some (.ok (.obj c fs)) ∧ g fs = some r) ∨ ∃ x, mo ρ = some (.exc x) ∧ r = .exc x := by
  rcases bd_some h with ⟨d, e, h⟩ | h
  · cases d with
    | obj c' fs =>
      by_cases hc : c' = c
      · subst hc
        simp only [if_true] at h
        exact .inl ⟨fs, e, h⟩
      · simp only [if_neg hc] at h; cases h
    | _ => cases h
  · exact .inr h
theorem ge_meth {pl : Sem Bool} (c : Nat) (ho : GE Y X W o mo) (hc : Cls X.K (Y.cl c)) (hm : Meth X.K (Y.cl c) nm f) (hn : (Y.fn c).contains nm = false) (Fn : DOk Y X.prog X.w X.K X.mg X.base k f fd ps m) (hr : Room k X.A) (tk : Takes X W) (hb : Binds X.K fd ps vls) (hd : Dfl X.K Y dvs vls dls)
    (hlen : ∀ ds r, m ds = some r → ds.length = ps.length) (ha : GA Y X W (e :: es) ms) (hst : starEach (e :: es) X.env = (false, eval e X.env) :: starEach es X.env := by rfl) (hpl : (backTo pos (starEach es X.env)).any (·.1) = false := by rfl)
    (ht : eval (.Call (.Attribute o nm apos) (e :: es) [] pos) X.env = (eval o X.env >>= fun ov => standAt apos.atName >>= fun _ => holding [ov] (getMethod ov nm pl) >>= fun r => callWith pos r.1 r.2 (backTo pos (starEach (e :: es) X.env)) (backToKw pos (keywordEach [] X.env))) := by rfl) :
    GE Y X W (.Call (.Attribute o nm apos) (e :: es) [] pos) (dMeth c m dls mo ms) := by
  obtain ⟨to, po, qo⟩ := ho
  obtain ⟨t, pt, q⟩ := ha
  refine ⟨_, methS po hc hm Fn hr hb hd.1 (fun σ => passAt tk σ) pt hst hpl ht, fun ρ r h F0 H0 F σ H R Q w => ?_⟩
  rcases obj_some h with ⟨fs, e0, h⟩ | ⟨z, e0, rfl⟩
  · refine qo ρ _ e0 F0 H0 F σ H R _ fun v F1 H1 g1 rv => ?_
    obtain ⟨p, dx, xs, rfl, hp, hl, rx⟩ := rep_obj rv
    refine ⟨p, dx, _, rfl, g1.fh _ _ hp, zip_none hn, ?_⟩
    rcases bdL_some h with ⟨ds, e1, h⟩ | ⟨z, e1, rfl⟩
    · refine q ρ _ e1 F0 H0 F1 σ H1 (R.grow g1) _ fun vs F' H' g rs => ?_
      have w' := w.grow (g1.trans g)
      exact sp_want g.fh ((R.grow g1).tbF.up g.f) (.cons (rv.mono g.f) (rs.append (hd.2 F'))) (hlen _ _ h) h (fun z hz => by subst hz; exact w') (fun d hd => by subst hd; exact w')
    · exact q ρ _ e1 F0 H0 F1 σ H1 (R.grow g1) _ (w.grow g1)
  · exact qo ρ _ e0 F0 H0 F σ H R _ w
def dMeth0 (c : Nat) (m : Mn) (dls : List D) (mo : Env → M) : Env → M := fun ρ => bd (mo ρ) fun d => match d with
  | .obj c' fs => if c' = c then m (.obj c fs :: dls) else none
  | _ => none
theorem ge_meth0 {pl : Sem Bool} (c : Nat) (ho : GE Y X W o mo) (hc : Cls X.K (Y.cl c)) (hm : Meth X.K (Y.cl c) nm f) (hn : (Y.fn c).contains nm = false) (Fn : DOk Y X.prog X.w X.K X.mg X.base k f fd ps m) (hr : Room k X.A) (tk : Takes X W) (hb : Binds X.K fd ps vls) (hd : Dfl X.K Y dvs vls dls)
    (hlen : ∀ ds r, m ds = some r → ds.length = ps.length)
    (ht : eval (.Call (.Attribute o nm apos) [] [] pos) X.env = (eval o X.env >>= fun ov => standAt apos.atName >>= fun _ => holding [ov] (getMethod ov nm pl) >>= fun r => callWith pos r.1 r.2 (backTo pos (starEach [] X.env)) (backToKw pos (keywordEach [] X.env))) := by rfl) :
    GE Y X W (.Call (.Attribute o nm apos) [] [] pos) (dMeth0 c m dls mo) := by
  obtain ⟨to, po, qo⟩ := ho
  refine ⟨_, methS0 po hc hm Fn hr hb hd.1 (fun σ => passAt tk σ) ht, fun ρ r h F0 H0 F σ H R Q w => ?_⟩
  rcases obj_some h with ⟨fs, e0, h⟩ | ⟨z, e0, rfl⟩
  · refine qo ρ _ e0 F0 H0 F σ H R _ fun v F1 H1 g1 rv => ?_
    obtain ⟨p, dx, xs, rfl, hp, hl, rx⟩ := rep_obj rv
    refine ⟨p, dx, _, rfl, g1.fh _ _ hp, zip_none hn, ?_⟩
    have w' := w.grow g1
    exact sp_want g1.fh (R.grow g1).tbF (.cons rv (hd.2 F1)) (hlen _ _ h) h (fun z hz => by subst hz; exact w') (fun d hd => by subst hd; exact w')
  · exact qo ρ _ e0 F0 H0 F σ H R _ w

/-! ### fields -/
def fldD (names : List Str) (ds : List D) (x : Str) : Option D := (names.zip ds).lookup x
theorem zip_fld : ∀ {names : List Str} {xs : List V} {ds : List D} {x : Str} {d : D}, RepL K Y F xs ds → fldD names ds x = some d → ∃ v, (names.zip xs).lookup x = some v ∧ Rep K Y F v d
  | [], _, _, _, _, _, h => by simp [fldD] at h
  | n :: ns, _, _, x, d, .nil, h => by simp [fldD] at h
  | n :: ns, _, _, x, d, .cons (v := v) (d := d0) a r, h => by
    unfold fldD at h
    rw [List.zip_cons_cons, List.lookup_cons] at h
    rw [List.zip_cons_cons, List.lookup_cons]
    by_cases hx : (x == n) = true
    · rw [hx] at h ⊢
      cases h
      exact ⟨_, rfl, a⟩
    · have hx' : (x == n) = false := by simpa using hx
      rw [hx'] at h ⊢
      exact zip_fld r h
def dFld (c : Nat) (names : List Str) (x : Str) (mo : Env → M) : Env → M := fun ρ => bd (mo ρ) fun d => match d with
  | .obj c' ds => if c' = c then lift (fldD names ds x) else none
  | _ => none
theorem ge_fld {x : Str} (c : Nat) (ho : GE Y X W o mo) (hc : Cls X.K (Y.cl c)) (hn : NoAttr X.K (Y.cl c) x) (hb : attributeBase o x X.env (eval o X.env) = eval o X.env := by rfl) : GE Y X W (.Attribute o x pos) (dFld c (Y.fn c) x mo) := by
  obtain ⟨to, po, qo⟩ := ho
  refine ⟨_, pe_fld po hb, fun ρ r h F0 H0 F σ H R Q w => ?_⟩
  rcases obj_some h with ⟨ds, e0, h⟩ | ⟨z, e0, rfl⟩
  · refine qo ρ _ e0 F0 H0 F σ H R _ fun v F1 H1 g1 rv => ?_
    obtain ⟨d1, e1, rfl⟩ := lift_some h
    obtain ⟨p, dx, xs, rfl, hp, hl, rx⟩ := rep_obj rv
    obtain ⟨v, hv, rv'⟩ := zip_fld rx e1
    exact ⟨p, Y.cl c, dx, _, v, rfl, g1.fh _ _ hp, hc, hn, hv, w v F1 H1 g1 rv'⟩
  · exact qo ρ _ e0 F0 H0 F σ H R _ w

/-! ### raise, an own exception without an own __init__ -/
def dRaise (c : Nat) : SM := fun ρ => some (.exc ⟨c, []⟩ ρ)
theorem gs_raise {st : Expr} (c : Nat) (hc : X.calm = true) (tk : Takes X W) (hmk : PMk X st (fun _ H Q => Q (.ref (Y.cl c)) none H)) (hf : (Y.fn c).isEmpty = true) : GS Y X W (.Raise (some st) none pos) (dRaise c) := by
  refine ⟨_, ps_raise hc tk hmk, fun ρ oo h F0 H0 F σ H R D w => ?_⟩
  cases h
  exact w F σ H none (Ex.refl F) R (by unfold XRep; rw [if_pos hf])

/-! ### C(..) -/
/-- an __init__'s promise: of a new instance and the arguments; the fields that it leaves -/
def spI (Y : Core) (K : PySem.W.Frag) (c n : Nat) (f : Mn) : Sp := fun vs H Q E => ∃ x dx H1 vs' F ds r, vs = .ref x :: vs' ∧ H1 x = none ∧ H1 dx = none ∧ dx ≠ x ∧ H = upd (upd H1 dx (.own x)) x (.ins (Y.cl c) dx []) ∧ (Ex F H1 ∧ Tb F) ∧ RepL K Y F vs' ds ∧ ds.length + 1 = n ∧ f ds = some r ∧ match r with
  | .ok d => ∀ F' H', Gr F H1 F' H' → Rep K Y F' (.ref x) d → Q .non H'
  | .exc z => ∀ F' H' dz, Gr F H1 F' H' → XRep K Y F' H' z dz → E (.ref (Y.cl z.c)) dz H'
abbrev IOk (Y : Core) (c : Nat) (P : Program) (w : World) (K : PySem.W.Frag) (mg : Str → Option Value) (base : Heap) (k : Nat) (f : Addr) (fd : FuncData) (ps : List Str) (m : Mn) : Prop :=
  FnOk P w K mg base (L2.CX P w) k f fd ps (spI Y K c ps.length m)
theorem makeS {E : L2.St → XK} {sp : Sp} {t : TA} (M : Mk X.K C f) (Fn : FnOk X.prog X.w X.K X.mg X.base (L2.CX X.prog X.w) k f fd ps sp) (hr : Room (k + 1) X.A) (hg : Gl X x) (hm : X.mg x = some (.ref C)) (hb : Binds X.K fd ps vls) (hd : Vals dvs vls) (hx : ∀ σ, PassesAt (L2.CX X.prog X.w) X σ (E σ))
    (ha : PA X (e :: es) t) (hdb : (x == ("__debug__" : Str)) = false := by decide) (he : starEach (e :: es) X.env = (false, eval e X.env) :: starEach es X.env := by rfl) (hpl : (backTo pos (starEach es X.env)).any (·.1) = false := by rfl) :
    PE X (.Call (.Name x p) (e :: es) [] pos) (fun σ H Q => t σ H fun vs H1 => ∀ z dz, H1 z = none → H1 dz = none → dz ≠ z → sp (.ref z :: (vs ++ dvs)) (upd (upd H1 dz (.own z)) z (.ins C dz [])) (fun v H2 => v = .non ∧ Q (.ref z) H2) (E σ)) :=
  ⟨fun pins s σ H Q I h => wpAny_Call_Name_kw (ld_glob I hg hm (PySem.W.callWith_K (h₀ := X.base) I.ok.mod.kin M.kp (thn (ha.run pos pins s σ H _ I h) fun us s1 ⟨vs, H1, I1, r, q⟩ => ⟨I1.kIn, by
    have I2 := Inv.made (C := C) I1
    have hq := q _ _ (I1.hok.fresh (Nat.le_succ s1.heap.objs.size)) (I1.hok.fresh (Nat.le_refl s1.heap.objs.size)) (Nat.ne_of_lt (Nat.lt_succ_self _))
    have r2 : Vals (V.ref (s1.heap.objs.size + 1) :: (vs ++ dvs)) (Value.ref (s1.heap.objs.size + 1) :: (us ++ vls)) := .cons rfl (r.append hd)
    have hl : (Value.ref (s1.heap.objs.size + 1) :: us ++ vls).length = ps.length := r2.length.symm.trans (Fn.len _ _ _ _ hq)
    have run := Fn.run _ X.stack _ _ ⟨Value.ref (s1.heap.objs.size + 1) :: us, []⟩ (Value.ref (s1.heap.objs.size + 1) :: (us ++ vls)) _ _ (E σ) (hr.make C us []) (I2.env0.make C us []) (hb _ (Value.ref (s1.heap.objs.size + 1) :: us) I2.kIn hl) r2 hq
    refine wpAny_call (make_map (f := f) I1.kIn M.makes M.init (beq_iff_eq.mp M.fn) (codeAny_mono run fun rr s' hh => ?_))
    match rr, hh with
    | .error ee, hh => exact hx σ pins _ _ ee s' I2 hh
    | .ok (.ret u), hh =>
      obtain ⟨v, H', I3, rv, ev, q3⟩ := I2.after hh
      cases ev
      exact ⟨rv, .ref (s1.heap.objs.size + 1), H', I3, rfl, q3⟩
    | .ok .next, hh => exact False.elim hh
    | .ok .brk, hh => exact False.elim hh
    | .ok .cont, hh => exact False.elim hh⟩) he hpl) hdb)⟩
theorem ge_make (c : Nat) (M : Mk X.K (Y.cl c) f) (Fn : IOk Y c X.prog X.w X.K X.mg X.base k f fd ps m) (hr : Room (k + 1) X.A) (tk : Takes X W) (hg : Gl X x) (hm : X.mg x = some (.ref (Y.cl c))) (hb : Binds X.K fd ps vls) (hd : Dfl X.K Y dvs vls dls) (hlen : ∀ ds r, m ds = some r → ds.length + 1 = ps.length)
    (ha : GA Y X W (e :: es) ms) (hdb : (x == ("__debug__" : Str)) = false := by decide) (he : starEach (e :: es) X.env = (false, eval e X.env) :: starEach es X.env := by rfl) (hpl : (backTo pos (starEach es X.env)).any (·.1) = false := by rfl) :
    GE Y X W (.Call (.Name x p) (e :: es) [] pos) (dCall m dls ms) := by
  obtain ⟨t, pt, q⟩ := ha
  refine ⟨_, makeS M Fn hr hg hm hb hd.1 (fun σ => passAt tk σ) pt hdb he hpl, fun ρ r h F0 H0 F σ H R Q w => ?_⟩
  rcases bdL_some h with ⟨ds, e1, h⟩ | ⟨z, e1, rfl⟩
  · refine q ρ _ e1 F0 H0 F σ H R _ fun vs F' H' g rs z dz hz hdz ne => ?_
    refine ⟨z, dz, H', vs ++ dvs, F', ds ++ dls, r, rfl, hz, hdz, ne, rfl, ⟨g.fh, R.tbF.up g.f⟩, rs.append (hd.2 F'), hlen _ _ h, h, ?_⟩
    have w' := w.grow g
    cases r with
    | ok d => exact fun F2 H2 g2 r2 => ⟨rfl, w' _ F2 H2 g2 r2⟩
    | exc zz => exact w'
  · exact q ρ _ e1 F0 H0 F σ H R _ w
end
end Den
set_option Elab.async false
set_option linter.all false
set_option maxRecDepth 100000
set_option maxHeartbeats 4000000
namespace Den
open PySem L2
variable [Named]
section
variable {Y : Cfg} {X : Cx} {W : WX} {K : PySem.W.Frag} {P : Program} {w : World} {mg : Str → Option Value} {base : Heap} {a b e o : Expr} {es : List Expr} {ma mb mo mc : Env → M} {ms : Env → ML} {pos p2 p apos : Pos} {k : Nat} {f C : Addr} {fd : FuncData} {ps : List Str} {m : Mn} {x nm : Str}
  {F0 H0 F F1 H H1 : Hp} {σ : L2.St} {ρ : Env} {dvs : List V} {dls : List D} {vls : List Value}

/-! ### looking at what is not frozen yet -/
def scD : D → Bool
  | .non => true
  | .bl _ => true
  | .int _ => true
  | .str _ => true
  | _ => false
theorem sc_rep {v : V} {d : D} (h : scD d = true) (r : Rep K Y F v d) (F' : Hp) : Rep K Y F' v d := by
  cases r with
  | non => exact .non
  | bl b => exact .bl b
  | int i => exact .int i
  | str s => exact .str s
  | _ => cases h
/-- e is asked while the list in slot i is frozen; the answer keeps nothing of it -/
def dPeek (i : Nat) (m : Env → M) : Env → M := fun ρ => match frz i ρ with
  | some ρ' => match m ρ' with
    | some (.ok d) => if scD d = true then some (.ok d) else none
    | _ => none
  | none => none
theorem peek_some {i : Nat} {r : R} (h : dPeek i ma ρ = some r) : ∃ ρ' d, frz i ρ = some ρ' ∧ ma ρ' = some (.ok d) ∧ scD d = true ∧ r = .ok d := by
  unfold dPeek at h
  split at h
  · rename_i ρ' e1
    split at h
    · rename_i d e2
      split at h
      · rename_i hs
        cases h
        exact ⟨ρ', d, e1, e2, hs, rfl⟩
      · cases h
    · cases h
  · cases h
theorem ge_peek (i : Nat) (h : GE Y X W e ma) : GE Y X W e (dPeek i ma) := by
  obtain ⟨t, p, q⟩ := h
  refine ⟨t, p, fun ρ r h F0 H0 F σ H R Q w => ?_⟩
  obtain ⟨ρ', d, e1, e2, hs, rfl⟩ := peek_some h
  obtain ⟨F1, ex, R1⟩ := frz_rel e1 R
  exact q ρ' _ e2 F0 H0 F1 σ H R1 Q fun v F' H' g r => w v F H' (Gr.heap R.ex g.h) (sc_rep hs r F)
theorem gt_peek (i : Nat) (h : GT Y X W e ma) : GT Y X W e (dPeek i ma) := by
  obtain ⟨t, p, q⟩ := h
  refine ⟨t, p, fun ρ r h F0 H0 F σ H R Q w => ?_⟩
  obtain ⟨ρ', d, e1, e2, hs, rfl⟩ := peek_some h
  obtain ⟨F1, ex, R1⟩ := frz_rel e1 R
  exact q ρ' _ e2 F0 H0 F1 σ H R1 Q fun b eb F' H' g => w b eb F H' (Gr.heap R.ex g.h)

/-! ### an instance that is being made -/
def putFd (x : Str) (d : D) : List (Str × D) → List (Str × D)
  | [] => [(x, d)]
  | (y, e) :: r => if y = x then (y, d) :: r else (y, e) :: putFd x d r
theorem RepF.put {xs : List (Str × V)} {fs : List (Str × D)} {v : V} {d : D} (h : RepF K Y F xs fs) (r : Rep K Y F v d) : RepF K Y F (putF x v xs) (putFd x d fs) := by
  induction fs generalizing xs with
  | nil =>
    obtain ⟨h1, h2⟩ := h
    cases xs with
    | nil => exact ⟨rfl, .cons r .nil⟩
    | cons y ys => cases h1
  | cons p fs ih =>
    obtain ⟨h1, h2⟩ := h
    cases xs with
    | nil => cases h1
    | cons y ys =>
      obtain ⟨y1, y2⟩ := y
      obtain ⟨p1, p2⟩ := p
      simp only [List.map_cons, List.cons.injEq] at h1
      obtain ⟨rfl, h1⟩ := h1
      cases h2 with
      | cons ha hr =>
        by_cases c : y1 = x
        · have e1 : putF x v ((y1, y2) :: ys) = (y1, v) :: ys := by
            show (if y1 = x then _ else _) = _
            rw [if_pos c]
          have e2 : putFd x d ((y1, p2) :: fs) = (y1, d) :: fs := by
            show (if y1 = x then _ else _) = _
            rw [if_pos c]
          rw [e1, e2]
          exact ⟨by simp [h1], .cons r hr⟩
        · have e1 : putF x v ((y1, y2) :: ys) = (y1, y2) :: putF x v ys := by
            show (if y1 = x then _ else _) = _
            rw [if_neg c]
          have e2 : putFd x d ((y1, p2) :: fs) = (y1, p2) :: putFd x d fs := by
            show (if y1 = x then _ else _) = _
            rw [if_neg c]
          rw [e1, e2]
          obtain ⟨i1, i2⟩ := ih ⟨h1, hr⟩
          exact ⟨by simp [i1], .cons ha i2⟩
theorem RepF.len {xs : List (Str × V)} {fs : List (Str × D)} (h : RepF K Y F xs fs) : xs.length = fs.length := by
  have := congrArg List.length h.1
  simpa using this
/-- self.x = e -/
def dFldS (i c : Nat) (x : Str) (m : Env → M) : SM := fun ρ => match ρ[i]? with
  | some (some (.ins c' fs)) => if c' = c then bo (m ρ) ρ fun d => if fs.length < 1000 then some (.nx (ρ.set i (some (.ins c' (putFd x d fs))))) else none else none
  | _ => none
theorem gs_fld (i c : Nat) {s : Str} {p1 p3 : Pos} (he : GE Y X W e ma) (hc : Cls X.K (Y.cl c)) (hn : NoAttr X.K (Y.cl c) x) (hN : X.N[i]? = some s := by rfl) (hv : Vis X.env.scope s := by first | exact Or.inl rfl | exact Or.inr (Or.inl rfl) | exact Or.inr (Or.inr rfl)) (hd : (s == ("__debug__" : Str)) = false := by decide)
    (hcd : (s == ("__classdict__" : Str)) = false := by decide) (hs : swapsWith e (some (.Attribute (.Name s p1) x p3)) pos.line X.env = pure false := by rfl) :
    GS Y X W (.Assign [.Attribute (.Name s p1) x p3] e pos) (dFldS i c x ma) := by
  obtain ⟨t, pt, q⟩ := he
  refine ⟨_, ps_fld (pe_var hN hv hd hcd) pt hs, fun ρ oo h F0 H0 F σ H R D w => ?_⟩
  unfold dFldS at h
  split at h
  · rename_i c' fs ei
    split at h
    · rename_i hcc
      subst hcc
      rcases bo_some h with ⟨d, e1, h⟩ | ⟨z, e1, rfl⟩
      · split at h
        · rename_i hz
          cases h
          refine q ρ _ e1 F0 H0 F σ H R _ fun v F' H' g r => ?_
          have R' := R.grow g
          obtain ⟨v0, hv0, dx, xs, rfl, h0, fp, hp, rf⟩ := R'.sl i _ ei
          refine ⟨_, hv0, Y.self, Y.cl c', dx, xs, rfl, hp, hc, hn, by rw [rf.len]; exact hz, ?_⟩
          exact w F' σ _ g.f (R'.change ei rfl hv0 h0 fp (fun a fs e z => by rw [z, hp] at e; cases e) ⟨dx, _, rfl, h0, fp, upd_same, rf.put r⟩ rfl)
        · cases h
      · exact q ρ _ e1 F0 H0 F σ H R _ (w.excE R)
    · cases h
  · cases h
/-- the instance in slot i frozen -/
def frzI (fn : Nat → List Str) (i : Nat) (ρ : Env) : Option Env := match ρ[i]? with
  | some (some (.ins c fs)) => if fn c = fs.map (·.1) then some (ρ.set i (some (.val (.obj c (fs.map (·.2)))))) else none
  | _ => none
theorem zip_parts {xs : List (Str × V)} : (xs.map (·.1)).zip (xs.map (·.2)) = xs := by
  induction xs with
  | nil => rfl
  | cons y ys ih => simp [ih]
theorem ins_rep {c : Nat} {fs : List (Str × D)} {p dx : Addr} {xs : List (Str × V)} (hn : Y.fn c = fs.map (·.1)) (hp : F1 p = some (.ins (Y.cl c) dx xs)) (rf : RepF K Y F1 xs fs) : Rep K Y F1 (.ref p) (.obj c (fs.map (·.2))) := by
  have e : xs = (Y.fn c).zip (xs.map (·.2)) := by rw [hn, ← rf.1]; exact zip_parts.symm
  refine .obj (dx := dx) (xs := xs.map (·.2)) (by rw [← e]; exact hp) ?_ rf.2
  rw [hn, ← rf.1]; simp
theorem frzI_rel {i : Nat} {ρ' : Env} (h : frzI Y.fn i ρ = some ρ') (R : Rel K Y F0 H0 F σ H ρ) : ∃ F', Ex F F' ∧ Rel K Y F0 H0 F' σ H ρ' := by
  unfold frzI at h
  split at h
  · rename_i c fs ei
    split at h
    · rename_i hn
      cases h
      have hi : i < ρ.length := (List.getElem?_eq_some_iff.mp ei).1
      obtain ⟨v, vi, dx, xs, rfl, h0, fp, hp, r⟩ := R.sl i _ ei
      have e : Ex F (upd F Y.self (.ins (Y.cl c) dx xs)) := Ex.new fp
      refine ⟨_, e, ⟨R.gr.f.trans e, fun a u q => ?_, R.gr.h, fun a u q => ?_⟩, by simp [R.len], fun j s q => ?_, fun j k s t p' hjk ej ek ms mt vj => ?_, R.tb⟩
      · by_cases c' : a = Y.self
        · subst c'; rw [upd_same] at q; cases q; exact hp
        · rw [upd_ne c'] at q; exact R.ex a u q
      · rw [upd_ne (ne_of_none q h0)]; exact R.gr.old a u q
      · by_cases c' : i = j
        · subst c'
          rw [List.getElem?_set_self hi] at q; cases q
          exact ⟨_, vi, ins_rep hn upd_same (r.mono e)⟩
        · rw [List.getElem?_set_ne c'] at q
          obtain ⟨v, e1, z⟩ := R.sl j s q
          refine ⟨v, e1, ?_⟩
          cases s with
          | val d => exact Rep.mono e z
          | own es =>
            obtain ⟨p', xs', rfl, a, b, c3, r'⟩ := z
            refine ⟨p', xs', rfl, a, ?_, c3, r'.mono e⟩
            rw [upd_ne]; exact b
            intro z; rw [← z] at vi; exact R.dis i j _ _ _ c' ei q rfl rfl vi e1
          | ins c2 fs2 =>
            obtain ⟨dx2, xs2, rfl, _⟩ := z
            exact absurd e1 (R.dis i j _ _ _ c' ei q rfl rfl vi)
          | exv x => exact ⟨z.1, z.2.1, z.2.2.grow e fun a fs e => e⟩
      · have nj : i ≠ j := fun c => by subst c; rw [List.getElem?_set_self hi] at ej; cases ej; cases ms
        have nk : i ≠ k := fun c => by subst c; rw [List.getElem?_set_self hi] at ek; cases ek; cases mt
        rw [List.getElem?_set_ne nj] at ej
        rw [List.getElem?_set_ne nk] at ek
        exact R.dis j k s t p' hjk ej ek ms mt vj
    · cases h
  · cases h
/-- a statement that is an expression, asked while self is frozen; its answer is dropped -/
def dDropI (fn : Nat → List Str) (i : Nat) (m : Env → M) : SM := fun ρ => match frzI fn i ρ with
  | some ρ' => match m ρ' with
    | some (.ok _) => some (.nx ρ)
    | some (.exc x) => some (.exc x ρ')
    | none => none
  | none => none
theorem gs_exprI (i : Nat) (h : GE Y X W e ma) (hs : swapsWith e none pos.line X.env = pure false := by rfl) : GS Y X W (.Expr e pos) (dDropI Y.fn i ma) := by
  obtain ⟨t, p, q⟩ := h
  refine ⟨_, ps_expr p hs, fun ρ oo h F0 H0 F σ H R D w => ?_⟩
  unfold dDropI at h
  split at h
  · rename_i ρ' e1
    obtain ⟨F1, ex, R1⟩ := frzI_rel e1 R
    split at h
    · rename_i d e2
      cases h
      exact q ρ' _ e2 F0 H0 F1 σ H R1 _ fun v F' H' g r => w F σ H' (Ex.refl F) (R.grow (Gr.heap R.ex g.h))
    · rename_i z e2
      cases h
      exact q ρ' _ e2 F0 H0 F1 σ H R1 _ fun F' H' dx g xr => w F' σ H' dx (ex.trans g.f) (R1.grow g) xr
    · cases h
  · cases h
def startI (N : List Str) (c : Nat) (ds : List D) : Env := some (.ins c []) :: (ds.map (fun d => some (.val d)) ++ List.replicate (N.length - (ds.length + 1)) none)
/-- an __init__ run from its arguments' data -/
def runI (fn : Nat → List Str) (N : List Str) (c n : Nat) (body : SM) : Mn := fun ds => if ds.length + 1 = n then match body (startI N c ds) with
  | some (.nx ρ) => match ρ[0]? with
    | some (some (Sl.ins c' fs)) => if fn c' = fs.map (·.1) then some (.ok (.obj c' (fs.map (·.2)))) else none
    | _ => none
  | some (.exc x _) => some (.exc x)
  | _ => none
  else none
theorem rel_startI {Yc : Core} {c : Nat} {N : List Str} {vs : List V} {ds : List D} {z dz : Addr} (e : Ex F H1) (tb : Tb F) (r : RepL K Yc F vs ds) (hz : H1 z = none) (hdz : H1 dz = none) (ne : dz ≠ z) :
    Rel K ⟨Yc, z, none, 0⟩ F H1 F (L2.start N (.ref z :: vs)) (upd (upd H1 dz (.own z)) z (.ins (Yc.cl c) dz [])) (startI N c ds) := by
  have h1 : Ex H1 (upd H1 dz (.own z)) := Ex.new hdz
  have hz1 : (upd H1 dz (.own z)) z = none := by rw [upd_ne ne.symm]; exact hz
  have h2 := h1.trans (Ex.new (o := .ins (Yc.cl c) dz []) hz1)
  have fz : F z = none := fresh_back e hz
  have st : L2.start N (.ref z :: vs) = some (.ref z) :: (vs.map some ++ List.replicate (N.length - (vs.length + 1)) none) := rfl
  have only : ∀ {i : Nat} {s : Sl}, (startI N c ds)[i]? = some (some s) → (i = 0 ∧ s = .ins c []) ∨ ∃ j d, i = j + 1 ∧ ds[j]? = some d ∧ s = .val d := fun {i s} q => by
    cases i with
    | zero => simp [startI] at q; exact .inl ⟨rfl, q.symm⟩
    | succ j =>
      simp only [startI, List.getElem?_cons_succ] at q
      by_cases hi : j < ds.length
      · rw [List.getElem?_append_left (by simpa using hi), List.getElem?_map, List.getElem?_eq_getElem hi] at q
        cases q
        exact .inr ⟨j, _, rfl, List.getElem?_eq_getElem hi, rfl⟩
      · rw [List.getElem?_append_right (by simpa using hi), List.getElem?_replicate] at q
        split at q <;> cases q
  refine ⟨⟨Ex.refl F, e.trans h2, h2, fun _ _ _ => rfl⟩, by rw [st]; simp [startI, r.len], fun i s q => ?_, fun i j s t p hij q q' ms mt => ?_, tb⟩
  · rcases only q with ⟨rfl, rfl⟩ | ⟨j, d, rfl, hd, rfl⟩
    · exact ⟨.ref z, rfl, dz, [], rfl, hz, fz, upd_same, rfl, .nil⟩
    · obtain ⟨v, hv, rv⟩ := r.get hd
      have hj : j < vs.length := (List.getElem?_eq_some_iff.mp hv).1
      refine ⟨v, ?_, rv⟩
      rw [st, List.getElem?_cons_succ, List.getElem?_append_left (by simpa using hj), List.getElem?_map, hv]; rfl
  · rcases only q with ⟨rfl, rfl⟩ | ⟨_, d, rfl, hd, rfl⟩
    · rcases only q' with ⟨rfl, rfl⟩ | ⟨_, d', rfl, hd', rfl⟩
      · exact absurd rfl hij
      · cases mt
    · cases ms
theorem iok {Yc : Core} {c : Nat} {qual : Str} {st : Stmt} {N : List Str} {body : SM} {dvv : List V} {kwv : List (Str × V)} (Fn : FunD K x qual (defArgs st) (defBody st) (defScope st) dvv kwv f fd) (S : FnScope N ps (defScope st))
    (hb : ∀ (z : Addr) (cdv : Value) (A : Around) (outer : List PySem.Env) (s : Shared) (H : Hp) (E : XK), Room k (A.deeper (PyProof.Rows.envOfC qual (defScope st) s.heap.objs.size f cdv)) →
      Takes (cxOf (L2.CX P w) P w K mg base N qual (defScope st) f cdv A outer s H E) (fun cls d _ H => E cls d H) →
      PassesOwn (model P w) (A.deeper (PyProof.Rows.envOfC qual (defScope st) s.heap.objs.size f cdv)) (PyProof.Rows.envOfC qual (defScope st) s.heap.objs.size f cdv) (cxOf (L2.CX P w) P w K mg base N qual (defScope st) f cdv A outer s H E).xe →
      GSs ⟨Yc, z, none, 0⟩ (cxOf (L2.CX P w) P w K mg base N qual (defScope st) f cdv A outer s H E) (fun cls d _ H => E cls d H) (defBody st) body) :
    IOk Yc c P w K mg base (k + 1) f fd ps (runI Yc.fn N c ps.length body) := by
  refine Fn.ok (CX := L2.CX P w) S (fun vs H Q E h => ?_) (fun cdv A outer s H vs Q E hr h => ?_)
  · obtain ⟨z, dz, H1, vs', F, ds, r, rfl, _, _, _, _, _, rs, hl, _⟩ := h
    simp [rs.len, hl]
  · obtain ⟨z, dz, H1, vs', F, ds, r, rfl, hz, hdz, ne, rfl, e, rs, hl, hf, want⟩ := h
    obtain ⟨t, pt, q⟩ := hb z cdv A outer s _ E hr (takes_of rfl rfl rfl rfl) PassesOwn.leaving
    refine ⟨t, pt, ?_⟩
    unfold runI at hf
    rw [if_pos hl] at hf
    have R := rel_startI (c := c) (N := N) e.1 e.2 rs hz hdz ne
    cases ho : body (startI N c ds) with
    | none => rw [ho] at hf; cases hf
    | some oo =>
      refine q _ oo ho F H1 F _ _ R _ ?_
      cases oo with
      | nx ρ =>
        intro F' σ' H' e' R'
        rw [ho] at hf
        simp only at hf
        split at hf
        · rename_i c' fs e0
          split at hf
          · rename_i hn
            cases hf
            obtain ⟨v, _, dx, xs, _, h0, fp, hp, rf⟩ := R'.sl 0 _ e0
            have ex : Ex F' (upd F' z (.ins (Yc.cl c') dx xs)) := Ex.new fp
            refine want (upd F' z (.ins (Yc.cl c') dx xs)) H' ⟨R'.gr.f.trans ex, fun a u q => ?_, R'.gr.h, fun a u q => ?_⟩ (ins_rep (Y := ⟨Yc, z, none, 0⟩) hn upd_same (rf.mono ex))
            · by_cases k : a = z
              · subst k; rw [upd_same] at q; cases q; exact hp
              · rw [upd_ne k] at q; exact R'.ex a u q
            · rw [upd_ne (ne_of_none q hz)]; exact R'.gr.old a u q
          · cases hf
        · cases hf
      | exc y ρ => rw [ho] at hf; cases hf; exact fun F' σ' H' dx e' R' xr => want F' H' dx R'.gr xr
      | ret d => rw [ho] at hf; cases hf
      | bk ρ => rw [ho] at hf; cases hf
      | ct ρ => rw [ho] at hf; cases hf

/-! ### try: .. except C: .. -/
/-- does the clause of class c take an exception of class c'? -/
abbrev Exm := Nat → Nat → Option Bool
def noX (o : Option O) : Option O := match o with
  | some (.exc _ _) => none
  | o => o
theorem noX_some {o : Option O} {oo : O} (h : noX o = some oo) : o = some oo ∧ ∀ y ρ, oo ≠ .exc y ρ := by
  unfold noX at h
  split at h
  · cases h
  · rename_i hn
    exact ⟨h, fun y ρ e => hn y ρ (e ▸ h)⟩
def dTry (tk : Exm) (c : Nat) (m ms : SM) : SM := fun ρ => match m ρ with
  | some (.exc z ρ') => match tk z.c c with
    | some true => noX (ms ρ')
    | some false => some (.exc z ρ')
    | none => none
  | oo => oo
theorem gs_try {body suite : List Stmt} {b0 : Stmt} {np pos' : Pos} {m1 m2 : SM} {T : Exm} (c : Nat) (hs : X.stack = X.env :: X.outer) (hf : X.env.frame = some X.env.locals) (hc : Names X x (.ref (Y.cl c))) (tk : Takes X W) (hT : ∀ i b, T i c = some b → PySem.W.exmOne X.K (.ref (Y.cl i)) (.ref (Y.cl c)) = some b)
    (hb : ∀ (W' : WX) (pn : List (Addr × Obj)) (xe : Value → Shared → Prop), Takes (X.tr pn xe) W' → PassesOwn (model X.prog X.w) X.A X.env xe → GSs Y (X.tr pn xe) W' body m1)
    (hsu : ∀ (a : Addr) (pn : List (Addr × Obj)), GSs Y (X.suite a pn) W0 (b0 :: suite) m2) :
    GS Y X W (.Try body [.ExceptHandler (some (.Name x np)) none (b0 :: suite) pos'] [] [] pos) (dTry T c m1 m2) := by
  refine ⟨_, ps_try_only (tb := fun W' => sM Y W' X.K m1) (ts := fun _ _ _ => sM Y W0 X.K m2) hs hf hc tk (fun W' pn xe tk' hp => (hb W' pn xe tk' hp).ps) (fun a oe cls d pn _ _ => (hsu a _).ps), fun ρ oo h F0 H0 F σ H R D w => ?_⟩
  unfold dTry at h
  split at h
  · rename_i z ρ' e1
    refine ⟨F0, H0, F, ρ, _, R, e1, fun F' σ' H' dx ex R' xr => ?_⟩
    split at h
    · rename_i e2
      exact ⟨true, hT _ _ e2, fun _ a ha => ⟨F0, H0, F', ρ', oo, R', (noX_some h).1, by
        have w' := w.grow ex
        cases oo with
        | exc y ρ2 => exact absurd rfl ((noX_some h).2 y ρ2)
        | nx ρ2 => exact w'
        | ret d => exact w'
        | bk ρ2 => exact w'
        | ct ρ2 => exact w'⟩, fun q => nomatch q⟩
    · rename_i e2
      cases h
      exact ⟨false, hT _ _ e2, (fun q => nomatch q), fun _ => w F' σ' H' dx ex R' xr⟩
    · cases h
  · exact ⟨F0, H0, F, ρ, oo, R, h, by
      cases oo with
      | exc y ρ2 => rename_i hn; exact absurd h (hn y ρ2)
      | nx ρ2 => exact w
      | ret d => exact w
      | bk ρ2 => exact w
      | ct ρ2 => exact w⟩
end
end Den
set_option Elab.async false
set_option linter.all false
set_option maxRecDepth 100000
set_option maxHeartbeats 4000000
namespace Den
open PySem L2
variable [Named]
theorem bt_len : bootBuiltins "len" = some (.builtin "len") := PySem.boot_len
theorem bt_abs : bootBuiltins "abs" = some (.builtin "abs") := PyProof.Rows.boot_abs
theorem bt_max : bootBuiltins "max" = some (.builtin "max") := PyProof.Rows.boot_max
theorem bt_min : bootBuiltins "min" = some (.builtin "min") := PyProof.Rows.boot_min
theorem bt_all : bootBuiltins "all" = some (.builtin "all") := PyProof.Rows.boot_all
theorem bt_any : bootBuiltins "any" = some (.builtin "any") := PyProof.Rows.boot_any
theorem bt_sum : bootBuiltins "sum" = some (.builtin "sum") := PyProof.Rows.boot_sum
theorem bt_int : bootBuiltins "int" = some (.type "int") := PyProof.Rows.boot_int
theorem bt_str : bootBuiltins "str" = some (.type "str") := PyProof.Rows.boot_str
theorem bt_bool : bootBuiltins "bool" = some (.type "bool") := PyProof.Rows.boot_bool
theorem bt_list : bootBuiltins "list" = some (.type "list") := PyProof.Rows.boot_list
theorem bt_tuple : bootBuiltins "tuple" = some (.type "tuple") := PyProof.Rows.boot_tuple
theorem bt_dict : bootBuiltins "dict" = some (.type "dict") := PyProof.Rows.boot_dict
theorem hu65 {k : Nat} {A : Around} (r : Room k A) : A.units + 65 < cLine := by have := r.un; omega
section
variable {Y : Cfg} {X : Cx} {W : WX} {K : PySem.W.Frag} {a b c e o : Expr} {es : List Expr} {ma mb mo mc : Env → M} {ms : Env → ML} {pos p2 p apos : Pos} {m : Mn} {x nm : Str} {F0 H0 F F1 H H1 : Hp} {σ : L2.St} {ρ : Env}
theorem runD_len {N : List Str} {n : Nat} {body : SM} {ds : List D} {r : R} (h : runD N n body ds = some r) : ds.length = n := by
  unfold runD at h
  split at h
  · assumption
  · cases h
theorem runI_len {fn : Nat → List Str} {N : List Str} {c n : Nat} {body : SM} {ds : List D} {r : R} (h : runI fn N c n body ds = some r) : ds.length + 1 = n := by
  unfold runI at h
  split at h
  · assumption
  · cases h
theorem ge_globE {x : Str} {v : V} {d : D} (hg : Gl X x) (hm : ∃ u, X.mg x = some u ∧ RelV v u) (q : ∀ F, Rep X.K Y F v d) (hd : (x == ("__debug__" : Str)) = false := by decide) : GE Y X W (.Name x pos) (dC d) := by
  obtain ⟨u, h1, h2⟩ := hm
  exact ge_glob hg h1 h2 q hd

/-! ### a < b < c -/
def dChn (g g' : D → D → Option D) (ma mb mc : Env → M) : Env → M := fun ρ => bd (ma ρ) fun x => bd (mb ρ) fun y => bd (lift (g x y)) fun z => match z with
  | .bl true => bd (mc ρ) fun u => lift (g' y u)
  | .bl false => some (.ok (.bl false))
  | _ => none
theorem sat_chain {g g' : D → D → Option D} {ta tb tc : TE} (ha : ∀ ρ r, ma ρ = some r → SatE Y W K ta ρ r) (hb : ∀ ρ r, mb ρ = some r → SatE Y W K tb ρ r) (hc : ∀ ρ r, mc ρ = some r → SatE Y W K tc ρ r) : ∀ ρ r, dChn g g' ma mb mc ρ = some r → SatE Y W K (tChain (rD Y K g) (rD Y K g') ta tb tc) ρ r := by
  intro ρ r h F0 H0 F σ H R Q w
  rcases bd_some h with ⟨d, e1, h⟩ | ⟨x, e1, rfl⟩
  · refine ha ρ _ e1 F0 H0 F σ H R _ fun v F1 H1 g1 q1 => ?_
    rcases bd_some h with ⟨d2, e2, h⟩ | ⟨x, e2, rfl⟩
    · refine hb ρ _ e2 F0 H0 F1 σ H1 (R.grow g1) _ fun u F2 H2 g2 q2 => ?_
      rcases bd_some h with ⟨z, e3, h⟩ | ⟨x, e3, _⟩
      · obtain ⟨z', e4, e5⟩ := lift_some e3
        cases e5
        refine ⟨F2, d, d2, _, g2.fh, q1.mono g2.f, q2, e4, fun v' F3 H3 g3 q3 => ?_⟩
        have gg := (g1.trans g2).trans g3
        split at h
        · cases q3
          refine ⟨true, rfl, ?_⟩
          rw [if_pos rfl]
          rcases bd_some h with ⟨d5, e6, h⟩ | ⟨x, e6, rfl⟩
          · obtain ⟨z6, e7, rfl⟩ := lift_some h
            exact hc ρ _ e6 F0 H0 F3 σ H3 (R.grow gg) _ fun v5 F5 H5 g5 q5 => ⟨F5, d2, d5, z6, g5.fh, q2.mono (g3.f.trans g5.f), q5, e7, fun v6 F6 H6 g6 q6 => w v6 F6 H6 (gg.trans (g5.trans g6)) q6⟩
          · exact hc ρ _ e6 F0 H0 F3 σ H3 (R.grow gg) _ (w.exc gg)
        · cases q3
          cases h
          refine ⟨false, rfl, ?_⟩
          rw [if_neg Bool.false_ne_true]
          exact w _ F3 H3 gg (.bl false)
        · cases h
      · obtain ⟨z', _, e5⟩ := lift_some e3
        cases e5
    · exact hb ρ _ e2 F0 H0 F1 σ H1 (R.grow g1) _ (w.exc g1)
  · exact ha ρ _ e1 F0 H0 F σ H R _ (w.exc (Gr.refl R.ex))
theorem ge_chain {op op' : CmpOp} {g g' : D → D → Option D} (ho : OpD Y X (compareOp op) g) (ho' : OpD Y X (compareOp op') g') (ha : GE Y X W a ma) (hb : GE Y X W b mb) (hc : GE Y X W c mc) (hm : lastMarks [op, op'] [b, c] = false := by with_unfolding_all rfl) : GE Y X W (.Compare a [op, op'] [b, c] pos) (dChn g g' ma mb mc) := by
  obtain ⟨ta, pa, sa⟩ := ha
  obtain ⟨tb, pb, sb⟩ := hb
  obtain ⟨tc, pc, sc⟩ := hc
  exact ⟨_, pe_chain ho ho' pa pb pc hm, sat_chain sa sb sc⟩
theorem gt_chain {op op' : CmpOp} {g g' : D → D → Option D} (ho : OpD Y X (compareOp op) g) (ho' : OpD Y X (compareOp op') g') (ha : GE Y X W a ma) (hb : GE Y X W b mb) (hc : GE Y X W c mc) (hm : lastMarks [op, op'] [b, c] = false := by with_unfolding_all rfl) : GT Y X W (.Compare a [op, op'] [b, c] pos) (tst (dChn g g' ma mb mc)) := by
  obtain ⟨ta, pa, sa⟩ := ha
  obtain ⟨tb, pb, sb⟩ := hb
  obtain ⟨tc, pc, sc⟩ := hc
  exact ⟨_, pt_chain ho ho' pa pb pc hm, fun ρ r h => SatE.test (sat_chain sa sb sc ρ) r h⟩

/-! ### a, b = a tuple or a list -/
def tgSeq (n : Nat) (ms : TMs) : TM := fun d ρ => match d with
  | .tup ds => if ds.length = n then ms ds ρ else none
  | .lst ds => if ds.length = n then ms ds ρ else none
  | _ => none
theorem pg_or {tg : Expr} {g g' : TG} (h : PG X tg g) (h' : PG X tg g') : PG X tg (fun v σ H Q => g v σ H Q ∨ g' v σ H Q) := ⟨fun pins s σ H v u Q I r q => q.elim (fun q => h.run pins s σ H v u Q I r q) fun q => h'.run pins s σ H v u Q I r q⟩
theorem gg_seq {ms : TMs} {k n : Nat} {js : List Nat} (hc : X.calm = true) (h : GGs Y X es js ms) (hn : (assignEach es X.env).length = n := by rfl) (hst : (assignEach es X.env).findIdx? (·.1) = none := by rfl) : GG Y X (.Tuple es k pos) js (tgSeq n ms) := by
  obtain ⟨t, p, q⟩ := h
  refine ⟨_, pg_or (pg_tup (n := n) hc p hn hst) (pg_lst (n := n) hc p hn hst), fun d ρ ρ' h F0 H0 F σ H v R r Q k => ?_⟩
  unfold tgSeq at h
  split at h
  · split at h
    · rename_i ds hl
      obtain ⟨a, xs, rfl, ha, ra⟩ := rep_tup r
      exact .inl ⟨a, xs, rfl, ex_t R.ex ha, by rw [ra.len]; exact hl, q _ ρ ρ' h F0 H0 F σ H xs R ra Q k⟩
    · cases h
  · split at h
    · rename_i ds hl
      obtain ⟨a, xs, rfl, ha, ra⟩ := rep_lst r
      exact .inr ⟨a, xs, rfl, ex_l R.ex ha, by rw [ra.len]; exact hl, q _ ρ ρ' h F0 H0 F σ H xs R ra Q k⟩
    · cases h
  · cases h

/-! ### -a -/
def negD (x : D) : Option D := match x with
  | .int i => some (.int (-i))
  | _ => none
def dNeg (ma : Env → M) : Env → M := fun ρ => bd (ma ρ) fun x => lift (negD x)
theorem ge_neg (ha : GE Y X W a ma) : GE Y X W (.UnaryOp .USub a pos) (dNeg ma) := by
  obtain ⟨t, p, q⟩ := ha
  refine ⟨_, pe_un un_neg p, fun ρ r h F0 H0 F σ H R Q w => ?_⟩
  rcases bd_some h with ⟨d, e1, h⟩ | ⟨x, e1, rfl⟩
  · obtain ⟨z, e2, rfl⟩ := lift_some h
    refine q ρ _ e1 F0 H0 F σ H R _ fun v F' H' g rv => ?_
    unfold negD at e2
    split at e2
    · cases e2
      exact ⟨_, rep_int rv, w _ F' H' g (.int _)⟩
    · cases e2
  · exact q ρ _ e1 F0 H0 F σ H R _ w

/-! ### len(set(t)), t a tuple of tuples of ints -/
def tupInts : D → Option (List Int)
  | .tup ds => intsOf ds
  | _ => none
def tupsOf : List D → Option (List (List Int))
  | [] => some []
  | d :: ds => match tupInts d with
    | some k => match tupsOf ds with
      | some ks => some (k :: ks)
      | none => none
    | none => none
end
end Den
set_option Elab.async false
set_option linter.all false
set_option maxRecDepth 100000
set_option maxHeartbeats 4000000
/-! set(t) of a tuple of tuples of ints -/
namespace Den
open PySem PySem.Spec PyProof.Rows L2
variable [Named]
/-- an empty set, as it is laid -/
abbrev nob (w : World) : Obj :=
  { cls := .type "set", dict := none,
    data := .set #[] 0 (.fresh 0 0 (!w.params.followText "set-order")) }
section
variable {P : Program} {w : World} {A : Around} {E : Value → Shared → Prop} {s : Shared}
/-- set.__init__ over a tuple -/
theorem init_tup {l : Addr} {items : Array Value} (ks : List (Addr × List Int)) {R : Result → Shared → Prop} (hh : A.handled = none) (hl : s.heap.IsTuple l items)
    (hit : items.toList = ks.map fun p => Value.ref p.1) (hk : ∀ p ∈ ks, IsT P w s.heap p.2 p.1) (hfew : ks.length < 64) (hu : A.units + 3 < cLine)
    (h : ∀ (h' : Heap) (tk : Nat) L es ep t, SetTR P w h' s.heap.objs.size L es ep t → Got ks ks.length L → (∀ b o, s.heap.get? b = some o → h'.get? b = some o) → R (.ok (.ret .none)) { s with heap := h', toks := tk }) :
    codeAny (model P w) A.in1 (.call (.builtin "set.__init__") ⟨[.ref s.heap.objs.size, .ref l], []⟩) R { s with heap := s.heap.push (nob w) } := by
  have hisz : items.size = ks.length := by
    have q := congrArg List.length hit
    simpa using q
  have hS : (s.heap.push (nob w)).get? s.heap.objs.size = some (nob w) := Heap.get?_push_size _ rfl
  have hT : Shared.TypeIs { s with heap := s.heap.push (nob w) } (.ref s.heap.objs.size) "set" := ⟨_, hS, rfl⟩
  refine codeAny_call_builtin F.called_set.init.plain F.entry_set_init (check_set_init_1 hT ?_)
  obtain ⟨⟨ocls, odict, odata, oslots⟩, hol, hcl, nl, hdl⟩ := hl
  simp only at hcl hdl
  subst hcl; subst hdl
  have hol' : (s.heap.push (nob w)).get? l = some { cls := .type "tuple", dict := odict, data := .seq items nl, slots := oslots } := Heap.get?_push_of_some _ hol
  have hsls := F.sub_tuple_set
  have hslf := F.sub_tuple_frozenset
  have hne : (Value.type "tuple" == Value.type "dict") = false := by decide
  have hl1 : (s.heap.push (nob w)).IsTuple l items := ⟨_, hol', rfl, nl, rfl⟩
  unfold Builtin.«set.__init__» noKeywords Builtin.Frozenset.updateFrom
  generalize hPI : pyIter = PI
  wp_walk
  subst hPI
  refine wpAny_pyIter_tuple hl1 (wpAny_bind (wpAny_runValue ?_))
  have hlS : l < s.heap.objs.size := Heap.lt_size hol
  have hh3 : A.in1.in1.in1.handled = none := by simp [hh]
  have hz1 : (s.heap.push (nob w)).objs.size = s.heap.objs.size + 1 := Heap.size_push ..
  have hneI : l ≠ (s.heap.push (nob w)).objs.size := by rw [hz1]; exact Nat.ne_of_lt (Nat.lt_succ_of_lt hlS)
  have hSf : s.heap.objs.size ∉ [(s.heap.push (nob w)).objs.size, l] := by
    rw [hz1]
    intro hm
    rcases List.mem_cons.mp hm with z | z
    · exact absurd z (Nat.ne_of_lt (Nat.lt_succ_self _))
    · exact absurd (List.mem_singleton.mp z) (Nat.ne_of_gt hlS)
  have hval : ∀ (i : Nat) (v : Value), items[i]? = some v → ∃ p, ks[i]? = some p ∧ v = .ref p.1 := fun i v hv => by
    have q : items.toList[i]? = some v := (Array.getElem?_toList ..).trans hv
    rw [hit, List.getElem?_map] at q
    match hq : ks[i]? with
    | none => rw [hq] at q; cases q
    | some p => rw [hq] at q; exact ⟨p, rfl, (Option.some.inj q).symm⟩
  have none_of : ∀ b, s.heap.objs.size ≤ b → s.heap.get? b = none := fun b hb => by
    match q : s.heap.get? b with
    | none => rfl
    | some o => exact absurd (Nat.lt_of_lt_of_le (Heap.lt_size q) hb) (Nat.lt_irrefl _)
  refine set_update_tups ((Walks.tuple hh3 _ l hneI items).toS) s.heap.objs.size hSf ks hisz hfew hval s.heap hk (none_of _ (Nat.le_refl _))
    (fun b hb => none_of b (by rw [List.mem_singleton.mp hb, hz1]; exact Nat.le_succ _)) hu (items.size - 0) 0 _ (by omega) (Nat.zero_le _)
    ⟨⟨_, Heap.get?_push_size _ rfl, rfl, rfl⟩, (hl1.push _)⟩ (fun b o e => Heap.get?_push_of_some _ (Heap.get?_push_of_some _ e)) ?hS0 ?hR
  case hS0 => exact ⟨[], #[], 0, _, setTR_fresh (Heap.get?_push_of_some _ hS), Got.zero ks⟩
  case hR =>
    rintro ⟨h', g2, d', tk', os'⟩ L es ep t hm hS' g' hkp
    obtain rfl : g2 = s.gens := hm.gens
    obtain rfl : d' = s.drawn := hm.drawn
    obtain rfl : os' = s.os := hm.os
    rw [hisz] at g'
    show wpAny _ _ _ _ _ _
    refine wpAny_pure ?_
    show wpAny _ _ (ret Value.none) _ _ _
    exact wpAny_pure (h h' tk' L es ep t hS' g' hkp)
/-- set(t) -/
theorem set_tup {l : Addr} {items : Array Value} (ks : List (Addr × List Int)) {Q : Value → Shared → Prop} (hh : A.handled = none) (hl : s.heap.IsTuple l items) (hit : items.toList = ks.map fun p => Value.ref p.1)
    (hk : ∀ p ∈ ks, IsT P w s.heap p.2 p.1) (hfew : ks.length < 64) (hu : A.units + 3 < cLine)
    (h : ∀ (h' : Heap) (tk : Nat) L es ep t, SetTR P w h' s.heap.objs.size L es ep t → Got ks ks.length L → (∀ b o, s.heap.get? b = some o → h'.get? b = some o) → Q (.ref s.heap.objs.size) { s with heap := h', toks := tk }) :
    wpAny (model P w) A (call (.type "set") [.ref l]) Q E s := by
  obtain ⟨c, tl, hmro⟩ := F.called_set.mro
  have made := F.called_set.made
  have sub := F.called_set.sub
  have nt := F.called_set.notType
  have cc := F.called_set.canCreate
  have tc := F.typeCall_set_1 (.ref l)
  have hli := F.called_set.init.lookup
  have hbi := F.called_set.init.bind (.ref s.heap.objs.size)
  refine wpAny_call (codeAny_of_tree ?_)
  show wpAny _ _ (callAny (.type "set") _) _ _ _
  refine wpAny_pure ⟨Code.quiet_builtin _ (by decide +kernel), codeAny_builtin F.entry_type_call ?_⟩
  rw [Around.under_plain (weight_type_call_type "set" [.ref l] []) rfl]
  repeat (any_goals (first | assumption | wp_step))
  refine codeAny_mono (code_set_led1 (.ref l) (E := E) (Q₁ := fun obj s₁ => obj = .ref s.heap.objs.size ∧ s₁ = { s with heap := s.heap.push (nob w) }) ⟨rfl, rfl⟩) fun r s₁ hr => ?_
  match r, hr with
  | .error e, hr => exact hr
  | .ok .next, hr => exact hr.elim
  | .ok .brk, hr => exact hr.elim
  | .ok .cont, hr => exact hr.elim
  | .ok (.ret obj), hr =>
    obtain ⟨rfl, rfl⟩ := hr
    have hS : (s.heap.push (nob w)).get? s.heap.objs.size = some (nob w) := Heap.get?_push_size _ rfl
    have hT : Shared.TypeIs { s with heap := s.heap.push (nob w) } (.ref s.heap.objs.size) "set" := ⟨_, hS, rfl⟩
    repeat (any_goals (first | assumption | wp_step))
    refine codeAny_mono (init_tup ks hh hl hit hk hfew hu (R := wants (fun r s₂ => r = .none ∧ ∃ h' tk L es ep t, s₂ = { s with heap := h', toks := tk } ∧ SetTR P w h' s.heap.objs.size L es ep t ∧ Got ks ks.length L ∧
      (∀ b o, s.heap.get? b = some o → h'.get? b = some o)) E) fun h' tk L es ep t a b c => ⟨rfl, h', tk, L, es, ep, t, rfl, a, b, c⟩) fun r₂ s₂ hr₂ => ?_
    match r₂, hr₂ with
    | .error e, hr => exact hr
    | .ok .next, hr => exact hr.elim
    | .ok .brk, hr => exact hr.elim
    | .ok .cont, hr => exact hr.elim
    | .ok (.ret r), hr =>
      obtain ⟨rfl, h', tk, L, es, ep, t, rfl, a, b, c⟩ := hr
      repeat (any_goals (first | assumption | wp_step))
      exact h _ _ _ _ _ _ a b c
end
end Den
set_option Elab.async false
set_option linter.all false
set_option maxRecDepth 100000
set_option maxHeartbeats 4000000
namespace Den
open PySem L2
variable [Named]
def ddup {α : Type} [DecidableEq α] : List α → List α
  | [] => []
  | x :: xs => if x ∈ xs then ddup xs else x :: ddup xs
section
variable {α : Type} [DecidableEq α]
theorem mem_ddup {x : α} : ∀ {l : List α}, x ∈ ddup l ↔ x ∈ l
  | [] => Iff.rfl
  | y :: l => by
    unfold ddup
    split
    · rename_i h
      rw [mem_ddup (l := l)]
      constructor
      · exact fun q => List.mem_cons_of_mem _ q
      · intro q
        rcases List.mem_cons.mp q with rfl | q
        · exact h
        · exact q
    · rw [List.mem_cons, List.mem_cons, mem_ddup (l := l)]
theorem nodup_ddup : ∀ (l : List α), (ddup l).Nodup
  | [] => List.nodup_nil
  | y :: l => by
    unfold ddup
    split
    · exact nodup_ddup l
    · rename_i h
      exact List.nodup_cons.mpr ⟨fun q => h (mem_ddup.mp q), nodup_ddup l⟩
theorem nodup_len : ∀ {l m : List α}, l.Nodup → (∀ x ∈ l, x ∈ m) → l.length ≤ m.length
  | [], _, _, _ => Nat.zero_le _
  | x :: l, m, nd, h => by
    obtain ⟨n1, n2⟩ := List.nodup_cons.mp nd
    have hx := h x List.mem_cons_self
    have hl := nodup_len (m := m.erase x) n2 fun y hy => by
      have ne : y ≠ x := fun e => n1 (e ▸ hy)
      exact (List.mem_erase_of_ne ne).mpr (h y (List.mem_cons_of_mem _ hy))
    have e := List.length_erase_of_mem hx
    have p : 0 < m.length := List.length_pos_of_mem hx
    rw [List.length_cons]
    omega
theorem same_len {l m : List α} (h1 : l.Nodup) (h2 : m.Nodup) (h : ∀ x, x ∈ l ↔ x ∈ m) : l.length = m.length := Nat.le_antisymm (nodup_len h1 fun x hx => (h x).mp hx) (nodup_len h2 fun x hx => (h x).mpr hx)
theorem ddup_le (l : List α) : (ddup l).length ≤ l.length := nodup_len (nodup_ddup l) fun _ h => mem_ddup.mp h
theorem ddup_nodup : ∀ {l : List α}, l.Nodup → ddup l = l
  | [], _ => rfl
  | x :: l, h => by
    obtain ⟨a, b⟩ := List.nodup_cons.mp h
    unfold ddup
    rw [if_neg a, ddup_nodup b]
theorem ddup_lt {l : List α} : (ddup l).length < l.length ↔ ¬ l.Nodup := by
  constructor
  · intro h n
    rw [ddup_nodup n] at h
    omega
  · intro n
    induction l with
    | nil => exact absurd List.nodup_nil n
    | cons x l ih =>
      unfold ddup
      split
      · have := ddup_le l; rw [List.length_cons]; omega
      · rename_i hx
        have := ih fun z => n (List.nodup_cons.mpr ⟨hx, z⟩)
        rw [List.length_cons, List.length_cons]; omega
end
/-- len(set(x)), x a tuple or a list of tuples of ints -/
def lenSetD (d : D) : Option D := match d with
  | .tup ds => match tupsOf ds with
    | some ks => if ks.length < 64 then some (.int (ddup ks).length) else none
    | none => none
  | .lst ds => match tupsOf ds with
    | some ks => if ks.length < 64 then some (.int (ddup ks).length) else none
    | none => none
  | _ => none
section
variable {Y : Cfg} {X : Cx} {W : WX} {K : PySem.W.Frag} {a b c e o : Expr} {es : List Expr} {ma mb mo mc : Env → M} {ms : Env → ML} {pos p p2 q : Pos} {F0 H0 F F1 H H1 : Hp} {σ : L2.St} {ρ : Env}
theorem tups_rep {Y : Core} : ∀ {ds : List D} {vs : List V} {ks : List (List Int)}, RepL K Y F vs ds → tupsOf ds = some ks → ∃ ps : List (Addr × List Int), vs = ps.map (fun p => V.ref p.1) ∧ ks = ps.map (·.2) ∧ ∀ p ∈ ps, SqT K F p.1 (p.2.map V.int)
  | [], _, _, .nil, h => by cases h; exact ⟨[], rfl, rfl, fun p hp => nomatch hp⟩
  | d :: ds, _, _, .cons a r, h => by
    unfold tupsOf at h
    split at h
    · rename_i k hk
      split at h
      · rename_i ks hks
        cases h
        obtain ⟨ps, e1, e2, e3⟩ := tups_rep r hks
        cases d with
        | tup es =>
          obtain ⟨t, xs, rfl, ht, rt⟩ := rep_tup a
          have e4 := ints_rep rt hk
          subst e4
          refine ⟨(t, k) :: ps, by rw [e1]; rfl, by rw [e2]; rfl, fun p hp => ?_⟩
          rcases List.mem_cons.mp hp with rfl | hp
          · exact ht
          · exact e3 p hp
        | _ => cases hk
      · cases h
    · cases h
theorem ge_lenSet (hc : X.calm = true) (hu : X.A.units + 65 < cLine) (hg : Gl X "len") (hm : X.mg "len" = none) (hg2 : Gl X "set") (hm2 : X.mg "set" = none) (ha : GE Y X W a ma)
    (na : starEach [a] X.env = (false, eval a X.env) :: starEach [] X.env := by rfl) : GE Y X W (.Call (.Name "len" p) [.Call (.Name "set" p2) [a] [] q] [] pos) (fun ρ => bd (ma ρ) fun d => lift (lenSetD d)) := by
  have pa := ha.pe
  refine ⟨fun σ H Q => tM Y W X.K ma σ H fun v H' => ∃ F' d z, Ex F' H' ∧ Rep X.K Y F' v d ∧ lenSetD d = some z ∧ ∀ u, Rep X.K Y F' u z → Q u H', ⟨fun pins s σ H Q I h => ?_⟩, fun ρ r h F0 H0 F σ H R Q w => ?_⟩
  · refine PyProof.Rows.Call_ (ld_blt I hg hm PySem.boot_len ?_)
    refine PyProof.Rows.callWith_builtin1 (PyProof.Rows.args_cons ?_ rfl) rfl rfl
    refine PyProof.Rows.Call_ (ld_blt I hg2 hm2 PyProof.Rows.boot_set ?_)
    refine PyProof.Rows.callWith_type1 (PyProof.Rows.args_cons (thn (pa.run pins s σ H _ I h) fun v s1 ⟨x, H1, I1, r1, F', d, z, ex, rd, ez, q1⟩ => PyProof.Rows.args_nil ?_) na) na rfl
    have fin : ∀ {ps : List (Addr × List Int)} {h' : Heap} {tk : Nat} {L es ep t}, SetTR X.prog X.w h' s1.heap.objs.size L es ep t → Got ps ps.length L → (∀ b o, s1.heap.get? b = some o → h'.get? b = some o) → z = .int (ddup (ps.map (·.2))).length →
        wpAny (model X.prog X.w) X.A (call (.builtin "len") [.ref s1.heap.objs.size]) (EP X pins σ Q) X.xe { s1 with heap := h', toks := tk } := fun {ps h' tk L es ep t} T G k ez => by
      obtain ⟨o, ho, hex, hd⟩ := T.ob
      have hsz : es.size = L.length := SetTR.size (s := { s1 with heap := h', toks := tk }) T
      have hlen : L.length = (ddup (ps.map (·.2))).length := by
        rw [← List.length_map (f := fun p : Addr × List Int => p.2) (as := L)]
        refine same_len T.nd (nodup_ddup _) fun x => ?_
        rw [mem_ddup]
        constructor
        · intro hx
          obtain ⟨p, hp, rfl⟩ := List.mem_map.mp hx
          exact List.mem_map.mpr ⟨p, List.mem_of_mem_take (G.sub p hp), rfl⟩
        · intro hx
          obtain ⟨p, hp, rfl⟩ := List.mem_map.mp hx
          exact G.all p (by rw [List.take_length]; exact hp)
      have I2 : Inv X pins σ H1 { s1 with heap := h', toks := tk } := I1.kept k
      subst ez
      refine call_len_set ho hex hd (SetTR.fits (s := { s1 with heap := h', toks := tk }) T) ?_ ⟨.int (ddup (ps.map (·.2))).length, H1, I2.tok _, ⟨_, by rw [hsz, hlen]⟩, q1 _ (.int _)⟩
      have := T.few
      rw [hsz]; omega
    unfold lenSetD at ez
    split at ez
    · rename_i ds
      split at ez
      · rename_i ks hks
        split at ez
        · rename_i hf
          obtain ⟨t, xs, rfl, ht, rt⟩ := rep_tup rd
          obtain ⟨ps, e1, e2, e3⟩ := tups_rep rt hks
          cases r1
          obtain ⟨its, rv, pl, hz⟩ := I1.tuple (ex_t ex ht)
          subst e1 e2
          refine set_tup ps (I1.ok.hd hc) (show s1.heap.IsTuple t its.toArray from pl) (by simpa using refs_of_vals rv) (fun p hp => I1.isT (ex_t ex (e3 p hp))) (by simpa using hf) (by omega) fun h' tk L es ep t T G k => PyProof.Rows.args_nil ?_
          exact fin T G k (Option.some.inj ez).symm
        · cases ez
      · cases ez
    · rename_i ds
      split at ez
      · rename_i ks hks
        split at ez
        · rename_i hf
          obtain ⟨t, xs, rfl, ht, rt⟩ := rep_lst rd
          obtain ⟨ps, e1, e2, e3⟩ := tups_rep rt hks
          cases r1
          obtain ⟨its, rv, pl, hz⟩ := I1.list (ex_l ex ht)
          subst e1 e2
          refine call_set_tups ps (I1.ok.hd hc) pl.isList (by simpa using refs_of_vals rv) (fun p hp => I1.isT (ex_t ex (e3 p hp))) (by simpa using hf) (by omega) fun h' tk L es ep t T G k => PyProof.Rows.args_nil ?_
          exact fin T G k (Option.some.inj ez).symm
        · cases ez
      · cases ez
    · cases ez
  · rcases bd_some h with ⟨d, e1, h⟩ | ⟨x, e1, rfl⟩
    · obtain ⟨z, e2, rfl⟩ := lift_some h
      exact ⟨F0, H0, F, ρ, _, R, e1, fun v F' H' g rv => ⟨F', d, z, g.fh, rv, e2, fun u ru => w u F' H' g ru⟩⟩
    · exact ⟨F0, H0, F, ρ, _, R, e1, w⟩
end
end Den
set_option Elab.async false
set_option linter.all false
set_option maxRecDepth 100000
set_option maxHeartbeats 4000000
namespace Den
open PySem L2
variable [Named]
section
variable {Y : Cfg} {X : Cx} {W : WX} {K : PySem.W.Frag} {a b c e o : Expr} {es : List Expr} {ma mb mo mc : Env → M} {ms : Env → ML} {pos p p2 q : Pos} {F0 H0 F F1 H H1 : Hp} {σ : L2.St} {ρ : Env}
def plainS : Option Sl → Bool
  | some (.ins _ _) => false
  | some (.exv _) => false
  | _ => true
def plainE (ρ : Env) : Bool := ρ.all plainS
theorem plain_at (h : plainE ρ = true) {i : Nat} {s : Sl} (e : ρ[i]? = some (some s)) : plainS (some s) = true := List.all_eq_true.mp h _ (List.mem_of_getElem? e)
theorem Rel.swap {Y' : Cfg} (hY : Y'.toCore = Y.toCore) (h : plainE ρ = true) (R : Rel K Y F0 H0 F σ H ρ) : Rel K Y' F0 H0 F σ H ρ := by
  refine ⟨R.gr, R.len, fun i s e => ?_, R.dis, R.tb⟩
  obtain ⟨v, hv, q⟩ := R.sl i s e
  refine ⟨v, hv, ?_⟩
  have ps := plain_at h e
  cases s with
  | val d => show Rep K Y'.toCore F v d; rw [hY]; exact q
  | own ds => show ∃ p xs, _ ∧ _ ∧ _ ∧ _ ∧ RepL K Y'.toCore F xs ds; rw [hY]; exact q
  | ins c fs => cases ps
  | exv x => cases ps
/-- the exception goes to its name's slot -/
theorem Rel.putExc {i : Nat} {a : Addr} {x : Xd} {d : Option Addr} (h : plainE ρ = true) (R : Rel K Y F0 H0 F σ H ρ) (xr : XRep K Y F H x d) : Rel K ⟨Y.toCore, a, d, x.c⟩ F0 H0 F (σ.set i (some (.ref a))) H (ρ.set i (some (.exv x))) := by
  have R' := Rel.swap (Y := Y) (Y' := ⟨Y.toCore, a, d, x.c⟩) rfl h R
  have at_ : ∀ {j : Nat} {s : Sl}, (ρ.set i (some (.exv x)))[j]? = some (some s) → (i = j ∧ s = .exv x ∧ i < ρ.length) ∨ (i ≠ j ∧ ρ[j]? = some (some s)) := fun {j s} e => by
    by_cases c : i = j
    · subst c
      rcases Nat.lt_or_ge i ρ.length with q | q
      · rw [List.getElem?_set_self q] at e; cases e; exact .inl ⟨rfl, rfl, q⟩
      · rw [List.getElem?_eq_none (by simpa using q)] at e; cases e
    · rw [List.getElem?_set_ne c] at e; exact .inr ⟨c, e⟩
  refine ⟨R'.gr, by simp [R.len], fun j s e => ?_, fun j k s t p hjk ej ek ms mt vj => ?_, R.tb⟩
  · rcases at_ e with ⟨rfl, rfl, hi⟩ | ⟨c, e⟩
    · exact ⟨.ref a, List.getElem?_set_self (by rw [← R.len]; exact hi), rfl, rfl, xr⟩
    · rw [List.getElem?_set_ne c]; exact R'.sl j s e
  · rcases at_ ej with ⟨_, rfl, _⟩ | ⟨c, ej⟩
    · cases ms
    · rcases at_ ek with ⟨_, rfl, _⟩ | ⟨c', ek⟩
      · cases mt
      · rw [List.getElem?_set_ne c] at vj
        rw [List.getElem?_set_ne c']
        exact R'.dis j k s t p hjk ej ek ms mt vj
/-- the name goes behind the suite -/
def gone (j : Nat) (o : Option O) : Option O := match o with
  | some (.nx ρ) => if plainE (ρ.set j none) = true then some (.nx (ρ.set j none)) else none
  | some (.bk ρ) => if plainE (ρ.set j none) = true then some (.bk (ρ.set j none)) else none
  | some (.ct ρ) => if plainE (ρ.set j none) = true then some (.ct (ρ.set j none)) else none
  | some (.ret d) => some (.ret d)
  | _ => none
def dTryAs (tk : Exm) (c j : Nat) (m ms : SM) : SM := fun ρ => match m ρ with
  | some (.exc z ρ') => match tk z.c c with
    | some true => if plainE ρ' = true ∧ j < ρ'.length then gone j (ms (ρ'.set j (some (.exv z)))) else none
    | some false => some (.exc z ρ')
    | none => none
  | oo => oo
theorem gs_tryAs {body suite : List Stmt} {b0 : Stmt} {np pos' : Pos} {m1 m2 : SM} {T : Exm} {x n : Str} (c j : Nat) (hs : X.stack = X.env :: X.outer) (hf : X.env.frame = some X.env.locals) (hN : X.N.Nodup) (hi : X.N[j]? = some n) (hln : X.env.kindOf n = some .local)
    (hc : Names X x (.ref (Y.cl c))) (tk : Takes X W) (hT : ∀ i b, T i c = some b → PySem.W.exmOne X.K (.ref (Y.cl i)) (.ref (Y.cl c)) = some b)
    (hb : ∀ (W' : WX) (pn : List (Addr × Obj)) (xe : Value → Shared → Prop), Takes (X.tr pn xe) W' → PassesOwn (model X.prog X.w) X.A X.env xe → GSs Y (X.tr pn xe) W' body m1)
    (hsu : ∀ (i : Nat) (a : Addr) (oe : Obj) (d : Option Addr) (pn : List (Addr × Obj)), T i c = some true → Zc (.ref (Y.cl i)) d oe → (∃ vs, oe.data = .fields vs) → ((Y.fn i).isEmpty = true → d = none) → GSs ⟨Y.toCore, a, d, i⟩ (X.suite a ((a, oe) :: pn)) W0 (b0 :: suite) m2) :
    GS Y X W (.Try body [.ExceptHandler (some (.Name x np)) (some n) (b0 :: suite) pos'] [] [] pos) (dTryAs T c j m1 m2) := by
  refine ⟨_, ps_try_as (i := j) (tb := fun W' => sM Y W' X.K m1)
    (ts := fun a cls d => fun D σ H => ∃ i, cls = .ref (Y.cl i) ∧ T i c = some true ∧ ((Y.fn i).isEmpty = true → d = none) ∧ sM ⟨Y.toCore, a, d, i⟩ W0 X.K m2 D σ H) hs hf hN hi hln hc tk (fun W' pn xe tk' hp => (hb W' pn xe tk' hp).ps)
    (fun a oe cls d pn hz hfl => ⟨fun pins s σ H D I h => by
      obtain ⟨i, rfl, hT', hd', h⟩ := h
      exact (hsu i a oe d pn hT' hz hfl hd').ps.run pins s σ H D I h⟩), fun ρ oo h F0 H0 F σ H R D w => ?_⟩
  unfold dTryAs at h
  split at h
  · rename_i z ρ' e1
    refine ⟨F0, H0, F, ρ, _, R, e1, fun F' σ' H' dx ex R' xr => ?_⟩
    split at h
    · rename_i e2
      split at h
      · rename_i hpl
        obtain ⟨hpl, hj⟩ := hpl
        refine ⟨true, hT _ _ e2, fun _ a ha => ?_, fun q => nomatch q⟩
        have w' := w.grow ex
        cases ho : m2 (ρ'.set j (some (.exv z))) with
        | none => rw [ho] at h; cases h
        | some o2 =>
          rw [ho] at h
          refine ⟨z.c, rfl, e2, fun he => (by unfold XRep at xr; rw [if_pos he] at xr; exact xr), F0, H0, F', _, o2, R'.putExc (i := j) hpl xr, ho, ?_⟩
          · have back : ∀ {F2 : Hp} {σ2 : L2.St} {H2 : Hp} {ρ2 : Env}, plainE (ρ2.set j none) = true → Rel X.K ⟨Y.toCore, a, dx, z.c⟩ F0 H0 F2 σ2 H2 ρ2 → Rel X.K Y F0 H0 F2 (σ2.set j none) H2 (ρ2.set j none) := fun {F2 σ2 H2 ρ2} hp R2 =>
              Rel.swap (Y := ⟨Y.toCore, a, dx, z.c⟩) (Y' := Y) rfl hp (R2.forget (i := j) none)
            cases o2 with
            | nx ρ2 =>
              simp only [gone] at h
              split at h
              · rename_i hp; cases h; exact fun F2 σ2 H2 e R2 => w' F2 _ H2 e (back hp R2)
              · cases h
            | bk ρ2 =>
              simp only [gone] at h
              split at h
              · rename_i hp; cases h; exact fun F2 σ2 H2 e R2 => w' F2 _ H2 e (back hp R2)
              · cases h
            | ct ρ2 =>
              simp only [gone] at h
              split at h
              · rename_i hp; cases h; exact fun F2 σ2 H2 e R2 => w' F2 _ H2 e (back hp R2)
              · cases h
            | ret d => cases h; exact w'
            | exc y ρ2 => cases h
      · cases h
    · rename_i e2
      cases h
      exact ⟨false, hT _ _ e2, (fun q => nomatch q), fun _ => w F' σ' H' dx ex R' xr⟩
    · cases h
  · exact ⟨F0, H0, F, ρ, oo, R, h, by
      cases oo with
      | exc y ρ2 => rename_i hn; exact absurd h (hn y ρ2)
      | nx ρ2 => exact w
      | ret d => exact w
      | bk ρ2 => exact w
      | ct ρ2 => exact w⟩
/-- what the suite knows: an exception of the class i stands in slot j -/
def dIsE (j : Nat) (kit : Nat → Option Bool) : Env → M := fun ρ => match ρ[j]? with
  | some (some (.exv z)) => match kit z.c with
    | some b => some (.ok (.bl b))
    | none => none
  | _ => none
/-- isinstance(e, C), e the exception that the suite holds; i: its class -/
theorem ge_isE {nm : Str} {cp : V} {cv : Value} {kit : Nat → Option Bool} (j : Nat) (hE : PE X c (tC cp)) (hcv : ∀ u, RelV cp u → u = cv) (hk : ∀ b, kit Y.xc = some b → PySem.W.kitOne X.K (.ref (Y.cl Y.xc)) cv = some b)
    (hcall : CallR X (.builtin "isinstance") (rIsE X.K (Y.cl Y.xc) Y.self)) (hg : Gl X "isinstance") (hm : X.mg "isinstance" = none) (hN : X.N[j]? = some nm := by rfl) (hv : Vis X.env.scope nm := by first | exact Or.inl rfl | exact Or.inr (Or.inl rfl) | exact Or.inr (Or.inr rfl)) (hd : (nm == ("__debug__" : Str)) = false := by decide)
    (hcd : (nm == ("__classdict__" : Str)) = false := by decide) (he : starEach [.Name nm p2, c] X.env = (false, eval (.Name nm p2) X.env) :: starEach [c] X.env := by rfl) (he2 : starEach [c] X.env = (false, eval c X.env) :: starEach [] X.env := by rfl) (hpl : (backTo pos (starEach [c] X.env)).any (·.1) = false := by rfl) :
    GE Y X W (.Call (.Name "isinstance" p) [.Name nm p2, c] [] pos) (dIsE j kit) := by
  refine ⟨_, pe_callB (x := "isinstance") hcall hg hm PyProof.Rows.boot_isinstance (pa_cons (pe_var hN hv hd hcd) (pa_cons hE pa_nil he2) he) (by decide) (by decide) he hpl, fun ρ r h F0 H0 F σ H R Q w => ?_⟩
  unfold dIsE at h
  split at h
  · rename_i z ej
    split at h
    · rename_i b hb
      cases h
      obtain ⟨v, hv, rfl, e, _⟩ := R.sl j _ ej
      rw [e] at hb
      exact ⟨.ref Y.self, hv, cp, cv, b, rfl, hcv, hk b hb, w _ F H (Gr.refl R.ex) (.bl b)⟩
    · cases h
  · cases h
end
end Den
set_option Elab.async false
set_option linter.all false
set_option maxHeartbeats 1000000
namespace Den
open PySem L2 PySem.W
variable [Named]
section
variable {K : PySem.W.Frag} {x qual : Str} {params : Arguments} {body : List Stmt} {scope : Scope} {dvs : List V} {kws : List (Str × V)} {f : Addr} {fd : FuncData} {ps : List Str}
/-- all parameters are given: the defaults are read, none is used -/
theorem bindsFull (F : FunD K x qual params body scope dvs kws f fd) (hd : dvs ≠ [])
    (h : ∀ (T : Addr) (kV doc pm : Value) (an : Option Addr) (cdv ct : Value) (us its : List Value), us.length = ps.length → its.length = dvs.length →
      ∃ k, bindArgs (PySem.W.fnOf x qual params body scope (.ref T) kV doc pm an cdv ct) ⟨us, []⟩ = seqItems? (.ref T) >>= k ∧ k (some its.toArray) = pure (ps.zip us)) :
    Binds K fd ps [] := by
  obtain ⟨ds, hv, hb⟩ := FunD.binds1 (ps := ps) F ps.length dvs.length hd (by omega) fun T kV doc pm an cdv ct us its l1 l2 => by
    obtain ⟨k, e1, e2⟩ := h T kV doc pm an cdv ct us its l1 l2
    refine ⟨k, e1, ?_⟩
    rw [e2, ← l2, List.drop_length, List.append_nil]
  rw [List.drop_length] at hv
  cases hv
  exact hb
end
end Den
set_option Elab.async false
set_option linter.all false
set_option maxHeartbeats 1000000
namespace Den
open PySem L2
variable [Named]
/-! ### reckoning with the readings -/
theorem forD_inv {g : TM} {m : SM} (I : Nat → Env → Prop) : ∀ (ds : List D) (n : Nat) (ρ : Env), I n ρ →
    (∀ i (hi : i < ds.length) ρ, I (n + i) ρ → ∃ ρ1 ρ2, g ds[i] ρ = some ρ1 ∧ m ρ1 = some (.nx ρ2) ∧ I (n + i + 1) ρ2) → ∃ ρ', forD g m ds ρ = some (.nx ρ') ∧ I (n + ds.length) ρ'
  | [], n, ρ, h, _ => ⟨ρ, rfl, h⟩
  | d :: ds, n, ρ, h, st => by
    obtain ⟨ρ1, ρ2, e1, e2, h2⟩ := st 0 (Nat.succ_pos _) ρ h
    obtain ⟨ρ', e3, h3⟩ := forD_inv (g := g) (m := m) I ds (n + 1) ρ2 h2 fun i hi ρ hI => by
      have := st (i + 1) (Nat.succ_lt_succ hi) ρ (by rwa [show n + (i + 1) = n + 1 + i by omega])
      rwa [show n + (i + 1) + 1 = n + 1 + i + 1 by omega] at this
    refine ⟨ρ', ?_, by rwa [List.length_cons, show n + (ds.length + 1) = n + 1 + ds.length by omega]⟩
    have e1' : g d ρ = some ρ1 := e1
    unfold forD
    simp only [e1', e2]
    exact e3
def turnD (g : TM) (m : SM) (d : D) (ρ : Env) : Option O := match g d ρ with
  | some ρ1 => m ρ1
  | none => none
/-- a loop that goes on to its end, by what holds before each turn -/
theorem forD_of {g : TM} {m : SM} {ds : List D} {ρ : Env} {o : Option O} (h : forD g m ds ρ = o) (I : Nat → Env → Prop) (h0 : I 0 ρ)
    (st : ∀ i (hi : i < ds.length) ρ, I i ρ → ∃ ρ2, turnD g m ds[i] ρ = some (.nx ρ2) ∧ I (i + 1) ρ2) : ∃ ρ', o = some (.nx ρ') ∧ I ds.length ρ' := by
  obtain ⟨ρ', e, h'⟩ := forD_inv (g := g) (m := m) I ds 0 ρ h0 fun i hi ρ hI => by
    obtain ⟨ρ2, e2, h2⟩ := st i hi ρ (by rwa [Nat.zero_add] at hI)
    unfold turnD at e2
    split at e2
    · rename_i ρ1 e1
      exact ⟨ρ1, ρ2, e1, e2, by rwa [Nat.zero_add]⟩
    · cases e2
  rw [Nat.zero_add] at h'
  exact ⟨ρ', h ▸ e, h'⟩
theorem compD_map {g : TM} {mt me : Env → M} {ρ : Env} (f : D → D) : ∀ (ds : List D), (∀ d ∈ ds, ∃ ρ1, g d ρ = some ρ1 ∧ mt ρ1 = some (.ok (.bl true)) ∧ me ρ1 = some (.ok (f d))) → compD g mt me ρ ds = some (ds.map f)
  | [], _ => rfl
  | d :: ds, h => by
    obtain ⟨ρ1, e1, e2, e3⟩ := h d (List.mem_cons_self ..)
    unfold compD
    simp only [e1, e2, e3, compD_map f ds fun x hx => h x (List.mem_cons_of_mem _ hx), List.map_cons]

def seqO (o : Option O) (f : Env → Option O) : Option O := match o with
  | some (.nx ρ') => f ρ'
  | some (.ret d) => some (.ret d)
  | some (.bk ρ') => some (.bk ρ')
  | some (.ct ρ') => some (.ct ρ')
  | some (.exc x ρ') => some (.exc x ρ')
  | none => none
def brO (m : M) (ρ : Env) (a b : Option O) : Option O := bo m ρ fun d => match d with
  | .bl true => a
  | .bl false => b
  | _ => none
def brM (m : M) (a b : M) : M := bd m fun d => match d with
  | .bl true => a
  | .bl false => b
  | _ => none
def absI (u : Int) : Int := if u < 0 then -u else u
def rgO (l : ML) : ML := match l with
  | some (.ok [.int j]) => if okR j then some (.ok (rngD 0 j)) else none
  | some (.exc x) => some (.exc x)
  | _ => none
def pkO (r : M) : M := match r with
  | some (.ok d) => if scD d = true then some (.ok d) else none
  | _ => none
def soO (r : M) : Option (Option Int) := match r with
  | some (.ok (.int i)) => some (some i)
  | _ => none
def sqO (r : M) : ML := match r with
  | some (.ok (.lst ds)) => some (.ok ds)
  | some (.ok (.tup ds)) => some (.ok ds)
  | some (.exc x) => some (.exc x)
  | _ => none
def fdO (c : Nat) (names : List Str) (x : Str) (d : D) : M := match d with
  | .obj c' ds => if c' = c then lift (fldD names ds x) else none
  | _ => none
def mtO (c : Nat) (fn : Mn) (dls : List D) (d : D) (l : ML) : M := match d with
  | .obj c' fs => if c' = c then bdL l fun ds => fn (.obj c fs :: (ds ++ dls)) else none
  | _ => none
def endI (fn : Nat → List Str) (o : Option O) : M := match o with
  | some (.nx ρ) => match ρ[0]? with
    | some (some (Sl.ins c' fs)) => if fn c' = fs.map (·.1) then some (.ok (.obj c' (fs.map (·.2)))) else none
    | _ => none
  | some (.exc x _) => some (.exc x)
  | _ => none
def endD (o : Option O) : M := match o with
  | some (.nx _) => some (.ok .non)
  | some (.ret d) => some (.ok d)
  | some (.exc x _) => some (.exc x)
  | _ => none
section
variable {m m1 m2 : SM} {mc ma mb : Env → M} {ms : Env → ML} {ρ ρ1 : Env} {d e : D} {ds : List D} {x : Xd} {f : Env → Option O} {p : Prop} [Decidable p] {i : Nat} {q : Bool} {u v : Int}
@[simp] theorem c_seq : dSeq m1 m2 ρ = seqO (m1 ρ) m2 := rfl
@[simp] theorem c_seq1 : seqO (some (.nx ρ)) f = f ρ := rfl
@[simp] theorem c_seq2 : seqO (some (.ret d)) f = some (.ret d) := rfl
@[simp] theorem c_seq3 : seqO (some (.exc x ρ)) f = some (.exc x ρ) := rfl
@[simp] theorem c_seq4 {a b : Option O} : seqO (if p then a else b) f = if p then seqO a f else seqO b f := by split <;> rfl
@[simp] theorem c_if : dIfS mc m1 m2 ρ = brO (mc ρ) ρ (m1 ρ) (m2 ρ) := rfl
@[simp] theorem c_br1 {a b : Option O} : brO (some (.ok (.bl true))) ρ a b = a := rfl
@[simp] theorem c_br2 {a b : Option O} : brO (some (.ok (.bl false))) ρ a b = b := rfl
@[simp] theorem c_br3 {a b : Option O} : brO (some (.exc x)) ρ a b = some (.exc x ρ) := rfl
@[simp] theorem c_br4 {a b : Option O} : brO (some (.ok (.bl (decide p)))) ρ a b = if p then a else b := by
  by_cases h : p
  · rw [if_pos h, decide_eq_true h]; rfl
  · rw [if_neg h, decide_eq_false h]; rfl
@[simp low] theorem c_br5 {a b : Option O} : brO (some (.ok (.bl q))) ρ a b = if q = true then a else b := by cases q <;> rfl
@[simp] theorem c_and : dAnd ma mb ρ = brM (ma ρ) (mb ρ) (some (.ok (.bl false))) := by
  unfold dAnd brM
  congr 1
@[simp] theorem c_or : dOr ma mb ρ = brM (ma ρ) (some (.ok (.bl true))) (mb ρ) := by
  unfold dOr brM
  congr 1; funext d; cases d <;> try rfl
  rename_i b; cases b <;> rfl
@[simp] theorem c_brm1 {a b : M} : brM (some (.ok (.bl true))) a b = a := rfl
@[simp] theorem c_brm2 {a b : M} : brM (some (.ok (.bl false))) a b = b := rfl
@[simp] theorem c_brm3 {a b : M} : brM (some (.exc x)) a b = some (.exc x) := rfl
@[simp low] theorem c_brm5 {a b : M} : brM (some (.ok (.bl q))) a b = if q = true then a else b := by cases q <;> rfl
@[simp] theorem c_brm6 {q' : Bool} : brM (some (.ok (.bl q))) (some (.ok (.bl q'))) (some (.ok (.bl false))) = some (.ok (.bl (q && q'))) := by
  cases q <;> rfl
@[simp] theorem c_brm7 : brM (some (.ok (.bl q))) (some (.ok (.bl false))) (some (.ok (.bl true))) = some (.ok (.bl (!q))) := by
  cases q <;> rfl
@[simp] theorem c_brm8 {q' : Bool} : brM (some (.ok (.bl q))) (some (.ok (.bl true))) (some (.ok (.bl q'))) = some (.ok (.bl (q || q'))) := by
  cases q <;> rfl
@[simp] theorem c_not : dNot ma ρ = brM (ma ρ) (some (.ok (.bl false))) (some (.ok (.bl true))) := by
  unfold dNot brM
  congr 1; funext d; cases d <;> try rfl
  rename_i b; cases b <;> rfl
@[simp] theorem c_ifx : dIf mc ma mb ρ = brM (mc ρ) (ma ρ) (mb ρ) := rfl
@[simp] theorem c_bd1 {f : D → M} : bd (some (.ok d)) f = f d := rfl
@[simp] theorem c_bd2 {f : D → M} : bd (some (.exc x)) f = some (.exc x) := rfl
@[simp] theorem c_bd3 {f : D → M} {a b : M} : bd (if p then a else b) f = if p then bd a f else bd b f := by split <;> rfl
@[simp] theorem c_bo1 {f : D → Option O} : bo (some (.ok d)) ρ f = f d := rfl
@[simp] theorem c_bo2 {f : D → Option O} : bo (some (.exc x)) ρ f = some (.exc x ρ) := rfl
@[simp] theorem c_bo3 {f : D → Option O} {a b : M} : bo (if p then a else b) ρ f = if p then bo a ρ f else bo b ρ f := by split <;> rfl
@[simp] theorem c_bdL1 {f : List D → M} : bdL (some (.ok ds)) f = f ds := rfl
@[simp] theorem c_bdL2 {f : List D → M} : bdL (some (.exc x)) f = some (.exc x) := rfl
@[simp] theorem c_cons1 : consL (some (.ok d)) (some (.ok ds)) = some (.ok (d :: ds)) := rfl
@[simp] theorem c_cons2 {l : ML} : consL (some (.exc x)) l = some (.exc x) := rfl
@[simp] theorem c_lift : lift (some d) = some (.ok d) := rfl
@[simp] theorem c_nil : dNil ρ = some (.ok []) := rfl
@[simp] theorem c_cons : dCons ma ms ρ = consL (ma ρ) (ms ρ) := rfl
@[simp] theorem c_c : dC d ρ = some (.ok d) := rfl
@[simp] theorem c_var0 {r : Env} : dVar 0 (some (.val d) :: r) = some (.ok d) := rfl
@[simp] theorem c_varS {r : Env} {s : Option Sl} : dVar (i + 1) (s :: r) = dVar i r := rfl
@[simp] theorem c_op {g : D → D → Option D} : dOp g ma mb ρ = bd (ma ρ) fun x => bd (mb ρ) fun y => lift (g x y) := rfl
@[simp] theorem c_cb {g : List D → Option D} : dCB g ms ρ = bdL (ms ρ) fun ds => lift (g ds) := rfl
@[simp] theorem c_tst : tst ma ρ = isB (ma ρ) := rfl
@[simp] theorem c_isB : isB (some (.ok (.bl q))) = some (.ok (.bl q)) := rfl
@[simp] theorem c_isBx : isB (some (.exc x)) = some (.exc x) := rfl
@[simp] theorem c_tru : tru ma ρ = bd (ma ρ) fun d => lift (truD d) := rfl
@[simp] theorem c_trub : truD (.bl q) = some (.bl q) := rfl
theorem c_truo {c : Nat} : truD (.non) = some (.bl false) := rfl
theorem c_asg {g : TM} : dAsg ma g ρ = bo (ma ρ) ρ fun d => match g d ρ with
  | some ρ' => some (.nx ρ')
  | none => none := rfl
@[simp] theorem c_asgN : dAsg ma (tgN i) ρ = bo (ma ρ) ρ fun d => some (.nx (ρ.set i (some (.val d)))) := rfl
@[simp] theorem c_tgN : tgN i d ρ = some (ρ.set i (some (.val d))) := rfl
@[simp] theorem c_ret : dRet ma ρ = bo (ma ρ) ρ fun d => some (.ret d) := rfl
@[simp] theorem c_drop : dDrop ma ρ = bo (ma ρ) ρ fun _ => some (.nx ρ) := rfl
@[simp] theorem c_pass : dPass ρ = some (.nx ρ) := rfl
@[simp] theorem c_own : dOwn i dNil ρ = some (.nx (ρ.set i (some (.own [])))) := rfl
@[simp] theorem c_raise {c : Nat} : dRaise c ρ = some (.exc ⟨c, []⟩ ρ) := rfl
@[simp] theorem c_add : addD (.int u) (.int v) = some (.int (u + v)) := rfl
@[simp] theorem c_sub : subD (.int u) (.int v) = some (.int (u - v)) := rfl
@[simp] theorem c_mulR (h : -18446744073709551616 < v) (h' : v < 18446744073709551616) : mulD (.int u) (.int v) = some (.int (u * v)) := by
  show (if _ then _ else _) = _
  rw [if_pos (.inr (.inl ⟨h, h'⟩))]
@[simp] theorem c_mulL (h : -18446744073709551616 < u) (h' : u < 18446744073709551616) : mulD (.int u) (.int v) = some (.int (u * v)) := by
  show (if _ then _ else _) = _
  rw [if_pos (.inl ⟨h, h'⟩)]
@[simp] theorem c_mod (h : 0 < v) : modD (.int u) (.int v) = some (.int (u % v)) := if_pos h
theorem log2_lt {n k : Nat} (h : n < 2 ^ k) (hk : 0 < k) : n.log2 < k := by
  by_cases h0 : n = 0
  · subst h0; simpa using hk
  · exact (Nat.log2_lt h0).mpr h
@[simp] theorem c_div (h : 0 < v) (h' : v < 1000000000000000000000000000000000000000000000000000000000000000000000000000) : divD (.int u) (.int v) = some (.int (u / v)) := by
  refine if_pos ⟨h, ?_⟩
  have : v.natAbs < 2 ^ 250 := by
    have : v.natAbs < 1000000000000000000000000000000000000000000000000000000000000000000000000000 := by omega
    exact Nat.lt_of_lt_of_le this (by decide)
  have := log2_lt this (by decide)
  omega
@[simp] theorem c_lt : ltD (.int u) (.int v) = some (.bl (decide (u < v))) := rfl
@[simp] theorem c_le : leD (.int u) (.int v) = some (.bl (decide (u ≤ v))) := rfl
@[simp] theorem c_gt : gtD (.int u) (.int v) = some (.bl (decide (v < u))) := rfl
@[simp] theorem c_ge : geD (.int u) (.int v) = some (.bl (decide (v ≤ u))) := rfl
@[simp] theorem c_eq : eqO (.int u) (.int v) = some (.bl (decide (u = v))) := by
  show some (D.bl (u == v)) = _
  rw [Bool.beq_eq_decide_eq]
@[simp] theorem c_ne : neO (.int u) (.int v) = some (.bl (decide (u ≠ v))) := by
  show some (D.bl (!(u == v))) = _
  rw [Bool.beq_eq_decide_eq, decide_not]
@[simp] theorem c_abs : absD [.int u] = some (.int (absI u)) := rfl
@[simp] theorem c_max : maxD [.int u, .int v] = some (.int (max u v)) := by
  show some (D.int (if v > u then v else u)) = _
  congr 2; omega
@[simp] theorem c_min : minD [.int u, .int v] = some (.int (min u v)) := by
  show some (D.int (if v < u then v else u)) = _
  congr 2; omega
@[simp] theorem c_int : intD [.int u] = some (.int u) := rfl
@[simp] theorem c_lenl : lenD [.lst ds] = some (.int ds.length) := rfl
@[simp] theorem c_lent : lenD [.tup ds] = some (.int ds.length) := rfl
@[simp] theorem c_list : listD [.lst ds] = some (.lst ds) := rfl
@[simp] theorem c_listt : listD [.tup ds] = some (.lst ds) := rfl
@[simp] theorem c_tup : tupleD [.lst ds] = some (.tup ds) := rfl
@[simp] theorem c_tupt : tupleD [.tup ds] = some (.tup ds) := rfl
@[simp] theorem c_mtup : dTup ms ρ = bdL (ms ρ) fun ds => if ds.length ≤ 16777216 then some (.ok (.tup ds)) else none := rfl
@[simp] theorem c_mlst : dLst ms ρ = bdL (ms ρ) fun ds => if ds.length ≤ 16777216 then some (.ok (.lst ds)) else none := rfl
@[simp] theorem c_for {mi : Env → ML} {g : TM} : dFor mi g m ρ = match mi ρ with
  | some (.ok ds) => forD g m ds ρ
  | some (.exc x) => some (.exc x ρ)
  | none => none := rfl
@[simp] theorem c_rg : iRg1 ms ρ = rgO (ms ρ) := rfl
@[simp] theorem c_rg1 (h0 : -4611686018427387904 ≤ u) (h : u < 4611686018427387904) : rgO (some (.ok [.int u])) = some (.ok (rngD 0 u)) := if_pos ⟨h0, h⟩
@[simp] theorem c_rg2 : rgO (some (.exc x)) = some (.exc x) := rfl
@[simp] theorem c_call {fn : Mn} {dls : List D} : dCall fn dls ms ρ = bdL (ms ρ) fun ds => fn (ds ++ dls) := rfl
@[simp] theorem c_neg : dNeg ma ρ = bd (ma ρ) fun x => lift (negD x) := rfl
@[simp] theorem c_neg1 : negD (.int u) = some (.int (-u)) := rfl
@[simp] theorem c_startE {N : List Str} : startE N ds = ds.map (fun d => some (.val d)) ++ List.replicate (N.length - ds.length) none := rfl
@[simp] theorem c_turnD {g : TM} : turnD g m d ρ = match g d ρ with
  | some ρ1 => m ρ1
  | none => none := rfl
@[simp] theorem c_frz : frz i ρ = match ρ[i]? with
  | some (some (.own ds)) => some (ρ.set i (some (.val (.lst ds))))
  | some (some (.val d)) => some ρ
  | _ => none := rfl
@[simp] theorem c_pow : powD (.int u) (.int v) = if 0 ≤ v ∧ v ≤ 1000000 ∧ u.natAbs < 2 ^ 64 then some (.int (u ^ v.toNat)) else none := rfl
@[simp] theorem c_frz0 {i : Nat} : dFrz i m ρ = match frz i ρ with
  | some ρ' => m ρ'
  | none => none := rfl
@[simp] theorem c_app {i : Nat} : dApp i ma ρ = match ρ[i]? with
  | some (some (.own ds)) => bo (ma ρ) ρ fun d => if ds.length < 16777216 then some (.nx (ρ.set i (some (.own (ds ++ [d]))))) else none
  | _ => none := rfl
theorem whD_go {n : Nat} {o : Option O} (h : mc ρ = some (.ok (.bl true))) (h2 : m ρ = some (.nx ρ1)) (h3 : whD n mc m ρ1 = o) : whD (n + 1) mc m ρ = o := by
  rw [← h3]
  show bo (mc ρ) ρ _ = _
  rw [h]
  show (match m ρ with | some (.nx ρ2) => whD n mc m ρ2 | some (.ct ρ2) => whD n mc m ρ2 | some (.bk ρ2) => some (.nx ρ2) | some (.ret v) => some (.ret v) | some (.exc x ρ2) => some (.exc x ρ2) | none => none) = _
  rw [h2]
theorem whD_end {n : Nat} (h : mc ρ = some (.ok (.bl false))) : whD (n + 1) mc m ρ = some (.nx ρ) := by
  show bo (mc ρ) ρ _ = _
  rw [h]
  rfl
@[simp] theorem c_peek : dPeek i ma ρ = match frz i ρ with
  | some ρ' => pkO (ma ρ')
  | none => none := rfl
@[simp] theorem c_pk : pkO (some (.ok (.bl q))) = some (.ok (.bl q)) := rfl
@[simp] theorem c_oNone : oNone ρ = some none := rfl
@[simp] theorem c_oSome : oSome ma ρ = soO (ma ρ) := rfl
@[simp] theorem c_so : soO (some (.ok (.int u))) = some (some u) := rfl
@[simp] theorem c_cut {lo hi : Env → Option (Option Int)} : dCut ma lo hi ρ = bd (ma ρ) fun d => match lo ρ with
  | some l => match hi ρ with
    | some u => lift (cutD d l u)
    | none => none
  | none => none := rfl
@[simp] theorem c_seqf : iSeq ma ρ = sqO (ma ρ) := rfl
@[simp] theorem c_sq1 : sqO (some (.ok (.lst ds))) = some (.ok ds) := rfl
@[simp] theorem c_sq2 : sqO (some (.ok (.tup ds))) = some (.ok ds) := rfl
@[simp] theorem c_sq3 : sqO (some (.exc x)) = some (.exc x) := rfl
@[simp] theorem c_fld {c : Nat} {names : List Str} {x : Str} : dFld c names x ma ρ = bd (ma ρ) (fdO c names x) := rfl
@[simp] theorem c_fd {c : Nat} {names : List Str} {x : Str} : fdO c names x (.obj c ds) = lift (fldD names ds x) := if_pos rfl
@[simp] theorem c_meth {c : Nat} {fn : Mn} {dls : List D} : dMeth c fn dls ma ms ρ = bd (ma ρ) fun d => mtO c fn dls d (ms ρ) := rfl
@[simp] theorem c_mt {c : Nat} {fn : Mn} {dls fs : List D} {l : ML} : mtO c fn dls (.obj c fs) l = bdL l fun ds => fn (.obj c fs :: (ds ++ dls)) := if_pos rfl
@[simp] theorem c_runI {fn : Nat → List Str} {N : List Str} {c n : Nat} : runI fn N c n m ds = if ds.length + 1 = n then endI fn (m (startI N c ds)) else none := rfl
theorem c_endI1 {fn : Nat → List Str} {c : Nat} {fs : List (Str × D)} {r : Env} (h : fn c = fs.map (·.1)) : endI fn (some (.nx (some (Sl.ins c fs) :: r))) = some (.ok (.obj c (fs.map (·.2)))) := if_pos h
@[simp] theorem c_endI2 {fn : Nat → List Str} : endI fn (some (.exc x ρ)) = some (.exc x) := rfl
theorem c_fldS {i c : Nat} {x : Str} : dFldS i c x ma ρ = match ρ[i]? with
  | some (some (.ins c' fs)) => if c' = c then bo (ma ρ) ρ fun d => if fs.length < 1000 then some (.nx (ρ.set i (some (.ins c' (putFd x d fs))))) else none else none
  | _ => none := rfl
theorem c_dropI {fn : Nat → List Str} {i : Nat} : dDropI fn i ma ρ = match frzI fn i ρ with
  | some ρ' => match ma ρ' with
    | some (.ok _) => some (.nx ρ)
    | some (.exc x) => some (.exc x ρ')
    | none => none
  | none => none := rfl
theorem forD_nx {g : TM} {o : Option O} (h : turnD g m d ρ = some (.nx ρ1)) (h2 : forD g m ds ρ1 = o) : forD g m (d :: ds) ρ = o := by
  rw [← h2]
  unfold turnD at h
  split at h
  · rename_i ρ2 e
    simp only [forD, e, h]
  · cases h
theorem forD_exc {g : TM} (h : turnD g m d ρ = some (.exc x ρ1)) : forD g m (d :: ds) ρ = some (.exc x ρ1) := by
  unfold turnD at h
  split at h
  · rename_i ρ2 e
    simp only [forD, e, h]
  · cases h
theorem forD_ret {g : TM} {v : D} (h : turnD g m d ρ = some (.ret v)) : forD g m (d :: ds) ρ = some (.ret v) := by
  unfold turnD at h
  split at h
  · rename_i ρ2 e
    simp only [forD, e, h]
  · cases h
theorem forD_nil {g : TM} : forD g m [] ρ = some (.nx ρ) := rfl
@[simp] theorem c_run {N : List Str} {n : Nat} : runD N n m ds = if ds.length = n then endD (m (startE N ds)) else none := rfl
@[simp] theorem c_end1 : endD (some (.ret d)) = some (.ok d) := rfl
@[simp] theorem c_end2 : endD (some (.nx ρ)) = some (.ok .non) := rfl
@[simp] theorem c_end3 : endD (some (.exc x ρ)) = some (.exc x) := rfl
@[simp] theorem c_end4 {a b : Option O} : endD (if p then a else b) = if p then endD a else endD b := by split <;> rfl
@[simp] theorem c_chn {g g' : D → D → Option D} : dChn g g' ma mb mc ρ = bd (ma ρ) fun x => bd (mb ρ) fun y => brM (lift (g x y)) (bd (mc ρ) fun u => lift (g' y u)) (some (.ok (.bl false))) := by
  unfold dChn brM
  congr 1
end
theorem rngD_len (a b : Int) : (rngD a b).length = (b - a).toNat := by simp [rngD]
theorem rngD_get (a b : Int) (i : Nat) (h : i < (rngD a b).length) : (rngD a b)[i] = .int (a + i) := by simp [rngD]
abbrev lsI (xs : List Int) : D := .lst (xs.map D.int)
theorem cut_lsI (xs : List Int) (n : Int) (hn : 0 ≤ n) : cutD (lsI xs) none (some n) = some (lsI (xs.take n.toNat)) := by
  show some (D.lst (cutA (xs.map D.int) none (some n))) = _
  unfold cutA
  obtain ⟨k, rfl⟩ := Int.eq_ofNat_of_zero_le hn
  rw [HT.sIx_none, HT.sIx_nat]
  simp only [List.length_map, Nat.sub_zero, List.drop_zero, Int.toNat_natCast]
  rw [← List.map_take]
  congr 2
  by_cases h : k ≤ xs.length
  · rw [Nat.min_eq_left h]
  · rw [Nat.min_eq_right (by omega), List.take_length, List.take_of_length_le (by omega)]
theorem ix_lsI {xs : List Int} {i : Int} (h0 : 0 ≤ i) (h : i < xs.length) : ∃ v, xs[i.toNat]? = some v ∧ ixD (lsI xs) (.int i) = some (.int v) := by
  have hi : i.toNat < xs.length := by omega
  refine ⟨xs[i.toNat], List.getElem?_eq_getElem hi, ?_⟩
  show atI (xs.map D.int) i = _
  unfold atI ixN
  rw [if_pos h0, if_pos (by rw [List.length_map]; exact h)]
  simp [hi]
/-! ### data that may be compared -/
def sh (n : Nat) (d : D) : Prop := d.py.canLay0 = true ∧ d.py.depth ≤ n
theorem sh_int {n : Nat} {i : Int} : sh n (.int i) := ⟨rfl, Nat.zero_le _⟩
theorem sh_bl {n : Nat} {b : Bool} : sh n (.bl b) := ⟨rfl, Nat.zero_le _⟩
theorem sh_non {n : Nat} : sh n .non := ⟨rfl, Nat.zero_le _⟩
theorem shs {n : Nat} : ∀ {ds : List D}, (∀ d ∈ ds, sh n d) → PyData.canLayAll0 (D.pys ds) = true ∧ PyData.depthAll (D.pys ds) ≤ n
  | [], _ => ⟨by simp [D.pys, PyData.canLayAll0], by simp [D.pys, PyData.depthAll]⟩
  | d :: ds, h => by
    have h1 := h d (List.mem_cons_self ..)
    have h2 := shs (n := n) fun x hx => h x (List.mem_cons_of_mem _ hx)
    simp only [D.pys, PyData.canLayAll0, PyData.depthAll, h1.1, h2.1, Bool.and_self, true_and]
    exact Nat.max_le.mpr ⟨h1.2, h2.2⟩
theorem sh_lst {n : Nat} {ds : List D} (h : ∀ d ∈ ds, sh n d) : sh (n + 1) (.lst ds) := by
  have := shs h
  exact ⟨by simp [D.py, PyData.canLay0, this.1], by simp [D.py, PyData.depth, this.2]⟩
theorem sh_tup {n : Nat} {ds : List D} (h : ∀ d ∈ ds, sh n d) : sh (n + 1) (.tup ds) := by
  have := shs h
  exact ⟨by simp [D.py, PyData.canLay0, this.1], by simp [D.py, PyData.depth, this.2]⟩
theorem sh_D {d : D} {n : Nat} (h : sh n d) (hn : n ≤ 64) : shD d = true := by
  unfold shD SeqAt.shaped
  rw [h.1, Bool.true_and, decide_eq_true_eq]
  exact Nat.le_trans h.2 hn
theorem eqv_me (x : PyData) (h : x.canLay0 = true) : PyData.eqv x x = true := PySem.SeqAt.eqv_refl x h
theorem eqO_lst_me {ds : List D} {n : Nat} (h : sh n (.lst ds)) (hn : n ≤ 64) : eqO (.lst ds) (.lst ds) = some (.bl true) := by
  have h1 := sh_D h hn
  show (if shD (.lst ds) = true ∧ shD (.lst ds) = true then some (PyData.eqv (D.lst ds).py (D.lst ds).py) else none).map _ = _
  rw [if_pos ⟨h1, h1⟩, eqv_me _ h.1]
  rfl
theorem eqO_tup_me {ds : List D} {n : Nat} (h : sh n (.tup ds)) (hn : n ≤ 64) : eqO (.tup ds) (.tup ds) = some (.bl true) := by
  have h1 := sh_D h hn
  show (if shD (.tup ds) = true ∧ shD (.tup ds) = true then some (PyData.eqv (D.tup ds).py (D.tup ds).py) else none).map _ = _
  rw [if_pos ⟨h1, h1⟩, eqv_me _ h.1]
  rfl
/-! ### points -/
abbrev ptD (p : Int × Int) : D := .tup [.int p.1, .int p.2]
abbrev ptsD (ps : List (Int × Int)) : List D := ps.map ptD
theorem sh_pt {p : Int × Int} : sh 1 (ptD p) := sh_tup (n := 0) fun d h => by
  rcases List.mem_cons.mp h with rfl | h
  · exact sh_int
  · rcases List.mem_cons.mp h with rfl | h
    · exact sh_int
    · cases h
theorem sh_pts {ps : List (Int × Int)} : ∀ d ∈ ptsD ps, sh 1 d := fun d h => by
  obtain ⟨p, _, rfl⟩ := List.mem_map.mp h
  exact sh_pt
theorem eqv_pt (p q : Int × Int) : PyData.eqv (ptD p).py (ptD q).py = decide (p = q) := by
  obtain ⟨a, b⟩ := p
  obtain ⟨c, d⟩ := q
  have h : PyData.eqv (ptD (a, b)).py (ptD (c, d)).py = (a == c && (b == d && true)) := by
    simp [D.py, D.pys, PyData.eqv, PyData.eqvAll]
  rw [h]
  by_cases h1 : a = c <;> by_cases h2 : b = d <;> simp [h1, h2]
theorem in_pts (p : Int × Int) (ps : List (Int × Int)) : inO (ptD p) (.lst (ptsD ps)) = some (.bl (decide (p ∈ ps))) ∧ niO (ptD p) (.lst (ptsD ps)) = some (.bl (decide (p ∉ ps))) := by
  have h1 : shD (ptD p) = true := sh_D sh_pt (by decide)
  have h2 : shD (.lst (ptsD ps)) = true := sh_D (sh_lst sh_pts) (by decide)
  have h3 : inD (ptD p) (.lst (ptsD ps)) = some (decide (p ∈ ps)) := by
    show (if shD (ptD p) = true ∧ shD (.lst (ptsD ps)) = true then some ((ptsD ps).any fun z => PyData.eqv z.py (ptD p).py) else none) = _
    rw [if_pos ⟨h1, h2⟩]
    congr 1
    rw [Bool.eq_iff_iff, List.any_eq_true, decide_eq_true_eq]
    constructor
    · rintro ⟨d, hd, he⟩
      obtain ⟨q, hq, rfl⟩ := List.mem_map.mp hd
      rw [eqv_pt] at he
      rw [← of_decide_eq_true he]
      exact hq
    · intro h
      exact ⟨ptD p, List.mem_map.mpr ⟨p, h, rfl⟩, by rw [eqv_pt]; simp⟩
  constructor
  · show (inD _ _).map _ = _
    rw [h3]; rfl
  · show (inD _ _).map _ = _
    rw [h3]
    simp
theorem tups_pts : ∀ (ps : List (Int × Int)), tupsOf (ptsD ps) = some (ps.map fun p => [p.1, p.2])
  | [] => rfl
  | p :: ps => by
    have := tups_pts ps
    have e : tupInts (ptD p) = some [p.1, p.2] := rfl
    show tupsOf (ptD p :: ptsD ps) = _
    simp only [tupsOf, e, this, List.map_cons]
theorem nodup_pts {ps : List (Int × Int)} : (ps.map fun p => [p.1, p.2]).Nodup ↔ ps.Nodup := by
  constructor
  · intro h
    exact (List.pairwise_map.mp h).imp fun z e => z (by rw [e])
  · intro h
    exact List.pairwise_map.mpr (h.imp fun z e => z (by
      injection e with e1 e2
      injection e2 with e2 _
      exact Prod.ext e1 e2))
theorem lenSet_pts {ps : List (Int × Int)} (h : ps.length < 64) : ∃ n : Nat, lenSetD (.tup (ptsD ps)) = some (.int n) ∧ (n < ps.length ↔ ¬ ps.Nodup) := by
  refine ⟨(ddup (ps.map fun p => [p.1, p.2])).length, ?_, ?_⟩
  · show (match tupsOf (ptsD ps) with | some ks => _ | none => none) = _
    rw [tups_pts]
    show (if _ then _ else _) = _
    rw [if_pos (by simpa using h)]
  · have := ddup_lt (l := ps.map fun p => [p.1, p.2])
    rw [List.length_map] at this
    rw [this, nodup_pts]
end Den
set_option Elab.async false
set_option linter.all false
set_option maxRecDepth 100000
set_option maxHeartbeats 4000000
namespace Den
open PySem L2
variable [Named]
section
variable {Y : Cfg} {X : Cx} {W : WX} {K : PySem.W.Frag} {a b c e o : Expr} {es : List Expr} {ma mb mo mc : Env → M} {ms mk : Env → ML} {pos p p2 q : Pos} {F0 H0 F F1 H H1 : Hp} {σ : L2.St} {ρ : Env}
/-! ### [*x, ..] -/
def prL (ds : List D) (l : ML) : ML := match l with
  | some (.ok es) => some (.ok (ds ++ es))
  | l => l
def dStar (ma : Env → M) (ms : Env → ML) : Env → ML := fun ρ => match ma ρ with
  | some (.ok (.lst ds)) => prL ds (ms ρ)
  | some (.ok (.tup ds)) => prL ds (ms ρ)
  | some (.exc x) => some (.exc x)
  | _ => none
theorem ga_star (ha : GE Y X W e ma) (hr : GA Y X W es ms) (hs : starEach (.Starred e p :: es) X.env = (true, eval e X.env) :: starEach es X.env := by rfl) : GA Y X W (.Starred e p :: es) (dStar ma ms) := by
  obtain ⟨t, p, q⟩ := ha
  obtain ⟨t2, p2, q2⟩ := hr
  refine ⟨_, StX.pa_star p p2 hs, fun ρ r h F0 H0 F σ H R Q w => ?_⟩
  have tail : ∀ {ds : List D} {r : RL}, prL ds (ms ρ) = some r → ∀ {F1 H1 : Hp} {xs : List V}, Gr F H F1 H1 → RepL X.K Y F1 xs ds → WantA Y W X.K F σ H r Q → t2 σ H1 fun ys H2 => Q (xs ++ ys) H2 := by
    intro ds r h F1 H1 xs g rx w
    unfold prL at h
    split at h
    · rename_i es e2
      cases h
      exact q2 ρ _ e2 F0 H0 F1 σ H1 (R.grow g) _ fun ys F2 H2 g2 rs => w _ F2 H2 (g.trans g2) ((rx.mono g2.f).append rs)
    · cases r with
      | ok ds => rename_i hn; exact absurd h (hn _)
      | exc z => exact q2 ρ _ h F0 H0 F1 σ H1 (R.grow g) _ fun F2 H2 dx g2 xr => w F2 H2 dx (g.trans g2) xr
  unfold dStar at h
  split at h
  · rename_i ds e1
    refine q ρ _ e1 F0 H0 F σ H R _ fun v F1 H1 g rv => ?_
    obtain ⟨a, xs, rfl, ha, ra⟩ := rep_lst rv
    exact ⟨a, xs, rfl, .inr (ex_l g.fh ha), tail h g ra w⟩
  · rename_i ds e1
    refine q ρ _ e1 F0 H0 F σ H R _ fun v F1 H1 g rv => ?_
    obtain ⟨a, xs, rfl, ha, ra⟩ := rep_tup rv
    exact ⟨a, xs, rfl, .inl (ex_t g.fh ha), tail h g ra w⟩
  · rename_i x e1
    cases h
    exact q ρ _ e1 F0 H0 F σ H R _ fun F' H' dx g xr => w F' H' dx g xr
  · cases h
/-! ### x = a + b, x the frame's own list: a new own one -/
def rCat (K : PySem.W.Frag) : R2 := fun x y H Q => ∃ a b xs ys, x = .ref a ∧ y = .ref b ∧ SqL K H a xs ∧ SqL K H b ys ∧ xs.length + ys.length ≤ sizeLine ∧ ∀ p, H p = none → Q (.ref p) (upd H p (.lst (xs ++ ys)))
theorem op_cat : OpR X (binaryOp .Add) (rCat X.K) := by
  rintro pins s σ H x y v u Q I rx ry ⟨a, b, xs, ys, rfl, rfl, h1, h2, hz, k⟩
  cases rx; cases ry
  exact cat_sq I h1 h2 hz k
def dOwnAdd (i : Nat) (ma mb : Env → M) : SM := fun ρ => bo (ma ρ) ρ fun x => bo (mb ρ) ρ fun y => match x, y with
  | .lst us, .lst vs => if us.length + vs.length ≤ sizeLine then some (.nx (ρ.set i (some (.own (us ++ vs))))) else none
  | _, _ => none
theorem gs_ownAdd (i : Nat) {x : Str} {pos' : Pos} (hN : X.N.Nodup) (ha : GE Y X W a ma) (hb : GE Y X W b mb) (hi : X.N[i]? = some x := by rfl) (hx : Loc X.env.scope x := by first | exact Or.inl rfl | exact Or.inr rfl)
    (hs : swapsWith (.BinOp a .Add b q) (some (.Name x pos')) pos.line X.env = pure false := by rfl)
    (hf : X.fn x = true ∨ X.env.scope.names.lookup x = some .local := by first | exact .inl rfl | exact .inr rfl | assumption) : GS Y X W (.Assign [.Name x pos'] (.BinOp a .Add b q) pos) (dOwnAdd i ma mb) := by
  obtain ⟨ta, pa, qa⟩ := ha
  obtain ⟨tb, pb, qb⟩ := hb
  refine ⟨_, ps_set (i := i) hN hi hx (pe_op op_cat pa pb) hs hf, fun ρ o h F0 H0 F σ H R D w => ?_⟩
  rcases bo_some h with ⟨d1, e1, h⟩ | ⟨z, e1, rfl⟩
  · refine qa ρ _ e1 F0 H0 F σ H R _ fun v F1 H1 g1 r1 => ?_
    rcases bo_some h with ⟨d2, e2, h⟩ | ⟨z, e2, rfl⟩
    · refine qb ρ _ e2 F0 H0 F1 σ H1 (R.grow g1) _ fun u F2 H2 g2 r2 => ?_
      split at h
      · rename_i us vs
        split at h
        · rename_i hz
          cases h
          obtain ⟨a1, xs, rfl, ha, ra⟩ := rep_lst (r1.mono g2.f)
          obtain ⟨b1, ys, rfl, hb, rb⟩ := rep_lst r2
          refine ⟨a1, b1, xs, ys, rfl, rfl, ex_l g2.fh ha, ex_l g2.fh hb, by rw [ra.len, rb.len]; exact hz, fun p hp => ?_⟩
          have g := g1.trans g2
          exact w F2 _ _ g.f ((R.grow g).setOwn hp (ra.append rb))
        · cases h
      · cases h
    · exact qb ρ _ e2 F0 H0 F1 σ H1 (R.grow g1) _ fun F' H' dx g xr => w F' σ H' dx (g1.trans g).f (R.grow (g1.trans g)) xr
  · exact qa ρ _ e1 F0 H0 F σ H R _ fun F' H' dx g xr => w F' σ H' dx g.f (R.grow g) xr
end
end Den
set_option Elab.async false
set_option linter.all false
set_option maxRecDepth 100000
set_option maxHeartbeats 4000000
namespace Den
open PySem L2
variable [Named]
section
variable {Y : Cfg} {X : Cx} {W : WX} {K : PySem.W.Frag} {a b c e o : Expr} {es : List Expr} {kws : List Keyword} {ma mb mo mc : Env → M} {ms mk : Env → ML} {pos p p2 kpos : Pos} {F0 H0 F F1 H H1 : Hp} {σ : L2.St} {ρ : Env}
  {k n j : Nat} {f C : Addr} {fd : FuncData} {ps ks : List Str} {m : Mn} {x nm : Str} {sp : Sp} {t tk' : TA} {g : List Value → List Value → List Value} {gV : List V → List V → List V} {gD : List D → List D → List D}
/-! ### f(e, .., k = v, ..) -/
def GK (Y : Cfg) (X : Cx) (W : WX) (kws : List Keyword) (m : Env → ML) : Prop := ∃ t, PK X kws t ∧ ∀ ρ r, m ρ = some r → SatA Y W X.K t ρ r
theorem gk_nil : GK Y X W [] dNil := ⟨_, pk_nil, fun ρ r h F0 H0 F σ H R Q w => by
  cases h
  exact w [] F H (Gr.refl R.ex) .nil⟩
theorem gk_cons (ha : GE Y X W e ma) (hr : GK Y X W kws ms) : GK Y X W (⟨nm, e, kpos⟩ :: kws) (dCons ma ms) := by
  obtain ⟨t, p, q⟩ := ha
  obtain ⟨t2, p2, q2⟩ := hr
  refine ⟨_, pk_cons p p2, fun ρ r h F0 H0 F σ H R Q w => ?_⟩
  unfold dCons consL at h
  split at h
  · rename_i d e1
    refine q ρ _ e1 F0 H0 F σ H R _ fun v F' H' g rv => ?_
    split at h
    · rename_i ds e2
      cases h
      exact q2 ρ _ e2 F0 H0 F' σ H' (R.grow g) _ fun vs F2 H2 g2 rs => w _ F2 H2 (g.trans g2) (.cons (rv.mono g2.f) rs)
    · rename_i x e2
      cases h
      exact q2 ρ _ e2 F0 H0 F' σ H' (R.grow g) _ fun F2 H2 dx g2 xr => w F2 H2 dx (g.trans g2) xr
    · cases h
  · rename_i x e1
    cases h
    exact q ρ _ e1 F0 H0 F σ H R _ w
  · cases h
/-- the defaults put in, in the parameters' order, on both sides -/
def PutK (K : PySem.W.Frag) (Y : Core) (n m : Nat) (gV : List V → List V → List V) (gD : List D → List D → List D) : Prop :=
  ∀ F vs zs ds es, RepL K Y F vs ds → RepL K Y F zs es → ds.length = n → es.length = m → RepL K Y F (gV vs zs) (gD ds es)
def dCallK (fn : Mn) (n m : Nat) (gD : List D → List D → List D) (ms mk : Env → ML) : Env → M := fun ρ => bdL (ms ρ) fun ds => bdL (mk ρ) fun zs => if ds.length = n ∧ zs.length = m then fn (gD ds zs) else none
theorem callK {E : L2.St → XK} {t tk : TA} (Fn : FnOk X.prog X.w X.K X.mg X.base (L2.CX X.prog X.w) k f fd ps sp) (hr : Room k X.A) (hg : Gl X x) (hm : X.mg x = some (.ref f)) (hk : PySem.W.keepIn X.K (.ref f) = true) (hb : KBn X.K fd ps n ks g gV)
    (hx : ∀ σ, PassesAt (L2.CX X.prog X.w) X σ (E σ)) (ha : PA X (e :: es) t) (hkw : PK X kws tk) (hall : (backToKw pos (keywordEach kws X.env)).all (·.1.isSome) = true := by rfl) (hks : (backToKw pos (keywordEach kws X.env)).filterMap (·.1) = ks := by rfl)
    (hdb : (x == ("__debug__" : Str)) = false := by decide) (he : starEach (e :: es) X.env = (false, eval e X.env) :: starEach es X.env := by rfl)
    (hpl : ((backTo pos (starEach (e :: es) X.env)).any (·.1) || (backToKw pos (keywordEach kws X.env)).any (·.1.isNone)) = false := by rfl) :
    PE X (.Call (.Name x p) (e :: es) kws pos) (fun σ H Q => t σ H fun vs H1 => tk σ H1 fun zs H2 => vs.length = n ∧ zs.length = ks.length ∧ sp (gV vs zs) H2 Q (E σ)) :=
  ⟨fun pins s σ H Q I h => wpAny_Call_Name_kw (ld_glob I hg hm (PySem.W.callWith_KW (h₀ := X.base) I.ok.mod.kin hk hall (thn (ha.run pos pins s σ H _ I h) fun us s1 ⟨vs, H1, I1, r, q⟩ =>
    thn (hkw.run pos pins s1 σ H1 _ I1 q) fun ws s2 ⟨zs, H2, I2, rz, l1, l2, q2⟩ => ⟨I2.kIn, by
      rw [hks]
      have both := hb.rel r rz
      have run := Fn.run X.A X.stack s2 H2 ⟨us, ks.zip ws⟩ (g us ws) (gV vs zs) Q (E σ) hr I2.env0 (hb.to s2 us ws I2.kIn (r.length.symm.trans l1) (rz.length.symm.trans l2)) both q2
      refine wpAny_call (codeAny_mono run fun rr s' hh => ?_)
      match rr, hh with
      | .error ee, hh => exact hx σ pins H2 s2 ee s' I2 hh
      | .ok (.ret u), hh => exact I2.after hh
      | .ok .next, hh => exact hh.elim
      | .ok .brk, hh => exact hh.elim
      | .ok .cont, hh => exact hh.elim⟩) hpl he) hdb)⟩
theorem ge_callK (Fn : DOk Y X.prog X.w X.K X.mg X.base k f fd ps m) (hr : Room k X.A) (tk : Takes X W) (hg : Gl X x) (hm : X.mg x = some (.ref f)) (hk : PySem.W.keepIn X.K (.ref f) = true) (hb : KBn X.K fd ps n ks g gV) (hp : PutK X.K Y n j gV gD)
    (hlen : ∀ ds r, m ds = some r → ds.length = ps.length) (ha : GA Y X W (e :: es) ms) (hkw : GK Y X W kws mk)
    (hall : (backToKw pos (keywordEach kws X.env)).all (·.1.isSome) = true := by rfl) (hks : (backToKw pos (keywordEach kws X.env)).filterMap (·.1) = ks := by rfl)
    (hdb : (x == ("__debug__" : Str)) = false := by decide) (he : starEach (e :: es) X.env = (false, eval e X.env) :: starEach es X.env := by rfl)
    (hpl : ((backTo pos (starEach (e :: es) X.env)).any (·.1) || (backToKw pos (keywordEach kws X.env)).any (·.1.isNone)) = false := by rfl) (hj : ks.length = j := by rfl) :
    GE Y X W (.Call (.Name x p) (e :: es) kws pos) (dCallK m n j gD ms mk) := by
  subst hj
  obtain ⟨t, pt, q⟩ := ha
  obtain ⟨t2, pk, q2⟩ := hkw
  refine ⟨_, callK Fn hr hg hm hk hb (fun σ => passAt tk σ) pt pk hall hks hdb he hpl, fun ρ r h F0 H0 F σ H R Q w => ?_⟩
  rcases bdL_some h with ⟨ds, e1, h⟩ | ⟨z, e1, rfl⟩
  · refine q ρ _ e1 F0 H0 F σ H R _ fun vs F1 H1 g1 rs => ?_
    rcases bdL_some h with ⟨zs, e2, h⟩ | ⟨z, e2, rfl⟩
    · refine q2 ρ _ e2 F0 H0 F1 σ H1 (R.grow g1) _ fun us F2 H2 g2 rz => ?_
      split at h
      · rename_i hl
        have w' := w.grow (g1.trans g2)
        refine ⟨by rw [rs.len]; exact hl.1, by rw [rz.len]; exact hl.2, ?_⟩
        exact sp_want g2.fh (R.grow (g1.trans g2)).tbF (hp F2 vs us ds zs (rs.mono g2.f) rz hl.1 hl.2) (hlen _ _ h) h (fun z hz => by subst hz; exact w') (fun d hd => by subst hd; exact w')
      · cases h
    · exact q2 ρ _ e2 F0 H0 F1 σ H1 (R.grow g1) _ fun F' H' dx g xr => w F' H' dx (g1.trans g) xr
  · exact q ρ _ e1 F0 H0 F σ H R _ w
end
end Den
set_option Elab.async false
set_option linter.all false
set_option maxRecDepth 100000
set_option maxHeartbeats 4000000
namespace Den
open PySem PySem.Spec PyProof.Rows L2
variable [Named]
/-! ### several clauses, each 'except C as n' -/
/-- the ends of a suite whose name goes behind it -/
def endN (i : Nat) (D : Ends) : Ends := ⟨fun τ G => D.nx (τ.set i none) G, D.rt, fun τ G => D.bk (τ.set i none) G, fun τ G => D.ct (τ.set i none) G⟩
abbrev Cl := Value × Nat × (Addr → Value → Option Addr → TS)
def wNm (K : PySem.W.Frag) (W0 : WX) (D : Ends) : List Cl → WX
  | [] => W0
  | q :: l => fun cls d τ G => ∃ y, PySem.W.exmOne K cls q.1 = some y ∧ (y = true → ∀ a, G a = none → q.2.2 a cls d (endN q.2.1 D) (τ.set q.2.1 (some (.ref a))) G) ∧ (y = false → wNm K W0 D l cls d τ G)
inductive NmOk (X : Cx) : List ExceptHandler → List Cl → Prop
  | nil : NmOk X [] []
  | cons {x n : Str} {c : Value} {i : Nat} {ts : Addr → Value → Option Addr → TS} {b0 : Stmt} {suite : List Stmt} {np hp : Pos} {hds : List ExceptHandler} {l : List Cl} (hi : X.N[i]? = some n) (hln : X.env.kindOf n = some .local) (hc : Names X x c)
      (hsu : ∀ (a : Addr) (oe : Obj) (cls : Value) (d : Option Addr) (pn : List (Addr × Obj)), Zc cls d oe → (∃ vs, oe.data = .fields vs) → PSs (X.suite a ((a, oe) :: pn)) (b0 :: suite) (ts a cls d)) (r : NmOk X hds l) :
      NmOk X (.ExceptHandler (some (.Name x np)) (some n) (b0 :: suite) hp :: hds) ((c, i, ts) :: l)
section
variable {X : Cx} {body : List Stmt} {h0 : ExceptHandler} {hds : List ExceptHandler} {l : List Cl} {pos : Pos} {tb : WX → TS} {W0 : WX}
/-- the clauses looked at one behind another, from where the exception has landed -/
theorem clauses (hs : X.stack = X.env :: X.outer) (hf : X.env.frame = some X.env.locals) (hN : X.N.Nodup) (tk : Takes X W0) {pins : List (Addr × Obj)} {D : Ends} {a : Addr} {B : Heap} {sI : Shared} {τ : L2.St} {G : Hp} {cls : Value} {d : Option Addr} {s : Shared}
    (ok : X.Ok) (J : Inv X pins τ G sI) (nb : ∀ b o, sI.heap.get? b = some o → b ∉ frs X.stack → B.get? b = some o) (na : G a = none) (os : s.os = sI.os) (ag : AllBare s.gens) {g3 : Heap}
    (fly : HandSPX.FlyingZ B (X.env :: X.outer) a (Zc cls d) g3) (up : sI.heap.UpToSlots g3) {hds : List ExceptHandler} {l : List Cl} (hk : NmOk X hds l) (w : wNm X.K W0 D l cls d τ G) :
    wpAny (model X.prog X.w) X.A (handleBy (.ref a) X.env hds) (SP X pins D) X.xe { s with heap := g3 } := by
  have land : ∀ {g : Heap}, HandSPX.FlyingZ B (X.env :: X.outer) a (Zc cls d) g → sI.heap.UpToSlots g → Inv X pins τ G { s with heap := g } := fun z u => J.landed nb z.1 u os ag
  have apart : ∀ {g : Heap}, HandSPX.FlyingZ B (X.env :: X.outer) a (Zc cls d) g → a ∉ frs (X.env :: X.outer) := fun {g} z hm => by
    obtain ⟨oe, vs, e1, _, e2⟩ := z.there
    obtain ⟨_, o2, e3, nf⟩ := z.2.2.1.mem hm
    cases e1.symm.trans e3
    exact nf _ e2
  have away := apart fly
  have nL : a ≠ X.env.locals := fun z => away (List.mem_filterMap.mpr ⟨X.env, List.mem_cons_self, by rw [z]; exact hf⟩)
  have nF : a ∉ X.fs := fun hm => by
    obtain ⟨ev, hev, q⟩ := List.mem_filterMap.mp hm
    exact away (List.mem_filterMap.mpr ⟨ev, List.mem_cons_of_mem _ hev, q⟩)
  induction hk with
  | nil =>
    refine wpAny_handleBy_nil ?_
    obtain ⟨_, _, _, oe, vs, Ty, oT, tz, e1, _, e2, e3, _⟩ := id fly
    have out : wpAny (model X.prog X.w) X.A (setFlight (.ref a) X.env.frame) (fun _ z => wpAny (model X.prog X.w) X.A (throw (.ref a) : Sem Flow) (SP X pins D) X.xe z) X.xe { s with heap := g3 } := by
      rw [hf]
      refine HandSPX.setFlight_upZ fly fun g4 held u4 => wpAny_throw (tk _ _ ⟨a, B, sI, pins, τ, G, cls, d, rfl, J, nb, up.trans u4, .inr (.inr ?_), na, os, ag, w⟩)
      rw [hs]
      exact held
    unfold PySem.passOn
    refine wpAny_bind (wpAny_field e1 e2 e3 ?_)
    rw [if_neg (show ¬ ((Value.ref Ty == Value.none) = true) by simp)]
    first
      | exact wpAny_bind (wpAny_pure (wpAny_bind out))
      | exact wpAny_bind out
  | @cons x n c i ts b0 suite np hp hds l hi hln hc hsu r ih =>
    obtain ⟨y, ey, yes, no⟩ := w
    obtain ⟨oe, vs, e1, ez, e2⟩ := fly.there
    have J3 := land fly up
    have S3 := J3.suite e1 e2 na nL nF
    have seen : PySem.W.Looks (model X.prog X.w) g3 (typeOf (.ref a)) cls := fun _ _ _ _ k q => wpAny_typeOf_ref (k _ _ e1) (by rw [ez.1]; exact q)
    have match_ := PySem.W.exm_one (M := model X.prog X.w) J3.kIn seen ey
    refine wpAny_handleBy_cons (codeAny_handlers_test ?_) (fun q => by cases q)
    have named : ∀ {Q : Value → Shared → Prop} {E : Value → Shared → Prop}, Q c { s with heap := g3 } → wpAny (model X.prog X.w) (X.A.mark (some (.ref a))) (eval (.Name x np) X.env) Q E { s with heap := g3 } := fun q => by
      obtain ⟨k1, k2, k3 | ⟨k3, k4, k5⟩⟩ := hc
      · exact ld_glob (X := X.suite a ((a, oe) :: (X.pn ++ pins))) S3 k1 k3 q k2
      · exact ld_blt (X := X.suite a ((a, oe) :: (X.pn ++ pins))) S3 k1 k3 k4 q k5 k2
    refine named (match_.here ?_)
    cases y with
    | false =>
      show wpAny _ X.A (handleBy (.ref a) X.env hds) _ _ _
      exact ih (no rfl)
    | true =>
      refine codeAny_handlers_suite_as (HandSPX.lands_againZ fly fun g4 fly4 u4 => ?_)
      obtain ⟨oe4, vs4, f1, fz, f2⟩ := fly4.there
      have S4 := (land fly4 (up.trans u4)).suite f1 f2 na nL nF
      refine store_ok (X := X.suite a ((a, oe4) :: (X.pn ++ pins))) (v := .ref a) S4 hN hi (.inl hln) rfl (fun s5 S5 => ?_) (.inr hln)
      have run := (hsu a oe4 cls d (X.pn ++ pins) fz ⟨_, f2⟩).run [] s5 _ G _ S5 (yes rfl a na)
      have off : ∀ {τ6 : L2.St} {G6 : Hp} {s6 : Shared} {Q : Shared → Prop}, Inv (X.suite a ((a, oe4) :: (X.pn ++ pins))) [] τ6 G6 s6 → (∀ s7, Inv X pins (τ6.set i none) G6 s7 → Q s7) →
          wpAny (model X.prog X.w) X.A (do bindName X.env n .none; unbindBehindTheSuite X.env n hp) (fun _ s7 => Q s7) X.xe s6 := fun S6 q => gone_ok (S6.unsuite ok) hN hi hln q
      refine wpAny_mono run (fun fl s6 z => ?_) (fun _ _ z => z.elim)
      match fl, z with
      | .next, ⟨_, _, S6, q6⟩ => exact off S6 fun s7 J7 => ⟨_, _, J7, q6⟩
      | .brk, ⟨_, _, S6, q6⟩ => exact off S6 fun s7 J7 => ⟨_, _, J7, q6⟩
      | .cont, ⟨_, _, S6, q6⟩ => exact off S6 fun s7 J7 => ⟨_, _, J7, q6⟩
      | .ret u, ⟨_, _, _, S6, r6, q6⟩ => exact off S6 fun s7 J7 => ⟨_, _, _, J7, r6, q6⟩
/-- try: .. / except C1 as n1: .. / except C2 as n2: .. -/
theorem ps_try_named (hs : X.stack = X.env :: X.outer) (hf : X.env.frame = some X.env.locals) (hN : X.N.Nodup) (tk : Takes X W0)
    (hb : ∀ (W : WX) (pn : List (Addr × Obj)) (xe : Value → Shared → Prop), Takes (X.tr pn xe) W → PassesOwn (model X.prog X.w) X.A X.env xe → PSs (X.tr pn xe) body (tb W))
    (hh : NmOk X (h0 :: hds) l) : PS X (.Try body (h0 :: hds) [] [] pos) (fun D τ G => tb (wNm X.K W0 D l) D τ G) := by
  refine ⟨fun pins s τ G D I h => wpAny_Try_except ?_⟩
  have ok := I.ok
  have fr : X.A.frames = some (X.env :: X.outer) := hs ▸ ok.frames
  let catch_ : Value → Shared → Prop := fun e s1 => wpAny (model X.prog X.w) X.A (noteFrame e X.env) (fun _ s2 => wpAny (model X.prog X.w) X.A (setFlight e none) (fun _ s3 => wpAny (model X.prog X.w) X.A (handleBy e X.env (h0 :: hds)) (SP X pins D) X.xe s3) X.xe s2) X.xe s1
  have taken : Takes (X.tr (X.pn ++ pins) catch_) (wNm X.K W0 D l) := by
    rintro u s1 ⟨a, B, sI, pins', τ', G', cls, d, rfl, J', nb, up, sky, na, os, ag, w⟩
    have sky2 : Sky B (X.env :: X.outer) a (Zc cls d) X.env.locals s1.heap := by rw [← hs]; exact sky
    refine Sky.land Zc.steady fr hf sky2 fun g3 fly u3 => ?_
    exact clauses hs hf hN tk ok (J'.ofTry ok) nb na os ag fly (up.trans u3) hh w
  have run := (hb (wNm X.K W0 D l) (X.pn ++ pins) catch_ taken PassesOwn.looking).run [] s τ G D (I.toTry _) h
  refine wpAny_mono run (fun fl s1 z => ?_) (fun _ _ z => z)
  match fl, z with
  | .next, ⟨τ', G', J', q⟩ => exact wpAny_execs_nil ⟨τ', G', J'.ofTry ok, q⟩
  | .brk, ⟨τ', G', J', q⟩ => exact ⟨τ', G', J'.ofTry ok, q⟩
  | .cont, ⟨τ', G', J', q⟩ => exact ⟨τ', G', J'.ofTry ok, q⟩
  | .ret u, ⟨v, τ', G', J', rv, q⟩ => exact ⟨v, τ', G', J'.ofTry ok, rv, q⟩
end
end Den
set_option Elab.async false
set_option linter.all false
set_option maxRecDepth 100000
set_option maxHeartbeats 4000000
namespace Den
open PySem L2
variable [Named]
section
variable {Y : Cfg} {X : Cx} {W : WX} {K : PySem.W.Frag} {pos : Pos} {F0 H0 F F1 H H1 : Hp} {σ : L2.St} {ρ : Env} {T : Exm}
abbrev Sui := Nat × Nat × SM
def hdD (T : Exm) (z : Xd) (ρ' : Env) : List Sui → Option O
  | [] => some (.exc z ρ')
  | q :: l => match T z.c q.1 with
    | some true => if plainE ρ' = true ∧ q.2.1 < ρ'.length then gone q.2.1 (q.2.2 (ρ'.set q.2.1 (some (.exv z)))) else none
    | some false => hdD T z ρ' l
    | none => none
def dTryN (T : Exm) (m : SM) (l : List Sui) : SM := fun ρ => match m ρ with
  | some (.exc z ρ') => hdD T z ρ' l
  | oo => oo
inductive GNm (Y : Cfg) (X : Cx) (T : Exm) : List ExceptHandler → List Sui → Prop
  | nil : GNm Y X T [] []
  | cons {x n : Str} {b0 : Stmt} {suite : List Stmt} {np hp : Pos} {hds : List ExceptHandler} {l : List Sui} {m : SM} (c j : Nat) (hi : X.N[j]? = some n) (hln : X.env.kindOf n = some .local) (hc : Names X x (.ref (Y.cl c)))
      (hT : ∀ i b, T i c = some b → PySem.W.exmOne X.K (.ref (Y.cl i)) (.ref (Y.cl c)) = some b)
      (hsu : ∀ (i : Nat) (a : Addr) (oe : Obj) (d : Option Addr) (pn : List (Addr × Obj)), T i c = some true → Zc (.ref (Y.cl i)) d oe → (∃ vs, oe.data = .fields vs) → ((Y.fn i).isEmpty = true → d = none) → GSs ⟨Y.toCore, a, d, i⟩ (X.suite a ((a, oe) :: pn)) W0 (b0 :: suite) m)
      (r : GNm Y X T hds l) : GNm Y X T (.ExceptHandler (some (.Name x np)) (some n) (b0 :: suite) hp :: hds) ((c, j, m) :: l)
/-- what a suite wishes: the class of the exception is known to the clause -/
def suW (Y : Cfg) (K : PySem.W.Frag) (T : Exm) (c : Nat) (m : SM) : Addr → Value → Option Addr → TS := fun a cls d D σ H => ∃ i, cls = .ref (Y.cl i) ∧ T i c = some true ∧ ((Y.fn i).isEmpty = true → d = none) ∧ sM ⟨Y.toCore, a, d, i⟩ W0 K m D σ H
def clOf (Y : Cfg) (K : PySem.W.Frag) (T : Exm) (q : Sui) : Cl := (.ref (Y.cl q.1), q.2.1, suW Y K T q.1 q.2.2)
theorem GNm.nm {hds : List ExceptHandler} {l : List Sui} (h : GNm Y X T hds l) : NmOk X hds (l.map (clOf Y X.K T)) := by
  induction h with
  | nil => exact .nil
  | cons c j hi hln hc hT hsu r ih =>
    refine .cons hi hln hc (fun a oe cls d pn hz hfl => ⟨fun pins s σ H D I h => ?_⟩) ih
    obtain ⟨i, rfl, hT', hd', h⟩ := h
    exact (hsu i a oe d pn hT' hz hfl hd').ps.run pins s σ H D I h
theorem GNm.ex {hds : List ExceptHandler} {l : List Sui} (h : GNm Y X T hds l) : ∀ q ∈ l, ∀ i b, T i q.1 = some b → PySem.W.exmOne X.K (.ref (Y.cl i)) (.ref (Y.cl q.1)) = some b := by
  induction h with
  | nil => intro q hq; cases hq
  | cons c j hi hln hc hT hsu r ih =>
    intro q hq
    rcases List.mem_cons.mp hq with rfl | hq
    · exact hT
    · exact ih q hq
theorem handled {z : Xd} {ρ' : Env} {dx : Option Addr} {oo : O} {D : Ends} (R' : Rel K Y F0 H0 F σ H ρ') (xr : XRep K Y F H z dx) (w : WantS Y W K F0 H0 F oo D) : ∀ {l : List Sui}, hdD T z ρ' l = some oo →
    (∀ q ∈ l, ∀ i b, T i q.1 = some b → PySem.W.exmOne K (.ref (Y.cl i)) (.ref (Y.cl q.1)) = some b) → wNm K W D (l.map (clOf Y K T)) (.ref (Y.cl z.c)) dx σ H
  | [], h, _ => by
    cases h
    exact w F σ H dx (Ex.refl F) R' xr
  | q :: l, h, hT => by
    have hq := hT q (List.mem_cons_self ..)
    unfold hdD at h
    split at h
    · rename_i e2
      split at h
      · rename_i hpl
        obtain ⟨hpl, hj⟩ := hpl
        refine ⟨true, hq _ _ e2, fun _ a ha => ?_, fun z => nomatch z⟩
        cases ho : q.2.2 (ρ'.set q.2.1 (some (.exv z))) with
        | none => rw [ho] at h; cases h
        | some o2 =>
          rw [ho] at h
          refine ⟨z.c, rfl, e2, fun he => (by unfold XRep at xr; rw [if_pos he] at xr; exact xr), F0, H0, F, _, o2, R'.putExc (i := q.2.1) hpl xr, ho, ?_⟩
          have back : ∀ {F2 : Hp} {σ2 : L2.St} {H2 : Hp} {ρ2 : Env}, plainE (ρ2.set q.2.1 none) = true → Rel K ⟨Y.toCore, a, dx, z.c⟩ F0 H0 F2 σ2 H2 ρ2 → Rel K Y F0 H0 F2 (σ2.set q.2.1 none) H2 (ρ2.set q.2.1 none) := fun {F2 σ2 H2 ρ2} hp R2 =>
            Rel.swap (Y := ⟨Y.toCore, a, dx, z.c⟩) (Y' := Y) rfl hp (R2.forget (i := q.2.1) none)
          cases o2 with
          | nx ρ2 =>
            simp only [gone] at h
            split at h
            · rename_i hp; cases h; exact fun F2 σ2 H2 e R2 => w F2 _ H2 e (back hp R2)
            · cases h
          | bk ρ2 =>
            simp only [gone] at h
            split at h
            · rename_i hp; cases h; exact fun F2 σ2 H2 e R2 => w F2 _ H2 e (back hp R2)
            · cases h
          | ct ρ2 =>
            simp only [gone] at h
            split at h
            · rename_i hp; cases h; exact fun F2 σ2 H2 e R2 => w F2 _ H2 e (back hp R2)
            · cases h
          | ret d => cases h; exact w
          | exc y ρ2 => cases h
      · cases h
    · rename_i e2
      exact ⟨false, hq _ _ e2, (fun z => nomatch z), fun _ => handled R' xr w h fun q hq => hT q (List.mem_cons_of_mem _ hq)⟩
    · cases h
theorem gs_tryN {body : List Stmt} {h0 : ExceptHandler} {hds : List ExceptHandler} {l : List Sui} {m1 : SM} (hs : X.stack = X.env :: X.outer) (hf : X.env.frame = some X.env.locals) (hN : X.N.Nodup) (tk : Takes X W)
    (hb : ∀ (W' : WX) (pn : List (Addr × Obj)) (xe : Value → Shared → Prop), Takes (X.tr pn xe) W' → PassesOwn (model X.prog X.w) X.A X.env xe → GSs Y (X.tr pn xe) W' body m1) (hh : GNm Y X T (h0 :: hds) l) :
    GS Y X W (.Try body (h0 :: hds) [] [] pos) (dTryN T m1 l) := by
  refine ⟨_, ps_try_named (tb := fun W' => sM Y W' X.K m1) hs hf hN tk (fun W' pn xe tk' hp => (hb W' pn xe tk' hp).ps) hh.nm, fun ρ oo h F0 H0 F σ H R D w => ?_⟩
  unfold dTryN at h
  split at h
  · rename_i z ρ' e1
    exact ⟨F0, H0, F, ρ, _, R, e1, fun F' σ' H' dx ex R' xr => handled R' xr (w.grow ex) h hh.ex⟩
  · exact ⟨F0, H0, F, ρ, oo, R, h, by
      cases oo with
      | exc y ρ2 => rename_i hn; exact absurd h (hn y ρ2)
      | nx ρ2 => exact w
      | ret d => exact w
      | bk ρ2 => exact w
      | ct ρ2 => exact w⟩
end
end Den
set_option Elab.async false
set_option linter.all false
set_option maxRecDepth 100000
set_option maxHeartbeats 4000000
namespace Den
open PySem L2
variable [Named]
/-! ### keyword-only parameters: each one's value is a keyword's (true, its place) or a default's (false, its place among those that lack) -/
def pick {α : Type} : List (Bool × Nat) → List α → List α → List α → List α
  | [], us, _, _ => us
  | (true, i) :: l, us, mv, ws => pick l (us ++ (ws.drop i).take 1) mv ws
  | (false, i) :: l, us, mv, ws => pick l (us ++ (mv.drop i).take 1) mv ws
theorem pick_vals {mz zs : List V} {mv ws : List Value} (r2 : Vals mz mv) (r3 : Vals zs ws) : ∀ (src : List (Bool × Nat)) {vs : List V} {us : List Value}, Vals vs us → Vals (pick src vs mz zs) (pick src us mv ws)
  | [], _, _, r1 => r1
  | (true, i) :: l, _, _, r1 => pick_vals r2 r3 l (r1.append ((r3.drop i).take 1))
  | (false, i) :: l, _, _, r1 => pick_vals r2 r3 l (r1.append ((r2.drop i).take 1))
theorem pick_rep {K : PySem.W.Frag} {Y : Core} {F : Hp} {mz zs : List V} {mv ws : List D} (r2 : RepL K Y F mz mv) (r3 : RepL K Y F zs ws) : ∀ (src : List (Bool × Nat)) {vs : List V} {us : List D}, RepL K Y F vs us → RepL K Y F (pick src vs mz zs) (pick src us mv ws)
  | [], _, _, r1 => r1
  | (true, i) :: l, _, _, r1 => pick_rep r2 r3 l (r1.append ((r3.drop i).take 1))
  | (false, i) :: l, _, _, r1 => pick_rep r2 r3 l (r1.append ((r2.drop i).take 1))
section
variable {K : PySem.W.Frag} {Y : Core} {x qual : Str} {params : Arguments} {body : List Stmt} {scope : Scope} {kws : List (Str × V)} {f : Addr} {fd : FuncData} {ps : List Str}
theorem kbOnly (F : FunD K x qual params body scope [] kws f fd) (n : Nat) (ks : List Str) (ms : List (Str × V)) (src : List (Bool × Nat)) (hk : kws ≠ []) (hms : ∀ q ∈ ms, q ∈ kws)
    (h : ∀ (D : Addr) (doc pm : Value) (an : Option Addr) (cdv ct : Value) (us mv ws : List Value), us.length = n → mv.length = ms.length → ws.length = ks.length →
      KwChain D ((ms.map (·.1)).zip mv) (bindArgs (PySem.W.fnOf x qual params body scope .none (.ref D) doc pm an cdv ct) ⟨us, ks.zip ws⟩) (ps.zip (pick src us mv ws))) :
    ∃ mv : List Value, KBn K fd ps n ks (fun us ws => pick src us mv ws) (fun vs zs => pick src vs (ms.map (·.2)) zs) :=
  FunD.kbinds0 F n ks ms (fun us mv ws => pick src us mv ws) hk hms (fun r1 r2 r3 => pick_vals r2 r3 src r1) h
theorem putK_pick {n m : Nat} {mz : List V} {md : List D} (src : List (Bool × Nat)) (h : ∀ F, RepL K Y F mz md) : PutK K Y n m (fun vs zs => pick src vs mz zs) (fun ds es => pick src ds md es) :=
  fun F _ _ _ _ r1 r3 _ _ => pick_rep (h F) r3 src r1
theorem KwdV.two {K : PySem.W.Frag} {D : Addr} {a b : Str} {v w : V} {u1 u2 : Value} (h1 : PySem.W.nsIn K D a = some (some u1)) (r1 : RelV v u1) (h2 : PySem.W.nsIn K D b = some (some u2)) (r2 : RelV w u2) : KwdV K (.ref D) [(a, v), (b, w)] :=
  .inr ⟨D, rfl, fun q hq => by
    rcases List.mem_cons.mp hq with rfl | hq
    · exact ⟨_, h1, r1⟩
    · rw [List.mem_singleton.mp hq]; exact ⟨_, h2, r2⟩⟩
theorem KwdV.one {K : PySem.W.Frag} {D : Addr} {a : Str} {v : V} {u1 : Value} (h1 : PySem.W.nsIn K D a = some (some u1)) (r1 : RelV v u1) : KwdV K (.ref D) [(a, v)] :=
  .inr ⟨D, rfl, fun q hq => by rw [List.mem_singleton.mp hq]; exact ⟨_, h1, r1⟩⟩
end
end Den
set_option Elab.async false
set_option linter.all false
set_option maxRecDepth 100000
set_option maxHeartbeats 4000000
namespace Den
open PySem L2
variable [Named]
section
variable {Y : Cfg} {X : Cx} {W : WX} {a b : Expr} {ms : Env → ML} {pos : Pos}
/-- x, y = a, b, the names plain -/
def dPar (i j : Nat) (ms : Env → ML) : SM := fun ρ => match ms ρ with
  | some (.ok [d, e]) => some (.nx ((ρ.set i (some (.val d))).set j (some (.val e))))
  | some (.exc x) => some (.exc x ρ)
  | _ => none
theorem gs_par (i j : Nat) {x y : Str} {px py pt pt2 : Pos} {kt k2} (hc : X.calm = true) (hN : X.N.Nodup) (ha : GA Y X W [a, b] ms) (hi : X.N[i]? = some x := by rfl) (hj : X.N[j]? = some y := by rfl) (hij : i ≠ j := by decide)
    (hx : X.env.scope.names.lookup x = some .local := by rfl) (hy : X.env.scope.names.lookup y = some .local := by rfl)
    (hw : swappedStores [.Tuple [.Name x px, .Name y py] kt pt] (.Tuple [a, b] k2 pt2) X.env = pure (some [x, y]) := by rfl)
    (hs : swapsWithSole [.Tuple [.Name x px, .Name y py] kt pt] (.Tuple [a, b] k2 pt2) pos.line X.env = pure false := by rfl) :
    GS Y X W (.Assign [.Tuple [.Name x px, .Name y py] kt pt] (.Tuple [a, b] k2 pt2) pos) (dPar i j ms) := by
  obtain ⟨t, p, q⟩ := ha
  refine ⟨_, ps_par (i := i) (j := j) hc hN hi hj hij hx hy p hw hs, fun ρ o h F0 H0 F σ H R D w => ?_⟩
  unfold dPar at h
  split at h
  · rename_i d e e1
    cases h
    refine q ρ _ e1 F0 H0 F σ H R _ fun vs F' H' g rs => ?_
    cases rs with
    | cons r1 rs =>
      cases rs with
      | cons r2 rs =>
        cases rs
        exact ⟨_, _, rfl, w F' _ H' g.f (((R.grow g).set r1).set r2)⟩
  · rename_i z e1
    cases h
    exact q ρ _ e1 F0 H0 F σ H R _ fun F' H' dx g xr => w F' σ H' dx g.f (R.grow g) xr
  · cases h
end
end Den
set_option Elab.async false
set_option linter.all false
set_option maxHeartbeats 1000000
namespace Den
open PySem L2
variable [Named]
/-! ### reckoning with texts: a text by its code points -/
abbrev txT (l : List Nat) : Str := ⟨l.toArray⟩
abbrev ty_ (l : List Nat) : D := .str (txT l)
theorem tx_len_ (l : List Nat) : (txT l).length = l.length := by simp [Str.length]
theorem str_tx_ (s : Str) : D.str s = ty_ s.cps.toList := by simp [ty_, txT]
theorem len_tx_ {l : List Nat} (h : l.length ≤ 16777216) : lenD [ty_ l] = some (.int l.length) := by
  show (if (txT l).length ≤ sizeLine then some (D.int (txT l).length) else none) = _
  rw [tx_len_]
  exact if_pos h
theorem ix_tx_ {l : List Nat} {i : Int} (hz : l.length ≤ 16777216) (h0 : 0 ≤ i) (h : i < l.length) : ∃ c, l[i.toNat]? = some c ∧ ixD (ty_ l) (.int i) = some (ty_ [c]) := by
  have hi : i.toNat < l.length := by omega
  refine ⟨l[i.toNat], List.getElem?_eq_getElem hi, ?_⟩
  show (if (txT l).length ≤ sizeLine then (atI (txT l).cps.toList i).map fun c => D.str ⟨#[c]⟩ else none) = _
  rw [tx_len_, if_pos (show l.length ≤ sizeLine from hz)]
  have e : atI (txT l).cps.toList i = some l[i.toNat] := by
    show atI l i = _
    unfold atI ixN
    rw [if_pos h0, if_pos h]
    simp [hi]
  rw [e]
  rfl
theorem add_tx_ {a b : List Nat} (h : a.length + b.length ≤ 16777216) : addD (ty_ a) (ty_ b) = some (ty_ (a ++ b)) := by
  show (if (txT a).length + (txT b).length ≤ sizeLine then some (D.str (txT a ++ txT b)) else none) = _
  rw [tx_len_, tx_len_, if_pos (show a.length + b.length ≤ sizeLine from h)]
  have e : txT a ++ txT b = txT (a ++ b) := by
    show Str.append (txT a) (txT b) = _
    simp [Str.append, txT]
  rw [e]
theorem cuthi_tx_ {l : List Nat} {n : Int} (hz : l.length ≤ 16777216) (hn : 0 ≤ n) : cutD (ty_ l) none (some n) = some (ty_ (l.take n.toNat)) := by
  show (if (txT l).length ≤ sizeLine then some (D.str (cutS (txT l) none (some n))) else none) = _
  rw [tx_len_, if_pos (show l.length ≤ sizeLine from hz)]
  obtain ⟨k, rfl⟩ := Int.eq_ofNat_of_zero_le hn
  unfold cutS
  rw [HT.sIx_none, HT.sIx_nat, tx_len_]
  simp only [Nat.sub_zero, List.drop_zero, Int.toNat_natCast]
  congr 3
  by_cases h : k ≤ l.length
  · rw [Nat.min_eq_left h]
  · rw [Nat.min_eq_right (by omega), List.take_length, List.take_of_length_le (by omega)]
theorem cutlo_tx_ {l : List Nat} {n : Int} (hz : l.length ≤ 16777216) (hn : 0 ≤ n) (hl : n ≤ l.length) : cutD (ty_ l) (some n) none = some (ty_ (l.drop n.toNat)) := by
  show (if (txT l).length ≤ sizeLine then some (D.str (cutS (txT l) (some n) none)) else none) = _
  rw [tx_len_, if_pos (show l.length ≤ sizeLine from hz)]
  obtain ⟨k, rfl⟩ := Int.eq_ofNat_of_zero_le hn
  unfold cutS
  have hk : k ≤ l.length := by omega
  rw [HT.sIx_none, HT.sIx_nat, tx_len_]
  simp only [Int.toNat_natCast, Nat.min_eq_left hk]
  rw [List.take_of_length_le (by simp)]
theorem in_tx1_ (c : Nat) (l : List Nat) : inO (ty_ [c]) (ty_ l) = some (.bl (decide (c ∈ l))) := rfl
theorem ni_tx1_ (c : Nat) (l : List Nat) : niO (ty_ [c]) (ty_ l) = some (.bl (!decide (c ∈ l))) := rfl
theorem itx_tx_ {l : List Nat} {ma : Env → M} {ρ : Env} (h : ma ρ = some (.ok (ty_ l))) : iTxt ma ρ = some (.ok (l.map fun c => ty_ [c])) := by
  unfold iTxt
  rw [h]
theorem eq_tx_ (a b : List Nat) : eqO (ty_ a) (ty_ b) = some (.bl (decide (a = b))) := by
  show some (D.bl (txT a == txT b)) = _
  congr 2
  rw [Bool.eq_iff_iff, beq_iff_eq, decide_eq_true_eq]
  constructor
  · intro h
    have := congrArg (fun s => s.cps.toList) h
    simpa using this
  · intro h
    rw [h]
/-- a text by its code points, closed to simp -/
def txS (l : List Nat) : Str := txT l
def tx (l : List Nat) : D := .str (txS l)
theorem str_tx (s : Str) : D.str s = tx s.cps.toList := str_tx_ s
theorem len_tx {l : List Nat} (h : l.length ≤ 16777216) : lenD [tx l] = some (.int l.length) := len_tx_ h
theorem ix_tx {l : List Nat} {i : Int} (hz : l.length ≤ 16777216) (h0 : 0 ≤ i) (h : i < l.length) : ∃ c, l[i.toNat]? = some c ∧ ixD (tx l) (.int i) = some (tx [c]) := ix_tx_ hz h0 h
theorem add_tx {a b : List Nat} (h : a.length + b.length ≤ 16777216) : addD (tx a) (tx b) = some (tx (a ++ b)) := add_tx_ h
theorem cuthi_tx {l : List Nat} {n : Int} (hz : l.length ≤ 16777216) (hn : 0 ≤ n) : cutD (tx l) none (some n) = some (tx (l.take n.toNat)) := cuthi_tx_ hz hn
theorem cutlo_tx {l : List Nat} {n : Int} (hz : l.length ≤ 16777216) (hn : 0 ≤ n) (hl : n ≤ l.length) : cutD (tx l) (some n) none = some (tx (l.drop n.toNat)) := cutlo_tx_ hz hn hl
theorem in_tx1 (c : Nat) (l : List Nat) : inO (tx [c]) (tx l) = some (.bl (decide (c ∈ l))) := rfl
theorem ni_tx1 (c : Nat) (l : List Nat) : niO (tx [c]) (tx l) = some (.bl (!decide (c ∈ l))) := rfl
theorem itx_tx {l : List Nat} {ma : Env → M} {ρ : Env} (h : ma ρ = some (.ok (tx l))) : iTxt ma ρ = some (.ok (l.map fun c => tx [c])) := itx_tx_ h
theorem eq_tx (a b : List Nat) : eqO (tx a) (tx b) = some (.bl (decide (a = b))) := eq_tx_ a b
end Den
set_option Elab.async false
set_option linter.all false
set_option maxHeartbeats 1000000
namespace Den
open PySem L2
variable [Named]
/-! ### a module's name for a built-in function: math.gcd -/
def gcdD : List D → Option D
  | [.int i, .int j] => some (.int ((Nat.gcd i.natAbs j.natAbs : Nat) : Int))
  | _ => none
section
variable {Y : Cfg} {X : Cx} {W : WX} {K : PySem.W.Frag} {F H : Hp} {e : Expr} {es : List Expr} {ms : Env → ML} {p pos : Pos}
theorem cd_gcd : CallD Y X (.builtin "math.gcd") gcdD := by
  intro pins s σ H xs us Q I r hq
  obtain ⟨F, ds, z, ex, rs, eq, k⟩ := hq
  unfold gcdD at eq
  split at eq
  · cases eq
    obtain ⟨v, u, rfl, q, q2⟩ := repL2 rs
    exact cr_gcd pins s σ H _ us Q I r ⟨_, _, by rw [rep_int q, rep_int q2], k _ F H (Gr.refl ex) (.int _)⟩
  · cases eq
theorem ge_cg {x : Str} {id : String} {g : List D → Option D} (hc : CallD Y X (.builtin id) g) (hg : Gl X x) (hm : X.mg x = some (.builtin id)) (ha : GA Y X W (e :: es) ms) (hdb : (x == ("__debug__" : Str)) = false := by decide)
    (he : starEach (e :: es) X.env = (false, eval e X.env) :: starEach es X.env := by rfl) (hpl : (backTo pos (starEach es X.env)).any (·.1) = false := by rfl) : GE Y X W (.Call (.Name x p) (e :: es) [] pos) (dCB g ms) := by
  obtain ⟨t, pt, q⟩ := ha
  exact ⟨_, pe_callBfun hc hg hm pt hdb he hpl, fun ρ r h => sat_cb q ρ r h⟩
end
@[simp] theorem c_gcd {u v : Int} : gcdD [.int u, .int v] = some (.int ((Nat.gcd u.natAbs v.natAbs : Nat) : Int)) := rfl
/-- products of numbers of any size that the document speaks of -/
theorem c_mulW {u v : Int} (h1 : -1000000000000000000000000000000000000000000000000000000000000000000000000000 < u) (h2 : u < 1000000000000000000000000000000000000000000000000000000000000000000000000000) (h3 : -1000000000000000000000000000000000000000000000000000000000000000000000000000 < v) (h4 : v < 1000000000000000000000000000000000000000000000000000000000000000000000000000) : mulD (.int u) (.int v) = some (.int (u * v)) := by
  have lg : ∀ {a : Int}, -1000000000000000000000000000000000000000000000000000000000000000000000000000 < a → a < 1000000000000000000000000000000000000000000000000000000000000000000000000000 → a.natAbs.log2 < 250 := fun {a} ha hb => by
    have : a.natAbs < 2 ^ 250 := by
      have : a.natAbs < 1000000000000000000000000000000000000000000000000000000000000000000000000000 := by omega
      exact Nat.lt_of_lt_of_le this (by decide)
    exact log2_lt this (by decide)
  have a := lg h1 h2
  have b := lg h3 h4
  exact if_pos (.inr (.inr (by omega)))
theorem run_none {N : List Str} {n : Nat} {ds : List D} {r : R} : ¬ runD N n (fun _ => none) ds = some r := by
  unfold runD
  split <;> simp
theorem dok_none {Y : Core} {P : Program} {w : World} {K : PySem.W.Frag} {mg : Str → Option Value} {base : Heap} {k : Nat} {f : Addr} {fd : FuncData} {ps N : List Str} {n : Nat} : DOk Y P w K mg base k f fd ps (runD N n fun _ => none) :=
  ⟨fun vs H Q E h => (by obtain ⟨_, _, _, _, _, _, h, _⟩ := h; exact absurd h run_none), fun A outer s H args us vs Q E hr he hb hv h => (by obtain ⟨_, _, _, _, _, _, h, _⟩ := h; exact absurd h run_none)⟩
theorem forD_bk {g : TM} {m : SM} {d : D} {ds : List D} {ρ ρ1 : Env} (h : turnD g m d ρ = some (.bk ρ1)) : forD g m (d :: ds) ρ = some (.nx ρ1) := by
  unfold turnD at h
  split at h
  · rename_i ρ2 e
    simp only [forD, e, h]
  · cases h
@[simp] theorem c_brk {ρ : Env} : dBrk ρ = some (.bk ρ) := rfl
@[simp] theorem c_seqbk {ρ : Env} {f : Env → Option O} : seqO (some (.bk ρ)) f = some (.bk ρ) := rfl
@[simp] theorem c_par {i j : Nat} {ms : Env → ML} {ρ : Env} : dPar i j ms ρ = match ms ρ with
  | some (.ok [d, e]) => some (.nx ((ρ.set i (some (.val d))).set j (some (.val e))))
  | some (.exc x) => some (.exc x ρ)
  | _ => none := rfl
@[simp] theorem isi_bool_int {b : Bool} : isiD "int" (.bl b) = some (.bl true) := by
  show (kitB "bool" "int").map _ = _
  rw [show kitB "bool" "int" = some true from by decide +kernel]; rfl
@[simp] theorem isi_int_int {i : Int} : isiD "int" (.int i) = some (.bl true) := by
  show (kitB "int" "int").map _ = _
  rw [show kitB "int" "int" = some true from by decide +kernel]; rfl
@[simp] theorem isi_str_int {s : Str} : isiD "int" (.str s) = some (.bl false) := by
  show (kitB "str" "int").map _ = _
  rw [show kitB "str" "int" = some false from by decide +kernel]; rfl
@[simp] theorem isi_tuple_int {ds : List D} : isiD "int" (.tup ds) = some (.bl false) := by
  show (kitB "tuple" "int").map _ = _
  rw [show kitB "tuple" "int" = some false from by decide +kernel]; rfl
@[simp] theorem isi_list_int {ds : List D} : isiD "int" (.lst ds) = some (.bl false) := by
  show (kitB "list" "int").map _ = _
  rw [show kitB "list" "int" = some false from by decide +kernel]; rfl
@[simp] theorem isi_NoneType_int  : isiD "int" (.non) = some (.bl false) := by
  show (kitB "NoneType" "int").map _ = _
  rw [show kitB "NoneType" "int" = some false from by decide +kernel]; rfl
@[simp] theorem isi_bool_bool {b : Bool} : isiD "bool" (.bl b) = some (.bl true) := by
  show (kitB "bool" "bool").map _ = _
  rw [show kitB "bool" "bool" = some true from by decide +kernel]; rfl
@[simp] theorem isi_int_bool {i : Int} : isiD "bool" (.int i) = some (.bl false) := by
  show (kitB "int" "bool").map _ = _
  rw [show kitB "int" "bool" = some false from by decide +kernel]; rfl
@[simp] theorem isi_str_bool {s : Str} : isiD "bool" (.str s) = some (.bl false) := by
  show (kitB "str" "bool").map _ = _
  rw [show kitB "str" "bool" = some false from by decide +kernel]; rfl
@[simp] theorem isi_tuple_bool {ds : List D} : isiD "bool" (.tup ds) = some (.bl false) := by
  show (kitB "tuple" "bool").map _ = _
  rw [show kitB "tuple" "bool" = some false from by decide +kernel]; rfl
@[simp] theorem isi_list_bool {ds : List D} : isiD "bool" (.lst ds) = some (.bl false) := by
  show (kitB "list" "bool").map _ = _
  rw [show kitB "list" "bool" = some false from by decide +kernel]; rfl
@[simp] theorem isi_NoneType_bool  : isiD "bool" (.non) = some (.bl false) := by
  show (kitB "NoneType" "bool").map _ = _
  rw [show kitB "NoneType" "bool" = some false from by decide +kernel]; rfl
@[simp] theorem isi_bool_str {b : Bool} : isiD "str" (.bl b) = some (.bl false) := by
  show (kitB "bool" "str").map _ = _
  rw [show kitB "bool" "str" = some false from by decide +kernel]; rfl
@[simp] theorem isi_int_str {i : Int} : isiD "str" (.int i) = some (.bl false) := by
  show (kitB "int" "str").map _ = _
  rw [show kitB "int" "str" = some false from by decide +kernel]; rfl
@[simp] theorem isi_str_str {s : Str} : isiD "str" (.str s) = some (.bl true) := by
  show (kitB "str" "str").map _ = _
  rw [show kitB "str" "str" = some true from by decide +kernel]; rfl
@[simp] theorem isi_tuple_str {ds : List D} : isiD "str" (.tup ds) = some (.bl false) := by
  show (kitB "tuple" "str").map _ = _
  rw [show kitB "tuple" "str" = some false from by decide +kernel]; rfl
@[simp] theorem isi_list_str {ds : List D} : isiD "str" (.lst ds) = some (.bl false) := by
  show (kitB "list" "str").map _ = _
  rw [show kitB "list" "str" = some false from by decide +kernel]; rfl
@[simp] theorem isi_NoneType_str  : isiD "str" (.non) = some (.bl false) := by
  show (kitB "NoneType" "str").map _ = _
  rw [show kitB "NoneType" "str" = some false from by decide +kernel]; rfl
@[simp] theorem isi_bool_tuple {b : Bool} : isiD "tuple" (.bl b) = some (.bl false) := by
  show (kitB "bool" "tuple").map _ = _
  rw [show kitB "bool" "tuple" = some false from by decide +kernel]; rfl
@[simp] theorem isi_int_tuple {i : Int} : isiD "tuple" (.int i) = some (.bl false) := by
  show (kitB "int" "tuple").map _ = _
  rw [show kitB "int" "tuple" = some false from by decide +kernel]; rfl
@[simp] theorem isi_str_tuple {s : Str} : isiD "tuple" (.str s) = some (.bl false) := by
  show (kitB "str" "tuple").map _ = _
  rw [show kitB "str" "tuple" = some false from by decide +kernel]; rfl
@[simp] theorem isi_tuple_tuple {ds : List D} : isiD "tuple" (.tup ds) = some (.bl true) := by
  show (kitB "tuple" "tuple").map _ = _
  rw [show kitB "tuple" "tuple" = some true from by decide +kernel]; rfl
@[simp] theorem isi_list_tuple {ds : List D} : isiD "tuple" (.lst ds) = some (.bl false) := by
  show (kitB "list" "tuple").map _ = _
  rw [show kitB "list" "tuple" = some false from by decide +kernel]; rfl
@[simp] theorem isi_NoneType_tuple  : isiD "tuple" (.non) = some (.bl false) := by
  show (kitB "NoneType" "tuple").map _ = _
  rw [show kitB "NoneType" "tuple" = some false from by decide +kernel]; rfl
@[simp] theorem isi_bool_list {b : Bool} : isiD "list" (.bl b) = some (.bl false) := by
  show (kitB "bool" "list").map _ = _
  rw [show kitB "bool" "list" = some false from by decide +kernel]; rfl
@[simp] theorem isi_int_list {i : Int} : isiD "list" (.int i) = some (.bl false) := by
  show (kitB "int" "list").map _ = _
  rw [show kitB "int" "list" = some false from by decide +kernel]; rfl
@[simp] theorem isi_str_list {s : Str} : isiD "list" (.str s) = some (.bl false) := by
  show (kitB "str" "list").map _ = _
  rw [show kitB "str" "list" = some false from by decide +kernel]; rfl
@[simp] theorem isi_tuple_list {ds : List D} : isiD "list" (.tup ds) = some (.bl false) := by
  show (kitB "tuple" "list").map _ = _
  rw [show kitB "tuple" "list" = some false from by decide +kernel]; rfl
@[simp] theorem isi_list_list {ds : List D} : isiD "list" (.lst ds) = some (.bl true) := by
  show (kitB "list" "list").map _ = _
  rw [show kitB "list" "list" = some true from by decide +kernel]; rfl
@[simp] theorem isi_NoneType_list  : isiD "list" (.non) = some (.bl false) := by
  show (kitB "NoneType" "list").map _ = _
  rw [show kitB "NoneType" "list" = some false from by decide +kernel]; rfl
@[simp] theorem is_non : isO .non .non = some (.bl true) := rfl
@[simp] theorem isn_non : isnO .non .non = some (.bl false) := rfl
@[simp] theorem is_int {i : Int} : isO (.int i) .non = some (.bl false) := rfl
@[simp] theorem isn_int {i : Int} : isnO (.int i) .non = some (.bl true) := rfl
@[simp] theorem is_tup {ds : List D} : isO (.tup ds) .non = some (.bl false) := rfl
@[simp] theorem isn_tup {ds : List D} : isnO (.tup ds) .non = some (.bl true) := rfl
@[simp] theorem is_lst {ds : List D} : isO (.lst ds) .non = some (.bl false) := rfl
@[simp] theorem isn_lst {ds : List D} : isnO (.lst ds) .non = some (.bl true) := rfl
end Den
set_option Elab.async false
set_option linter.all false
set_option maxHeartbeats 1000000
namespace Den
open PySem L2
variable [Named]
/-! ### sorted(x), x a list of ints, or of fewer than 64 tuples, of one length, of ints from 0 on -/
def leL : List Int → List Int → Bool
  | [], _ => true
  | _ :: _, [] => false
  | a :: s, b :: t => decide (a < b) || (decide (a = b) && leL s t)
theorem leL_total : ∀ s t : List Int, (leL s t || leL t s) = true
  | [], _ => by simp [leL]
  | a :: s, [] => by simp [leL]
  | a :: s, b :: t => by
    have ih := leL_total s t
    rcases Int.lt_trichotomy a b with h | h | h
    · simp [leL, h]
    · subst h
      simpa [leL] using ih
    · simp [leL, h]
theorem leL_trans : ∀ s t u : List Int, leL s t = true → leL t u = true → leL s u = true
  | [], _, _, _, _ => by simp [leL]
  | a :: s, [], _, h, _ => by simp [leL] at h
  | a :: s, b :: t, [], _, h => by simp [leL] at h
  | a :: s, b :: t, c :: u, h1, h2 => by
    have ih := leL_trans s t u
    simp only [leL, Bool.or_eq_true, decide_eq_true_eq, Bool.and_eq_true] at *
    rcases h1 with h1 | ⟨h1, h1'⟩ <;> rcases h2 with h2 | ⟨h2, h2'⟩
    · left; omega
    · left; omega
    · left; omega
    · right; exact ⟨by omega, ih h1' h2'⟩
theorem leL_anti : ∀ s t : List Int, s.length = t.length → leL s t = true → leL t s = true → s = t
  | [], [], _, _, _ => rfl
  | a :: s, [], h, _, _ => by simp at h
  | [], b :: t, h, _, _ => by simp at h
  | a :: s, b :: t, h, h1, h2 => by
    have ih := leL_anti s t (by simpa using h)
    simp only [leL, Bool.or_eq_true, decide_eq_true_eq, Bool.and_eq_true] at h1 h2
    rcases h1 with h1 | ⟨h1, h1'⟩ <;> rcases h2 with h2 | ⟨h2, h2'⟩
    · omega
    · omega
    · omega
    · rw [h1, ih h1' h2']
theorem leL_code {B : Int} : ∀ s t : List Int, s.length = t.length → TS.Bd B s → TS.Bd B t → TS.code B s ≤ TS.code B t → leL s t = true
  | [], _, _, _, _, _ => by simp [leL]
  | a :: s, [], h, _, _, _ => by simp at h
  | a :: s, b :: t, h, h1, h2, hc => by
    have hl : s.length = t.length := by simpa using h
    rcases Int.lt_trichotomy a b with z | z | z
    · simp [leL, z]
    · subst z
      have : TS.code B s ≤ TS.code B t := by
        have := (TS.code_same (B := B) (d := a) (r := t) (q := s) hl.symm)
        by_cases y : TS.code B s ≤ TS.code B t
        · exact y
        · have := this.mpr (by omega)
          omega
      have ih := leL_code s t hl h1.tail h2.tail this
      simp [leL, ih]
    · have := TS.code_lt (B := B) hl.symm h2.tail h1.tail z
      omega
def sortI (ns : List Int) : List Int := ns.mergeSort fun a b => decide (a ≤ b)
def sortL (ks : List (List Int)) : List (List Int) := ks.mergeSort leL
theorem sortI_perm (ns : List Int) : (sortI ns).Perm ns := List.mergeSort_perm _ _
theorem sortL_perm (ks : List (List Int)) : (sortL ks).Perm ks := List.mergeSort_perm _ _
theorem sortI_pw (ns : List Int) : (sortI ns).Pairwise (· ≤ ·) := by
  have := List.pairwise_mergeSort (le := fun a b : Int => decide (a ≤ b)) (fun a b c h1 h2 => by simp at *; omega) (fun a b => by simp; omega) ns
  exact this.imp fun h => by simpa using h
theorem sortL_pw (ks : List (List Int)) : (sortL ks).Pairwise (fun a b => leL a b = true) := List.pairwise_mergeSort leL_trans leL_total ks
theorem sortI_uniq {ns ms : List Int} (h : ms.Perm ns) (hs : ms.Pairwise (· ≤ ·)) : ms = sortI ns :=
  List.Perm.eq_of_pairwise (le := (· ≤ ·)) (fun a b _ _ h1 h2 => Int.le_antisymm h1 h2) hs (sortI_pw ns) (h.trans (sortI_perm ns).symm)
theorem sortL_uniq {n : Nat} {ks ms : List (List Int)} (hn : ∀ k ∈ ks, k.length = n) (h : ms.Perm ks) (hs : ms.Pairwise (fun a b => leL a b = true)) : ms = sortL ks :=
  List.Perm.eq_of_pairwise (le := fun a b => leL a b = true) (fun a b ha hb h1 h2 => leL_anti a b (by rw [hn a (h.mem_iff.mp ha), hn b ((sortL_perm ks).mem_iff.mp hb)]) h1 h2) hs (sortL_pw ks) (h.trans (sortL_perm ks).symm)
theorem bt_sorted : bootBuiltins "sorted" = some (.builtin "sorted") := PyProof.Rows.boot_sorted
def allNN (k : List Int) : Bool := k.all fun i => decide (0 ≤ i)
def sortedD : List D → Option D
  | [.lst ds] => match intsOf ds with
    | some ns => some (.lst ((sortI ns).map .int))
    | none => match tupsOf ds with
      | some (k :: ks) => if ks.length < 63 ∧ 1 ≤ k.length ∧ ((k :: ks).all fun q => decide (q.length = k.length) && allNN q) = true then some (.lst ((sortL (k :: ks)).map fun q => .tup (q.map .int))) else none
      | _ => none
  | _ => none
theorem perm_map_lift {α β : Type} {f : α → β} : ∀ {l m : List β}, l.Perm m → ∀ zs : List α, m = zs.map f → ∃ zs' : List α, zs'.Perm zs ∧ l = zs'.map f := by
  intro l m h
  induction h with
  | nil => intro zs e; exact ⟨zs, .refl _, e⟩
  | cons x h ih =>
    intro zs e
    cases zs with
    | nil => cases e
    | cons z zs =>
      injection e with e1 e2
      obtain ⟨zs', p, e3⟩ := ih zs e2
      exact ⟨z :: zs', p.cons z, by rw [e1, e3]; rfl⟩
  | swap x y l =>
    intro zs e
    cases zs with
    | nil => cases e
    | cons a zs =>
      cases zs with
      | nil => cases e
      | cons b zs =>
        injection e with e1 e2
        injection e2 with e2 e3
        exact ⟨b :: a :: zs, List.Perm.swap .., by rw [e1, e2, e3]; rfl⟩
  | trans h1 h2 ih1 ih2 =>
    intro zs e
    obtain ⟨z1, p1, e1⟩ := ih2 zs e
    obtain ⟨z2, p2, e2⟩ := ih1 z1 e1
    exact ⟨z2, p2.trans p1, e2⟩
/-- a bound for all -/
theorem bd_all : ∀ ks : List (List Int), (∀ k ∈ ks, allNN k = true) → ∃ B : Int, ∀ k ∈ ks, TS.Bd B k := by
  have one : ∀ k : List Int, allNN k = true → ∃ B : Int, TS.Bd B k := by
    intro k
    induction k with
    | nil => intro _; exact ⟨0, fun m hm => nomatch hm⟩
    | cons a k ih =>
      intro h
      simp only [allNN, List.all_cons, Bool.and_eq_true, decide_eq_true_eq] at h
      obtain ⟨B, hB⟩ := ih h.2
      refine ⟨max (a + 1) B, fun m hm => ?_⟩
      rcases List.mem_cons.mp hm with rfl | hm
      · omega
      · have := hB m hm; omega
  intro ks
  induction ks with
  | nil => intro _; exact ⟨0, fun k hk => nomatch hk⟩
  | cons k ks ih =>
    intro h
    obtain ⟨B1, h1⟩ := one k (h k (List.mem_cons_self ..))
    obtain ⟨B2, h2⟩ := ih fun q hq => h q (List.mem_cons_of_mem _ hq)
    refine ⟨max B1 B2, fun q hq m hm => ?_⟩
    rcases List.mem_cons.mp hq with rfl | hq
    · have := h1 m hm; omega
    · have := h2 q hq m hm; omega
section
variable {Y : Cfg} {X : Cx} {W : WX} {K : PySem.W.Frag} {F H : Hp}
theorem repL_ints {Y : Core} : ∀ ns : List Int, RepL K Y F (ns.map V.int) (ns.map D.int)
  | [] => .nil
  | n :: ns => .cons (.int n) (repL_ints ns)
theorem repL_tups {Y : Core} : ∀ (ps : List (Addr × List Int)), (∀ p ∈ ps, SqT K F p.1 (p.2.map V.int)) → RepL K Y F (ps.map fun p => V.ref p.1) ((ps.map (·.2)).map fun q => D.tup (q.map .int))
  | [], _ => .nil
  | p :: ps, h => .cons (.tup (h p (List.mem_cons_self ..)) (repL_ints _)) (repL_tups ps fun q hq => h q (List.mem_cons_of_mem _ hq))
theorem cd_sorted : CallD Y X (.builtin "sorted") sortedD := by
  intro pins s σ H xs us Q I r hq
  obtain ⟨F, ds, z, ex, rs, eq, k⟩ := hq
  unfold sortedD at eq
  split at eq
  · rename_i es
    obtain ⟨v, rfl, q⟩ := repL1 rs
    obtain ⟨a, ys, rfl, ha, ra⟩ := rep_lst q
    split at eq
    · rename_i ns hb
      cases eq
      have e := ints_rep ra hb
      subst e
      refine cr_sortedI pins s σ H _ us Q I r ⟨a, ns, rfl, ex_l ex ha, fun ns' p hp hs hH => ?_⟩
      have g := Gr.new (o := .lst (ns'.map V.int)) ex hH
      rw [← sortI_uniq hp hs] at k
      exact k _ _ _ g (.lst (SqL.of upd_same) (repL_ints _))
    · split at eq
      · rename_i k0 ks hb
        split at eq
        · rename_i hc
          obtain ⟨h1, h2, h3⟩ := hc
          cases eq
          obtain ⟨ps, e1, e2, e3⟩ := tups_rep ra hb
          have hall : ∀ q ∈ k0 :: ks, q.length = k0.length ∧ allNN q = true := fun q hq => by
            have := List.all_eq_true.mp h3 q hq
            simpa using this
          obtain ⟨B, hB⟩ := bd_all (k0 :: ks) fun q hq => (hall q hq).2
          subst e1
          have hlen : ps.length = ks.length + 1 := by
            have := congrArg List.length e2
            simpa using this.symm
          have hmem : ∀ p ∈ ps, p.2 ∈ k0 :: ks := fun p hp => by rw [e2]; exact List.mem_map_of_mem hp
          refine cr_sortT (d := k0.length) (B := B) h2 pins s σ H _ us Q I r ⟨a, _, rfl, ex_l ex ha, by rw [List.length_map]; omega, fun x hx => ?_, fun zs p hp hs hH => ?_⟩
          · obtain ⟨y, hy, rfl⟩ := List.mem_map.mp hx
            exact ⟨y.2, ⟨y.1, rfl, ex_t ex (e3 y hy)⟩, (hall _ (hmem y hy)).1, hB _ (hmem y hy)⟩
          · obtain ⟨qs, p1, rfl⟩ := perm_map_lift hp ps rfl
            have g := Gr.new (o := .lst (qs.map fun p => V.ref p.1)) ex hH
            have hq : ∀ y ∈ qs, SqT X.K F y.1 (y.2.map V.int) := fun y hy => e3 y (p1.mem_iff.mp hy)
            have hm : ∀ y ∈ qs, y.2 ∈ k0 :: ks := fun y hy => hmem y (p1.mem_iff.mp hy)
            have e4 : qs.map (·.2) = sortL (k0 :: ks) := by
              refine sortL_uniq (n := k0.length) (fun q hq => (hall q hq).1) (by rw [e2]; exact p1.map _) ?_
              rw [List.pairwise_map]
              rw [List.pairwise_map] at hs
              refine List.Pairwise.imp_of_mem (fun {x y} hx hy hxy => ?_) hs
              have := hxy x.2 y.2 ⟨x.1, rfl, ex_t ex (hq x hx)⟩ ⟨y.1, rfl, ex_t ex (hq y hy)⟩
              exact leL_code x.2 y.2 (by rw [(hall _ (hm x hx)).1, (hall _ (hm y hy)).1]) (hB _ (hm x hx)) (hB _ (hm y hy)) this
            rw [← e4] at k
            exact k _ _ _ g (.lst (SqL.of upd_same) (repL_tups (F := F) qs hq |>.mono g.f))
        · cases eq
      · cases eq
  · cases eq
end
theorem compD_filter {g : TM} {mt me : Env → M} {ρ : Env} (p : D → Bool) : ∀ (ds : List D), (∀ d ∈ ds, ∃ ρ1, g d ρ = some ρ1 ∧ mt ρ1 = some (.ok (.bl (p d))) ∧ me ρ1 = some (.ok d)) → compD g mt me ρ ds = some (ds.filter p)
  | [], _ => rfl
  | d :: ds, h => by
    obtain ⟨ρ1, e1, e2, e3⟩ := h d (List.mem_cons_self ..)
    have ih := compD_filter p ds fun x hx => h x (List.mem_cons_of_mem _ hx)
    unfold compD
    cases hp : p d with
    | true =>
      rw [hp] at e2
      simp only [e1, e2, e3, ih, List.filter_cons_of_pos hp]
    | false =>
      rw [hp] at e2
      simp only [e1, e2, ih]
      rw [List.filter_cons_of_neg (by simp [hp])]
theorem c_eqb {a b : Bool} : eqO (.bl a) (.bl b) = some (.bl (a == b)) := by cases a <;> cases b <;> rfl
theorem c_neb {a b : Bool} : neO (.bl a) (.bl b) = some (.bl (a != b)) := by cases a <;> cases b <;> rfl
end Den
set_option Elab.async false
set_option linter.all false
set_option maxRecDepth 100000
set_option maxHeartbeats 4000000
namespace Den
open PySem L2 PyProof.Rows
variable [Named]
/-! ### len({elt for tg in iter}), elt a text: how many different ones -/
/-- the set grows by a key each turn -/
def tKs (P : Program) (w : World) (wi : TI) (g : TG) (tt : TT) (te : TE) (vs : List Nat) : TE := fun σ H Q => wi σ H fun J Ha => ∀ a, Ha a = none → ∃ Z : Nat → Nat → Hp → Prop,
  (∃ b, Z 0 b (upd Ha a (SetK P w a (fun _ => false) 0))) ∧ ∀ i b Hb, Z i b Hb →
    (J.stop i Hb ∧ Q (.ref a) Hb) ∨
    (J.go i Hb ∧ ∃ N : Hp → Prop, (∀ Hc, N Hc → ∃ c, c < b ∧ Z (i + 1) c Hc) ∧
      ∀ x Hc, J.yld i Hb x Hc → g x (wipe σ vs) Hc fun τ Hd => wipe τ vs = wipe σ vs ∧ tt τ Hd fun q He =>
        if q = true then te τ He fun y Hf => ∃ (k : L2.Key) (S : L2.Key → Bool) (n : Nat), y = kV k ∧ Hf a = some (SetK P w a S n) ∧ n + 1 < scanBound ∧
          N (upd Hf a (SetK P w a (fun j => S j || decide (j = k)) (if S k = true then n else n + 1))) else N He)
section
variable {X : Cx} {elt tg iter : Expr} {ifs : List Expr} {scope : Scope} {own : List (Str × Nat)} {pos : Pos} {wi : TI} {g : TG} {tt : TT} {te : TE}
theorem setNoCode {P : Program} {w : World} {H : Hp} {p : Addr} {S : Key → Bool} {n : Nat} (h : H p = some (SetK P w p S n)) (q : Str) : H p ≠ some (LamX.CodeO p q) := extNoCode h (fun hp o vs k g z => by
  obtain ⟨o', es, ep, t, e1, _, e2, _⟩ := k
  rw [g] at e1
  cases e1
  rw [z] at e2
  cases e2) q
theorem pe_ks (hc : X.calm = true) (hN : X.N.Nodup) (hi : PI X tg iter wi) (ok : BlkOk X.N X.env.scope scope own)
    (hg : ∀ (s : Shared) (H : Hp) (C : Addr) (cl : List (Str × Addr)) (fp : List Addr), PG (X.blk s H scope (compEnvC scope cl C X.env) fp) tg g)
    (ht : ∀ (s : Shared) (H : Hp) (C : Addr) (cl : List (Str × Addr)) (fp : List Addr), PTs (X.blk s H scope (compEnvC scope cl C X.env) fp) ifs tt)
    (he : ∀ (s : Shared) (H : Hp) (C : Addr) (cl : List (Str × Addr)) (fp : List Addr), PE (X.blk s H scope (compEnvC scope cl C X.env) fp) elt te)
    (hs : ∀ x, foldedSetIterable iter X.env x = pure x := by intro _; rfl) :
    PE X (.SetComp elt [⟨tg, iter, ifs, 0⟩] scope pos) (tKs X.prog X.w wi g tt te (own.map (·.2))) := by
  refine ⟨fun pins s σ H Q I wish => ?_⟩
  rw [PpSet.eval_SetComp]
  have cells : ∀ y ∈ scope.names, y.2 = .free → ∃ c, X.env.cells.lookup y.1 = some c := fun y my ey => I.ok.has _ ((ok.free y my ey).elim .inl .inr)
  refine wpAny_comprehension_free (use := none) rfl hs (closure_ok cells) ok.kind (fun y my ey => by rw [ok.uniq y my, ey]) (thn (hi.run pins s σ H _ I wish) fun _ _ hx => thn hx fun _ sA hA => ?_)
  obtain ⟨it, fp, tn, J, HA, rfl, IA, T, stA, fpA, rest⟩ := hA
  refine PpSet.newSet_ok (newEnv_comp ?_)
  generalize ea : sA.heap.objs.size = a at *
  have nA : HA a = none := IA.hok.fresh (Nat.le_of_eq ea)
  obtain ⟨Z, ⟨b0, z0⟩, turn⟩ := rest a nA
  -- the empty set is laid
  generalize eB : ({ sA with heap := sA.heap.push { cls := .type "set", dict := none, data := .set #[] 0 (.fresh 0 0 (!X.w.params.followText "set-order")) } } : Shared) = sB
  have hpB : sB.heap = sA.heap.push { cls := .type "set", dict := none, data := .set #[] 0 (.fresh 0 0 (!X.w.params.followText "set-order")) } := eB ▸ rfl
  have oldB : ∀ (p : Addr) (o : Obj), sA.heap.get? p = some o → sB.heap.get? p = some o := fun p o e => by rw [hpB]; exact Heap.get?_push_of_some _ e
  have IB : Inv X pins σ (upd HA a (SetK X.prog X.w a (fun _ => false) 0)) sB := by
    subst eB
    refine IA.laid (t' := sA.toks) (fun p o e => Heap.get?_push_of_some _ e) (Nat.le_of_eq ea) (setK_new ?_)
    subst ea
    exact ⟨_, #[], 0, _, Heap.get?_push_size _ rfl, ⟨rfl, rfl, rfl⟩, rfl, (fun e he => by simp at he), (fun k => by simp), (by decide), (by rfl), rfl⟩
  have fpB : ∀ p ∈ fp, FpOk X pins (upd HA a (SetK X.prog X.w a (fun _ => false) 0)) p ∧ p < sB.heap.objs.size := fun p hp => by
    obtain ⟨o, e, _⟩ := T.obj _ _ stA p hp
    have lt := Heap.lt_size e
    refine ⟨⟨?_, (fpA p hp).2⟩, by rw [hpB, Heap.size_push]; exact Nat.lt_succ_of_lt lt⟩
    rw [upd_ne (Nat.ne_of_lt (ea ▸ lt))]
    exact (fpA p hp).1
  have stB : tn 0 sB.heap := T.keep _ _ _ stA fun p _ o e => oldB p o e
  -- the block
  have IC := block_start IB ok hN fpB
  generalize eH : upd HA a (SetK X.prog X.w a (fun _ => false) 0) = HB at IB IC z0 fpB
  have PGb := hg sB HB sB.heap.objs.size (cellsFrom (sB.heap.objs.size + 1) scope.names (cloFrom X.env.cells scope.names [])) fp
  have PTb := ht sB HB sB.heap.objs.size (cellsFrom (sB.heap.objs.size + 1) scope.names (cloFrom X.env.cells scope.names [])) fp
  have PEb := he sB HB sB.heap.objs.size (cellsFrom (sB.heap.objs.size + 1) scope.names (cloFrom X.env.cells scope.names [])) fp
  generalize eE : compEnvC scope (cellsFrom (sB.heap.objs.size + 1) scope.names (cloFrom X.env.cells scope.names [])) sB.heap.objs.size X.env = env2 at IC PGb PTb PEb
  have eL : env2.locals = sB.heap.objs.size := eE ▸ rfl
  generalize eC : ({ sB with heap := pushCells (sB.heap.push { cls := .type "dict", data := .dict #[] }) scope.names } : Shared) = sC at IC
  have stC : tn 0 sC.heap := T.keep _ _ _ stB fun p _ o e => by subst eC; exact pushCells_keeps _ _ _ _ (Heap.get?_push_of_some _ e)
  have fpOk : ∀ {τ : L2.St} {H' : Hp} {s' : Shared}, Inv (X.blk sB HB scope env2 fp) [] τ H' s' → (∀ p ∈ fp, H' p = none) → ∀ p ∈ fp, FpOk (X.blk sB HB scope env2 fp) [] H' p := fun I' n p hp =>
    ⟨n p hp, (I'.ok.exf p hp).1, I'.ok.exfs p hp, .inl hp, fun x c e => (I'.ok.exf p hp).2 x c e, fun q hq => absurd (show q ∈ ([] : List (Addr × Obj)) ++ [] from hq) (by simp)⟩
  have loop : codeAny (model X.prog X.w) X.A (.compLoop (.SetComp elt [⟨tg, iter, ifs, 0⟩] scope pos) 0 (.ref it) (.ref a) env2) (compPost (model X.prog X.w) X.A X.xe none (EP X pins σ Q) (.ref a) sB.heap.objs.size) sC := by
    refine PpSet.compLoopS_any (fun b s' => ∃ i H', Inv (X.blk sB HB scope env2 fp) [] (wipe σ (own.map (·.2))) H' s' ∧ tn i s'.heap ∧ (∀ p ∈ fp, H' p = none) ∧ Z i b H') ?_ b0 ⟨0, HB, IC, stC, fun p hp => (fpB p hp).1.1, z0⟩
    rintro b sD ⟨i, HD, ID, stD, nD, zD⟩
    rcases turn i b HD zD with ⟨stop, fin⟩ | ⟨go, N, hNx, step⟩
    · refine thnF (T.done (X.blk sB HB scope env2 fp) rfl rfl rfl hc i [] sD _ HD (fun _ _ => False) ID (fpOk ID nD) stD stop) fun r sE ⟨hr, IE⟩ => ?_
      subst hr
      have IX : Inv X pins σ HD sE := IB.call' (ch := fp) IE.os IE.base IE.hok IE.bare fun p hp => ⟨(fpB p hp).1.2.2.2.1, (fpB p hp).1.2.1, (fpB p hp).1.2.2.2.2.1, (fpB p hp).1.2.2.2.2.2⟩
      obtain ⟨m, hm, _⟩ := IE.loc
      have hm : sE.heap.Ns env2.locals m := hm
      have free : HD env2.locals = none := IE.free
      rw [eL] at hm free
      obtain ⟨k0, k1, k2, k3, k4, k5⟩ := IB.fpOk (Nat.le_refl _) free
      exact ⟨m, hm, fun h'' sb => ⟨.ref a, HD, IX.turned (t' := sE.toks) (fun p o hp e => (sb.2 p hp).trans e) k0 k1 k3 k4 k5, rfl, fin⟩⟩
    · refine thnF (T.item (X.blk sB HB scope env2 fp) rfl rfl rfl hc i [] sD _ HD (fun _ _ => False) ID (fpOk ID nD) stD go) fun r sE ⟨u, hr, hE⟩ => ?_
      subst hr
      refine thnF hE fun _ sF ⟨x, HF, IF', rF, yF, stF, nF⟩ => ?_
      refine thnF (PGb.run _ sF _ HF x u _ (IF'.pinned (fpOk IF' nF) (T.obj _ _ stF)) rF (step x HF yF)) fun _ sG ⟨τ, HG, IG, hw, qG⟩ => ?_
      refine thnF (PTb.run _ sG τ HG _ IG qG) fun q sH ⟨HH, IH, qH⟩ => ?_
      have close : ∀ {s' : Shared} {H' : Hp}, Inv (X.blk sB HB scope env2 fp) ([] ++ pinsAt fp sF.heap) τ H' s' → N H' → ∃ c, c < b ∧ ∃ i H', Inv (X.blk sB HB scope env2 fp) [] (wipe σ (own.map (·.2))) H' s' ∧ tn i s'.heap ∧ (∀ p ∈ fp, H' p = none) ∧ Z i c H' := by
        intro s' H' I' nx
        obtain ⟨c, lt, z⟩ := hNx H' nx
        have held : ∀ p ∈ fp, ∀ o, sF.heap.get? p = some o → s'.heap.get? p = some o ∧ H' p = none := fun p hp o e => by
          have y := I'.pin (p, o) (List.mem_append_right _ (List.mem_append_right _ (mem_pinsAt hp e)))
          exact ⟨y.1, y.2.1⟩
        refine ⟨c, lt, i + 1, H', (I'.unpinned (pins := [])).weak (by rw [← hw, wipe_length]) (fun j v e => (wipe_some (by rw [hw]; exact e)).1), T.keep _ _ _ stF fun p hp o e => (held p hp o e).1, fun p hp => ?_, z⟩
        obtain ⟨o, e, _⟩ := T.obj _ _ stF p hp
        exact (held p hp o e).2
      cases q with
      | false =>
        simp only [Bool.false_eq_true, if_false] at qH ⊢
        exact close IH qH
      | true =>
        simp only [if_true] at qH ⊢
        refine thnF (PEb.run _ sH τ HH _ IH qH) fun v sI ⟨y, HI, II, ry, k, S, n, ey, hS, room, nx⟩ => ?_
        subst ey
        refine thnF (mt_saddK (X := X.blk sB HB scope env2 fp) _ sI τ HI (.ref a) [kV k] (.ref a) [v] (fun _ H' => N H') II rfl (.cons ry .nil) ⟨a, k, S, n, rfl, rfl, hS, room, nx⟩) fun _ sJ ⟨_, HJ, IJ, _, nJ⟩ => close IJ nJ
  subst eE
  subst eC
  exact PpSet.codeAny_compStart_set loop (T.self X.A 0 _ _ _ stC loop)
end

theorem ddup_snoc {α : Type} [DecidableEq α] (s : α) : ∀ l : List α, (ddup (l ++ [s])).length = if s ∈ l then (ddup l).length else (ddup l).length + 1
  | [] => by simp [ddup]
  | x :: l => by
    have ih := ddup_snoc s l
    have hm : (x ∈ l ++ [s]) ↔ (x ∈ l ∨ x = s) := by simp
    show (if x ∈ l ++ [s] then ddup (l ++ [s]) else x :: ddup (l ++ [s])).length = if s ∈ x :: l then (if x ∈ l then ddup l else x :: ddup l).length else (if x ∈ l then ddup l else x :: ddup l).length + 1
    by_cases h1 : x ∈ l
    · rw [if_pos (hm.mpr (.inl h1)), if_pos h1, ih]
      by_cases h2 : s ∈ l
      · rw [if_pos h2, if_pos (List.mem_cons_of_mem _ h2)]
      · have h3 : s ∉ x :: l := fun z => by
          rcases List.mem_cons.mp z with rfl | z
          · exact h2 h1
          · exact h2 z
        rw [if_neg h2, if_neg h3]
    · by_cases h2 : x = s
      · subst h2
        rw [if_pos (hm.mpr (.inr rfl)), if_neg h1, ih, if_neg h1, if_pos (List.mem_cons_self ..), List.length_cons]
      · rw [if_neg (fun z => (hm.mp z).elim h1 h2), if_neg h1, List.length_cons, ih]
        by_cases h3 : s ∈ l
        · rw [if_pos h3, if_pos (List.mem_cons_of_mem _ h3), List.length_cons]
        · have h4 : s ∉ x :: l := fun z => by
            rcases List.mem_cons.mp z with rfl | z
            · exact h2 rfl
            · exact h3 z
          rw [if_neg h3, if_neg h4, List.length_cons]
def strsOf : List D → Option (List Str)
  | [] => some []
  | .str s :: ds => (strsOf ds).map (s :: ·)
  | _ => none
/-- how many different texts the items are -/
def dLenKs (vs : List Nat) (mi : Env → ML) (g : TM) (mt me : Env → M) : Env → M := fun ρ => match mi ρ with
  | some (.ok ds) => if ds.length < 64 then match compD g mt me (wipeE ρ vs) ds with
    | some xs => match strsOf xs with
      | some ss => some (.ok (.int (ddup ss).length))
      | none => none
    | none => none
    else none
  | some (.exc x) => some (.exc x)
  | none => none
/-- what the set holds when these texts have been put in -/
def memK (A : List Str) : L2.Key → Bool := fun k => match k with
  | .inr s => decide (s ∈ A)
  | .inl _ => false
section
variable {Y : Cfg} {X : Cx} {W : WX} {K : PySem.W.Frag} {elt tg iter : Expr} {ifs : List Expr} {scope : Scope} {own : List (Str × Nat)} {p pos pos2 : Pos} {mi : Env → ML} {g : TM} {mt me : Env → M} {P : Program} {w : World}
theorem memK_nil : memK [] = fun _ => false := by
  funext j
  cases j with
  | inl i => rfl
  | inr x => simp [memK]
theorem memK_snoc (A : List Str) (s : Str) : (fun j => memK A j || decide (j = Sum.inr s)) = memK (A ++ [s]) := by
  funext j
  cases j with
  | inl i => simp [memK]
  | inr x => simp [memK, Bool.decide_or]
theorem sat_ks {js vs : List Nat} (hj : ∀ j ∈ js, j ∈ vs) : ∀ ρ r, dLenKs vs mi g mt me ρ = some r → ∀ F0 H0 F σ H, Rel K Y F0 H0 F σ H ρ → ∀ Q : VK, WantE Y W K F σ H r Q →
    ∀ Q2 : VK, (∀ a S (n : Nat) H1, H1 a = some (SetK P w a S n) → Q (.int n) H1 → Q2 (.ref a) H1) → tKs P w (iM Y W K mi) (gM Y K js g) (tMT Y W0 K mt) (tM Y W0 K me) vs σ H Q2 := by
  intro ρ r h F0 H0 F σ H R Q want Q2 hQ2
  unfold dLenKs at h
  split at h
  · rename_i ds e1
    split at h
    · rename_i hz
      split at h
      · rename_i res e2
        split at h
        · rename_i ss e0
          cases h
          refine ⟨F0, H0, F, ρ, _, R, e1, fun J F1 H1 g1 wk a ha => ?_⟩
          obtain ⟨G, Yf, wlk, hG, hY⟩ := wk
          have R1 := (R.grow g1).wipe vs
          let Pv : Nat → Hp → Prop := fun i H' => ∃ F' done rest todo, Gr F1 H1 F' H' ∧ F' a = none ∧ H' a = some (SetK P w a (memK done) (ddup done).length) ∧ done.length ≤ i ∧ compD g mt me (wipeE ρ vs) (ds.drop i) = some rest ∧ strsOf rest = some todo ∧ done ++ todo = ss
          refine ⟨fun i b H' => b = ds.length - i ∧ i ≤ ds.length ∧ Pv i H', ⟨ds.length, by simp, Nat.zero_le _, F1, [], res, ss, Gr.heap g1.fh (Ex.new ha), fresh_back g1.fh ha, by rw [upd_same, memK_nil]; rfl, Nat.le_refl _, e2, e0, rfl⟩, ?_⟩
          rintro i b H2 ⟨rfl, hi, F', done, rest, todo, g', fD, hDl, hle, hc, hst, hss⟩
          have q := hG H2 (g'.f.trans g'.fh)
          by_cases hlt : i < ds.length
          · refine .inr ⟨wlk.goes i H2 hlt q, Pv (i + 1), fun H' p' => ⟨ds.length - (i + 1), by omega, rfl, hlt, p'⟩, fun x H3 yl => ?_⟩
            obtain ⟨d, F2, hd, g2, rd⟩ := hY i H2 x H3 hlt (g'.f.trans g'.fh) (wlk.yields i H2 x H3 hlt q yl) F' g'.f g'.fh
            have hdrop : ds.drop i = d :: ds.drop (i + 1) := by
              have hl := (List.getElem?_eq_some_iff.mp hd).2
              rw [← hl]; exact List.drop_eq_getElem_cons hlt
            rw [hdrop] at hc
            have g12 := g'.trans g2
            have fD2 : F2 a = none := (g2.old _ _ hDl).trans fD
            have hD2 := g2.h _ _ hDl
            unfold compD at hc
            cases e3 : g d (wipeE ρ vs) with
            | none => rw [e3] at hc; cases hc
            | some ρ1 =>
              simp only [e3] at hc
              refine ⟨F0, H0, F2, wipeE ρ vs, d, ρ1, R1.grow g12, rd, e3, fun σ' o' R' => ⟨wipe_only o' hj, ?_⟩⟩
              cases e4 : mt ρ1 with
              | none => rw [e4] at hc; cases hc
              | some r4 =>
                cases r4 with
                | exc z => rw [e4] at hc; cases hc
                | ok d4 =>
                  cases d4 with
                  | bl b4 =>
                    refine ⟨F0, H0, F2, ρ1, _, R', e4, fun b eb F4 H4 g4 => ?_⟩
                    cases eb
                    have fD4 : F4 a = none := (g4.old _ _ hD2).trans fD2
                    have hD4 := g4.h _ _ hD2
                    cases b4 with
                    | false =>
                      simp only [e4] at hc
                      exact iteF ⟨F4, done, rest, todo, g12.trans g4, fD4, hD4, by omega, hc, hst, hss⟩
                    | true =>
                      simp only [e4] at hc
                      refine iteT ?_
                      cases e5 : me ρ1 with
                      | none => rw [e5] at hc; cases hc
                      | some r5 =>
                        cases r5 with
                        | exc z => rw [e5] at hc; cases hc
                        | ok x5 =>
                          simp only [e5] at hc
                          cases e6 : compD g mt me (wipeE ρ vs) (ds.drop (i + 1)) with
                          | none => rw [e6] at hc; cases hc
                          | some rest' =>
                            rw [e6] at hc; cases hc
                            cases x5 with
                            | str s =>
                              cases e7 : strsOf rest' with
                              | none => simp only [strsOf, e7] at hst; cases hst
                              | some todo' =>
                                simp only [strsOf, e7, Option.map] at hst
                                cases hst
                                refine ⟨F0, H0, F4, ρ1, _, R'.grow g4, e5, fun v F5 H5 g5 r5 => ?_⟩
                                cases r5
                                have fD5 : F5 a = none := (g5.old _ _ hD4).trans fD4
                                have hD5 := g5.h _ _ hD4
                                have gg := (g12.trans g4).trans g5
                                have nb : (ddup done).length + 1 < scanBound := by
                                  have := ddup_le done
                                  show _ < 4096
                                  omega
                                refine ⟨.inr s, memK done, _, rfl, hD5, nb, F5, done ++ [s], rest', todo', ⟨gg.f, fun c u q => ?_, fun c u q => ?_, gg.old⟩, fD5, ?_, by rw [List.length_append]; simp; omega, e6, e7, by rw [← hss]; simp⟩
                                · exact (gg.fh c u q).mut (ne_of_none q fD5) (setNoCode hD5)
                                · exact (gg.h c u q).mut (ne_of_none q ha) (setNoCode hD5)
                                · rw [upd_same, memK_snoc, ddup_snoc]
                                  congr 2
                                  simp [memK]
                            | _ => simp [strsOf] at hst
                  | _ => rw [e4] at hc; cases hc
          · have ei : i = ds.length := by omega
            subst ei
            refine .inl ⟨wlk.stops H2 q, ?_⟩
            rw [List.drop_length] at hc
            cases hc
            cases hst
            rw [List.append_nil] at hss
            subst hss
            exact hQ2 a _ _ _ hDl (want _ F' H2 (g1.trans g') (.int _))
        · cases h
      · cases h
    · cases h
  · rename_i x e1
    cases h
    exact ⟨F0, H0, F, ρ, _, R, e1, want⟩
  · cases h
theorem cr_lenK : CallR X (.builtin "len") (fun xs H Q => ∃ a S n, xs = [.ref a] ∧ H a = some (SetK X.prog X.w a S n) ∧ Q (.int n) H) := by
  intro pins s σ H xs us Q I r h
  obtain ⟨a, S, n, rfl, ha, q⟩ := h
  rw [Vals.ref1 r]
  obtain ⟨o, es, ep, t, ho, hex, hd, _, _, hb, hf, hn⟩ := setK_get I ha
  have hb2 : es.size < 4096 := hb
  refine call_len_set ho hex hd hf (by omega) ⟨.int n, H, I.tok _, ⟨_, by rw [hn]⟩, q⟩
/-- len({elt for tg in iter if ..}) -/
theorem ge_lenKs {js : List Nat} (own : List (Str × Nat)) (hc : X.calm = true) (hN : X.N.Nodup) (hg2 : Gl X "len") (hm2 : X.mg "len" = none) (hi : GI Y X W tg iter mi) (ok : BlkOk X.N X.env.scope scope own)
    (hg : ∀ (s : Shared) (H : Hp) (C : Addr) (cl : List (Str × Addr)) (fp : List Addr), GG Y (X.blk s H scope (compEnvC scope cl C X.env) fp) tg js g) (hj : ∀ j ∈ js, j ∈ own.map (·.2))
    (ht : ∀ (s : Shared) (H : Hp) (C : Addr) (cl : List (Str × Addr)) (fp : List Addr), GTs Y (X.blk s H scope (compEnvC scope cl C X.env) fp) ifs mt)
    (he : ∀ (s : Shared) (H : Hp) (C : Addr) (cl : List (Str × Addr)) (fp : List Addr), GE Y (X.blk s H scope (compEnvC scope cl C X.env) fp) W0 elt me) (hs : ∀ x, foldedSetIterable iter X.env x = pure x := by intro _; rfl)
    (hst : starEach [.SetComp elt [⟨tg, iter, ifs, 0⟩] scope pos2] X.env = (false, eval (.SetComp elt [⟨tg, iter, ifs, 0⟩] scope pos2) X.env) :: starEach [] X.env := by rfl) :
    GE Y X W (.Call (.Name "len" p) [.SetComp elt [⟨tg, iter, ifs, 0⟩] scope pos2] [] pos) (dLenKs (own.map (·.2)) mi g mt me) := by
  have pk := pe_ks (pos := pos2) (g := gM Y X.K js g) (tt := tMT Y W0 X.K mt) (te := tM Y W0 X.K me) hc hN hi.pi ok (fun s H C cl fp => (hg s H C cl fp).pg) (fun s H C cl fp => (ht s H C cl fp).pts) (fun s H C cl fp => (he s H C cl fp).pe) hs
  refine ⟨_, pe_callB cr_lenK hg2 hm2 bt_len (pa_cons pk pa_nil hst) (by decide) (by decide) hst rfl, fun ρ r h F0 H0 F σ H R Q w => ?_⟩
  show tKs X.prog X.w (iM Y W X.K mi) (gM Y X.K js g) (tMT Y W0 X.K mt) (tM Y W0 X.K me) (own.map (·.2)) σ H (fun x H1 => ∃ a S n, [x] = [V.ref a] ∧ H1 a = some (SetK X.prog X.w a S n) ∧ Q (.int (n : Nat)) H1)
  exact sat_ks (W := W) (P := X.prog) (w := X.w) hj ρ r h F0 H0 F σ H R Q w _ fun a S n H1 ha q => ⟨a, S, n, rfl, ha, q⟩
end
@[simp] theorem is_blbl {a b : Bool} : isO (.bl a) (.bl b) = some (.bl (a == b)) := rfl
@[simp] theorem isn_blbl {a b : Bool} : isnO (.bl a) (.bl b) = some (.bl (!(a == b))) := rfl
@[simp] theorem is_strbl {a : Str} {b : Bool} : isO (.str a) (.bl b) = some (.bl false) := rfl
@[simp] theorem isn_strbl {a : Str} {b : Bool} : isnO (.str a) (.bl b) = some (.bl true) := rfl
@[simp] theorem is_nonbl {b : Bool} : isO .non (.bl b) = some (.bl false) := rfl
@[simp] theorem isn_nonbl {b : Bool} : isnO .non (.bl b) = some (.bl true) := rfl
end Den
set_option Elab.async false
set_option linter.all false
set_option maxRecDepth 100000
set_option maxHeartbeats 4000000
namespace Den
open PySem L2
variable [Named]
/-! ### a list of the frame's own is lent to a call whose answer keeps nothing of it; x = list(..), x.clear(); C(k = v, ..) -/
mutual
/-- no list in it -/
def noLst : D → Bool
  | .lst _ => false
  | .dic _ _ => false
  | .tup ds => noLsts ds
  | .obj _ ds => noLsts ds
  | _ => true
def noLsts : List D → Bool
  | [] => true
  | d :: ds => noLst d && noLsts ds
end
/-- the told part without one object -/
def less (F : Hp) (p : Addr) : Hp := fun a => if a = p then none else F a
theorem less_ne {F : Hp} {p a : Addr} (h : a ≠ p) : less F p a = F a := if_neg h
theorem less_at {F : Hp} {p a : Addr} {o : HO} (h : less F p a = some o) : a ≠ p ∧ F a = some o := by
  unfold less at h
  split at h
  · cases h
  · rename_i n; exact ⟨n, h⟩
section
variable {K : PySem.W.Frag} {Y : Core} {F : Hp} {p : Addr} {us : List V}
theorem ExO.cut {F' : Hp} {a pp : Addr} {o : HO} (h : ExO F' a o) (c : a ≠ pp) (hc : ∀ q, F' pp ≠ Option.some (LamX.CodeO pp q)) : ExO (Den.less F' pp) a o := by
  cases o with
  | tbl ps =>
    obtain ⟨m, e1, t1⟩ := h
    refine ⟨m, by rw [less_ne c]; exact e1, t1.up fun d hd => ?_⟩
    rw [less_ne (fun z => hc _ (by rw [z] at hd; exact hd))]
    exact hd
  | _ => show less F' pp a = _; rw [less_ne c]; exact h
theorem rd_less {a : Addr} {o : HO} (hp : F p = some (.lst us)) (ho : ∀ xs, o ≠ .lst xs) (h : Rd F a o) : Rd (less F p) a o := by
  rcases h with h | ⟨q, h⟩
  · refine .inl ?_
    rw [less_ne]; exact h
    intro e; subst e; rw [hp] at h; cases h; exact ho _ rfl
  · refine .inr ⟨q, ?_⟩
    rw [less_ne]; exact h
    intro e; subst e; rw [hp] at h; cases h
theorem ins_less {a C dx : Addr} {fs : List (Str × V)} (hp : F p = some (.lst us)) (h : F a = some (.ins C dx fs)) : less F p a = some (.ins C dx fs) := by
  rw [less_ne]; exact h
  intro e; subst e; rw [hp] at h; cases h
theorem sqt_less {a : Addr} {xs : List V} (hp : F p = some (.lst us)) (h : SqT K F a xs) : SqT K (less F p) a xs := h.imp (rd_less hp fun _ e => nomatch e) id
theorem noL1 {d : D} {ds : List D} (q : noLsts (d :: ds) = true) : noLst d = true := by
  have q : noLst d = true ∧ noLsts ds = true := by simpa [noLsts] using q
  exact q.1
theorem noL2 {d : D} {ds : List D} (q : noLsts (d :: ds) = true) : noLsts ds = true := by
  have q : noLst d = true ∧ noLsts ds = true := by simpa [noLsts] using q
  exact q.2
mutual
theorem Rep.less (hp : F p = some (.lst us)) : ∀ {d : D} {v : V}, Rep K Y F v d → noLst d = true → Rep K Y (less F p) v d
  | _, _, .non, _ => .non
  | _, _, .bl b, _ => .bl b
  | _, _, .int i, _ => .int i
  | _, _, .str x, _ => .str x
  | _, _, .tup h r, q => .tup (sqt_less hp h) (RepL.less hp r (by simpa [noLst] using q))
  | _, _, .lst h r, q => absurd q (by simp [noLst])
  | _, _, .dic h l r, q => absurd q (by simp [noLst])
  | _, _, .obj h l r, q => .obj (ins_less hp h) l (RepL.less hp r (by simpa [noLst] using q))
theorem RepL.less (hp : F p = some (.lst us)) : ∀ {ds : List D} {vs : List V}, RepL K Y F vs ds → noLsts ds = true → RepL K Y (less F p) vs ds
  | _, _, .nil, _ => .nil
  | _, _, .cons h r, q => .cons (Rep.less hp h (noL1 q)) (RepL.less hp r (noL2 q))
end
end
section
variable {Y : Cfg} {X : Cx} {W : WX} {K : PySem.W.Frag} {a e : Expr} {es : List Expr} {kws : List Keyword} {ma : Env → M} {ms mk : Env → ML} {pos p p2 : Pos} {F0 H0 F H : Hp} {σ : L2.St} {ρ : Env} {k : Nat} {f C : Addr} {fd : FuncData} {ps ks : List Str} {m : Mn} {x nm : Str}
/-- e is asked while the own list in slot i is told; its answer holds no list -/
def dLend (i : Nat) (m : Env → M) : Env → M := fun ρ => match ρ[i]? with
  | some (some (.own ds)) => match m (ρ.set i (some (.val (.lst ds)))) with
    | some (.ok d) => if noLst d = true then some (.ok d) else none
    | _ => none
  | _ => none
theorem ge_lend (i : Nat) (h : GE Y X W e ma) : GE Y X W e (dLend i ma) := by
  obtain ⟨t, pt, q⟩ := h
  refine ⟨t, pt, fun ρ r h F0 H0 F σ H R Q w => ?_⟩
  unfold dLend at h
  split at h
  · rename_i ds ei
    split at h
    · rename_i d e2
      split at h
      · rename_i hn
        cases h
        have hi : i < ρ.length := (List.getElem?_eq_some_iff.mp ei).1
        obtain ⟨v, vi, pp, xs, rfl, h0, fp, hp, rr⟩ := R.sl i _ ei
        have R1 : Rel X.K Y F0 H0 (upd F pp (.lst xs)) σ H (ρ.set i (some (.val (.lst ds)))) := by
          have e : Ex F (upd F pp (.lst xs)) := Ex.new fp
          refine ⟨⟨R.gr.f.trans e, fun a u q => ?_, R.gr.h, fun a u q => ?_⟩, by simp [R.len], fun j s q => ?_, fun j k s t p' hjk ej ek ms mt vj => ?_, R.tb⟩
          · by_cases c : a = pp
            · subst c; rw [upd_same] at q; cases q; exact hp
            · rw [upd_ne c] at q; exact R.ex a u q
          · rw [upd_ne (ne_of_none q h0)]; exact R.gr.old a u q
          · by_cases c : i = j
            · subst c
              rw [List.getElem?_set_self hi] at q; cases q
              exact ⟨_, vi, .lst (SqL.of upd_same) (rr.mono e)⟩
            · rw [List.getElem?_set_ne c] at q
              obtain ⟨v, e1, z⟩ := R.sl j s q
              refine ⟨v, e1, ?_⟩
              cases s with
              | val d => exact Rep.mono e z
              | own es =>
                obtain ⟨p', xs', rfl, a, b, c', r'⟩ := z
                refine ⟨p', xs', rfl, a, ?_, c', r'.mono e⟩
                rw [upd_ne]; exact b
                intro z; subst z; exact R.dis i j _ _ _ c ei q rfl rfl vi e1
              | ins c2 fs =>
                obtain ⟨dx, xs', rfl, a, b, c', r'⟩ := z
                refine ⟨dx, xs', rfl, a, ?_, c', r'.mono e⟩
                rw [upd_ne]; exact b
                intro z; rw [← z] at vi; exact R.dis i j _ _ _ c ei q rfl rfl vi e1
              | exv x => exact ⟨z.1, z.2.1, z.2.2.grow e fun a fs e => e⟩
          · have nj : i ≠ j := fun c => by subst c; rw [List.getElem?_set_self hi] at ej; cases ej; cases ms
            have nk : i ≠ k := fun c => by subst c; rw [List.getElem?_set_self hi] at ek; cases ek; cases mt
            rw [List.getElem?_set_ne nj] at ej
            rw [List.getElem?_set_ne nk] at ek
            exact R.dis j k s t p' hjk ej ek ms mt vj
        refine q _ _ e2 F0 H0 _ σ H R1 Q fun v F' H' g r => ?_
        have fp' : F' pp = some (.lst xs) := g.f _ _ upd_same
        refine w v (less F' pp) H' ⟨fun c u z => ?_, fun c u z => g.fh c u (less_at z).2, g.h, fun c u z => ?_⟩ (r.less fp' hn)
        · have : c ≠ pp := fun z' => by subst z'; rw [fp] at z; cases z
          exact (g.f c u (by rw [upd_ne this]; exact z)).cut this (noCode fp' fun _ z => nomatch z)
        · by_cases c' : c = pp
          · subst c'
            show (if c = c then none else F' c) = F c
            rw [if_pos rfl, fp]
          · rw [less_ne c', g.old c u z, upd_ne c']
      · cases h
    · cases h
  · cases h
/-- x = list(e), the frame's own -/
def dOwnList (i : Nat) (ma : Env → M) : SM := fun ρ => bo (ma ρ) ρ fun d => match d with
  | .lst ds => some (.nx (ρ.set i (some (.own ds))))
  | .tup ds => some (.nx (ρ.set i (some (.own ds))))
  | _ => none
theorem gs_ownList (i : Nat) {y : Str} {pos' : Pos} (hN : X.N.Nodup) (ha : GE Y X W a ma) (hg : Gl X "list") (hm : X.mg "list" = none) (hi : X.N[i]? = some y := by rfl) (hx : Loc X.env.scope y := by first | exact Or.inl rfl | exact Or.inr rfl)
    (hs : swapsWith (.Call (.Name "list" p2) [a] [] p) (some (.Name y pos')) pos.line X.env = pure false := by rfl) (he : starEach [a] X.env = (false, eval a X.env) :: starEach [] X.env := by rfl)
    (hf : X.fn y = true ∨ X.env.scope.names.lookup y = some .local := by first | exact .inl rfl | exact .inr rfl | assumption) : GS Y X W (.Assign [.Name y pos'] (.Call (.Name "list" p2) [a] [] p) pos) (dOwnList i ma) := by
  obtain ⟨t, pt, q⟩ := ha
  refine ⟨_, ps_set (i := i) hN hi hx (pe_callTy call_list_of hg hm PyProof.Rows.boot_list (pa_cons pt pa_nil he) (by decide) (by decide) he rfl) hs hf, fun ρ o h F0 H0 F σ H R D w => ?_⟩
  rcases bo_some h with ⟨d, e1, h⟩ | ⟨z, e1, rfl⟩
  · refine q ρ _ e1 F0 H0 F σ H R _ fun v F1 H1 g1 r1 => ?_
    split at h
    · cases h
      obtain ⟨a1, ys, rfl, ha1, ra⟩ := rep_lst r1
      exact ⟨a1, ys, rfl, .inl (ex_l g1.fh ha1), fun l hl => w F1 _ _ g1.f ((R.grow g1).setOwn hl ra)⟩
    · cases h
      obtain ⟨a1, ys, rfl, ha1, ra⟩ := rep_tup r1
      exact ⟨a1, ys, rfl, .inr (ex_t g1.fh ha1), fun l hl => w F1 _ _ g1.f ((R.grow g1).setOwn hl ra)⟩
    · cases h
  · exact q ρ _ e1 F0 H0 F σ H R _ fun F' H' dx g xr => w F' σ H' dx g.f (R.grow g) xr
/-- x.clear() -/
def dClear (i : Nat) : SM := fun ρ => match ρ[i]? with
  | some (some (.own _)) => some (.nx (ρ.set i (some (.own []))))
  | _ => none
theorem gs_clear (i : Nat) {y : Str} {p1 apos cpos : Pos} (hN : X.N[i]? = some y := by rfl) (hv : Vis X.env.scope y := by first | exact Or.inl rfl | exact Or.inr (Or.inl rfl) | exact Or.inr (Or.inr rfl)) (hd : (y == ("__debug__" : Str)) = false := by decide)
    (hcd : (y == ("__classdict__" : Str)) = false := by decide) (hbase : attributeBase (.Name y p1) "clear" X.env (eval (.Name y p1) X.env) = eval (.Name y p1) X.env := by rfl)
    (hline : (apos.endLine == cpos.line) = true := by rfl) (hs : swapsWith (.Call (.Attribute (.Name y p1) "clear" apos) [] [] cpos) none pos.line X.env = pure false := by rfl) :
    GS Y X W (.Expr (.Call (.Attribute (.Name y p1) "clear" apos) [] [] cpos) pos) (dClear i) := by
  refine ⟨_, ps_expr (pe_bm0 PySem.F.plainAttrs_list PySem.F.slot_list_clear PySem.F.type_list_clear mt_clear (pe_var hN hv hd hcd) hbase hline) hs, fun ρ o h F0 H0 F σ H R D w => ?_⟩
  unfold dClear at h
  split at h
  · rename_i ds ei
    cases h
    obtain ⟨v, vi, pp, xs, rfl, h0, fp, hp, rr⟩ := R.sl i _ ei
    refine ⟨.ref pp, vi, .inl ⟨rfl, xs, SqL.of hp⟩, pp, xs, rfl, rfl, hp, ?_⟩
    exact w F σ _ (Ex.refl F) (R.change ei rfl vi h0 fp (fun a fs e z => by rw [z, hp] at e; cases e) ⟨pp, [], rfl, h0, fp, upd_same, .nil⟩ rfl)
  · cases h
theorem pick_cons {α : Type} (b : α) : ∀ (src : List (Bool × Nat)) (us mv ws : List α), pick src (b :: us) mv ws = b :: pick src us mv ws
  | [], _, _, _ => rfl
  | (true, i) :: l, us, mv, ws => by
    show pick l (b :: us ++ _) mv ws = _
    rw [List.cons_append, pick_cons b l]; rfl
  | (false, i) :: l, us, mv, ws => by
    show pick l (b :: us ++ _) mv ws = _
    rw [List.cons_append, pick_cons b l]; rfl
/-- C(k = v, ..), what succeeds -/
def dMakeK (fn : Mn) (src : List (Bool × Nat)) (md : List D) (n : Nat) (mk : Env → ML) : Env → M := fun ρ => match mk ρ with
  | some (.ok zs) => if zs.length = n then match fn (pick src [] md zs) with
    | some (.ok d) => some (.ok d)
    | _ => none
    else none
  | _ => none
theorem ge_makeK0 (c : Nat) {src : List (Bool × Nat)} {dvs : List V} {md : List D} {mv : List Value} {n : Nat} (M : Mk X.K (Y.cl c) f) (Fn : IOk Y c X.prog X.w X.K X.mg X.base k f fd ps m) (hr : Room (k + 1) X.A) (hg : Gl X x) (hm : X.mg x = some (.ref (Y.cl c)))
    (hb : KBn X.K fd ps 1 ks (fun us ws => pick src us mv ws) (fun vs zs => pick src vs dvs zs)) (hd : ∀ F, RepL X.K Y F dvs md) (hlen : ∀ ds r, m ds = some r → ds.length + 1 = ps.length) (hkw : GK Y X W kws mk)
    (hall : (backToKw pos (keywordEach kws X.env)).all (·.1.isSome) = true := by rfl) (hks : (backToKw pos (keywordEach kws X.env)).filterMap (·.1) = ks := by rfl) (hdb : (x == ("__debug__" : Str)) = false := by decide)
    (hpl : ((backTo pos (starEach [] X.env)).any (·.1) || (backToKw pos (keywordEach kws X.env)).any (·.1.isNone)) = false := by rfl) (hn : ks.length = n := by rfl) :
    GE Y X W (.Call (.Name x p) [] kws pos) (dMakeK m src md n mk) := by
  subst hn
  obtain ⟨t2, pk, q2⟩ := hkw
  refine ⟨_, pe_makeK0 (E := fun _ _ _ => False) M Fn hr hg hm hb (fun pins σ H s e s' I c => passAt takes0 σ pins H s e s' I c) pk hall hks hdb hpl, fun ρ r h F0 H0 F σ H R Q w => ?_⟩
  unfold dMakeK at h
  split at h
  · rename_i zs e1
    split at h
    · rename_i hz
      split at h
      · rename_i d e2
        cases h
        show t2 σ H _
        refine q2 ρ _ e1 F0 H0 F σ H R _ fun us F1 H1 g1 rz => ⟨rfl, by rw [rz.len]; exact hz, fun z dz hz' hdz ne => ?_⟩
        refine ⟨z, dz, H1, pick src [] dvs us, F1, pick src [] md zs, _, pick_cons _ _ _ _ _, hz', hdz, ne, rfl, ⟨g1.fh, (R.grow g1).tbF⟩, pick_rep (hd F1) rz src .nil, hlen _ _ e2, e2, ?_⟩
        exact fun F2 H2 g2 r2 => ⟨rfl, w _ F2 H2 (g1.trans g2) r2⟩
      · cases h
    · cases h
  · cases h
end
end Den
set_option Elab.async false
set_option linter.all false
set_option maxRecDepth 100000
set_option maxHeartbeats 4000000
namespace Den
open PySem L2
variable [Named]
/-! ### [elt for a in .. for b in ..]; math.lcm -/
def lcmD : List D → Option D
  | [.int i, .int j] => if i.natAbs < 2 ^ 64 ∧ j.natAbs < 2 ^ 64 then some (.int ((Nat.lcm i.natAbs j.natAbs : Nat) : Int)) else none
  | _ => none
/-- only told data in the slots -/
def toldE (ρ : Env) : Bool := ρ.all fun s => match s with
  | some (.own _) => false
  | some (.ins _ _) => false
  | some (.exv _) => false
  | _ => true
theorem toldE_at {ρ : Env} (h : toldE ρ = true) {i : Nat} {s : Sl} (e : ρ[i]? = some (some s)) : ∃ d, s = .val d := by
  have := List.all_eq_true.mp h _ (List.mem_of_getElem? e)
  cases s with
  | val d => exact ⟨d, rfl⟩
  | _ => cases this
theorem toldE_set {ρ : Env} (h : toldE ρ = true) (i : Nat) : toldE (ρ.set i none) = true := by
  unfold toldE at *
  rw [List.all_eq_true] at *
  intro x hx
  rcases List.mem_or_eq_of_mem_set hx with hx | rfl
  · exact h x hx
  · rfl
theorem toldE_wipe {ρ : Env} (h : toldE ρ = true) : ∀ vs : List Nat, toldE (wipeE ρ vs) = true
  | [] => h
  | v :: vs => toldE_set (toldE_wipe h vs) v
theorem relTold {K : PySem.W.Frag} {Y : Cfg} {F0 H0 F F1 H H1 : Hp} {σ : L2.St} {ρ : Env} (R : Rel K Y F0 H0 F σ H ρ) (h : toldE ρ = true) (g : Gr F0 H0 F1 H1) (e : Ex F F1) : Rel K Y F0 H0 F1 σ H1 ρ :=
  ⟨g, R.len, fun i s q => (by
    obtain ⟨d, rfl⟩ := toldE_at h q
    obtain ⟨v, e1, r⟩ := R.sl i _ q
    exact ⟨v, e1, Rep.mono e r⟩), fun i j s t p _ q _ ms => (by
    obtain ⟨d, rfl⟩ := toldE_at h q
    cases ms), R.tb⟩
/-- the items that two fors make -/
def compD2 (g : TM) (mi1 : Env → ML) (vs1 : List Nat) (g1 : TM) (mt1 me : Env → M) (ρ : Env) : List D → Option (List D)
  | [] => some []
  | d :: ds => match g d ρ with
    | none => none
    | some ρ1 => match mi1 ρ1 with
      | some (.ok es) => if es.length < 1000 ∧ toldE ρ1 = true then match compD g1 mt1 me (wipeE ρ1 vs1) es with
        | some xs => match compD2 g mi1 vs1 g1 mt1 me ρ ds with
          | some ys => some (xs ++ ys)
          | none => none
        | none => none
        else none
      | _ => none
def dLc2 (vs : List Nat) (mi : Env → ML) (g : TM) (mi1 : Env → ML) (vs1 : List Nat) (g1 : TM) (mt1 me : Env → M) : Env → ML := fun ρ => match mi ρ with
  | some (.ok ds) => if ds.length < 1000 then match compD2 g mi1 vs1 g1 mt1 me (wipeE ρ vs) ds with
    | some xs => some (.ok xs)
    | none => none
    else none
  | _ => none
theorem compD_le {g : TM} {mt me : Env → M} {ρ : Env} : ∀ {ds xs : List D}, compD g mt me ρ ds = some xs → xs.length ≤ ds.length
  | [], _, h => by cases h; exact Nat.le_refl _
  | d :: ds, xs, h => by
    unfold compD at h
    split at h
    · cases h
    · split at h
      · split at h
        · split at h
          · rename_i x _ _ ys e
            cases h
            have := compD_le e
            simp; omega
          · cases h
        · cases h
      · have := compD_le h
        simp; omega
      · cases h
section
variable {Y : Cfg} {X : Cx} {W : WX} {K : PySem.W.Frag} {F0 H0 F H : Hp} {σ : L2.St} {ρ : Env} {mi mi1 : Env → ML} {g g1 : TM} {mt1 me : Env → M}
theorem cd_lcm : CallD Y X (.builtin "math.lcm") lcmD := by
  intro pins s σ H xs us Q I r hq
  obtain ⟨F, ds, z, ex, rs, eq, k⟩ := hq
  unfold lcmD at eq
  split at eq
  · rename_i i j
    split at eq
    · rename_i hb
      cases eq
      obtain ⟨v, u, rfl, q, q2⟩ := repL2 rs
      cases q
      cases q2
      obtain ⟨t1, t2, rfl⟩ := Vals.int2 r
      have e1 : Nat.lcm 1 i.natAbs = i.natAbs := by simp [Nat.lcm]
      have hlt : (Nat.lcm i.natAbs j.natAbs).log2 < PySem.bitsLine := by
        have h1 : Nat.lcm i.natAbs j.natAbs < 2 ^ 129 := by
          have : Nat.lcm i.natAbs j.natAbs ≤ i.natAbs * j.natAbs := by
            unfold Nat.lcm
            exact Nat.div_le_self _ _
          have h2 : i.natAbs * j.natAbs ≤ 2 ^ 64 * 2 ^ 64 := Nat.mul_le_mul (Nat.le_of_lt hb.1) (Nat.le_of_lt hb.2)
          have h3 : (2 : Nat) ^ 64 * 2 ^ 64 < 2 ^ 129 := by decide
          omega
        have := log2_lt h1 (by decide)
        exact Nat.lt_trans this (by decide)
      refine PySem.W.mg_lcm hb.1 hb.2 (by rw [e1]; exact hlt) ?_
      rw [e1]
      exact ⟨.int _, H, I.tok _, ⟨_, rfl⟩, k _ F H (Gr.refl ex) (.int _)⟩
    · cases eq
  · cases eq
theorem sat_lc2 {js js1 vs vs1 : List Nat} (hj : ∀ j ∈ js, j ∈ vs) (hj1 : ∀ j ∈ js1, j ∈ vs1) : ∀ ρ xs0, dLc2 vs mi g mi1 vs1 g1 mt1 me ρ = some (.ok xs0) → ∀ F0 H0 F σ H, Rel K Y F0 H0 F σ H ρ → ∀ Q : VK,
    (∀ p xs F' H', H p = none → Gr F H F' H' → F' p = none → H' p = some (.lst xs) → RepL K Y F' xs xs0 → Q (.ref p) H') → tLc2 (iM Y W K mi) (gM Y K js g) (tMT Y W0 K dYes) (iM Y W0 K mi1) (gM Y K js1 g1) (tMT Y W0 K mt1) (tM Y W0 K me) vs vs1 σ H Q := by
  intro ρ res h F0 H0 F σ H R Q w
  unfold dLc2 at h
  split at h
  · rename_i ds e1
    split at h
    · rename_i hz
      split at h
      · rename_i res e2
        cases h
        refine ⟨F0, H0, F, ρ, _, R, e1, fun J F1 H1 g1' wk a ha => ?_⟩
        obtain ⟨G, Yf, wlk, hG, hY⟩ := wk
        have R1 := (R.grow g1').wipe vs
        let Pv : Nat → Hp → Prop := fun i H' => ∃ F' accV acc rest, Gr F1 H1 F' H' ∧ F' a = none ∧ H' a = some (.lst accV) ∧ RepL K Y F' accV acc ∧ accV.length ≤ i * 1000 ∧ compD2 g mi1 vs1 g1 mt1 me (wipeE ρ vs) (ds.drop i) = some rest ∧ acc ++ rest = res
        refine ⟨fun i b H' => b = ds.length - i ∧ i ≤ ds.length ∧ Pv i H', ⟨ds.length, by simp, Nat.zero_le _, F1, [], [], res, Gr.heap g1'.fh (Ex.new ha), fresh_back g1'.fh ha, upd_same, .nil, Nat.zero_le _, e2, rfl⟩, ?_⟩
        rintro i b H2 ⟨rfl, hi, F', accV, acc, rest, g', fD, hDl, ra, hle, hc, hss⟩
        have q := hG H2 (g'.f.trans g'.fh)
        by_cases hlt : i < ds.length
        · refine .inr ⟨wlk.goes i H2 hlt q, Pv (i + 1), fun H' p' => ⟨ds.length - (i + 1), by omega, rfl, hlt, p'⟩, fun x H3 yl => ?_⟩
          obtain ⟨d, F2, hd, g2, rd⟩ := hY i H2 x H3 hlt (g'.f.trans g'.fh) (wlk.yields i H2 x H3 hlt q yl) F' g'.f g'.fh
          have hdrop : ds.drop i = d :: ds.drop (i + 1) := by
            have hl := (List.getElem?_eq_some_iff.mp hd).2
            rw [← hl]; exact List.drop_eq_getElem_cons hlt
          rw [hdrop] at hc
          have g12 := g'.trans g2
          have fD2 : F2 a = none := (g2.old _ _ hDl).trans fD
          have hD2 := g2.h _ _ hDl
          unfold compD2 at hc
          cases e3 : g d (wipeE ρ vs) with
          | none => rw [e3] at hc; cases hc
          | some ρ1 =>
            simp only [e3] at hc
            refine ⟨F0, H0, F2, wipeE ρ vs, d, ρ1, R1.grow g12, rd, e3, fun σ' o' R' => ⟨wipe_only o' hj, F0, H0, F2, ρ1, _, R', rfl, fun b eb F4 H4 g4 => ?_⟩⟩
            cases eb
            refine iteT ?_
            have fD4 : F4 a = none := (g4.old _ _ hD2).trans fD2
            have hD4 := g4.h _ _ hD2
            have R4 := R'.grow g4
            cases e4 : mi1 ρ1 with
            | none => rw [e4] at hc; cases hc
            | some r4 =>
              cases r4 with
              | exc z => rw [e4] at hc; cases hc
              | ok es =>
                simp only [e4] at hc
                split at hc
                · rename_i hz1
                  cases e5 : compD g1 mt1 me (wipeE ρ1 vs1) es with
                  | none => rw [e5] at hc; cases hc
                  | some xs =>
                    simp only [e5] at hc
                    cases e6 : compD2 g mi1 vs1 g1 mt1 me (wipeE ρ vs) (ds.drop (i + 1)) with
                    | none => rw [e6] at hc; cases hc
                    | some ys =>
                      rw [e6] at hc; cases hc
                      refine ⟨F0, H0, F4, ρ1, _, R4, e4, fun J1 F5 H5 g5 wk1 => ?_⟩
                      obtain ⟨G1, Yf1, wlk1, hG1, hY1⟩ := wk1
                      have fD5 : F5 a = none := (g5.old _ _ hD4).trans fD4
                      have hD5 := g5.h _ _ hD4
                      have g15 := (g12.trans g4).trans g5
                      have ra5 := ra.mono ((g2.f.trans g4.f).trans g5.f)
                      have ht1 := toldE_wipe hz1.2 vs1
                      let Qv : Nat → Hp → Prop := fun j H' => ∃ F' aV ac rest, Gr F1 H1 F' H' ∧ Ex F5 F' ∧ F' a = none ∧ H' a = some (.lst aV) ∧ RepL K Y F' aV ac ∧ aV.length ≤ i * 1000 + j ∧ compD g1 mt1 me (wipeE ρ1 vs1) (es.drop j) = some rest ∧ ac ++ rest = acc ++ xs
                      refine ⟨fun j k H' => k = es.length - j ∧ j ≤ es.length ∧ Qv j H', ⟨es.length, by simp, Nat.zero_le _, F5, accV, acc, xs, g15, Ex.refl F5, fD5, hD5, ra5, by omega, e5, rfl⟩, ?_⟩
                      rintro j k H6 ⟨rfl, hjj, F6, aV, ac, rst, g6, x6, fD6, hD6, ra6, hle6, hc6, hs6⟩
                      have q6 := hG1 H6 (x6.trans g6.fh)
                      by_cases hlt1 : j < es.length
                      · refine .inr ⟨wlk1.goes j H6 hlt1 q6, Qv (j + 1), fun H' p' => ⟨es.length - (j + 1), by omega, rfl, hlt1, p'⟩, fun x1 H7 yl1 => ?_⟩
                        obtain ⟨d1, F7, hd1, g7, rd1⟩ := hY1 j H6 x1 H7 hlt1 (x6.trans g6.fh) (wlk1.yields j H6 x1 H7 hlt1 q6 yl1) F6 x6 g6.fh
                        have hdrop1 : es.drop j = d1 :: es.drop (j + 1) := by
                          have hl := (List.getElem?_eq_some_iff.mp hd1).2
                          rw [← hl]; exact List.drop_eq_getElem_cons hlt1
                        rw [hdrop1] at hc6
                        have fD7 : F7 a = none := (g7.old _ _ hD6).trans fD6
                        have hD7 := g7.h _ _ hD6
                        have g17 := g6.trans g7
                        have R7 : Rel K Y F0 H0 F7 (L2.wipe σ' vs1) H7 (wipeE ρ1 vs1) := relTold (R'.wipe vs1) ht1 (R1.gr.trans g17) (((g4.f.trans g5.f).trans x6).trans g7.f)
                        unfold compD at hc6
                        cases u3 : g1 d1 (wipeE ρ1 vs1) with
                        | none => rw [u3] at hc6; cases hc6
                        | some ρ2 =>
                          simp only [u3] at hc6
                          refine ⟨F0, H0, F7, wipeE ρ1 vs1, d1, ρ2, R7, rd1, u3, fun σ2 o2 R2' => ⟨wipe_only o2 hj1, ?_⟩⟩
                          cases u4 : mt1 ρ2 with
                          | none => rw [u4] at hc6; cases hc6
                          | some r5 =>
                            cases r5 with
                            | exc z => rw [u4] at hc6; cases hc6
                            | ok d5 =>
                              cases d5 with
                              | bl b5 =>
                                refine ⟨F0, H0, F7, ρ2, _, R2', u4, fun b eb F8 H8 g8 => ?_⟩
                                cases eb
                                have fD8 : F8 a = none := (g8.old _ _ hD7).trans fD7
                                have hD8 := g8.h _ _ hD7
                                cases b5 with
                                | false =>
                                  simp only [u4] at hc6
                                  exact iteF ⟨F8, aV, ac, rst, g17.trans g8, (x6.trans g7.f).trans g8.f, fD8, hD8, ra6.mono (g7.f.trans g8.f), by omega, hc6, hs6⟩
                                | true =>
                                  simp only [u4] at hc6
                                  refine iteT ?_
                                  cases u5 : me ρ2 with
                                  | none => rw [u5] at hc6; cases hc6
                                  | some r6 =>
                                    cases r6 with
                                    | exc z => rw [u5] at hc6; cases hc6
                                    | ok x6' =>
                                      simp only [u5] at hc6
                                      cases u6 : compD g1 mt1 me (wipeE ρ1 vs1) (es.drop (j + 1)) with
                                      | none => rw [u6] at hc6; cases hc6
                                      | some rest' =>
                                        rw [u6] at hc6; cases hc6
                                        refine ⟨F0, H0, F8, ρ2, _, R2'.grow g8, u5, fun v F9 H9 g9 r9 => ?_⟩
                                        have fD9 : F9 a = none := (g9.old _ _ hD8).trans fD8
                                        have hD9 := g9.h _ _ hD8
                                        have gg := (g17.trans g8).trans g9
                                        have sz : aV.length < sizeLine := by
                                          show _ < 16777216
                                          have := hz1.1
                                          have := hz
                                          omega
                                        refine ⟨aV, hD9, sz, F9, aV ++ [v], ac ++ [x6'], rest', ⟨gg.f, fun c u q => ?_, fun c u q => ?_, gg.old⟩, ((x6.trans g7.f).trans g8.f).trans g9.f, fD9, upd_same, (ra6.mono ((g7.f.trans g8.f).trans g9.f)).append (.cons r9 .nil), by rw [List.length_append]; simp; omega, u6, by rw [← hs6]; simp⟩
                                        · exact (gg.fh c u q).mut (ne_of_none q fD9) (noCode hD9 fun _ z => nomatch z)
                                        · exact (gg.h c u q).mut (ne_of_none q ha) (noCode hD9 fun _ z => nomatch z)
                              | _ => rw [u4] at hc6; cases hc6
                      · have ej : j = es.length := by omega
                        subst ej
                        refine .inl ⟨wlk1.stops H6 q6, ?_⟩
                        rw [List.drop_length] at hc6
                        cases hc6
                        rw [List.append_nil] at hs6
                        subst hs6
                        exact ⟨F6, aV, _, ys, g6, fD6, hD6, ra6, by omega, e6, by rw [List.append_assoc]; exact hss⟩
                · cases hc
        · have ei : i = ds.length := by omega
          subst ei
          refine .inl ⟨wlk.stops H2 q, ?_⟩
          rw [List.drop_length] at hc
          cases hc
          rw [List.append_nil] at hss
          subst hss
          exact w a accV F' H2 (fresh_back g1'.h ha) (g1'.trans g') fD hDl ra
      · cases h
    · cases h
  · cases h
/-- [elt for .. in .. for .. in ..] as a value; its second part's slots are vs1 -/
theorem ge_lc2 {Y : Cfg} {X : Cx} {W : WX} {tg iter tg1 iter1 elt : Expr} {pos : Pos} {js js1 : List Nat} {ifs ifs1 : List Expr} {scope : Scope} (own : List (Str × Nat)) (vs1 : List Nat) {mi mi1 : Env → ML} {g g1 : TM} {mt1 me : Env → M} (hc : X.calm = true) (hN : X.N.Nodup) (hi : GI Y X W tg iter mi) (ok : BlkOk X.N X.env.scope scope own) (hv : ∀ i ∈ vs1, i ∈ own.map (·.2))
    (hg : ∀ (s : Shared) (H : Hp) (C : Addr) (cl : List (Str × Addr)) (fp : List Addr), GG Y (X.blk s H scope (compEnvC scope cl C X.env) fp) tg js g) (hj : ∀ j ∈ js, j ∈ own.map (·.2))
    (ht : ∀ (s : Shared) (H : Hp) (C : Addr) (cl : List (Str × Addr)) (fp : List Addr), GTs Y (X.blk s H scope (compEnvC scope cl C X.env) fp) ifs dYes)
    (hi1 : ∀ (s : Shared) (H : Hp) (C : Addr) (cl : List (Str × Addr)) (fp : List Addr), GI Y (X.blk s H scope (compEnvC scope cl C X.env) fp) W0 tg1 iter1 mi1)
    (hg1 : ∀ (s : Shared) (H : Hp) (C : Addr) (cl : List (Str × Addr)) (fp : List Addr), GG Y (X.blk s H scope (compEnvC scope cl C X.env) fp) tg1 js1 g1) (hj1 : ∀ j ∈ js1, j ∈ vs1)
    (ht1 : ∀ (s : Shared) (H : Hp) (C : Addr) (cl : List (Str × Addr)) (fp : List Addr), GTs Y (X.blk s H scope (compEnvC scope cl C X.env) fp) ifs1 mt1)
    (he : ∀ (s : Shared) (H : Hp) (C : Addr) (cl : List (Str × Addr)) (fp : List Addr), GE Y (X.blk s H scope (compEnvC scope cl C X.env) fp) W0 elt me) (hs : ∀ x, foldedSetIterable iter X.env x = pure x := by intro _; rfl) (hs1 : ∀ env x, foldedSetIterable iter1 env x = pure x := by intro _ _; rfl) :
    GE Y X W (.ListComp elt [⟨tg, iter, ifs, 0⟩, ⟨tg1, iter1, ifs1, 0⟩] scope pos) (dLcV (dLc2 (own.map (·.2)) mi g mi1 vs1 g1 mt1 me)) := by
  refine ⟨_, pe_lc2 (g := gM Y X.K js g) (tt := tMT Y W0 X.K dYes) (wi1 := iM Y W0 X.K mi1) (g1 := gM Y X.K js1 g1) (tt1 := tMT Y W0 X.K mt1) (te := tM Y W0 X.K me) hc hN hi.pi ok hv (fun s H C cl fp => (hg s H C cl fp).pg) (fun s H C cl fp => (ht s H C cl fp).pts) (fun s H C cl fp => (hi1 s H C cl fp).pi) (fun s H C cl fp => (hg1 s H C cl fp).pg) (fun s H C cl fp => (ht1 s H C cl fp).pts) (fun s H C cl fp => (he s H C cl fp).pe) hs hs1, fun ρ r h F0 H0 F σ H R Q w => ?_⟩
  rcases bdL_some h with ⟨ds, e1, h⟩ | ⟨x, e1, rfl⟩
  · cases h
    refine sat_lc2 (W := W) hj hj1 ρ _ e1 F0 H0 F σ H R Q fun p xs F' H' hp g fp hp' ra => ?_
    have e : Ex F' (upd F' p (.lst xs)) := Ex.new fp
    refine w _ (upd F' p (.lst xs)) H' ⟨g.f.trans e, fun c u q => ?_, g.h, fun c u q => ?_⟩ (.lst (SqL.of upd_same) (ra.mono e))
    · by_cases k : c = p
      · subst k; rw [upd_same] at q; cases q; exact hp'
      · rw [upd_ne k] at q; exact g.fh c u q
    · rw [upd_ne (ne_of_none q hp)]; exact g.old c u q
  · unfold dLc2 at e1
    split at e1
    · split at e1
      · split at e1
        · cases e1
        · cases e1
      · cases e1
    · cases e1
end
section
variable {Y : Cfg} {X : Cx} {W : WX} {K : PySem.W.Frag} {F0 H0 F H : Hp} {σ : L2.St} {ρ : Env}
theorem dLc2_noexc {vs vs1 : List Nat} {mi mi1 : Env → ML} {g g1 : TM} {mt1 me : Env → M} {ρ : Env} {x : Xd} : dLc2 vs mi g mi1 vs1 g1 mt1 me ρ ≠ some (.exc x) := by
  intro e1
  unfold dLc2 at e1
  split at e1
  · split at e1
    · split at e1
      · cases e1
      · cases e1
    · cases e1
  · cases e1
theorem sat_ownlc2 {i : Nat} {js js1 vs vs1 : List Nat} {mi mi1 : Env → ML} {g g1 : TM} {mt1 me : Env → M} (hj : ∀ j ∈ js, j ∈ vs) (hj1 : ∀ j ∈ js1, j ∈ vs1) : ∀ ρ o, dOwnLc i (dLc2 vs mi g mi1 vs1 g1 mt1 me) ρ = some o → SatS Y W K (tAsg (tLc2 (iM Y W K mi) (gM Y K js g) (tMT Y W0 K dYes) (iM Y W0 K mi1) (gM Y K js1 g1) (tMT Y W0 K mt1) (tM Y W0 K me) vs vs1) (gName i)) ρ o := by
  intro ρ o h F0 H0 F σ H R D w
  unfold dOwnLc at h
  split at h
  · rename_i ds e1
    cases h
    exact sat_lc2 (W := W) hj hj1 ρ _ e1 F0 H0 F σ H R _ fun p xs F' H' hp g fp hp' ra => w F' _ H' g.f (R.putOwn hp g fp hp' ra)
  · rename_i x e1
    exact absurd e1 dLc2_noexc
  · cases h
/-- x = [elt for .. in .. for .. in ..] -/
theorem gs_asgLc2 {tg iter tg1 iter1 elt : Expr} {pos spos py : Pos} {y : Str} {js js1 : List Nat} {ifs ifs1 : List Expr} {scope : Scope} (i : Nat) (own : List (Str × Nat)) (vs1 : List Nat) {mi mi1 : Env → ML} {g g1 : TM} {mt1 me : Env → M} (hc : X.calm = true) (hN : X.N.Nodup) (hi : GI Y X W tg iter mi) (ok : BlkOk X.N X.env.scope scope own) (hv : ∀ i ∈ vs1, i ∈ own.map (·.2))
    (hg : ∀ (s : Shared) (H : Hp) (C : Addr) (cl : List (Str × Addr)) (fp : List Addr), GG Y (X.blk s H scope (compEnvC scope cl C X.env) fp) tg js g) (hj : ∀ j ∈ js, j ∈ own.map (·.2))
    (ht : ∀ (s : Shared) (H : Hp) (C : Addr) (cl : List (Str × Addr)) (fp : List Addr), GTs Y (X.blk s H scope (compEnvC scope cl C X.env) fp) ifs dYes)
    (hi1 : ∀ (s : Shared) (H : Hp) (C : Addr) (cl : List (Str × Addr)) (fp : List Addr), GI Y (X.blk s H scope (compEnvC scope cl C X.env) fp) W0 tg1 iter1 mi1)
    (hg1 : ∀ (s : Shared) (H : Hp) (C : Addr) (cl : List (Str × Addr)) (fp : List Addr), GG Y (X.blk s H scope (compEnvC scope cl C X.env) fp) tg1 js1 g1) (hj1 : ∀ j ∈ js1, j ∈ vs1)
    (ht1 : ∀ (s : Shared) (H : Hp) (C : Addr) (cl : List (Str × Addr)) (fp : List Addr), GTs Y (X.blk s H scope (compEnvC scope cl C X.env) fp) ifs1 mt1)
    (he : ∀ (s : Shared) (H : Hp) (C : Addr) (cl : List (Str × Addr)) (fp : List Addr), GE Y (X.blk s H scope (compEnvC scope cl C X.env) fp) W0 elt me) (hy : X.N[i]? = some y := by rfl) (hyl : X.env.scope.names.lookup y = some .local := by rfl)
    (hsw : swapsWith (.ListComp elt [⟨tg, iter, ifs, 0⟩, ⟨tg1, iter1, ifs1, 0⟩] scope pos) (some (.Name y py)) spos.line X.env = pure true := by exact sw_true rfl rfl rfl (by decide +kernel)) (hs : ∀ x, foldedSetIterable iter X.env x = pure x := by intro _; rfl) (hs1 : ∀ env x, foldedSetIterable iter1 env x = pure x := by intro _ _; rfl) :
    GS Y X W (.Assign [.Name y py] (.ListComp elt [⟨tg, iter, ifs, 0⟩, ⟨tg1, iter1, ifs1, 0⟩] scope pos) spos) (dAsgLc i (dLc2 (own.map (·.2)) mi g mi1 vs1 g1 mt1 me)) := by
  refine ⟨_, ps_setLc2 (g := gM Y X.K js g) (tt := tMT Y W0 X.K dYes) (wi1 := iM Y W0 X.K mi1) (g1 := gM Y X.K js1 g1) (tt1 := tMT Y W0 X.K mt1) (te := tM Y W0 X.K me) hc hN hy hyl hsw hi.pi ok hv (fun s H C cl fp => (hg s H C cl fp).pg) (fun s H C cl fp => (ht s H C cl fp).pts) (fun s H C cl fp => (hi1 s H C cl fp).pi) (fun s H C cl fp => (hg1 s H C cl fp).pg) (fun s H C cl fp => (ht1 s H C cl fp).pts) (fun s H C cl fp => (he s H C cl fp).pe) hs hs1, fun ρ o h F0 H0 F σ H R D w => ?_⟩
  unfold dAsgLc at h
  split at h
  · rename_i ds e1
    cases h
    refine sat_ownlc2 hj hj1 ρ (.nx (ρ.set i (some (.own ds)))) (by unfold dOwnLc; rw [e1]) F0 H0 F σ H R D fun F' σ' H' e R' => ?_
    by_cases hi : i < ρ.length
    · obtain ⟨F2, e2, R2⟩ := R'.freeze (i := i) (ds := ds) (List.getElem?_set_self hi)
      rw [List.set_set] at R2
      exact w F2 σ' H' (e.trans e2) R2
    · have e0 : ∀ x : Option Sl, ρ.set i x = ρ := fun x => List.set_eq_of_length_le (by omega)
      rw [e0] at R'
      exact w F' σ' H' e (by rw [e0]; exact R')
  · rename_i x e1
    exact absurd e1 dLc2_noexc
  · cases h
end
end Den
set_option Elab.async false
set_option linter.all false
set_option maxRecDepth 100000
set_option maxHeartbeats 4000000
namespace Den
open PySem PyProof.Rows Srt SrtO
/-! ### list.sort(key=f): what is done when the keys are there; keys: pairs of ints -/
section
variable {prog : Program} {w : World} {A : Around} {E : Value → Shared → Prop} {s : Shared}
theorem ks_tail {kS a : Addr} {ks : List Value} {e e1 : Nat} {st : SortSt} {R : PySem.Fin → Shared → Prop} (hk : s.heap.get? kS = some (seqObj "list" ks.toArray e)) (ha : s.heap.get? a = some (seqObj "list" #[] e1)) (hne : a ≠ kS) (hl : ks.length ≤ sizeLine) (hsz : (arrOf st).size ≤ sizeLine) (hf : failedOf st = none)
    (h : R (.done (.ret .none)) { s with heap := (s.heap.update kS (Obj.mapSeq fun _ => #[])).update a (Obj.mapSeq fun _ => (arrOf st).map (·.2)) }) :
    wpAny (model prog w) A (ksk_tail a false e1 (.ref kS) st) R E s := by
  have s1 := Heap.SameBut.update s.heap kS (Obj.mapSeq fun _ => (#[] : Array Value))
  have na1 : (s.heap.update kS (Obj.mapSeq fun _ => (#[] : Array Value))).get? a = some (seqObj "list" #[] e1) := (s1.2 a hne).trans ha
  unfold ksk_tail
  try dsimp only
  refine wpAny_bind (listUpdate_at hk rfl ?_ (by rw [List.size_toArray]; exact hl) (Nat.zero_le _))
  refine wpAny_bind (wpAny_letGo ?_)
  refine wpAny_bind (seqEpoch_at na1 rfl ?_)
  refine wpAny_bind (listUpdate_at na1 rfl ?_ (Nat.zero_le _) (by simp only [Bool.false_eq_true, if_false, Array.size_map]; exact Nat.le_succ_of_le hsz))
  rw [hf]
  simp only [bne_self_eq_false, Bool.false_eq_true, if_false]
  exact wpAny_pure h
/-- sorted by the keys, stable -/
def ByKeys (k : Value → Int × Int) (ks vs : List Value) (out : List Keyed) : Prop :=
  Srtd (lt2 fun v u => lexB (k v) (k u)) out ∧ Stb (lt2 fun v u => lexB (k v) (k u)) out (ks.zip vs)
theorem ks_end {kS a : Addr} {ks vs : List Value} {e e1 : Nat} {k : Value → Int × Int} {R : PySem.Fin → Shared → Prop} (hk : s.heap.get? kS = some (seqObj "list" ks.toArray e)) (ha : s.heap.get? a = some (seqObj "list" #[] e1)) (hne : a ≠ kS) (hl : ks.length = vs.length) (hz : vs.length ≤ sizeLine) (hp : ∀ v ∈ ks, IsPair s.heap v (k v).1 (k v).2)
    (h : ∀ out : List Keyed, ByKeys k ks vs out → R (.done (.ret .none)) { s with heap := (s.heap.update kS (Obj.mapSeq fun _ => #[])).update a (Obj.mapSeq fun _ => (out.map (·.2)).toArray) }) :
    wpAny (model prog w) A (ksk_end a false vs.toArray e1 (.ref kS) ks.toArray) R E s := by
  have ez : (ks.toArray.zip vs.toArray).toList = ks.zip vs := ksk_zip ks.toArray vs
  have elen : (ks.zip vs).length = vs.length := by rw [List.length_zip, hl, Nat.min_self]
  have fin : ∀ st : SortSt, ByKeys k ks vs (arrOf st).toList → failedOf st = none → wpAny (model prog w) A (ksk_tail a false e1 (.ref kS) st) R E s := by
    intro st hb hf
    have hsz : (arrOf st).size ≤ sizeLine := by
      have := hb.2.len
      rw [Array.length_toList, elen] at this
      omega
    refine ks_tail hk ha hne (by rw [hl]; exact hz) hsz hf ?_
    have := h _ hb
    have e2 : ((arrOf st).toList.map (·.2)).toArray = (arrOf st).map (·.2) := by
      apply Array.ext'
      rw [Array.toList_map]
    rw [e2] at this
    exact this
  unfold ksk_end
  simp only [Bool.false_eq_true, if_false]
  by_cases h2 : vs.toArray.size < 2
  · rw [if_pos h2, if_pos h2]
    refine wpAny_bind (wpAny_pure ?_)
    rw [StateT.run_pure]
    refine wpAny_bind (wpAny_pure ?_)
    refine fin (SortSt.mk' general' (ks.toArray.zip vs.toArray) #[] 7 none) ?_ rfl
    show ByKeys k ks vs (ks.toArray.zip vs.toArray).toList
    rw [ez]
    refine ⟨?_, Stb.refl _⟩
    have h3 : (ks.zip vs).length < 2 := by rw [elen]; simpa using h2
    match ks.zip vs, h3 with
    | [], _ => exact List.Pairwise.nil
    | [v], _ => exact List.pairwise_singleton _ _
    | _ :: _ :: l, h => exact absurd h (by rw [List.length_cons, List.length_cons]; omega)
  · rw [if_neg h2, if_neg h2]
    have h4 : 2 ≤ vs.length := by simpa using h2
    obtain ⟨κ, hkind, hT⟩ := pairs_sortableO (prog := prog) (w := w) (A := A) (a := a) (vs := ks) (by omega) hp (fun o e => by
      rw [ha] at e
      cases e
      intro c
      exact absurd (Value.type.inj c) (by decide)) s.heap (fun b o _ e => e)
    refine wpAny_bind (hkind _ _ ?_)
    have hall : AllL (fun p : Keyed => p.1 ∈ ks) (ks.toArray.zip vs.toArray).toList := fun p hm => by
      rw [ez] at hm
      exact (List.of_mem_zip hm).1
    refine wpAny_bind (wpAny_mono (wpS_sortO (st0 := SortSt.mk' κ (ks.toArray.zip vs.toArray) #[] 7 none)
      (Q := fun _ st' => ByKeys k ks vs (arrOf st').toList ∧ failedOf st' = none) (swo2 (swo_lex k)) hT rfl hall rfl rfl fun st' a1 a2 a3 => ⟨⟨a1, by
        have a2' : Stb (lt2 fun v u => lexB (k v) (k u)) (arrOf st').toList (ks.toArray.zip vs.toArray).toList := a2
        rw [ez] at a2'
        exact a2'⟩, a3⟩) ?_ fun _ _ e => e)
    rintro ⟨⟨⟩, st'⟩ s' ⟨rfl, hp1, hf⟩
    exact fin st' hp1 hf
/-- a key that f gave is put to the others -/
def KeyIn (kS : Addr) (ks : List Value) (I : List Value → Shared → Prop) (v : Value) (s : Shared) : Prop :=
  ∃ e, s.heap.get? kS = some (seqObj "list" ks.toArray e) ∧ I (ks ++ [v]) { s with heap := s.heap.update kS (Obj.mapSeq (·.push v)) }
theorem ks_fold {kS : Addr} {f : Value} {n : Nat} {I : List Value → Shared → Prop} {body : Value → PUnit → Sem (ForInStep PUnit)}
    (hb : ∀ x ks (s : Shared), ks.length < n → wpAny (model prog w) A (call f [x]) (KeyIn kS ks I) (fun _ _ => False) s → wpAny (model prog w) A (body x ⟨⟩) (fun r s' => r = .yield ⟨⟩ ∧ ∃ v, I (ks ++ [v]) s') E s) :
    ∀ (vs pre r : List Value), vs = pre ++ r → (∀ (pre : List Value) x ks (s : Shared), (∃ post, vs = pre ++ x :: post) → ks.length = pre.length → I ks s → wpAny (model prog w) A (call f [x]) (KeyIn kS ks I) (fun _ _ => False) s) → vs.length = n →
      ∀ (ks : List Value) (s : Shared), ks.length = pre.length → I ks s → wpAny (model prog w) A (forIn r PUnit.unit body) (fun _ s' => ∃ ks, ks.length = n ∧ I ks s') E s
  | vs, pre, [], e, _, hn, ks, s, hl, h => by
    rw [List.forIn_nil]
    exact wpAny_pure ⟨ks, by rw [hl, ← hn, e, List.append_nil], h⟩
  | vs, pre, x :: r, e, st, hn, ks, s, hl, h => by
    rw [List.forIn_cons]
    have hlt : ks.length < n := by rw [hl, ← hn, e]; simp
    refine wpAny_bind (wpAny_mono (hb x ks s hlt (st pre x ks s ⟨r, e⟩ hl h)) (fun q s' hq => ?_) fun _ _ x => x)
    obtain ⟨rfl, v, h2⟩ := hq
    show wpAny (model prog w) A (forIn r PUnit.unit body) _ E s'
    exact ks_fold hb vs (pre ++ [x]) r (by rw [e]; simp) st hn (ks ++ [v]) s' (by simp [hl]) h2
theorem ks_rest {kS a : Addr} {vs : List Value} {f : Value} {e1 : Nat} {I : List Value → Shared → Prop} {R : PySem.Fin → Shared → Prop} (hz : vs.length ≤ sizeLine) (h0 : I [] s)
    (hI : ∀ ks s', I ks s' → ∃ e, s'.heap.get? kS = some (seqObj "list" ks.toArray e))
    (step : ∀ (pre : List Value) x ks (s : Shared), (∃ post, vs = pre ++ x :: post) → ks.length = pre.length → I ks s → wpAny (model prog w) A (call f [x]) (KeyIn kS ks I) (fun _ _ => False) s)
    (done : ∀ ks s', ks.length = vs.length → I ks s' → wpAny (model prog w) A (ksk_end a false vs.toArray e1 (.ref kS) ks.toArray) R E s') :
    wpAny (model prog w) A (ksk_rest a f false vs.toArray e1 (.ref kS)) R E s := by
  unfold ksk_rest
  refine wpAny_bind (wpAny_rule ?_)
  first
    | rw [List.forIn_toArray]
    | (rw [← Array.forIn_toList]; simp only [List.toList_toArray])
    | rw [← Array.forIn_toList]
  refine wpAny_bind (wpAny_mono (ks_fold (n := vs.length) (I := I) (kS := kS) (f := f) (fun x ks s' hlt hx => ?_) vs [] vs rfl step rfl [] s rfl h0) (fun _ s' hd => ?_) fun _ _ x => x)
  · refine wpAny_bind (wpAny_attempt (wpAny_mono hx (fun v s'' hk => ?_) fun _ _ hF => hF.elim))
    obtain ⟨e, hk1, hk2⟩ := hk
    try dsimp only
    refine wpAny_bind (listUpdate_at hk1 rfl ?_ (by rw [List.size_toArray]; omega) (Nat.le_trans (Nat.le_of_eq (Array.size_push ..)) (by rw [List.size_toArray]; omega)))
    exact wpAny_pure ⟨rfl, v, hk2⟩
  · obtain ⟨ks, hl, hi⟩ := hd
    obtain ⟨e, hk⟩ := hI ks s' hi
    try dsimp only
    refine wpAny_bind (listItems_at hk rfl ?_)
    exact done ks s' hl hi
/-- list.sort(key=f): the list is emptied, its items are held in a tuple, the keys' list is new -/
theorem ks_tree {a : Addr} {vs : List Value} {f : Value} {n : Nat} {R : PySem.Fin → Shared → Prop} (ho : s.heap.get? a = some (seqObj "list" vs.toArray n)) (hz : vs.length ≤ sizeLine)
    (h : ∀ (e1 : Nat), (s.heap.update a (Obj.mapSeq fun _ => (#[] : Array Value))).get? a = some (seqObj "list" #[] e1) →
      wpAny (model prog w) A (ksk_rest a f false vs.toArray e1 (.ref (s.heap.objs.size + 1))) R E { s with heap := ((s.heap.update a (Obj.mapSeq fun _ => (#[] : Array Value))).push (seqObj "tuple" vs.toArray 0)).push (seqObj "list" #[] 0) }) :
    wpAny (model prog w) A (ksk_tree a f false) R E s := by
  obtain ⟨e1, ho1⟩ : ∃ e1, (s.heap.update a (Obj.mapSeq fun _ => (#[] : Array Value))).get? a = some (seqObj "list" #[] e1) := ⟨_, get?_update_seq ho fun _ => #[]⟩
  have hkS : ((s.heap.update a (Obj.mapSeq fun _ => (#[] : Array Value))).push (seqObj "tuple" vs.toArray 0)).objs.size = s.heap.objs.size + 1 := by rw [size_push', Heap.size_update]
  unfold ksk_tree
  refine wpAny_bind (listItems_at ho rfl ?_)
  refine wpAny_bind (listUpdate_at ho rfl ?_ (by rw [List.size_toArray]; exact hz) (Nat.zero_le _))
  refine wpAny_bind (seqEpoch_at ho1 rfl ?_)
  refine wpAny_bind (wpAny_newTuple ?_ (by show vs.length ≤ _; exact hz))
  refine wpAny_bind (wpAny_newList ?_ (Nat.zero_le _))
  refine wpAny_holding ?_
  have := h e1 ho1
  rw [← hkS] at this
  exact this
/-- sorted(l, key=f) -/
theorem ks_sorted {l f : Addr} {vs : List Value} {Q : Value → Shared → Prop} (hl : s.heap.IsList l vs.toArray) (hz : vs.length ≤ sizeLine)
    (h : ∀ (h' : Heap) (a kS : Addr) (e1 : Nat), (∀ b o, s.heap.get? b = some o → h'.get? b = some o) → h'.get? a = some (seqObj "list" #[] e1) → h'.get? kS = some (seqObj "list" #[] 0) → s.heap.objs.size ≤ a → s.heap.objs.size ≤ kS → a ≠ kS →
      wpAny (model prog w) A.in1.in1 (ksk_rest a (.ref f) false vs.toArray e1 (.ref kS)) (fun r s' => r = .done (.ret .none) ∧ Q (.ref a) s') E { s with heap := h' }) :
    wpAny (model prog w) A (call (.builtin "sorted") [.ref l] [(Str.ofString "key", .ref f)]) Q E s := by
  refine call_function_entry_kw kind_sorted plain_sorted entry_sorted (ksk_s1 _ _) ?_
  unfold Builtin.«sorted»
  refine wpAny_bind (m := checkCount "sorted" 1 1 _) (wpAny_pure ?_)
  refine wpAny_bind (collect_list hl ?_ hz)
  refine wpAny_bind (wpAny_newList ?_ hz)
  have hsz : ((s.heap.push (seqObj "list" #[] 0)).update s.heap.objs.size (Obj.mapSeq (· ++ vs.toArray))).objs.size = s.heap.objs.size + 1 := by
    rw [Heap.size_update, size_push']
  have hoL : (((s.heap.push (seqObj "list" #[] 0)).update s.heap.objs.size (Obj.mapSeq (· ++ vs.toArray))).push (seqObj "list" vs.toArray 0)).get? (s.heap.objs.size + 1) = some (seqObj "list" vs.toArray 0) := by
    rw [← hsz]; exact Heap.get?_push_size _ rfl
  have keep : ∀ b o, s.heap.get? b = some o → b ≠ s.heap.objs.size + 1 ∧ (((s.heap.push (seqObj "list" #[] 0)).update s.heap.objs.size (Obj.mapSeq (· ++ vs.toArray))).push (seqObj "list" vs.toArray 0)).get? b = some o := fun b o q => by
    have hlt : b < s.heap.objs.size := Heap.lt_size q
    refine ⟨Nat.ne_of_lt (Nat.lt_succ_of_lt hlt), Heap.get?_push_of_some _ ?_⟩
    rw [Heap.get?_update_ne _ _ _ _ (Nat.ne_of_lt hlt)]
    exact Heap.get?_push_of_some _ q
  show wpAny _ _ _ _ _ { s with heap := ((s.heap.push (seqObj "list" #[] 0)).update s.heap.objs.size (Obj.mapSeq (· ++ vs.toArray))).push (seqObj "list" vs.toArray 0) }
  rw [hsz]
  refine wpAny_bind (wpAny_holding (wpAny_call_entry_kw slot_list_sort ⟨_, hoL, rfl⟩ entry_list_sort ?_ (ksk_l1 _ _)))
  rw [ksk_t1]
  have hs1 : (((s.heap.push (seqObj "list" #[] 0)).update s.heap.objs.size (Obj.mapSeq (· ++ vs.toArray))).push (seqObj "list" vs.toArray 0)).objs.size = s.heap.objs.size + 2 := by rw [size_push', hsz]
  refine ks_tree (s := { s with heap := ((s.heap.push (seqObj "list" #[] 0)).update s.heap.objs.size (Obj.mapSeq (· ++ vs.toArray))).push (seqObj "list" vs.toArray 0) }) hoL hz fun e1 ho1 => ?_
  clear hsz
  generalize ((s.heap.push (seqObj "list" #[] 0)).update s.heap.objs.size (Obj.mapSeq (· ++ vs.toArray))).push (seqObj "list" vs.toArray 0) = h1 at keep hoL ho1 hs1 ⊢
  have ho1 : (h1.update (s.heap.objs.size + 1) (Obj.mapSeq fun _ => (#[] : Array Value))).get? (s.heap.objs.size + 1) = some (seqObj "list" #[] e1) := ho1
  have hkS : ((h1.update (s.heap.objs.size + 1) (Obj.mapSeq fun _ => (#[] : Array Value))).push (seqObj "tuple" vs.toArray 0)).objs.size = h1.objs.size + 1 := by rw [size_push', Heap.size_update]
  have key := h (((h1.update (s.heap.objs.size + 1) (Obj.mapSeq fun _ => (#[] : Array Value))).push (seqObj "tuple" vs.toArray 0)).push (seqObj "list" #[] 0)) (s.heap.objs.size + 1) (h1.objs.size + 1) e1
    (fun b o q => Heap.get?_push_of_some _ (Heap.get?_push_of_some _ ((Heap.get?_update_ne _ _ _ _ (keep b o q).1).trans (keep b o q).2)))
    (Heap.get?_push_of_some _ (Heap.get?_push_of_some _ ho1)) (by rw [← hkS]; exact Heap.get?_push_size _ rfl) (Nat.le_succ _) (Nat.le_succ_of_le (by rw [show h1.objs.size = s.heap.objs.size + 2 from hs1]; exact Nat.le_add_right _ _)) (by rw [show h1.objs.size = s.heap.objs.size + 2 from hs1]; exact Nat.ne_of_lt (by show s.heap.objs.size + 1 < s.heap.objs.size + 2 + 1; exact Nat.lt_succ_of_lt (Nat.lt_succ_self _)))
  refine wpAny_mono key (fun r s' hr => ?_) fun _ _ x => x
  obtain ⟨rfl, hq⟩ := hr
  exact ⟨_, rfl, wpAny_pure ⟨_, rfl, hq⟩⟩
end
end Den
set_option Elab.async false
set_option linter.all false
set_option maxRecDepth 100000
set_option maxHeartbeats 4000000
namespace Den
open PySem PySem.Spec PyProof.Rows L2 LamX NdefX
/-! ### a lambda with parameters, called -/
section
variable {CX : CXT} {P : Program} {w : World} {K : PySem.W.Frag} {mg : Str → Option Value} {base : Heap} {N ps fr : List Str} {F : NF} {f : Addr} {k : Nat}
theorem lam_run {be : Expr} {pm ctv : Value} {A : Around} {outer : List PySem.Env} {s : Shared} {H : Hp} {us : List Value} {vs : List V} {ws : List (Option V)} {Q : VK} {E : XK} {t : TE} (S : NScope N ps fr F.scope)
    (hb : bindArgs (PySem.W.kla_fn "<lambda>" F.qual F.params be F.scope F.cl pm (.ref F.c) ctv) ⟨us, []⟩ = pure (ps.zip us)) (hr : Room (k + 1) A) (e0 : Env0 P w K mg base A outer s H)
    (hf : s.heap.get? f = some (PySem.W.kla_obj "<lambda>" F.qual F.params be F.scope F.cl pm F.c ctv)) (hc : H F.c = some (CodeO F.c F.qual)) (C : CellsAt F.cl fr ws s.heap H) (r : Vals vs us) (hl : vs.length = ps.length)
    (ht : PE (ncx CX P w K mg base N F f A outer s H E) be t) (hq : t (startF N vs ws) H Q) : codeAny (model P w) A (.call (.ref f) ⟨us, []⟩) (CR CX outer P w H s Q E) s := by
  have lim : s.heap.NoLimit := e0.mod.nolimit.keeps fun b o e => (e0.bs b o e).1
  refine PySem.W.kla_callFunE hr.depth hf rfl S.co S.gen rfl (codeO_at e0.hok hc) ?_
  rw [hb]
  refine wpAny_pure (wpAny_newFunctionEnv S.nocell (fun ⟨n, _⟩ hy => S.par n (List.of_mem_zip hy).1) (fun h₁ hns hsb => ⟨lim.fresh _ hsb, ?_⟩) S.kind)
  show codeAny _ _ (.expr be (envF F f s.heap.objs.size)) _ _
  have kp : ∀ b o, s.heap.get? b = some o → h₁.get? b = some o := fun b o e => hsb.extBut b o (Nat.ne_of_lt (Heap.lt_size e)) (Heap.get?_push_of_some _ e)
  have I : Inv (ncx CX P w K mg base N F f A outer s H E) [] (startF N vs ws) H { s with heap := h₁, toks := s.toks + (ps.zip us).length } := inv_startN S hr.hd e0 hl r C hns kp
  refine PySem.W.kla_codeExpr (wpAny_mono (ht.run [] _ (startF N vs ws) H Q I hq) (fun v s' hs => ?_) fun e s' hs => hs)
  obtain ⟨w', H', J, rv, q⟩ := hs
  exact ⟨w', H', J.os, J.bare, J.base, J.hok, rv, q⟩
end
end Den
set_option Elab.async false
set_option linter.all false
set_option maxRecDepth 100000
set_option maxHeartbeats 4000000
namespace Den
open PySem PySem.Spec PyProof.Rows L2 LamX NdefX Srt SrtO
/-! ### sorted(l, key=lambda p: (p[1], p[0])), l a list of pairs of ints -/
section
variable {X : Cx} {pins : List (Addr × Obj)} {σ : L2.St} {H : Hp} {s : Shared}
theorem pin_drop {p : Addr × Obj} (I : Inv X (p :: pins) σ H s) : Inv X pins σ H s := I.pins_of fun q hq => I.pin q (List.mem_append_right _ (List.mem_cons_of_mem _ hq))
theorem pin_add {p : Addr × Obj} (I : Inv X pins σ H s) (h : s.heap.get? p.1 = some p.2 ∧ H p.1 = none ∧ p.1 ≠ X.env.locals ∧ p.1 ∉ X.fs ∧ ∀ v, p.2.data ≠ .cell v) : Inv X (p :: pins) σ H s :=
  I.pins_of fun q hq => (List.mem_cons.mp hq).elim (fun z => by rw [z]; exact h) fun z => I.pin q (List.mem_append_right _ z)
theorem pin_at {p : Addr × Obj} (I : Inv X (p :: pins) σ H s) : s.heap.get? p.1 = some p.2 ∧ H p.1 = none := by
  have := I.pin p (List.mem_append_right _ (List.mem_cons_self ..))
  exact ⟨this.1, this.2.1⟩
theorem pin_new {h' : Heap} {p : Addr × Obj} (I : Inv X pins σ H s) (hp : s.heap.objs.size ≤ p.1) (g : h'.get? p.1 = some p.2) (n : H p.1 = none) (hd : ∀ v, p.2.data ≠ .cell v) : h'.get? p.1 = some p.2 ∧ H p.1 = none ∧ p.1 ≠ X.env.locals ∧ p.1 ∉ X.fs ∧ ∀ v, p.2.data ≠ .cell v :=
  ⟨g, n, Nat.ne_of_gt (Nat.lt_of_lt_of_le I.lt hp), I.nofs hp, hd⟩
variable [Named]
/-- the lambda is made; its object is pinned -/
theorem lam_new {c P : Addr} {params : Arguments} {be : Expr} {scope : Scope} {lp : Pos} {E Q : Value → Shared → Prop} (I : Inv X pins σ H s) (B : TabB X.base X.mg c P) (hcode : X.env.code = .ref c) (hq : Named.nm P = X.env.qual ++ "<lambda>") (hT : TabS H P (Named.nm P))
    (hdef : defaultsOf params X.env = ([], [])) (hfree : ∀ y ∈ scope.names, y.2 = .free → ∃ c, X.env.cells.lookup y.1 = some c)
    (k : ∀ (f c' : Addr) (pm ctv : Value) (H1 : Hp) (s' : Shared), Ex H H1 → Inv X ((f, PySem.W.kla_obj "<lambda>" (Named.nm P) params be scope (cloFrom X.env.cells scope.names []) pm c' ctv) :: pins) σ H1 s' → H1 c' = some (CodeO c' (Named.nm P)) → Q (.ref f) s') :
    wpAny (model X.prog X.w) X.A (eval (.Lambda params be scope lp) X.env) Q E s := by
  obtain ⟨ps, tP, t3, tc⟩ := hT
  have bt := B.bm.keeps I.bk
  have oP : s.heap.get? P = some { cls := .none, data := .fields ps } := I.hok P _ tP
  refine PySem.W.kla_eval hdef ?_
  rw [← hq]
  rcases hc : codeAmong lp ps.toList with _ | cv
  · refine PySem.W.kla_makeFunction (c := c) (closure_ok hfree) I.ok.glob (I.mod.glob.keeps I.bk) hcode (B.code.keeps I.bk) oP t3 hc B.gP bt fun c' ctv h' tk hx hge hlt ⟨c2, oc, vs, t, e2, hoc, hd, hv⟩ htb => ?_
    cases e2
    have nc : H c' = none := I.hok.fresh hge
    have hsz := Nat.le_trans hge (Nat.le_of_lt hlt)
    have J := inv_table (t' := tk) (q := Named.nm P) (more := #[rawInt lp.line, rawInt lp.col, .ref c']) (h' := h'.push (PySem.W.kla_obj "<lambda>" (Named.nm P) params be scope (cloFrom X.env.cells scope.names []) ((X.mg "__name__").getD .none) c' ctv)) I tP (fun b o hb e => Heap.get?_push_of_some _ (hx b o hb e)) (Heap.get?_push_of_some _ htb) hge ⟨oc, vs, t, Heap.get?_push_of_some _ hoc, hd, hv⟩
    have pc : P ≠ c' := ne_of_none tP nc
    have ex : Ex H (upd (upd H P (.tbl (ps ++ #[rawInt lp.line, rawInt lp.col, .ref c']))) c' (CodeO c' (Named.nm P))) := fun b o e => by
      by_cases hb : b = P
      · subst hb
        rw [tP] at e
        cases e
        refine ⟨#[rawInt lp.line, rawInt lp.col, .ref c'], by rw [upd_ne pc, upd_same], (show TriplesOk [rawInt lp.line, rawInt lp.col, .ref c'] from trivial), fun p' cv' h => ?_⟩
        rcases among_app (pos := lp) (c := .ref c') [] trivial (show codeAmong p' ([] ++ [rawInt lp.line, rawInt lp.col, .ref c']) = some cv' from h) with z | z
        · simp [codeAmong] at z
        · exact ⟨c', z, upd_same⟩
      · exact ExO.same (by rw [upd_ne (ne_of_none e nc), upd_ne hb]; exact e)
    refine k h'.objs.size c' _ ctv _ _ ex (pin_add J ⟨Heap.get?_push_size _ rfl, ?_, Nat.ne_of_gt (Nat.lt_of_lt_of_le I.lt hsz), I.nofs hsz, fun v z => nomatch z⟩) upd_same
    rw [upd_ne (Nat.ne_of_gt hlt), upd_ne (Nat.ne_of_gt (Nat.lt_of_lt_of_le (Heap.lt_size oP) hsz))]
    exact I.hok.fresh hsz
  · obtain ⟨c', rfl, hco⟩ := tc lp cv hc
    refine PySem.W.kla_makeFunctionHit (c := c) (closure_ok hfree) I.ok.glob (I.mod.glob.keeps I.bk) hcode (B.code.keeps I.bk) oP t3 hc bt fun ctv h' tk hx hsz => ?_
    have J := I.kept (t' := tk) (h' := h'.push (PySem.W.kla_obj "<lambda>" (Named.nm P) params be scope (cloFrom X.env.cells scope.names []) ((X.mg "__name__").getD .none) c' ctv)) fun b o e => Heap.get?_push_of_some _ (hx b o e)
    exact k h'.objs.size c' _ ctv H _ (Ex.refl H) (pin_add J ⟨Heap.get?_push_size _ rfl, I.hok.fresh hsz, Nat.ne_of_gt (Nat.lt_of_lt_of_le I.lt hsz), I.nofs hsz, fun v z => nomatch z⟩) hco

def pairD (q : Int × Int) : D := .tup [.int q.1, .int q.2]
abbrev lamF (q : Str) (params : Arguments) (scope : Scope) (c : Addr) : NF := ⟨"<lambda>", q, params, [], scope, [], c⟩
theorem isPair_fun {h : Heap} {v : Value} {a b c d : Int} (h1 : IsPair h v a b) (h2 : IsPair h v c d) : a = c ∧ b = d := by
  obtain ⟨p, o, t, u, n, rfl, ho, hc, hd⟩ := h1
  obtain ⟨p2, o2, t2, u2, n2, e, ho2, hc2, hd2⟩ := h2
  cases e
  rw [ho] at ho2
  cases ho2
  rw [hd] at hd2
  cases hd2
  exact ⟨rfl, rfl⟩
theorem isPair_rep {K : PySem.W.Frag} {Y : Core} {F : Hp} {v : V} {u : Value} {q : Int × Int} (I : Inv X pins σ H s) (hK : K = X.K) (e : Ex F H) (r : Rep K Y F v (pairD q)) (rv : RelV v u) : IsPair s.heap u q.1 q.2 := by
  subst hK
  cases r with
  | tup a r =>
    cases r with
    | cons r1 r =>
      cases r with
      | cons r2 r =>
        cases r
        cases r1
        cases r2
        obtain ⟨its, rr, ht, _⟩ := I.tuple (ex_t e a)
        obtain ⟨u1, u2, rfl, e1, e2⟩ := vals2 rr
        obtain ⟨t1, rfl⟩ := e1
        obtain ⟨t2, rfl⟩ := e2
        obtain rfl : u = Value.ref _ := rv
        obtain ⟨o, ho, hc, n, hd⟩ := ht
        exact ⟨_, o, t1, t2, n, rfl, ho, hc, hd⟩
/-- what is so ahead of each key -/
def KeysAt (Y : Core) (X : Cx) (pins : List (Addr × Obj)) (σ : L2.St) (F H : Hp) (kS a e1 : Nat) (po : Addr × Obj) (ds : List D) (ks : List Value) (s : Shared) : Prop :=
  ∃ H' F' kvs e, Inv X ((kS, seqObj "list" ks.toArray e) :: (a, seqObj "list" #[] e1) :: po :: pins) σ H' s ∧ Gr F H F' H' ∧ Vals kvs ks ∧ RepL X.K Y F' kvs (ds.take ks.length)
theorem repL_snoc {K : PySem.W.Frag} {Y : Core} {F : Hp} {vs : List V} {v : V} {ds : List D} {d : D} {n : Nat} (h : RepL K Y F vs (ds.take n)) (hd : ds[n]? = some d) (r : Rep K Y F v d) : RepL K Y F (vs ++ [v]) (ds.take (n + 1)) := by
  rw [List.take_add_one, hd]
  exact h.append (.cons r .nil)
theorem sort_turns {Y : Cfg} {f c' a kS e1 j : Nat} {params : Arguments} {be : Expr} {scope : Scope} {pm ctv : Value} {q x : Str} {me : Env → M} {F : Hp} {xs : List V} {its : List Value} {ds kds : List D} {R : PySem.Fin → Shared → Prop} {E : Value → Shared → Prop}
    (eF : Ex F H) (ra : RepL X.K Y F xs ds) (rv : Vals xs its) (hz : its.length ≤ sizeLine) (hc : H c' = some (CodeO c' q)) (hr : Room (j + 3) X.A)
    (S : NScope [x] [x] [] scope) (hb : ∀ u, bindArgs (PySem.W.kla_fn "<lambda>" q params be scope [] pm (.ref c') ctv) ⟨[u], []⟩ = pure [(x, u)])
    (hbody : ∀ (A : Around) (outer : List PySem.Env) (s : Shared) (H : Hp), GE Y (ncx (L2.CX X.prog X.w) X.prog X.w X.K X.mg X.base [x] (lamF q params scope c') f A outer s H (fun _ _ _ => False)) (fun _ _ _ _ => False) be me)
    (tb : Tb F) (hme : ∀ (i : Nat) (d : D), ds[i]? = some d → ∃ kd, kds[i]? = some kd ∧ me [some (.val d)] = some (.ok kd))
    (fpk : ∀ H', H' kS = none → FpOk X ((a, seqObj "list" #[] e1) :: (f, PySem.W.kla_obj "<lambda>" q params be scope [] pm c' ctv) :: pins) H' kS)
    (h0 : KeysAt Y X pins σ F H kS a e1 (f, PySem.W.kla_obj "<lambda>" q params be scope [] pm c' ctv) kds [] s)
    (done : ∀ ks s', ks.length = its.length → KeysAt Y X pins σ F H kS a e1 (f, PySem.W.kla_obj "<lambda>" q params be scope [] pm c' ctv) kds ks s' → wpAny (model X.prog X.w) X.A.in1.in1 (ksk_end a false its.toArray e1 (.ref kS) ks.toArray) R E s') :
    wpAny (model X.prog X.w) X.A.in1.in1 (ksk_rest a (.ref f) false its.toArray e1 (.ref kS)) R E s := by
  refine ks_rest (I := KeysAt Y X pins σ F H kS a e1 (f, PySem.W.kla_obj "<lambda>" q params be scope [] pm c' ctv) kds) hz h0 (fun ks s' ⟨H', F', kvs, e, J, _⟩ => ⟨e, (pin_at J).1⟩) (fun pre u ks s1 ⟨post, ei⟩ hl ⟨H', F', kvs, e, J, g, vk, rk⟩ => ?_) done
  have hu : its[pre.length]? = some u := by rw [ei]; simp
  obtain ⟨v, hv, ruv⟩ : ∃ v, xs[pre.length]? = some v ∧ RelV v u := by
    have hlen := rv.length
    have hlt : pre.length < xs.length := by rw [hlen]; exact (List.getElem?_eq_some_iff.mp hu).1
    obtain ⟨w, hw, r⟩ := rv.get (List.getElem?_eq_getElem hlt)
    rw [hu] at hw
    cases hw
    exact ⟨_, List.getElem?_eq_getElem hlt, r⟩
  obtain ⟨d, hd, rd⟩ := ra.getV hv
  obtain ⟨kd, hkd, em⟩ := hme _ _ hd
  have hf := (pin_at (pin_drop (pin_drop J))).1
  obtain ⟨t, pt, sat⟩ := hbody X.A.in1.in1 X.stack s1 H'
  have R0 : Rel X.K Y F' H' F' (startF [x] [v] []) H' [some (.val d)] := rel_start (N := [x]) g.fh (tb.up g.f) (.cons (rd.mono g.f) .nil)
  have run := lam_run (CX := L2.CX X.prog X.w) (K := X.K) (F := lamF q params scope c') (f := f) (vs := [v]) (us := [u]) (ws := []) (k := j)
    (Q := fun y H2 => ∃ F2, Gr F' H' F2 H2 ∧ Rep X.K Y F2 y kd) (E := fun _ _ _ => False) S (hb u) (hr.mono (Nat.le_refl _)).in1.in1 J.env0.in1.in1 hf (g.h.code hc) ⟨rfl, (fun y c z => nomatch z), (fun y z c h => nomatch h), (fun i y z => nomatch z)⟩ (.cons ruv .nil) rfl pt
    (sat _ _ em _ _ _ _ _ R0 _ fun y F2 H2 g2 r2 => ⟨F2, g2, r2⟩)
  refine wpAny_call (codeAny_mono run fun r s2 hh => ?_)
  match r, hh with
  | .error ee, hh =>
    obtain ⟨_, _, _, _, _, _, _, _, _, _, _, _, z⟩ := hh
    exact z.elim
  | .ok (.ret u2), hh =>
    obtain ⟨y, H2, J2, ry, F2, g2, r2⟩ := J.after hh
    have p1 := pin_at J2
    have J3 := pin_drop J2
    obtain ⟨e', he'⟩ : ∃ e', (s2.heap.update kS (Obj.mapSeq (·.push u2))).get? kS = some (seqObj "list" (ks ++ [u2]).toArray e') := by
      have := get?_update_seq p1.1 (·.push u2)
      rw [show ks.toArray.push u2 = (ks ++ [u2]).toArray by simp] at this
      exact ⟨_, this⟩
    have J4 := J3.turnedL (t' := s2.toks) (ch := [kS]) (h' := s2.heap.update kS (Obj.mapSeq (·.push u2))) (fun b o hb e => (Heap.get?_update_ne _ _ _ _ (fun z => hb (by simp [z]))).trans e) fun b hb => by
      obtain rfl : b = kS := by simpa using hb
      exact fpk H2 p1.2
    have hfp := fpk H2 p1.2
    refine ⟨e, p1.1, H2, F2, kvs ++ [y], e', pin_add J4 ⟨he', p1.2, hfp.2.1, hfp.2.2.1, fun v z => nomatch z⟩, g.trans g2, vk.append (.cons ry .nil), ?_⟩
    rw [List.length_append]
    exact repL_snoc (rk.mono g2.f |> fun z => z) (by rw [hl]; exact hkd) r2
  | .ok .next, hh => exact False.elim hh
  | .ok .brk, hh => exact False.elim hh
  | .ok .cont, hh => exact False.elim hh

theorem fpk_of {a kS e1 : Nat} {po : Addr × Obj} (I : Inv X (po :: pins) σ H s) (hk : s.heap.objs.size ≤ kS) (hne : a ≠ kS) (H' : Hp) (hn : H' kS = none) : FpOk X ((a, seqObj "list" #[] e1) :: po :: pins) H' kS := by
  obtain ⟨h1, h2, h3, h4, h5, h6⟩ := I.fpOk hk hn
  refine ⟨h1, h2, h3, h4, h5, fun p hp => ?_⟩
  rcases List.mem_append.mp hp with z | z
  · exact h6 p (List.mem_append_left _ z)
  · rcases List.mem_cons.mp z with rfl | z
    · exact hne
    · exact h6 p (List.mem_append_right _ z)
theorem fpk_less {p : Addr × Obj} {b : Addr} (h : FpOk X (p :: pins) H b) : FpOk X pins H b := by
  obtain ⟨h1, h2, h3, h4, h5, h6⟩ := h
  exact ⟨h1, h2, h3, h4, h5, fun q hq => (List.mem_append.mp hq).elim (fun z => h6 q (List.mem_append_left _ z)) fun z => h6 q (List.mem_append_right _ (List.mem_cons_of_mem _ z))⟩
theorem vals_get {xs : List V} {us : List Value} (h : Vals xs us) {i : Nat} {u : Value} (hu : us[i]? = some u) : ∃ v, xs[i]? = some v ∧ RelV v u := by
  have hlt : i < xs.length := by rw [h.length]; exact (List.getElem?_eq_some_iff.mp hu).1
  obtain ⟨w, hw, r⟩ := h.get (List.getElem?_eq_getElem hlt)
  rw [hu] at hw
  cases hw
  exact ⟨_, List.getElem?_eq_getElem hlt, r⟩
theorem repl_map {K : PySem.W.Frag} {Y : Core} {F : Hp} {α : Type} {fu : α → Value} {fd : α → D} : ∀ (T : List α), (∀ t ∈ T, ∃ v, RelV v (fu t) ∧ Rep K Y F v (fd t)) → ∃ xs, Vals xs (T.map fu) ∧ RepL K Y F xs (T.map fd)
  | [], _ => ⟨[], .nil, .nil⟩
  | t :: T, h => by
    obtain ⟨v, r1, r2⟩ := h t (List.mem_cons_self ..)
    obtain ⟨xs, r3, r4⟩ := repl_map T fun u hu => h u (List.mem_cons_of_mem _ hu)
    exact ⟨v :: xs, .cons r1 r3, .cons r2 r4⟩
theorem zip3_fst {α β γ : Type} : ∀ {l : List α} {m : List β} {n : List γ}, l.length = m.length → l.length = n.length → ((l.zip m).zip n).map Prod.fst = l.zip m ∧ ((l.zip m).zip n).map Prod.snd = n
  | [], [], [], _, _ => ⟨rfl, rfl⟩
  | a :: l, b :: m, c :: n, h1, h2 => by
    obtain ⟨e1, e2⟩ := zip3_fst (l := l) (m := m) (n := n) (by simpa using h1) (by simpa using h2)
    simp [e1, e2]
  | [], _ :: _, _, h, _ => by simp at h
  | [], [], _ :: _, _, h => by simp at h
  | _ :: _, [], _, h, _ => by simp at h
  | _ :: _, _ :: _, [], _, h => by simp at h
theorem sort_run {Y : Cfg} {f c' l j : Nat} {params : Arguments} {be : Expr} {scope : Scope} {pm ctv : Value} {q x : Str} {me : Env → M} {F : Hp} {xs : List V} {qs : List (Int × Int)} {kd : Int × Int → Int × Int} {Q : VK} {E : Value → Shared → Prop}
    (I : Inv X ((f, PySem.W.kla_obj "<lambda>" q params be scope [] pm c' ctv) :: pins) σ H s)
    (eF : Ex F H) (tb : Tb F) (hl : SqL X.K H l xs) (ra : RepL X.K Y F xs (qs.map pairD)) (hc : H c' = some (CodeO c' q)) (hr : Room (j + 3) X.A)
    (S : NScope [x] [x] [] scope) (hb : ∀ u, bindArgs (PySem.W.kla_fn "<lambda>" q params be scope [] pm (.ref c') ctv) ⟨[u], []⟩ = pure [(x, u)])
    (hbody : ∀ (A : Around) (outer : List PySem.Env) (s : Shared) (H : Hp), GE Y (ncx (L2.CX X.prog X.w) X.prog X.w X.K X.mg X.base [x] (lamF q params scope c') f A outer s H (fun _ _ _ => False)) (fun _ _ _ _ => False) be me)
    (hme : ∀ p : Int × Int, me [some (.val (pairD p))] = some (.ok (pairD (kd p))))
    (k : ∀ zs : List (Int × Int), zs.Perm qs → zs.Pairwise (fun p r => lexB (kd r) (kd p) = false) → ∀ a F' H', Gr F H F' H' → Rep X.K Y F' (.ref a) (.lst (zs.map pairD)) → Q (.ref a) H') :
    wpAny (model X.prog X.w) X.A (call (.builtin "sorted") [.ref l] [(Str.ofString "key", .ref f)]) (EP X pins σ Q) E s := by
  obtain ⟨its, rv, hL, hz⟩ := I.list hl
  have hzi : its.length ≤ sizeLine := by rw [← rv.length]; exact hz
  have hlq : its.length = qs.length := by
    have := ra.len
    rw [List.length_map, rv.length] at this
    exact this
  refine ks_sorted (Q := EP X pins σ Q) hL.isList hzi fun h' a kS e1 keep ha hkS hsa hsk hne => ?_
  have J0 := I.kept (t' := s.toks) keep
  have na := I.hok.fresh hsa
  have nk := I.hok.fresh hsk
  have Ja := pin_add J0 (pin_new (p := (a, seqObj "list" #[] e1)) I hsa ha na fun v z => nomatch z)
  have Jk := pin_add Ja (pin_new (p := (kS, seqObj "list" ([] : List Value).toArray 0)) I hsk hkS nk fun v z => nomatch z)
  have fpk := fun H' hn => fpk_of (e1 := e1) I hsk hne H' hn
  refine sort_turns (Y := Y) (pins := pins) (σ := σ) (H := H) (kds := qs.map fun p => pairD (kd p)) (me := me) eF ra rv hzi hc hr S hb hbody tb (fun i d hd => ?_) (fun H' hn => fpk H' hn) ⟨H, F, [], 0, Jk, Gr.refl eF, .nil, .nil⟩ fun ks s' hlk ⟨H', F', kvs, e, J, g, vk, rk⟩ => ?_
  · rw [List.getElem?_map] at hd
    cases hp : qs[i]? with
    | none => rw [hp] at hd; cases hd
    | some p =>
      rw [hp] at hd
      cases hd
      exact ⟨pairD (kd p), by rw [List.getElem?_map, hp]; rfl, hme p⟩
  · have hkq : ks.length = qs.length := hlk.trans hlq
    rw [List.take_of_length_le (by rw [List.length_map]; omega)] at rk
    have pk := pin_at J
    have pa := pin_at (pin_drop J)
    have at_ : ∀ (i : Nat) (u : Value) (p : Int × Int), ks[i]? = some u → qs[i]? = some p → IsPair s'.heap u (kd p).1 (kd p).2 := fun i u p hu hp => by
      obtain ⟨v, hv, rvu⟩ := vals_get vk hu
      obtain ⟨d, hd, rd⟩ := rk.getV hv
      rw [List.getElem?_map, hp] at hd
      cases hd
      exact isPair_rep J rfl g.fh rd rvu
    have all_ : ∀ u ∈ ks, ∃ p : Int × Int, IsPair s'.heap u p.1 p.2 := fun u hu => by
      obtain ⟨i, hi⟩ := List.mem_iff_getElem?.mp hu
      have hlt : i < qs.length := by rw [← hkq]; exact (List.getElem?_eq_some_iff.mp hi).1
      exact ⟨_, at_ i u _ hi (List.getElem?_eq_getElem hlt)⟩
    let kf : Value → Int × Int := fun u => open Classical in if h : ∃ p : Int × Int, IsPair s'.heap u p.1 p.2 then choose h else (0, 0)
    have kfe : ∀ (u : Value) (p : Int × Int), IsPair s'.heap u p.1 p.2 → kf u = p := fun u p hp => by
      have h : ∃ p : Int × Int, IsPair s'.heap u p.1 p.2 := ⟨p, hp⟩
      have e : kf u = Classical.choose h := dif_pos h
      rw [e]
      have z := isPair_fun (Classical.choose_spec h) hp
      exact Prod.ext z.1 z.2
    refine ks_end (k := kf) pk.1 pa.1 hne hlk hzi (fun u hu => ?_) fun out hout => ⟨rfl, ?_⟩
    · obtain ⟨p, hp⟩ := all_ u hu
      rw [kfe u p hp]
      exact hp
    · obtain ⟨z1, z2⟩ := zip3_fst (l := ks) (m := its) (n := qs) hlk hkq
      obtain ⟨T, pT, eT⟩ := perm_map_lift hout.2.perm ((ks.zip its).zip qs) z1.symm
      have inT : ∀ t ∈ T, ∃ i, ks[i]? = some t.1.1 ∧ its[i]? = some t.1.2 ∧ qs[i]? = some t.2 := fun t ht => by
        obtain ⟨i, hi⟩ := List.mem_iff_getElem?.mp (pT.mem_iff.mp ht)
        obtain ⟨⟨u, v⟩, p⟩ := t
        rw [List.getElem?_zip_eq_some] at hi
        have h2 := hi.1
        rw [List.getElem?_zip_eq_some] at h2
        exact ⟨i, h2.1, h2.2, hi.2⟩
      have kT : ∀ t ∈ T, kf t.1.1 = kd t.2 := fun t ht => by
        obtain ⟨i, h1, h2, h3⟩ := inT t ht
        exact kfe _ _ (at_ i _ _ h1 h3)
      obtain ⟨ys, vy, ry⟩ := repl_map (K := X.K) (Y := Y.toCore) (F := F') (fu := fun t : (Value × Value) × (Int × Int) => t.1.2) (fd := fun t => pairD t.2) T fun t ht => by
        obtain ⟨i, h1, h2, h3⟩ := inT t ht
        obtain ⟨v, hv, rvu⟩ := vals_get rv h2
        obtain ⟨d, hd, rd⟩ := ra.getV hv
        rw [List.getElem?_map, h3] at hd
        cases hd
        exact ⟨v, rvu, rd.mono g.f⟩
      have J1 := pin_drop (pin_drop (pin_drop J))
      have fk := fpk_less (fpk_less (fpk H' pk.2))
      have J2 := J1.turnedL (t' := s'.toks) (ch := [kS]) (h' := s'.heap.update kS (Obj.mapSeq fun _ => #[])) (fun b o hb e => (Heap.get?_update_ne _ _ _ _ (fun z => hb (by simp [z]))).trans e) fun b hb => by
        obtain rfl : b = kS := by simpa using hb
        exact fk
      have oa : (s'.heap.update kS (Obj.mapSeq fun _ => #[])).get? a = some (seqObj "list" #[] e1) := (Heap.get?_update_ne _ _ _ _ hne).trans pa.1
      have o2 := get?_update_seq oa (fun _ => (out.map (·.2)).toArray)
      have fa : FpOk X pins H' a := fpk_less (I.fpOk hsa pa.2)
      have hlen : ys.length ≤ sizeLine := by
        rw [vy.length, List.length_map, pT.length_eq, List.length_zip, List.length_zip]
        omega
      have eo : out.map (·.2) = T.map fun t => t.1.2 := by rw [eT, List.map_map]; rfl
      have J3 := J2.take (t' := s'.toks) (it := a) (o := .lst ys) (h' := (s'.heap.update kS (Obj.mapSeq fun _ => #[])).update a (Obj.mapSeq fun _ => (out.map (·.2)).toArray)) (fun b o hb e => (Heap.get?_update_ne _ _ _ _ hb).trans e) fa ⟨hlen, out.map (·.2), _, by rw [eo]; exact vy, o2⟩
      have g2 := Gr.new (o := .lst ys) g.fh pa.2
      refine ⟨.ref a, _, J3, rfl, k (T.map (·.2)) (by rw [← z2]; exact pT.map _) ?_ a _ _ (g.trans g2) (.lst (SqL.of upd_same) ?_)⟩
      · have hs := hout.1
        rw [eT] at hs
        have hs := List.pairwise_map.mp hs
        rw [List.pairwise_map]
        refine List.Pairwise.imp_of_mem (fun {t u} ht hu h => ?_) hs
        have h : lexB (kf u.1.1) (kf t.1.1) = false := h
        rw [kT t ht, kT u hu] at h
        exact h
      · rw [List.map_map]
        exact (ry.mono g2.f)
end
end Den
set_option Elab.async false
set_option linter.all false
set_option maxRecDepth 100000
set_option maxHeartbeats 4000000
namespace Den
open PySem PySem.Spec PyProof.Rows L2 LamX NdefX Srt SrtO
def prsOf : List D → Option (List (Int × Int))
  | [] => some []
  | .tup [.int a, .int b] :: ds => match prsOf ds with
    | some qs => some ((a, b) :: qs)
    | none => none
  | _ => none
theorem prsOf_eq : ∀ {ds : List D} {qs : List (Int × Int)}, prsOf ds = some qs → ds = qs.map pairD
  | [], qs, h => by cases h; rfl
  | d :: ds, qs, h => by
    unfold prsOf at h
    split at h
    · rename_i h1; cases h1
    · rename_i h1
      cases h1
      split at h
      · rename_i h2
        cases h
        rw [List.map_cons, ← prsOf_eq h2]; rfl
      · cases h
    · cases h
theorem prsOf_map : ∀ qs : List (Int × Int), prsOf (qs.map pairD) = some qs
  | [] => rfl
  | q :: qs => by
    show (match prsOf (qs.map pairD) with | some qs' => some ((q.1, q.2) :: qs') | none => none) = _
    rw [prsOf_map qs]
/-- in the order of (p[1], p[0]) -/
def leK (p r : Int × Int) : Bool := decide (p.2 < r.2) || (decide (p.2 = r.2) && decide (p.1 ≤ r.1))
def sortK (qs : List (Int × Int)) : List (Int × Int) := qs.mergeSort leK
theorem leK_iff {p r : Int × Int} : leK p r = true ↔ p.2 < r.2 ∨ (p.2 = r.2 ∧ p.1 ≤ r.1) := by simp [leK]
theorem leK_lex {p r : Int × Int} (h : lexB (r.2, r.1) (p.2, p.1) = false) : leK p r = true := by
  have := lexB_no.mp h
  simp only at this
  rw [leK_iff]
  omega
theorem leK_total (p r : Int × Int) : (leK p r || leK r p) = true := by
  rw [Bool.or_eq_true, leK_iff, leK_iff]; omega
theorem leK_trans (p q r : Int × Int) (h1 : leK p q = true) (h2 : leK q r = true) : leK p r = true := by
  rw [leK_iff] at *; omega
theorem leK_anti {p r : Int × Int} (h1 : leK p r = true) (h2 : leK r p = true) : p = r := by
  rw [leK_iff] at *
  exact Prod.ext (by omega) (by omega)
theorem sortK_perm (qs : List (Int × Int)) : (sortK qs).Perm qs := List.mergeSort_perm _ _
theorem sortK_pw (qs : List (Int × Int)) : (sortK qs).Pairwise (fun p r => leK p r = true) := List.pairwise_mergeSort leK_trans leK_total qs
theorem sortK_uniq {qs zs : List (Int × Int)} (h : zs.Perm qs) (hs : zs.Pairwise fun p r => leK p r = true) : zs = sortK qs :=
  List.Perm.eq_of_pairwise (le := fun p r => leK p r = true) (fun a b _ _ h1 h2 => leK_anti h1 h2) hs (sortK_pw qs) (h.trans (sortK_perm qs).symm)
def dSortK (m : Env → M) : Env → M := fun ρ => bd (m ρ) fun d => match d with
  | .lst ds => match prsOf ds with
    | some qs => some (.ok (.lst ((sortK qs).map pairD)))
    | none => none
  | _ => none
variable [Named]
section
variable {Y : Cfg} {X : Cx} {W : WX} {e be : Expr} {p lp kp pos : Pos} {x : Str} {c P : Addr} {params : Arguments} {scope : Scope} {m0 me : Env → M} {j : Nat}
theorem ge_sortK (hr : Room (j + 3) X.A) (hg : Gl X "sorted") (hm : X.mg "sorted" = none) (ha : GE Y X W e m0) (B : TabB X.base X.mg c P) (hP : P ∈ Named.tb) (hq : Named.nm P = X.env.qual ++ "<lambda>") (hcode : X.env.code = .ref c) (S : NScope [x] [x] [] scope)
    (hbody : ∀ (q : Str) (c' f : Addr) (A : Around) (outer : List PySem.Env) (s : Shared) (H : Hp), GE Y (ncx (L2.CX X.prog X.w) X.prog X.w X.K X.mg X.base [x] (lamF q params scope c') f A outer s H (fun _ _ _ => False)) (fun _ _ _ _ => False) be me)
    (hme : ∀ p : Int × Int, me [some (.val (pairD p))] = some (.ok (pairD (p.2, p.1))))
    (hclo : cloFrom X.env.cells scope.names [] = []) (hfree : ∀ y ∈ scope.names, y.2 ≠ .free) (hdef : defaultsOf params X.env = ([], []) := by rfl)
    (hb : ∀ (q : Str) (pm : Value) (c' : Addr) (ctv u : Value), bindArgs (PySem.W.kla_fn "<lambda>" q params be scope [] pm (.ref c') ctv) ⟨[u], []⟩ = pure [(x, u)] := by intros; rfl)
    (he : backTo pos (starEach [e] X.env) = (false, eval e X.env) :: backTo pos (starEach [] X.env) := by rfl) (hs : starEach [e] X.env = [(false, eval e X.env)] := by rfl) (hpl : (backTo pos (starEach [e] X.env)).any (·.1) = false := by rfl) :
    GE Y X W (.Call (.Name "sorted" p) [e] [⟨some "key", .Lambda params be scope lp, kp⟩] pos) (dSortK m0) := by
  obtain ⟨t, pt, sat⟩ := ha
  refine ⟨fun σ H Q => t σ H fun v H1 => ∃ l xs qs F, [v] = [V.ref l] ∧ Ex F H1 ∧ Tb F ∧ SqL X.K H1 l xs ∧ RepL X.K Y F xs (qs.map pairD) ∧
      ∀ a F' H', Gr F H1 F' H' → Rep X.K Y F' (.ref a) (.lst ((sortK qs).map pairD)) → Q (.ref a) H', ⟨fun pins s σ H Q I h => ?_⟩, fun ρ r h F0 H0 F σ H R Q w => ?_⟩
  · refine wpAny_Call_Name_kw (ld_blt I hg hm bt_sorted ?_)
    refine PyProof.Rows.callWith_kw (thn ((pa_cons pt pa_nil hs).run pos pins s σ H (fun vs H1 => ∃ l xs qs F, vs = [.ref l] ∧ Ex F H1 ∧ Tb F ∧ SqL X.K H1 l xs ∧ RepL X.K Y F xs (qs.map pairD) ∧
      ∀ a F' H', Gr F H1 F' H' → Rep X.K Y F' (.ref a) (.lst ((sortK qs).map pairD)) → Q (.ref a) H') I ?_) fun us s1 ⟨vs, H1, I1, r1, q1⟩ => ?_) he hpl rfl rfl
    · exact h
    · obtain ⟨l, xs, qs, F, rfl, ex, tb, hl, ra, k⟩ := q1
      obtain rfl := Vals.ref1 r1
      show wpAny _ _ (evalAll [do let v ← eval (.Lambda params be scope lp) X.env; standAt pos; pure v]) _ _ s1
      refine wpAny_evalAll_cons (wpAny_bind (lam_new I1 B hcode hq ((tb.up ex) P hP) hdef (fun y hy z => absurd z (hfree y hy)) fun f c' pm ctv H2 s2 ex2 I2 hc => wpAny_bind (wpAny_standAt (wpAny_pure (wpAny_evalAll_nil ?_)))))
      rw [hclo] at I2
      refine sort_run (Y := Y) (me := me) (j := j) I2 (ex.trans ex2) tb (ex_l ex2 hl) ra hc hr S (hb _ _ _ _) (fun A outer s H => hbody _ c' f A outer s H) hme fun zs pz hz a F' H' g r => ?_
      have e1 : zs = sortK qs := sortK_uniq pz (hz.imp fun {p r} h => leK_lex h)
      subst e1
      exact k a F' H' ((Gr.heap ex ex2).trans g) r
  · rcases bd_some h with ⟨d, e1, h⟩ | ⟨z, e1, rfl⟩
    · refine sat ρ _ e1 F0 H0 F σ H R _ fun v F' H' g rv => ?_
      split at h
      · split at h
        · rename_i ds qs hqs
          cases h
          cases prsOf_eq hqs
          obtain ⟨l, xs, rfl, hl, ra⟩ := rep_lst rv
          exact ⟨l, xs, qs, F', rfl, g.fh, R.tbF.up g.f, ex_l g.fh hl, ra, fun a F2 H2 g2 r2 => w _ F2 H2 (g.trans g2) r2⟩
        · cases h
      · cases h
    · exact sat ρ _ e1 F0 H0 F σ H R _ w
end
end Den
namespace Den
open PySem PySem.Spec PyProof.Rows L2 LamX NdefX Srt SrtO
theorem me_swap (p : Int × Int) : (dTup (dCons (dOp ixD (dVar 0) (dC (.int 1))) (dCons (dOp ixD (dVar 0) (dC (.int 0))) dNil))) [some (.val (pairD p))] = some (.ok (pairD (p.2, p.1))) := rfl
@[simp] theorem c_sortK {m : Env → M} {ρ : Env} : dSortK m ρ = bd (m ρ) fun d => match d with
  | .lst ds => match prsOf ds with
    | some qs => some (.ok (.lst ((sortK qs).map pairD)))
    | none => none
  | _ => none := rfl
variable [Named]
section
variable {P : Program} {w : World} {K : PySem.W.Frag} {mg : Str → Option Value} {base : Heap} {k : Nat} {f c : Addr} {fd : FuncData} {ps : List Str} {x : Str}
/-- the rule for a def whose code object is known -/
theorem dokC {Y : Cfg} {qual : Str} {st : Stmt} {N : List Str} {body : SM} {dvv : List V} {kwv : List (Str × V)} (hcd : fd.code = .ref c) (Fn : FunD K x qual (defArgs st) (defBody st) (defScope st) dvv kwv f fd) (S : FnScope N ps (defScope st))
    (hb : ∀ (A : Around) (outer : List PySem.Env) (s : Shared) (H : Hp) (E : XK), Room k (A.deeper (PyProof.Rows.envOfC qual (defScope st) s.heap.objs.size f (.ref c))) →
      Takes (cxOf (L2.CX P w) P w K mg base N qual (defScope st) f (.ref c) A outer s H E) (fun cls d _ H => E cls d H) →
      PassesOwn (model P w) (A.deeper (PyProof.Rows.envOfC qual (defScope st) s.heap.objs.size f (.ref c))) (PyProof.Rows.envOfC qual (defScope st) s.heap.objs.size f (.ref c)) (cxOf (L2.CX P w) P w K mg base N qual (defScope st) f (.ref c) A outer s H E).xe →
      GSs Y (cxOf (L2.CX P w) P w K mg base N qual (defScope st) f (.ref c) A outer s H E) (fun cls d _ H => E cls d H) (defBody st) body) :
    DOk Y P w K mg base (k + 1) f fd ps (runD N ps.length body) := by
  obtain ⟨oc, od, dV, kV, doc, pm, an, cdv, ct, osl, rfl, lk, hcdv, _, _⟩ := Fn.ex
  obtain rfl : cdv = .ref c := hcd
  refine fn_of lk hcdv S (fun vs H Q E h => ?_) (fun A outer s H vs Q E hr h => ?_)
  · obtain ⟨F, ds, r, e, rs, hl, _⟩ := h
    rw [rs.len, hl]
  · obtain ⟨F, ds, r, e, rs, hl, hf, want⟩ := h
    obtain ⟨t, pt, q⟩ := hb A outer s H E hr (takes_of rfl rfl rfl rfl) PassesOwn.leaving
    refine ⟨t, pt, ?_⟩
    unfold runD at hf
    rw [if_pos hl] at hf
    have R := rel_start (N := N) e.1 e.2 rs
    cases ho : body (startE N ds) with
    | none => rw [ho] at hf; cases hf
    | some oo =>
      refine q _ oo ho F H F _ H R _ ?_
      cases oo with
      | nx ρ => rw [ho] at hf; cases hf; exact fun F' σ' H' e' R' => want .non F' H' R'.gr .non
      | ret d => rw [ho] at hf; cases hf; exact fun v F' H' e' g rv => want v F' H' g rv
      | exc z ρ => rw [ho] at hf; cases hf; exact fun F' σ' H' dx e' R' xr => want F' H' dx R'.gr xr
      | bk ρ => rw [ho] at hf; cases hf
      | ct ρ => rw [ho] at hf; cases hf
end
end Den
set_option Elab.async false
set_option linter.all false
set_option maxRecDepth 100000
set_option maxHeartbeats 4000000
namespace Den
open PySem L2
variable [Named]
section
variable {Y : Cfg} {X : Cx} {W : WX} {K : PySem.W.Frag} {F H : Hp} {a b e : Expr} {es : List Expr} {ma mb : Env → M} {ms : Env → ML} {pos p2 : Pos}
/-! ### [a, ..] * n -/
def dRepL (ms : Env → ML) (mb : Env → M) : Env → M := fun ρ => bdL (ms ρ) fun ds => if ds.length ≤ 16777216 then bd (mb ρ) fun d => match d with
  | .int k => if -9223372036854775808 ≤ k ∧ k < 9223372036854775808 ∧ ds.length * k.toNat ≤ 16777216 then some (.ok (.lst (List.replicate k.toNat ds).flatten)) else none
  | _ => none
  else none
theorem repl_rep {K : PySem.W.Frag} {Y : Core} {F : Hp} {xs : List V} {ds : List D} (h : RepL K Y F xs ds) : ∀ n : Nat, RepL K Y F (List.replicate n xs).flatten (List.replicate n ds).flatten
  | 0 => .nil
  | n + 1 => by
    rw [List.replicate_succ, List.replicate_succ, List.flatten_cons, List.flatten_cons]
    exact h.append (repl_rep h n)
theorem ge_repL (ha : GA Y X W es ms) (hb : GE Y X W b mb) : GE Y X W (.BinOp (.List es p2) .Mult b pos) (dRepL ms mb) := by
  obtain ⟨ta, pa, qa⟩ := ha
  obtain ⟨tb, pb, qb⟩ := hb
  refine ⟨_, pe_op op_rep (pe_lst pa) pb, fun ρ r h F0 H0 F σ H R Q w => ?_⟩
  rcases bdL_some h with ⟨ds, e1, h⟩ | ⟨x, e1, rfl⟩
  · split at h
    · rename_i hz
      refine qa ρ _ e1 F0 H0 F σ H R _ fun vs F' H' g rs => ⟨by rw [rs.len]; exact hz, fun p hp => ?_⟩
      have n := Gr.new (o := .lst vs) g.fh hp
      rcases bd_some h with ⟨d, e2, h⟩ | ⟨x, e2, rfl⟩
      · refine qb ρ _ e2 F0 H0 _ σ _ ((R.grow g).grow n) _ fun u F2 H2 g2 rv => ?_
        split at h
        · rename_i k
          split at h
          · rename_i hk
            cases h
            cases rv
            have hp2 : H2 p = some (.lst vs) := g2.h p _ upd_same
            refine ⟨p, k, vs, rfl, rfl, hp2, hk.1, hk.2.1, by rw [rs.len]; exact hk.2.2, fun q hq => ?_⟩
            have n2 := Gr.new (o := .lst (List.replicate k.toNat vs).flatten) g2.fh hq
            exact w _ _ _ (((g.trans n).trans g2).trans n2) (.lst (SqL.of upd_same) ((repl_rep rs k.toNat).mono ((n.f.trans g2.f).trans n2.f)))
          · cases h
        · cases h
      · exact qb ρ _ e2 F0 H0 _ σ _ ((R.grow g).grow n) _ (w.exc (g.trans n))
    · cases h
  · exact qa ρ _ e1 F0 H0 F σ H R _ w
@[simp] theorem c_repL {ρ : Env} : dRepL ms mb ρ = bdL (ms ρ) fun ds => if ds.length ≤ 16777216 then bd (mb ρ) fun d => match d with
  | .int k => if -9223372036854775808 ≤ k ∧ k < 9223372036854775808 ∧ ds.length * k.toNat ≤ 16777216 then some (.ok (.lst (List.replicate k.toNat ds).flatten)) else none
  | _ => none
  else none := rfl
end
end Den
set_option Elab.async false
set_option linter.all false
set_option maxRecDepth 100000
set_option maxHeartbeats 4000000
namespace Den
open PySem PyProof.Rows
/-! ### min(l, default=d), l a list of ints -/
section
variable {prog : Program} {w : World} {A : Around} {E : Value → Shared → Prop} {s : Shared}
theorem md_args (a d : Value) : argsOk "min" ⟨[a], [(Str.ofString "default", d)]⟩ := by unfold argsOk; kernel_rfl
theorem md_name : (toString "min" ++ toString ".loop" : String) = "min.loop" := by decide
theorem md_loop {I l S : Addr} {its : Array Value} {d : Value} {R : Result → Shared → Prop} (hh : A.handled = none) (hlI : l ≠ I) (hSI : S ≠ I) (hSl : S ≠ l) (val : Nat → Int) (hval : ∀ (i : Nat) (v : Value), its[i]? = some v → ∃ t, v = .int (val i) t) (h0 : Heap)
    (hR : ∀ (i : Nat) v h' tk', its[i]? = some v → (∀ i', i' < its.size → val i ≤ val i') → (∀ b o, b ≠ S → b ≠ I → h0.get? b = some o → h'.get? b = some o) → R (.ok (.ret v)) { s with heap := h', toks := tk' }) :
    ∀ (k j i : Nat) (h : Heap) (tk : Tok) (vb : Value) (c : Nat), its.size - (j + 1) = k → j + 1 ≤ its.size → h.IsListIter I l (j + 1) → h.IsList l its → its[i]? = some vb → (∀ i', i' ≤ j → val i ≤ val i') → h.get? S = some (seqObj "list" #[vb, vb] c) →
      (∀ b o, b ≠ S → b ≠ I → h0.get? b = some o → h.get? b = some o) →
      codeAny (model prog w) A (.builtin "min.loop" ⟨[.ref I, .none, .ref S], [(Str.ofString "default", d)]⟩) R { s with heap := h, toks := tk } := by
  have W := Walks.list (prog := prog) (w := w) (A := A.in1) hh I l hlI its
  have cmp := CmpOf.ints_lt (prog := prog) (w := w) (A := A.in1) (P := fun i v => its[i]? = some v) val hval
  have upS : ∀ (g : Heap) (f : Obj → Obj) b o, b ≠ S → g.get? b = some o → (g.update S f).get? b = some o := fun g f b o hb e => (Heap.get?_update_ne _ _ _ _ hb).trans e
  intro k
  induction k with
  | zero =>
    intro j i h tk vb c hk hj hit hls hvb hbest hS hold
    have hin : j + 1 = its.size := by omega
    refine codeAny_builtin PySem.F.entry_min_loop ?_
    rw [Around.under_plainId PySem.F.plain_min_loop _]
    show wpAny _ A.in1 (seqItems? (.ref S) >>= _) _ _ _
    refine wpAny_bind (wpAny_seqItems hS rfl ?_)
    show wpAny _ A.in1 (tryCatch (pyNext (.ref I)) _ >>= _) _ _ _
    refine wpAny_bind (wpAny_tryCatch (W.done _ _ _ ⟨hin ▸ hit, hls⟩ fun h' tk' kp => ?_))
    have hS' := kp S _ (by simpa using hSI) hS
    show wpAny _ A.in1 (updateSeq S (fun _ => #[]) >>= _) _ _ _
    refine wpAny_bind ?_
    refine wpAny_updateSeq hS' rfl (wpAny_bind (wpAny_letGo (wpAny_pure ?_)))
    exact hR i vb _ _ hvb (fun i' hi' => hbest i' (by omega)) fun b o hb1 hb2 e => upS _ _ b o hb1 (kp b o (by simpa using hb2) (hold b o hb1 hb2 e))
  | succ k ih =>
    intro j i h tk vb c hk hj hit hls hvb hbest hS hold
    have hlt : j + 1 < its.size := by omega
    refine codeAny_builtin PySem.F.entry_min_loop ?_
    rw [Around.under_plainId PySem.F.plain_min_loop _]
    show wpAny _ A.in1 (seqItems? (.ref S) >>= _) _ _ _
    refine wpAny_bind (wpAny_seqItems hS rfl ?_)
    show wpAny _ A.in1 (tryCatch (pyNext (.ref I)) _ >>= _) _ _ _
    refine wpAny_bind (wpAny_tryCatch (W.item (j + 1) _ _ _ hlt ⟨hit, hls⟩ fun v h' tk' hv st' kp => ?_))
    have hS' := kp S _ (by simpa using hSI) hS
    have hold' : ∀ b o, b ≠ S → b ≠ I → h0.get? b = some o → h'.get? b = some o := fun b o hb1 hb2 e => kp b o (by simpa using hb2) (hold b o hb1 hb2 e)
    show wpAny _ A.in1 (tryCatch (holding [v, v] (richCompare .Lt v vb >>= _)) _ >>= _) _ _ _
    refine wpAny_bind (wpAny_tryCatch (wpAny_holding (wpAny_bind (cmp (j + 1) i v vb _ _ _ hv hvb ?_))))
    refine wpAny_bind (wpAny_holding (wpAny_truthy_bool ?_))
    refine wpAny_bind (wpAny_letGo (wpAny_pure ?_))
    by_cases hb2 : val (j + 1) < val i
    · rw [if_pos (show decide (val (j + 1) < val i) = true from decide_eq_true hb2)]
      refine wpAny_bind ?_
      refine wpAny_updateSeq hS' rfl (wpAny_bind (wpAny_letGo ?_))
      rw [md_name]
      refine wpAny_pure ⟨plainId_quiet PySem.F.plain_min_loop _, ih (j + 1) (j + 1) _ _ v _ (by omega) hlt (st'.1.at fun o e => upS _ _ _ o hSI.symm e) (st'.2.at fun o e => upS _ _ _ o hSl.symm e) hv (fun i' hi' => ?_) (Heap.get?_update_self _ hS' rfl) fun b o hb1 hb2 e => upS _ _ b o hb1 (hold' b o hb1 hb2 e)⟩
      rcases Nat.lt_or_ge i' (j + 1) with z | z
      · have := hbest i' (by omega); omega
      · rw [show i' = j + 1 by omega]; exact Int.le_refl _
    · rw [if_neg (show ¬ decide (val (j + 1) < val i) = true from fun z => hb2 (of_decide_eq_true z))]
      refine wpAny_bind (wpAny_letGo ?_)
      rw [md_name]
      refine wpAny_pure ⟨plainId_quiet PySem.F.plain_min_loop _, ih (j + 1) i _ _ vb c (by omega) hlt st'.1 st'.2 hvb (fun i' hi' => ?_) hS' hold'⟩
      rcases Nat.lt_or_ge i' (j + 1) with z | z
      · exact hbest i' (by omega)
      · rw [show i' = j + 1 by omega]; omega
theorem md_min {l : Addr} {its : Array Value} {d : Value} {Q : Value → Shared → Prop} (hh : A.handled = none) (hl : s.heap.IsList l its) (val : Nat → Int) (hval : ∀ (i : Nat) (v : Value), its[i]? = some v → ∃ t, v = .int (val i) t)
    (none_ : its.size = 0 → ∀ h' tk, (∀ b o, s.heap.get? b = some o → h'.get? b = some o) → Q d { s with heap := h', toks := tk })
    (some_ : ∀ (i : Nat) v h' tk, its[i]? = some v → (∀ i', i' < its.size → val i ≤ val i') → (∀ b o, s.heap.get? b = some o → h'.get? b = some o) → Q v { s with heap := h', toks := tk }) :
    wpAny (model prog w) A (call (.builtin "min") [.ref l] [(Str.ofString "default", d)]) Q E s := by
  obtain ⟨ol, hol, _⟩ := id hl
  have hlt : l < s.heap.objs.size := Heap.lt_size hol
  refine kmk_tree PySem.F.kind_min PySem.F.plain_min PySem.F.entry_min (md_args _ _) ?_
  show wpAny _ A.in1 (Builtin.Builtins.bindParams "min" ["key", "default"] 0 ⟨[], [(Str.ofString "default", d)]⟩ >>= _) _ _ s
  refine wpAny_bind (wpAny_of_eq (show Builtin.Builtins.bindParams "min" ["key", "default"] 0 ⟨[], [(Str.ofString "default", d)]⟩ = pure [none, some d] from rfl) ?_)
  refine wpAny_bind (wpAny_pure ?_)
  refine wpAny_bind (wpAny_pyIter_list hl ?_)
  refine wpAny_bind (wpAny_newList ?_ (Nat.zero_le _))
  rw [md_name]
  let hI := s.heap.push { cls := .type "list_iterator", data := .fields #[.ref l, .int 0 0] }
  have sI : hI.objs.size = s.heap.objs.size + 1 := size_push' ..
  have gI : (hI.push (seqObj "list" #[] 0)).get? s.heap.objs.size = some { cls := .type "list_iterator", data := .fields #[.ref l, .int 0 0] } := Heap.get?_push_of_some _ (Heap.get?_push_size _ rfl)
  have gS : (hI.push (seqObj "list" #[] 0)).get? hI.objs.size = some (seqObj "list" #[] 0) := Heap.get?_push_size _ rfl
  have gL : (hI.push (seqObj "list" #[] 0)).IsList l its := (hl.push _).push _
  have old : ∀ b o, s.heap.get? b = some o → (hI.push (seqObj "list" #[] 0)).get? b = some o := fun b o e => Heap.get?_push_of_some _ (Heap.get?_push_of_some _ e)
  have nI : l ≠ s.heap.objs.size := Nat.ne_of_lt hlt
  have nS : hI.objs.size ≠ s.heap.objs.size := by rw [sI]; exact Nat.ne_of_gt (Nat.lt_succ_self _)
  have nSl : hI.objs.size ≠ l := by rw [sI]; exact Nat.ne_of_gt (Nat.lt_succ_of_lt hlt)
  have ne : ∀ b o, s.heap.get? b = some o → b ≠ hI.objs.size ∧ b ≠ s.heap.objs.size := fun b o e => by
    have := Heap.lt_size e
    exact ⟨by rw [sI]; exact Nat.ne_of_lt (Nat.lt_succ_of_lt this), Nat.ne_of_lt this⟩
  have W := Walks.list (prog := prog) (w := w) (A := A.in1) hh s.heap.objs.size l nI its
  refine wpAny_pure ⟨plainId_quiet PySem.F.plain_min_loop _, ?_⟩
  refine codeAny_builtin PySem.F.entry_min_loop ?_
  rw [Around.under_plainId PySem.F.plain_min_loop _]
  show wpAny _ A.in1 (seqItems? (.ref hI.objs.size) >>= _) _ _ { s with heap := hI.push (seqObj "list" #[] 0) }
  refine wpAny_bind (wpAny_seqItems gS rfl ?_)
  show wpAny _ A.in1 (tryCatch (pyNext (.ref s.heap.objs.size)) _ >>= _) _ _ _
  rcases Nat.eq_zero_or_pos its.size with hz | hz
  · refine wpAny_bind (wpAny_tryCatch (W.done _ _ _ ⟨by rw [hz]; exact ⟨_, gI, rfl, rfl⟩, gL⟩ fun h' tk' kp => ?_))
    show wpAny _ A.in1 (rule _ >>= _) _ _ _
    refine wpAny_bind (wpAny_rule (wpAny_pure ?_))
    exact none_ hz _ _ fun b o e => kp b o (by simpa using (ne b o e).2) (old b o e)
  · refine wpAny_bind (wpAny_tryCatch (W.item 0 _ _ _ hz ⟨⟨_, gI, rfl, rfl⟩, gL⟩ fun v h' tk' hv st' kp => ?_))
    have hS' := kp hI.objs.size _ (by simpa using nS) gS
    show wpAny _ A.in1 (updateSeq hI.objs.size (fun _ => #[v, v]) >>= _) _ _ _
    refine wpAny_bind ?_
    refine wpAny_updateSeq hS' rfl ?_
    rw [md_name]
    have upS : ∀ (g : Heap) (f : Obj → Obj) b o, b ≠ hI.objs.size → g.get? b = some o → (g.update hI.objs.size f).get? b = some o := fun g f b o hb e => (Heap.get?_update_ne _ _ _ _ hb).trans e
    refine wpAny_pure ⟨plainId_quiet PySem.F.plain_min_loop _, md_loop hh nI nS nSl val hval (hI.push (seqObj "list" #[] 0)) (fun i v h' tk' hi hb kp2 => some_ i v h' tk' hi hb fun b o e => kp2 b o (ne b o e).1 (ne b o e).2 (old b o e)) _ 0 0 _ _ v _ rfl hz (st'.1.at fun o e => upS _ _ _ o nS.symm e) (st'.2.at fun o e => upS _ _ _ o nSl.symm e) hv (fun i' hi' => ?_) (Heap.get?_update_self _ hS' rfl) fun b o hb1 hb2 e => upS _ _ b o hb1 (kp b o (by simpa using hb2) e)⟩
    rw [show i' = 0 by omega]; exact Int.le_refl _
end
end Den
set_option Elab.async false
set_option linter.all false
set_option maxRecDepth 100000
set_option maxHeartbeats 4000000
namespace Den
open PySem L2
def minL (n : Int) (ns : List Int) : Int := ns.foldl min n
theorem minL_le : ∀ (ns : List Int) (n : Int), minL n ns ≤ n ∧ ∀ m ∈ ns, minL n ns ≤ m
  | [], n => ⟨Int.le_refl _, fun _ h => nomatch h⟩
  | a :: ns, n => by
    obtain ⟨h1, h2⟩ := minL_le ns (min n a)
    refine ⟨Int.le_trans h1 (Int.min_le_left ..), fun m hm => ?_⟩
    rcases List.mem_cons.mp hm with rfl | hm
    · exact Int.le_trans h1 (Int.min_le_right ..)
    · exact h2 m hm
theorem minL_mem : ∀ (ns : List Int) (n : Int), minL n ns = n ∨ minL n ns ∈ ns
  | [], n => .inl rfl
  | a :: ns, n => by
    rcases minL_mem ns (min n a) with h | h
    · have e : minL n (a :: ns) = min n a := h
      rcases Int.le_total n a with z | z
      · exact .inl (by rw [e]; exact Int.min_eq_left z)
      · exact .inr (by rw [e, Int.min_eq_right z]; exact List.mem_cons_self ..)
    · exact .inr (List.mem_cons_of_mem _ h)
theorem minL_one {ns : List Int} {n m : Int} (h : m ∈ n :: ns) (hl : ∀ x ∈ n :: ns, m ≤ x) : m = minL n ns := by
  have h1 := minL_le ns n
  rcases List.mem_cons.mp h with rfl | h
  · rcases minL_mem ns m with e | e
    · exact e.symm
    · exact Int.le_antisymm (hl _ (List.mem_cons_of_mem _ e)) h1.1
  · rcases minL_mem ns n with e | e
    · have := hl n (List.mem_cons_self ..)
      have := h1.2 m h
      omega
    · have := hl _ (List.mem_cons_of_mem _ e)
      have := h1.2 m h
      omega
def minDfD (x y : D) : Option D := match x with
  | .lst ds => match intsOf ds with
    | some [] => some y
    | some (n :: ns) => some (.int (minL n ns))
    | none => none
  | _ => none
/-- min(l, default=e) -/
def dMinDf (m md : Env → M) : Env → M := fun ρ => bd (m ρ) fun x => bd (md ρ) fun y => lift (minDfD x y)
variable [Named]
section
variable {Y : Cfg} {X : Cx} {W : WX} {K : PySem.W.Frag} {F H : Hp} {a b e : Expr} {es : List Expr} {ma mb : Env → M} {ms : Env → ML} {pos p p2 p3 kp : Pos}
def rMinDf (K : PySem.W.Frag) : List V → List V → Hp → VK → Prop := fun vs zs H Q => ∃ (a : Addr) (ns : List Int) (z : V), vs = [V.ref a] ∧ zs = [z] ∧ SqL K H a (ns.map V.int) ∧ (ns = [] → Q z H) ∧ ∀ m, m ∈ ns → (∀ y ∈ ns, m ≤ y) → Q (.int m) H
theorem cr_minDf (hc : X.calm = true) : CallRK X (.builtin "min") [Str.ofString "default"] (rMinDf X.K) := by
  intro pins s σ H vs zs us ws Q I r rz h
  obtain ⟨l, ns, z, rfl, rfl, hs, q0, q1⟩ := h
  obtain ⟨its, rv, hl, _⟩ := I.list hs
  rw [Vals.ref1 r]
  obtain ⟨w1, rfl, e1⟩ := vals1 rz
  have hi := rv.ints
  have at_ : ∀ (i : Nat) (v : Value), its.toArray[i]? = some v → ∃ t, v = .int (ns.getD i 0) t := fun i v hv => by
    have hv' : its[i]? = some v := by simpa using hv
    have hlt : i < (ns.map V.int).length := by rw [rv.length]; exact (List.getElem?_eq_some_iff.mp hv').1
    obtain ⟨u, hu, ru⟩ := rv.get (List.getElem?_eq_getElem hlt)
    rw [hv'] at hu
    cases hu
    rw [List.length_map] at hlt
    rw [List.getElem_map] at ru
    obtain ⟨t, e⟩ := ru
    exact ⟨t, by rw [e, List.getD_eq_getElem?_getD, List.getElem?_eq_getElem hlt]; rfl⟩
  have hsz : its.toArray.size = ns.length := by rw [List.size_toArray, ← rv.length, List.length_map]
  refine md_min (I.ok.hd hc) hl.isList (fun i => ns.getD i 0) at_ (fun hz h' tk hk => ?_) (fun i v h' tk hv hb hk => ?_)
  · rw [hsz] at hz
    exact ⟨z, H, I.kept hk, e1, q0 (List.length_eq_zero_iff.mp hz)⟩
  · obtain ⟨t, rfl⟩ := at_ i v hv
    have hi' : i < ns.length := by
      rw [← hsz]
      exact (Array.getElem?_eq_some_iff.mp hv).1
    refine ⟨.int (ns.getD i 0), H, I.kept hk, ⟨t, rfl⟩, q1 _ ?_ fun y hy => ?_⟩
    · rw [List.getD_eq_getElem?_getD, List.getElem?_eq_getElem hi']; exact List.getElem_mem hi'
    · obtain ⟨j, hj, rfl⟩ := List.getElem_of_mem hy
      have := hb j (by rw [hsz]; exact hj)
      simpa [List.getD_eq_getElem?_getD, List.getElem?_eq_getElem hj] using this
theorem ge_minDf (hc : X.calm = true) (hg : Gl X "min") (hm : X.mg "min" = none) (ha : GA Y X W [e] (dCons ma dNil)) (hb : GE Y X W b mb)
    (he : backTo pos (starEach [e] X.env) = (false, eval e X.env) :: backTo pos (starEach [] X.env) := by rfl) (hpl : (backTo pos (starEach [e] X.env)).any (·.1) = false := by rfl) :
    GE Y X W (.Call (.Name "min" p) [e] [⟨some "default", b, kp⟩] pos) (dMinDf ma mb) := by
  obtain ⟨t, pt, q⟩ := ha
  obtain ⟨t2, pb, q2⟩ := hb
  refine ⟨_, pe_callBK (cr_minDf hc) hg hm bt_min pt (pk_cons pb pk_nil) (by decide) (by decide) he hpl rfl rfl rfl, fun ρ r h F0 H0 F σ H R Q w => ?_⟩
  rcases bd_some h with ⟨d, e1, h⟩ | ⟨x, e1, rfl⟩
  · refine q ρ (.ok [d]) (by simp [dCons, dNil, e1, consL]) F0 H0 F σ H R _ fun vs F1 H1 g1 rs => ?_
    obtain ⟨v, rfl, rv⟩ := repL1 rs
    rcases bd_some h with ⟨d2, e2, h⟩ | ⟨x, e2, rfl⟩
    · refine q2 ρ _ e2 F0 H0 F1 σ H1 (R.grow g1) _ fun u F2 H2 g2 ru => ?_
      obtain ⟨z, e3, rfl⟩ := lift_some h
      unfold minDfD at e3
      split at e3
      · rename_i ds
        obtain ⟨l, ys, rfl, hl, ra⟩ := rep_lst rv
        split at e3
        · rename_i hn
          cases e3
          have := ints_rep ra hn
          subst this
          exact ⟨l, [], u, rfl, rfl, ex_l (g1.fh.trans g2.h) hl, fun _ => w _ _ _ (g1.trans g2) ru, fun m hm => nomatch hm⟩
        · rename_i n ns hn
          cases e3
          have := ints_rep ra hn
          subst this
          exact ⟨l, n :: ns, u, rfl, rfl, ex_l (g1.fh.trans g2.h) hl, (fun z => nomatch z), fun m hm hle => by
            rw [minL_one hm hle]
            exact w _ F2 H2 (g1.trans g2) (.int _)⟩
        · cases e3
      · cases e3
    · exact q2 ρ _ e2 F0 H0 F1 σ H1 (R.grow g1) _ (w.exc g1)
  · exact q ρ (.exc x) (by simp [dCons, dNil, e1, consL]) F0 H0 F σ H R _ w

/-! ### isinstance(x, (T1, T2)) -/
def isi2D (t1 t2 : String) (d : D) : Option D := match isiD t1 d with
  | some (.bl true) => some (.bl true)
  | some (.bl false) => isiD t2 d
  | _ => none
theorem isi_some {t : String} {d z : D} (h : isiD t d = some z) : (∀ c fs, d ≠ .obj c fs) ∧ ∃ b, z = .bl b ∧ kitB d.ty t = some b := by
  have hno : ∀ c fs, d ≠ .obj c fs := fun c fs e => by subst e; cases h
  refine ⟨hno, ?_⟩
  have e3 : (kitB d.ty t).map (fun b => D.bl b) = some z := by
    unfold isiD at h
    split at h
    · cases h
    · exact h
  cases hb : kitB d.ty t with
  | none => rw [hb] at e3; cases e3
  | some b => rw [hb] at e3; cases e3; exact ⟨b, rfl, rfl⟩
theorem ge_isi2 {T1 T2 : Str} {t1 t2 : String} {k : Nat} {p1 p2 p3 : Pos} (hg : Gl X "isinstance") (hm : X.mg "isinstance" = none) (hg1 : Gl X T1) (hm1 : X.mg T1 = none) (hv1 : bootBuiltins T1 = some (.type t1)) (hg2 : Gl X T2) (hm2 : X.mg T2 = none) (hv2 : bootBuiltins T2 = some (.type t2)) (ha : GE Y X W a ma)
    (n1 : T1 ≠ "__name__" := by decide) (n2 : T2 ≠ "__name__" := by decide) (d1 : (T1 == ("__debug__" : Str)) = false := by decide) (d2 : (T2 == ("__debug__" : Str)) = false := by decide)
    (he : starEach [a, .Tuple [.Name T1 p1, .Name T2 p2] k p3] X.env = (false, eval a X.env) :: starEach [.Tuple [.Name T1 p1, .Name T2 p2] k p3] X.env := by rfl) (he2 : starEach [.Tuple [.Name T1 p1, .Name T2 p2] k p3] X.env = (false, eval (.Tuple [.Name T1 p1, .Name T2 p2] k p3) X.env) :: starEach [] X.env := by rfl)
    (he3 : starEach [.Name T1 p1, .Name T2 p2] X.env = (false, eval (.Name T1 p1) X.env) :: starEach [.Name T2 p2] X.env := by rfl) (he4 : starEach [.Name T2 p2] X.env = (false, eval (.Name T2 p2) X.env) :: starEach [] X.env := by rfl)
    (hpl : (backTo pos (starEach [.Tuple [.Name T1 p1, .Name T2 p2] k p3] X.env)).any (·.1) = false := by rfl) : GE Y X W (.Call (.Name "isinstance" p) [a, .Tuple [.Name T1 p1, .Name T2 p2] k p3] [] pos) (fun ρ => bd (ma ρ) fun d => lift (isi2D t1 t2 d)) := by
  obtain ⟨ta, pa, sa⟩ := ha
  refine ⟨_, pe_callB (x := "isinstance") call_isiT hg hm PyProof.Rows.boot_isinstance (pa_cons pa (pa_cons (pe_tup (pa_cons (pe_bltn (v := .ty t1) hg1 hm1 hv1 rfl n1 d1) (pa_cons (pe_bltn (v := .ty t2) hg2 hm2 hv2 rfl n2 d2) pa_nil he4) he3)) pa_nil he2) he) (by decide) (by decide) he hpl, fun ρ r h F0 H0 F σ H R Q w => ?_⟩
  rcases bd_some h with ⟨d, e1, h⟩ | ⟨x, e1, rfl⟩
  · obtain ⟨z, e2, rfl⟩ := lift_some h
    refine sa ρ _ e1 F0 H0 F σ H R _ fun v F' H' g q => ⟨(by show 2 ≤ sizeLine; decide), fun tp hn => ?_⟩
    have n := Gr.new (o := .tup [.ty t1, .ty t2]) g.fh hn
    have hk : ∃ b, z = .bl b ∧ (∀ c fs, d ≠ .obj c fs) ∧ PySem.W.kitAny X.K (.type d.ty) [.type t1, .type t2] = some b := by
      unfold isi2D at e2
      split at e2
      · rename_i h1
        cases e2
        obtain ⟨hno, b1, eb, k1⟩ := isi_some h1
        cases eb
        exact ⟨true, rfl, hno, kitAny_cons (kit_ty k1) (fun z => nomatch z) fun _ => rfl⟩
      · rename_i h1
        obtain ⟨hno, b1, eb, k1⟩ := isi_some h1
        cases eb
        obtain ⟨_, b2, rfl, k2⟩ := isi_some e2
        refine ⟨b2, rfl, hno, kitAny_cons (kit_ty k1) (fun _ => ?_) fun z => nomatch z⟩
        cases b2 with
        | true => exact kitAny_cons (kit_ty k2) (fun z => nomatch z) fun _ => rfl
        | false => exact kitAny_cons (kit_ty k2) (fun _ => kitAny_nil) fun z => nomatch z
      · cases e2
    obtain ⟨b, rfl, hno, ka⟩ := hk
    exact ⟨v, tp, [.ty t1, .ty t2], .type d.ty, [.type t1, .type t2], b, rfl, upd_same, .cons (.ty _) (.cons (.ty _) .nil), tyX_of (q.mono n.f) n.fh hno, ka, w _ _ _ (g.trans n) (.bl b)⟩
  · exact sa ρ _ e1 F0 H0 F σ H R _ w

/-! ### isinstance(x, C), x one of the class -/
def isCD (c : Nat) (d : D) : Option D := match d with
  | .obj c' _ => if c' = c then some (.bl true) else none
  | _ => none
theorem ge_isiC (c : Nat) {T : Str} (hg : Gl X "isinstance") (hm : X.mg "isinstance" = none) (hgT : Gl X T) (hmT : X.mg T = some (.ref (Y.cl c))) (cl : Cls X.K (Y.cl c)) (hk : PySem.W.findIn X.K (.ref (Y.cl c)) "__class__" = some (some (.builtin "object.__class__")))
    (hsn : PySem.W.specialIn X.K (.builtin "object.__class__") "__get__" = some (some (.builtin "getset_descriptor.__get__"))) (htk : PySem.W.takesIn X.K (.builtin "object.__class__") = some true) (hmr : PySem.W.mroIn X.K (Y.cl c) (.type "object") = some true) (ha : GE Y X W a ma)
    (hdb : (T == ("__debug__" : Str)) = false := by decide) (he : starEach [a, .Name T p2] X.env = (false, eval a X.env) :: starEach [.Name T p2] X.env := by rfl) (he2 : starEach [.Name T p2] X.env = (false, eval (.Name T p2) X.env) :: starEach [] X.env := by rfl)
    (hpl : (backTo pos (starEach [.Name T p2] X.env)).any (·.1) = false := by rfl) : GE Y X W (.Call (.Name "isinstance" p) [a, .Name T p2] [] pos) (fun ρ => bd (ma ρ) fun d => lift (isCD c d)) := by
  obtain ⟨ta, pa, sa⟩ := ha
  refine ⟨_, pe_callB (x := "isinstance") call_isi hg hm PyProof.Rows.boot_isinstance (pa_cons pa (pa_cons (pe_glob (v := .ref (Y.cl c)) hgT hmT rfl hdb) pa_nil he2) he) (by decide) (by decide) he hpl, fun ρ r h F0 H0 F σ H R Q w => ?_⟩
  rcases bd_some h with ⟨d, e1, h⟩ | ⟨x, e1, rfl⟩
  · obtain ⟨z, e2, rfl⟩ := lift_some h
    refine sa ρ _ e1 F0 H0 F σ H R _ fun v F' H' g q => ?_
    unfold isCD at e2
    split at e2
    · split at e2
      · rename_i hc
        subst hc
        cases e2
        obtain ⟨o, dx, xs, rfl, hp, hl, rx⟩ := rep_obj q
        exact ⟨.ref o, .ref (Y.cl _), .ref (Y.cl _), .ref (Y.cl _), true, rfl, .own _, .base (.ins (g.fh _ _ hp) cl hk hsn htk hmr), (by unfold PySem.W.kitOne; rw [if_pos (by simp)]), w _ F' H' g (.bl _)⟩
      · cases e2
    · cases e2
  · exact sa ρ _ e1 F0 H0 F σ H R _ w
@[simp] theorem c_minDf {m md : Env → M} {ρ : Env} : dMinDf m md ρ = bd (m ρ) fun x => bd (md ρ) fun y => lift (minDfD x y) := rfl
end
end Den
set_option Elab.async false
set_option linter.all false
set_option maxRecDepth 100000
set_option maxHeartbeats 4000000
namespace Den
open PySem L2
variable [Named]
/-! ### zip of two lists or of two tuples -/
theorem walk_zipT {K : PySem.W.Frag} {a b : Addr} {xs ys : List V} {n : Nat} (hn : n = min xs.length ys.length) : Walk (RZ.ItzT K a b) n (fun H => SqT K H a xs ∧ SqT K H b ys) (YPair (fun i => xs[i]?) (fun i => ys[i]?)) := by
  subst hn
  refine ⟨fun i _ hi q => ?_, fun _ q => ⟨xs, ys, q.1, q.2, by omega⟩, fun i H v H' _ q y => ?_⟩
  · have h1 : i < xs.length := by omega
    have h2 : i < ys.length := by omega
    exact ⟨xs, ys, xs[i], ys[i], q.1, q.2, by simp [h1], by simp [h2]⟩
  · obtain ⟨T, x, z, h1, h2, h3, h4, h5⟩ := y
    exact ⟨T, x, z, h1, h2, h3, h4 xs q.1, h5 ys q.2⟩
def zipD (ds es : List D) : List D := List.zipWith (fun d e => .tup [d, e]) ds es
theorem zipD_len (ds es : List D) : (zipD ds es).length = min ds.length es.length := List.length_zipWith
theorem zipD_get {ds es : List D} {i : Nat} {d e : D} (h : ds[i]? = some d) (h2 : es[i]? = some e) : (zipD ds es)[i]? = some (.tup [d, e]) := by
  unfold zipD
  rw [List.getElem?_zipWith, h, h2]
section
variable {Y : Cfg} {X : Cx} {W : WX} {K : PySem.W.Frag} {F H : Hp} {e e2 : Expr} {p pos tpos : Pos} {xs ys : List V} {ds es : List D} {a b : Addr}
theorem walkd_zipL (hp : SqL K F a xs) (hq : SqL K F b ys) (rx : RepL K Y.toCore F xs ds) (ry : RepL K Y.toCore F ys es) : WalkD K Y.toCore F (Itz K a b) (zipD ds es) := by
  have hl : (zipD ds es).length = min xs.length ys.length := by rw [zipD_len, ← rx.len, ← ry.len]
  refine ⟨fun H => SqL K H a xs ∧ SqL K H b ys, _, (by rw [hl]; exact walk_zip (xs := xs) (ys := ys) rfl), fun H e => ⟨ex_l e hp, ex_l e hq⟩, fun i H x H' hi e y F1 e1 e2 => ?_⟩
  obtain ⟨T, x1, y1, rfl, hT, rfl, hx1, hy1⟩ := y
  obtain ⟨d, hd, rd⟩ := rx.getV hx1
  obtain ⟨d2, hd2, rd2⟩ := ry.getV hy1
  have gn := Gr.new (o := .tup [x1, y1]) e2 hT
  refine ⟨_, _, zipD_get hd hd2, gn, ?_⟩
  exact .tup (SqT.of upd_same) (.cons (rd.mono (e1.trans gn.f)) (.cons (rd2.mono (e1.trans gn.f)) .nil))
theorem walkd_zipT (hp : SqT K F a xs) (hq : SqT K F b ys) (rx : RepL K Y.toCore F xs ds) (ry : RepL K Y.toCore F ys es) : WalkD K Y.toCore F (RZ.ItzT K a b) (zipD ds es) := by
  have hl : (zipD ds es).length = min xs.length ys.length := by rw [zipD_len, ← rx.len, ← ry.len]
  refine ⟨fun H => SqT K H a xs ∧ SqT K H b ys, _, (by rw [hl]; exact walk_zipT (xs := xs) (ys := ys) rfl), fun H e => ⟨ex_t e hp, ex_t e hq⟩, fun i H x H' hi e y F1 e1 e2 => ?_⟩
  obtain ⟨T, x1, y1, rfl, hT, rfl, hx1, hy1⟩ := y
  obtain ⟨d, hd, rd⟩ := rx.getV hx1
  obtain ⟨d2, hd2, rd2⟩ := ry.getV hy1
  have gn := Gr.new (o := .tup [x1, y1]) e2 hT
  refine ⟨_, _, zipD_get hd hd2, gn, ?_⟩
  exact .tup (SqT.of upd_same) (.cons (rd.mono (e1.trans gn.f)) (.cons (rd2.mono (e1.trans gn.f)) .nil))
def iZip (ms : Env → ML) : Env → ML := fun ρ => match ms ρ with
  | some (.ok [.lst ds, .lst es]) => some (.ok (zipD ds es))
  | some (.ok [.tup ds, .tup es]) => some (.ok (zipD ds es))
  | some (.exc x) => some (.exc x)
  | _ => none
theorem gi_zip {elts : List Expr} {kk : Nat} {ms : Env → ML} (hg : Gl X "zip") (hm : X.mg "zip" = none) (ha : GA Y X W [e, e2] ms)
    (hs : starEach [e, e2] X.env = (false, eval e X.env) :: starEach [e2] X.env := by rfl) (hpl : (backTo pos (starEach [e2] X.env)).any (·.1) = false := by rfl) :
    GI Y X W (.Tuple elts kk tpos) (.Call (.Name "zip" p) [e, e2] [] pos) (iZip ms) := by
  obtain ⟨t, pa, q⟩ := ha
  refine ⟨_, RZ.pi_zipA hg hm pa hs hpl, fun ρ r h F0 H0 F σ H R Q w => ?_⟩
  unfold iZip at h
  split at h
  · rename_i ds es e1
    cases h
    refine q ρ _ e1 F0 H0 F σ H R _ fun vs F' H' g rs => ?_
    obtain ⟨v, u, rfl, rv, ru⟩ := repL2 rs
    obtain ⟨a, xs, rfl, hp, rx⟩ := rep_lst rv
    obtain ⟨b, ys, rfl, hq, ry⟩ := rep_lst ru
    exact ⟨a, b, xs, ys, rfl, .inl ⟨ex_l g.fh hp, ex_l g.fh hq, w _ F' H' g (walkd_zipL hp hq rx ry)⟩⟩
  · rename_i ds es e1
    cases h
    refine q ρ _ e1 F0 H0 F σ H R _ fun vs F' H' g rs => ?_
    obtain ⟨v, u, rfl, rv, ru⟩ := repL2 rs
    obtain ⟨a, xs, rfl, hp, rx⟩ := rep_tup rv
    obtain ⟨b, ys, rfl, hq, ry⟩ := rep_tup ru
    exact ⟨a, b, xs, ys, rfl, .inr ⟨ex_t g.fh hp, ex_t g.fh hq, w _ F' H' g (walkd_zipT hp hq rx ry)⟩⟩
  · rename_i x e1
    cases h
    exact q ρ _ e1 F0 H0 F σ H R _ w
  · cases h
@[simp] theorem c_zip {ms : Env → ML} {ρ : Env} : iZip ms ρ = match ms ρ with
  | some (.ok [.lst ds, .lst es]) => some (.ok (zipD ds es))
  | some (.ok [.tup ds, .tup es]) => some (.ok (zipD ds es))
  | some (.exc x) => some (.exc x)
  | _ => none := rfl
end
end Den
set_option Elab.async false
set_option linter.all false
set_option maxRecDepth 100000
set_option maxHeartbeats 4000000
namespace Den
open PySem PySem.Spec PyProof.Rows L2
variable [Named]
/-! ### x[k] = v on an own list -/
section
variable {X : Cx} {o i value : Expr} {pos pos' : Pos} {tl tk tv : TE}
theorem setItem_own {prog : Program} {w : World} {A : Around} {E : Value → Shared → Prop} {s : Shared} {l : Addr} {its : List Value} {n : Nat} {k : Int} {t : Tok} {u : Value} {Q : Unit → Shared → Prop}
    (e : s.heap.get? l = some { cls := .type "list", data := .seq its.toArray n }) (h0 : 0 ≤ k) (hk : k < its.length) (hf : Builtin.List.listFitsIndex k = true)
    (h : Q () { s with heap := s.heap.update l (Obj.mapSeq fun xs => xs.setIfInBounds k.toNat u) }) : wpAny (model prog w) A (setItem (.ref l) (.int k t) u) Q E s := by
  have hl : s.heap.IsList l its.toArray := PySem.IsL.isList e
  unfold setItem
  try with_reducible refine wpAny_holding ?_
  first | refine wpAny_bind (wpAny_pure ?_) | skip
  refine wpAny_bind (wpAny_sequenceKey hl.typeIs (by decide) (wpAny_bind (wpAny_callSpecial?_slot (name := Str.ofString "__setitem__") hl.typeIs slot_list_setitem (wpAny_call_entry slot_list_setitem hl.typeIs entry_list_setitem ?_ (args_list_setitem _ _ _)))))
  show wpAny _ _ (Builtin.List.listSubscript? (.int k t) >>= _) _ _ s
  refine wpAny_bind (wpAny_listSubscript_int hf ?_)
  clear hf
  cases k with
  | negSucc k => exact absurd h0 (by omega)
  | ofNat k =>
    have hk2 : k < its.length := Int.ofNat_lt.mp hk
    have hx : its.toArray[k]? = some its[k] := by simp [hk2]
    show wpAny _ _ ((seqItemAt l k >>= fun r => pure (r.map (k, ·))) >>= _) _ _ s
    refine wpAny_bind (wpAny_bind (wpAny_seqItemAt e rfl (wpAny_pure ?_)))
    rw [hx]
    show wpAny _ _ (setSeqItemAt l k u >>= _) _ _ s
    refine wpAny_bind (wpAny_setSeqItemAt e rfl ?_)
    first
      | exact wpAny_bind (wpAny_pure (wpAny_pure ⟨.none, rfl, wpAny_pure h⟩))
      | exact wpAny_pure ⟨.none, rfl, wpAny_pure h⟩
def sLPut (tl tk tv : TE) : TS := fun D σ H => tv σ H fun v H1 => tl σ H1 fun x H2 => tk σ H2 fun y H3 => ∃ (l : Addr) (xs : List V) (k : Nat), x = .ref l ∧ y = .int (k : Int) ∧ H3 l = some (.lst xs) ∧ k < xs.length ∧ D.nx σ (upd H3 l (.lst (xs.set k v)))
theorem ps_lput (ho : PE X o tl) (hi : PE X i tk) (hv : PE X value tv) (hs : swapsWith value (some (.Subscript o i pos')) pos.line X.env = pure false) : PS X (.Assign [.Subscript o i pos'] value pos) (sLPut tl tk tv) := by
  refine ⟨fun pins s σ H D I h => ?_⟩
  refine wpAny_Assign_Subscript (thn (hv.run pins s σ H _ I h) fun r s1 ⟨v, H1, I1, rv, q1⟩ => thn (ho.run pins s1 σ H1 _ I1 q1) fun u s2 ⟨x, H2, I2, rx, q2⟩ => thn (hi.run pins s2 σ H2 _ I2 q2) fun iv s3 ⟨y, H3, I3, ry, l, xs, k, ex, ey, hH, hk, q3⟩ => ?_) hs
  subst ex ey
  obtain rfl : u = Value.ref l := rx
  obtain ⟨t, rfl⟩ := ry
  obtain ⟨z, its, n, rr, hl, e⟩ := I3.lstM hH
  have zz : sizeLine = 16777216 := rfl
  refine setItem_own e (Int.natCast_nonneg k) (by omega) (fitsIndex_of (Int.natCast_nonneg k) (by omega)) ⟨σ, _, I3.lset (t' := s3.toks) (its' := its.set k r) hH e (by simp) (Vals.set rv k rr) (by rw [List.length_set]; exact z), q3⟩
end
theorem RepL.put {K : PySem.W.Frag} {Y : Core} {F : Hp} {v : V} {d : D} (r : Rep K Y F v d) : ∀ {xs : List V} {ds : List D} (k : Nat), RepL K Y F xs ds → RepL K Y F (xs.set k v) (ds.set k d)
  | _, _, _, .nil => .nil
  | _, _, 0, .cons _ t => .cons r t
  | _, _, k + 1, .cons q t => .cons q (RepL.put r k t)
/-- x[k] = v; x: the own list of slot i -/
def dPut (i : Nat) (mk m : Env → M) : SM := fun ρ => match ρ[i]? with
  | some (some (.own ds)) => bo (m ρ) ρ fun d => bo (mk ρ) ρ fun y => match y with
    | .int k => if 0 ≤ k ∧ k < ds.length then some (.nx (ρ.set i (some (.own (ds.set k.toNat d))))) else none
    | _ => none
  | _ => none
section
variable {Y : Cfg} {X : Cx} {W : WX} {e ix : Expr} {ma mk : Env → M} {pos pos' : Pos}
theorem gs_put (i : Nat) {x : Str} {p1 : Pos} (hk : GE Y X W ix mk) (he : GE Y X W e ma) (hN : X.N[i]? = some x := by rfl) (hv : Vis X.env.scope x := by first | exact Or.inl rfl | exact Or.inr (Or.inl rfl) | exact Or.inr (Or.inr rfl)) (hd : (x == ("__debug__" : Str)) = false := by decide)
    (hcd : (x == ("__classdict__" : Str)) = false := by decide) (hs : swapsWith e (some (.Subscript (.Name x p1) ix pos')) pos.line X.env = pure false := by rfl) : GS Y X W (.Assign [.Subscript (.Name x p1) ix pos'] e pos) (dPut i mk ma) := by
  obtain ⟨t, p, q⟩ := he
  obtain ⟨tk, pk, qk⟩ := hk
  refine ⟨_, ps_lput (pe_var hN hv hd hcd) pk p hs, fun ρ o h F0 H0 F σ H R D w => ?_⟩
  unfold dPut at h
  split at h
  · rename_i ds ei
    rcases bo_some h with ⟨d, e1, h⟩ | ⟨x, e1, rfl⟩
    · refine q ρ _ e1 F0 H0 F σ H R _ fun v' F' H' g r => ?_
      have R' := R.grow g
      obtain ⟨v, vi, pp, xs, rfl, h0, fp, hp, rr⟩ := R'.sl i _ ei
      refine ⟨.ref pp, vi, ?_⟩
      rcases bo_some h with ⟨y, e2, h⟩ | ⟨x, e2, rfl⟩
      · split at h
        · rename_i k
          split at h
          · rename_i hk
            cases h
            refine qk ρ _ e2 F0 H0 F' σ H' R' _ fun y' F'' H'' g' r' => ?_
            have hp2 : H'' pp = some (.lst xs) := g'.h pp _ hp
            have fp2 : F'' pp = none := (g'.old pp _ hp).trans fp
            refine ⟨pp, xs, k.toNat, rfl, by rw [rep_int r', Int.toNat_of_nonneg hk.1], hp2, by rw [rr.len]; omega, ?_⟩
            exact w F'' σ _ (g.f.trans g'.f) ((R'.grow g').change ei rfl vi h0 fp2 (fun a fs e z => by rw [z, hp2] at e; cases e) ⟨pp, _, rfl, h0, fp2, upd_same, RepL.put (r.mono g'.f) _ (rr.mono g'.f)⟩ rfl)
          · cases h
        · cases h
      · exact qk ρ _ e2 F0 H0 F' σ H' R' _ fun F'' H'' dx g' xr => w F'' σ H'' dx (g.f.trans g'.f) (R'.grow g') xr
    · exact q ρ _ e1 F0 H0 F σ H R _ fun F' H' dx g xr => w F' σ H' dx g.f (R.grow g) xr
  · cases h
@[simp] theorem c_put {i : Nat} {ρ : Env} : dPut i mk ma ρ = match ρ[i]? with
  | some (some (.own ds)) => bo (ma ρ) ρ fun d => bo (mk ρ) ρ fun y => match y with
    | .int k => if 0 ≤ k ∧ k < ds.length then some (.nx (ρ.set i (some (.own (ds.set k.toNat d))))) else none
    | _ => none
  | _ => none := rfl
end
/-- x = a[lo:hi], a list, the frame's own -/
def dOwnCut (i : Nat) (ma : Env → M) (ml mh : Env → Option (Option Int)) : SM := fun ρ => bo (ma ρ) ρ fun d => match d with
  | .lst ds => match ml ρ with
    | some l => match mh ρ with
      | some u => some (.nx (ρ.set i (some (.own (cutA ds l u)))))
      | none => none
    | none => none
  | _ => none
section
variable {Y : Cfg} {X : Cx} {W : WX} {a : Expr} {ma : Env → M} {pos p p2 : Pos}
theorem gs_ownCut (i : Nat) {y : Str} {pos' : Pos} {lo hi : Option Expr} {ml mh : Env → Option (Option Int)} (hN : X.N.Nodup) (ha : GE Y X W a ma) (hl : GO Y X lo ml) (hh : GO Y X hi mh) (hi' : X.N[i]? = some y := by rfl) (hx : Loc X.env.scope y := by first | exact Or.inl rfl | exact Or.inr rfl)
    (hs : swapsWith (.Subscript a (.Slice lo hi none p2) p) (some (.Name y pos')) pos.line X.env = pure false := by rfl)
    (hf : X.fn y = true ∨ X.env.scope.names.lookup y = some .local := by first | exact .inl rfl | exact .inr rfl | assumption) : GS Y X W (.Assign [.Name y pos'] (.Subscript a (.Slice lo hi none p2) p) pos) (dOwnCut i ma ml mh) := by
  obtain ⟨t, pt, q⟩ := ha
  obtain ⟨tl, pl, ql⟩ := hl
  obtain ⟨th, ph, qh⟩ := hh
  refine ⟨_, ps_set (i := i) hN hi' hx (pe_slice (SlR.or (SlR.or (sl_list (X := X)) (sl_tup (X := X))) (sl_str (X := X))) pt pl ph) hs hf, fun ρ o h F0 H0 F σ H R D w => ?_⟩
  rcases bo_some h with ⟨d, e1, h⟩ | ⟨z, e1, rfl⟩
  · refine q ρ _ e1 F0 H0 F σ H R _ fun v F1 H1 g1 r1 => ?_
    split at h
    · split at h
      · rename_i l hl'
        split at h
        · rename_i u hu'
          cases h
          refine ql ρ _ hl' F0 H0 F1 σ H1 (R.grow g1) _ fun F2 H2 g2 => ?_
          refine qh ρ _ hu' F0 H0 F2 σ H2 ((R.grow g1).grow g2) _ fun F3 H3 g3 => ?_
          have g := (g1.trans g2).trans g3
          obtain ⟨p, xs, rfl, ha, ra⟩ := rep_lst (r1.mono (g2.trans g3).f)
          exact .inl (.inl ⟨p, xs, rfl, ex_l g3.fh ha, fun n hn => w F3 _ _ g.f ((R.grow g).setOwn hn (cut_rep ra l u))⟩)
        · cases h
      · cases h
    · cases h
  · exact q ρ _ e1 F0 H0 F σ H R _ fun F' H' dx g xr => w F' σ H' dx g.f (R.grow g) xr
end
end Den
set_option Elab.async false
set_option linter.all false
set_option maxRecDepth 100000
set_option maxHeartbeats 4000000
namespace Den
open PySem PyProof.Rows L2
/-! ### min(l, key=f, default=d), the keys ints: at machine level -/
section
variable {prog : Program} {w : World} {A : Around} {E : Value → Shared → Prop} {s : Shared}
theorem mk_args (a f d : Value) : argsOk "min" ⟨[a], [(Str.ofString "key", f), (Str.ofString "default", d)]⟩ := by unfold argsOk; kernel_rfl
/-- an item of the list, by its place -/
def AtV (xs : List V) (i : Nat) (v : Value) : Prop := ∃ x, xs[i]? = some x ∧ RelV x v
structure MkInv (prog : Program) (w : World) (A : Around) (I S l q : Addr) (xs : List V) (kf : Nat → Int) (Ψ : Obj → Obj → Shared → Prop) (Φ : Shared → Prop) : Prop where
  at_ : ∀ so io s, Ψ so io s → s.heap.get? S = some so ∧ s.heap.get? I = some io ∧ ∃ its : List Value, s.heap.IsList l its.toArray ∧ Vals xs its
  putS : ∀ so io s (a : Array Value) (e : Nat) h' tk, Ψ so io s → h'.get? S = some (seqObj "list" a e) → (∀ b o, b ≠ S → s.heap.get? b = some o → h'.get? b = some o) → Ψ (seqObj "list" a e) io { s with heap := h', toks := tk }
  putI : ∀ so io io' s h' tk, Ψ so io s → (∀ v, io'.data ≠ .cell v) → h'.get? I = some io' → (∀ b o, b ≠ I → s.heap.get? b = some o → h'.get? b = some o) → Ψ so io' { s with heap := h', toks := tk }
  turn : ∀ i v so io s, AtV xs i v → Ψ so io s → wpAny (model prog w) A.in1 (call (.ref q) [v]) (fun x s' => (∃ t, x = .int (kf i) t) ∧ Ψ so io s') (fun _ _ => False) s
  fin : ∀ so io s h' tk, Ψ so io s → (∀ b o, b ≠ S → b ≠ I → s.heap.get? b = some o → h'.get? b = some o) → Φ { s with heap := h', toks := tk }
theorem vals_atV {xs : List V} {its : List Value} (r : Vals xs its) {i : Nat} {v : Value} (h : its.toArray[i]? = some v) : AtV xs i v := by
  have h : its[i]? = some v := by simpa using h
  have hlt : i < xs.length := by rw [r.length]; exact (List.getElem?_eq_some_iff.mp h).1
  obtain ⟨u, hu, ru⟩ := r.get (List.getElem?_eq_getElem hlt)
  rw [h] at hu
  cases hu
  exact ⟨_, List.getElem?_eq_getElem hlt, ru⟩
theorem upd_keep (g : Heap) (S : Addr) (f : Obj → Obj) : ∀ b o, b ≠ S → g.get? b = some o → (g.update S f).get? b = some o := fun b o hb e => (Heap.get?_update_ne _ _ _ _ hb).trans e
theorem mk_loop {I l S q : Addr} {xs : List V} {kf : Nat → Int} {Ψ : Obj → Obj → Shared → Prop} {Φ : Shared → Prop} {d : Value} {R : Result → Shared → Prop} (hh : A.handled = none) (hlI : l ≠ I) (hSI : S ≠ I) (M : MkInv prog w A I S l q xs kf Ψ Φ)
    (hR : ∀ (i : Nat) v s', AtV xs i v → (∀ j, j < xs.length → kf i ≤ kf j ∧ (j < i → kf i < kf j)) → Φ s' → R (.ok (.ret v)) s') :
    ∀ (r j i : Nat) (s : Shared) (vb : Value) (tb : Tok) (c : Nat) (io : Obj), xs.length - (j + 1) = r → j + 1 ≤ xs.length → Ψ (seqObj "list" #[vb, .int (kf i) tb] c) io s → s.heap.IsListIter I l (j + 1) → AtV xs i vb → i ≤ j → (∀ j', j' ≤ j → kf i ≤ kf j' ∧ (j' < i → kf i < kf j')) →
      codeAny (model prog w) A (.builtin "min.loop" ⟨[.ref I, .ref q, .ref S], [(Str.ofString "default", d)]⟩) R s := by
  have hname : (toString "min" ++ toString ".loop" : String) = "min.loop" := by decide
  intro r
  induction r with
  | zero =>
    intro j i s vb tb c io hr hj P hit hvb hij hbest
    obtain ⟨hS, hI, its, hls, rv⟩ := M.at_ _ _ _ P
    have hsz : its.toArray.size = xs.length := by rw [List.size_toArray, rv.length]
    have W := Walks.list (prog := prog) (w := w) (A := A.in1) hh I l hlI its.toArray
    refine codeAny_builtin PySem.F.entry_min_loop ?_
    rw [Around.under_plainId PySem.F.plain_min_loop _]
    show wpAny _ A.in1 (seqItems? (.ref S) >>= _) _ _ _
    refine wpAny_bind (wpAny_seqItems hS rfl ?_)
    show wpAny _ A.in1 (tryCatch (pyNext (.ref I)) _ >>= _) _ _ _
    refine wpAny_bind (wpAny_tryCatch (W.done _ _ _ ⟨by rw [hsz, show xs.length = j + 1 by omega]; exact hit, hls⟩ fun h' tk' hk' => ?_))
    have hS' := hk' S _ (by simpa using hSI) hS
    show wpAny _ A.in1 (updateSeq S (fun _ => #[]) >>= _) _ _ _
    refine wpAny_bind ?_
    refine wpAny_updateSeq hS' rfl (wpAny_bind (wpAny_letGo (wpAny_pure ?_)))
    exact hR i vb _ hvb (fun j' hj' => hbest j' (by omega)) (M.fin _ _ s _ _ P fun b o h1 h2 e => upd_keep _ _ _ b o h1 (hk' b o (by simpa using h2) e))
  | succ r ih =>
    intro j i s vb tb c io hr hj P hit hvb hij hbest
    have hlt : j + 1 < xs.length := by omega
    obtain ⟨hS, hI, its, hls, rv⟩ := M.at_ _ _ _ P
    have hsz : its.toArray.size = xs.length := by rw [List.size_toArray, rv.length]
    have W := Walks.list (prog := prog) (w := w) (A := A.in1) hh I l hlI its.toArray
    refine codeAny_builtin PySem.F.entry_min_loop ?_
    rw [Around.under_plainId PySem.F.plain_min_loop _]
    show wpAny _ A.in1 (seqItems? (.ref S) >>= _) _ _ _
    refine wpAny_bind (wpAny_seqItems hS rfl ?_)
    show wpAny _ A.in1 (tryCatch (pyNext (.ref I)) _ >>= _) _ _ _
    refine wpAny_bind (wpAny_tryCatch (W.item (j + 1) _ _ _ (by rw [hsz]; exact hlt) ⟨hit, hls⟩ fun v h' tk' hP hst' hk' => ?_))
    have hv := vals_atV rv hP
    obtain ⟨oI', hoI', hoc, hod⟩ := id hst'.1
    have P1 : Ψ (seqObj "list" #[vb, .int (kf i) tb] c) oI' { s with heap := h', toks := tk' } := M.putI _ _ oI' _ h' tk' P (fun v z => by rw [hod] at z; cases z) hoI' fun b o hb e => hk' b o (by simpa using hb) e
    show wpAny _ A.in1 (tryCatch (holding [v] (call (.ref q) [v])) _ >>= _) _ _ _
    refine wpAny_bind (wpAny_tryCatch (wpAny_holding (wpAny_mono (M.turn (j + 1) v _ _ _ hv P1) (fun x s2 he => ?_) fun _ _ hF => hF.elim)))
    obtain ⟨⟨t2, rfl⟩, P2⟩ := he
    obtain ⟨hS2, hI2, its2, hls2, rv2⟩ := M.at_ _ _ _ P2
    have hit2 : s2.heap.IsListIter I l (j + 1 + 1) := ⟨oI', hI2, hoc, hod⟩
    show wpAny _ A.in1 (tryCatch (holding [v, .int (kf (j + 1)) t2] (richCompare .Lt (.int (kf (j + 1)) t2) (.int (kf i) tb) >>= _)) _ >>= _) _ _ _
    refine wpAny_bind (wpAny_tryCatch (wpAny_holding (wpAny_bind (CmpOf.ints_lt (prog := prog) (w := w) (A := A.in1) (P := fun i v => ∃ t, v = .int (kf i) t) kf (fun i v h => h) (j + 1) i _ _ _ _ _ ⟨t2, rfl⟩ ⟨tb, rfl⟩ ?_))))
    refine wpAny_bind (wpAny_holding (wpAny_truthy_bool ?_))
    refine wpAny_bind (wpAny_letGo (wpAny_pure ?_))
    by_cases hb' : kf (j + 1) < kf i
    · obtain ⟨c2, hc2⟩ : ∃ c2, (s2.heap.update S (Obj.mapSeq fun _ => #[v, .int (kf (j + 1)) t2])).get? S = some (seqObj "list" #[v, .int (kf (j + 1)) t2] c2) := ⟨_, get?_update_seq hS2 fun _ => #[v, .int (kf (j + 1)) t2]⟩
      simp only [hb', decide_true, if_true]
      refine wpAny_bind ?_
      refine wpAny_updateSeq hS2 rfl (wpAny_bind (wpAny_letGo ?_))
      rw [hname]
      refine wpAny_pure ⟨plainId_quiet PySem.F.plain_min_loop _, ih (j + 1) (j + 1) _ v t2 c2 oI' (by omega) hlt (M.putS _ _ _ _ _ _ _ P2 hc2 (upd_keep _ _ _)) ⟨oI', (upd_keep _ _ _ I _ hSI.symm hI2), hoc, hod⟩ hv (Nat.le_refl _) fun j' hj' => ?_⟩
      by_cases e : j' = j + 1
      · subst e
        exact ⟨by omega, fun _ => by omega⟩
      · have hb1 := hbest j' (by omega)
        have hb2 := hb1.1
        exact ⟨by omega, fun _ => by omega⟩
    · simp only [hb', decide_false, Bool.false_eq_true, if_false]
      refine wpAny_bind (wpAny_letGo ?_)
      rw [hname]
      refine wpAny_pure ⟨plainId_quiet PySem.F.plain_min_loop _, ih (j + 1) i _ vb tb c oI' (by omega) hlt P2 hit2 hvb (by omega) fun j' hj' => ?_⟩
      by_cases e : j' = j + 1
      · subst e
        exact ⟨by omega, fun _ => by omega⟩
      · exact hbest j' (by omega)
theorem mk_min {l q : Addr} {its0 : Array Value} {xs : List V} {kf : Nat → Int} {d : Value} {Q : Value → Shared → Prop} (hh : A.handled = none) (hl : s.heap.IsList l its0) (hsz0 : its0.size = xs.length)
    (k0 : xs.length = 0 → ∀ h' tk, (∀ b o, s.heap.get? b = some o → h'.get? b = some o) → Q d { s with heap := h', toks := tk })
    (Ψ : Addr → Addr → Obj → Obj → Shared → Prop) (Φ : Shared → Prop)
    (hM : ∀ I S h', s.heap.objs.size ≤ I → s.heap.objs.size ≤ S → S ≠ I → (∀ b o, s.heap.get? b = some o → h'.get? b = some o) → h'.get? S = some (seqObj "list" #[] 0) → (∀ io, (∀ v, io.data ≠ .cell v) → h'.get? I = some io → Ψ I S (seqObj "list" #[] 0) io { s with heap := h' }) ∧ MkInv prog w A I S l q xs kf (Ψ I S) Φ)
    (k1 : ∀ (i : Nat) v s', AtV xs i v → (∀ j, j < xs.length → kf i ≤ kf j ∧ (j < i → kf i < kf j)) → Φ s' → Q v s') :
    wpAny (model prog w) A (call (.builtin "min") [.ref l] [(Str.ofString "key", .ref q), (Str.ofString "default", d)]) Q E s := by
  have hname : (toString "min" ++ toString ".loop" : String) = "min.loop" := by decide
  obtain ⟨ol, hol, _⟩ := id hl
  have hlt : l < s.heap.objs.size := Heap.lt_size hol
  refine kmk_tree PySem.F.kind_min PySem.F.plain_min PySem.F.entry_min (mk_args _ _ _) ?_
  show wpAny _ A.in1 (Builtin.Builtins.bindParams "min" ["key", "default"] 0 ⟨[], [(Str.ofString "key", .ref q), (Str.ofString "default", d)]⟩ >>= _) _ _ s
  refine wpAny_bind (wpAny_of_eq (show Builtin.Builtins.bindParams "min" ["key", "default"] 0 ⟨[], [(Str.ofString "key", .ref q), (Str.ofString "default", d)]⟩ = pure [some (.ref q), some d] from rfl) ?_)
  refine wpAny_bind (wpAny_pure ?_)
  refine wpAny_bind (wpAny_pyIter_list hl ?_)
  refine wpAny_bind (wpAny_newList ?_ (Nat.zero_le _))
  rw [hname]
  let hI := s.heap.push { cls := .type "list_iterator", data := .fields #[.ref l, .int 0 0] }
  have sI : hI.objs.size = s.heap.objs.size + 1 := size_push' ..
  have gI : (hI.push (seqObj "list" #[] 0)).get? s.heap.objs.size = some { cls := .type "list_iterator", data := .fields #[.ref l, .int 0 0] } := Heap.get?_push_of_some _ (Heap.get?_push_size _ rfl)
  have gS : (hI.push (seqObj "list" #[] 0)).get? hI.objs.size = some (seqObj "list" #[] 0) := Heap.get?_push_size _ rfl
  have gL : (hI.push (seqObj "list" #[] 0)).IsList l its0 := (hl.push _).push _
  have old : ∀ b o, s.heap.get? b = some o → (hI.push (seqObj "list" #[] 0)).get? b = some o := fun b o e => Heap.get?_push_of_some _ (Heap.get?_push_of_some _ e)
  have nI : l ≠ s.heap.objs.size := Nat.ne_of_lt hlt
  have nS : hI.objs.size ≠ s.heap.objs.size := by rw [sI]; exact Nat.ne_of_gt (Nat.lt_succ_self _)
  obtain ⟨hΨ, M⟩ := hM s.heap.objs.size hI.objs.size (hI.push (seqObj "list" #[] 0)) (Nat.le_refl _) (by rw [sI]; exact Nat.le_succ _) nS old gS
  have W := Walks.list (prog := prog) (w := w) (A := A.in1) hh s.heap.objs.size l nI its0
  refine wpAny_pure ⟨plainId_quiet PySem.F.plain_min_loop _, ?_⟩
  refine codeAny_builtin PySem.F.entry_min_loop ?_
  rw [Around.under_plainId PySem.F.plain_min_loop _]
  show wpAny _ A.in1 (seqItems? (.ref hI.objs.size) >>= _) _ _ { s with heap := hI.push (seqObj "list" #[] 0) }
  refine wpAny_bind (wpAny_seqItems gS rfl ?_)
  show wpAny _ A.in1 (tryCatch (pyNext (.ref s.heap.objs.size)) _ >>= _) _ _ _
  rcases Nat.eq_zero_or_pos its0.size with hz | hz
  · refine wpAny_bind (wpAny_tryCatch (W.done _ _ _ ⟨by rw [hz]; exact ⟨_, gI, rfl, rfl⟩, gL⟩ fun h' tk' kp => ?_))
    show wpAny _ A.in1 (rule _ >>= _) _ _ _
    refine wpAny_bind (wpAny_rule (wpAny_pure ?_))
    exact k0 (by rw [← hsz0]; exact hz) _ _ fun b o e => kp b o (by simpa using Nat.ne_of_lt (Heap.lt_size e)) (old b o e)
  · have P0 := hΨ { cls := .type "list_iterator", data := .fields #[.ref l, .int 0 0] } (fun v z => nomatch z) gI
    refine wpAny_bind (wpAny_tryCatch (W.item 0 _ _ _ hz ⟨⟨_, gI, rfl, rfl⟩, gL⟩ fun v h' tk' hv st' kp => ?_))
    obtain ⟨hS0, _, its, hls, rv⟩ := M.at_ _ _ _ P0
    have hv0 : AtV xs 0 v := by
      obtain ⟨o1, ho1, a1⟩ := gL
      obtain ⟨o2, ho2, a2⟩ := hls
      rw [ho1] at ho2
      cases ho2
      refine vals_atV rv ?_
      obtain ⟨_, n1, e1⟩ := a1
      obtain ⟨_, n2, e2⟩ := a2
      rw [e1] at e2
      injection e2 with e2
      rw [← e2]
      exact hv
    obtain ⟨oI', hoI', hoc, hod⟩ := id st'.1
    have P1 := M.putI _ _ oI' _ h' tk' P0 (fun v z => by rw [hod] at z; cases z) hoI' fun b o hb e => kp b o (by simpa using hb) e
    show wpAny _ A.in1 (tryCatch (holding [v] (call (.ref q) [v])) _ >>= _) _ _ _
    refine wpAny_bind (wpAny_tryCatch (wpAny_holding (wpAny_mono (M.turn 0 v _ _ _ hv0 P1) (fun x s2 he => ?_) fun _ _ hF => hF.elim)))
    obtain ⟨⟨t2, rfl⟩, P2⟩ := he
    obtain ⟨hS2, hI2, _⟩ := M.at_ _ _ _ P2
    obtain ⟨c2, hc2⟩ : ∃ c2, (s2.heap.update hI.objs.size (Obj.mapSeq fun _ => #[v, .int (kf 0) t2])).get? hI.objs.size = some (seqObj "list" #[v, .int (kf 0) t2] c2) := ⟨_, get?_update_seq hS2 fun _ => #[v, .int (kf 0) t2]⟩
    show wpAny _ A.in1 (updateSeq hI.objs.size (fun _ => #[v, .int (kf 0) t2]) >>= _) _ _ _
    refine wpAny_bind ?_
    refine wpAny_updateSeq hS2 rfl ?_
    rw [hname]
    refine wpAny_pure ⟨plainId_quiet PySem.F.plain_min_loop _, mk_loop hh nI nS M k1 _ 0 0 _ v t2 c2 oI' rfl (by rw [← hsz0]; exact hz) (M.putS _ _ _ _ _ _ _ P2 hc2 (upd_keep _ _ _)) ⟨oI', (upd_keep _ _ _ _ _ nS.symm hI2), hoc, hod⟩ hv0 (Nat.le_refl _) fun j' hj' => ?_⟩
    have e : j' = 0 := by omega
    subst e
    exact ⟨by omega, fun h => absurd h (Nat.lt_irrefl _)⟩
end
end Den
set_option Elab.async false
set_option linter.all false
set_option maxRecDepth 100000
set_option maxHeartbeats 4000000
namespace Den
open PySem PySem.Spec PyProof.Rows L2 LamX NdefX Srt SrtO
/-! ### min(l, key=lambda p: .., default=None), the keys ints -/
def keysI (me : Env → M) : List D → Option (List Int)
  | [] => some []
  | d :: ds => match me [some (.val d)] with
    | some (.ok (.int k)) => match keysI me ds with
      | some ks => some (k :: ks)
      | none => none
    | _ => none
def minK (k : Int) (d : D) : List (Int × D) → D
  | [] => d
  | p :: l => if p.1 < k then minK p.1 p.2 l else minK k d l
def minKD (me : Env → M) : D → Option D
  | .lst ds => match keysI me ds, ds with
    | some (k :: ks), d :: ds => some (minK k d (ks.zip ds))
    | some [], _ => some .non
    | _, _ => none
  | _ => none
def dMinK (me m : Env → M) : Env → M := fun ρ => bd (m ρ) fun d => lift (minKD me d)
@[simp] theorem c_minK {me m : Env → M} {ρ : Env} : dMinK me m ρ = bd (m ρ) fun d => lift (minKD me d) := rfl
theorem minK_one : ∀ (l : List (Int × D)) (k : Int) (d : D) (i : Nat) (p : Int × D), ((k, d) :: l)[i]? = some p → (∀ (j : Nat) (q : Int × D), ((k, d) :: l)[j]? = some q → p.1 ≤ q.1 ∧ (j < i → p.1 < q.1)) → p.2 = minK k d l
  | [], k, d, i, p, h, _ => by
    rcases i with _ | i
    · cases h; rfl
    · simp at h
  | q :: l, k, d, i, p, h, hb => by
    have b0 := hb 0 _ rfl
    have b1 := hb 1 _ rfl
    unfold minK
    rcases i with _ | _ | i
    · cases h
      rw [if_neg (by simp at b1; omega)]
      refine minK_one l k d 0 _ rfl fun j r hr => ?_
      rcases j with _ | j
      · exact hb 0 _ hr
      · exact ⟨(hb (j + 2) _ hr).1, fun z => absurd z (Nat.not_lt_zero _)⟩
    · cases h
      rw [if_pos (b0.2 (by omega))]
      refine minK_one l q.1 q.2 0 _ rfl fun j r hr => ?_
      exact ⟨(hb (j + 1) _ hr).1, fun z => absurd z (Nat.not_lt_zero _)⟩
    · split
      · refine minK_one l _ _ (i + 1) p h fun j r hr => ?_
        exact ⟨(hb (j + 1) _ hr).1, fun z => (hb (j + 1) _ hr).2 (by omega)⟩
      · refine minK_one l _ _ (i + 1) p h fun j r hr => ?_
        rcases j with _ | j
        · exact ⟨(hb 0 _ hr).1, fun z => (hb 0 _ hr).2 (by omega)⟩
        · exact ⟨(hb (j + 2) _ hr).1, fun z => (hb (j + 2) _ hr).2 (by omega)⟩
theorem keysI_get {me : Env → M} : ∀ {ds : List D} {ks : List Int}, keysI me ds = some ks → ks.length = ds.length ∧ ∀ (i : Nat) (d : D), ds[i]? = some d → ∃ k, ks[i]? = some k ∧ me [some (.val d)] = some (.ok (.int k))
  | [], ks, h => by cases h; exact ⟨rfl, fun i d h => by simp at h⟩
  | e :: ds, ks, h => by
    unfold keysI at h
    split at h
    · rename_i k hk
      split at h
      · rename_i ks' hks
        cases h
        obtain ⟨h1, h2⟩ := keysI_get hks
        refine ⟨by simp [h1], fun i d hd => ?_⟩
        rcases i with _ | i
        · cases hd; exact ⟨k, rfl, hk⟩
        · exact h2 i d hd
      · cases h
    · cases h
theorem zipK_get {ks : List Int} {ds : List D} (hl : ks.length = ds.length) (i : Nat) (p : Int × D) : (ks.zip ds)[i]? = some p ↔ ks[i]? = some p.1 ∧ ds[i]? = some p.2 := by
  obtain ⟨a, b⟩ := p
  exact List.getElem?_zip_eq_some
variable [Named]
section
variable {X : Cx} {pins : List (Addr × Obj)} {σ : L2.St} {H : Hp} {s : Shared}
theorem fpk_add {p : Addr × Obj} {b : Addr} (h : FpOk X pins H b) (hne : p.1 ≠ b) : FpOk X (p :: pins) H b := by
  obtain ⟨h1, h2, h3, h4, h5, h6⟩ := h
  refine ⟨h1, h2, h3, h4, h5, fun q hq => ?_⟩
  rcases List.mem_append.mp hq with z | z
  · exact h6 q (List.mem_append_left _ z)
  · rcases List.mem_cons.mp z with rfl | z
    · exact hne
    · exact h6 q (List.mem_append_right _ z)
theorem mk_run {Y : Cfg} {f c' l j : Nat} {params : Arguments} {be : Expr} {scope : Scope} {pm ctv : Value} {q x : Str} {me : Env → M} {F : Hp} {xs : List V} {ds : List D} {ks : List Int} {Q : VK} {E : Value → Shared → Prop}
    (hcalm : X.calm = true) (I : Inv X ((f, PySem.W.kla_obj "<lambda>" q params be scope [] pm c' ctv) :: pins) σ H s)
    (eF : Ex F H) (tb : Tb F) (hl : SqL X.K H l xs) (ra : RepL X.K Y F xs ds) (hc : H c' = some (CodeO c' q)) (hr : Room (j + 2) X.A)
    (S : NScope [x] [x] [] scope) (hb : ∀ u, bindArgs (PySem.W.kla_fn "<lambda>" q params be scope [] pm (.ref c') ctv) ⟨[u], []⟩ = pure [(x, u)])
    (hbody : ∀ (A : Around) (outer : List PySem.Env) (s : Shared) (H : Hp), GE Y (ncx (L2.CX X.prog X.w) X.prog X.w X.K X.mg X.base [x] (lamF q params scope c') f A outer s H (fun _ _ _ => False)) (fun _ _ _ _ => False) be me)
    (hme : ∀ (i : Nat) (d : D), ds[i]? = some d → ∃ k, ks[i]? = some k ∧ me [some (.val d)] = some (.ok (.int k)))
    (k0 : ds.length = 0 → Q .non H)
    (k1 : ∀ (i : Nat) (d : D), ds[i]? = some d → (∀ j, j < ds.length → ks.getD i 0 ≤ ks.getD j 0 ∧ (j < i → ks.getD i 0 < ks.getD j 0)) → ∀ v F' H', Gr F H F' H' → Rep X.K Y F' v d → Q v H') :
    wpAny (model X.prog X.w) X.A (call (.builtin "min") [.ref l] [(Str.ofString "key", .ref f), (Str.ofString "default", .none)]) (EP X pins σ Q) E s := by
  obtain ⟨its, rv, hL, hz⟩ := I.list hl
  have hlen := ra.len
  refine mk_min (xs := xs) (kf := fun i => ks.getD i 0) (I.ok.hd hcalm) hL.isList (by rw [List.size_toArray, rv.length]) (fun hz h' tk kp => ⟨.non, H, (pin_drop I).kept kp, rfl, k0 (by omega)⟩)
    (fun Ia Sa so io s' => ∃ H' F', Inv X ((Sa, so) :: (Ia, io) :: (f, PySem.W.kla_obj "<lambda>" q params be scope [] pm c' ctv) :: pins) σ H' s' ∧ Gr F H F' H') (fun s' => ∃ H' F', Inv X pins σ H' s' ∧ Gr F H F' H')
    (fun Ia Sa h' hIa hSa hne kp hgS => ⟨fun io hio hgI => ?_, ?_⟩) (fun i v s' ⟨x, hx, rx⟩ hbest ⟨H', F', J, g⟩ => ?_)
  · have J0 := I.kept (t' := s.toks) kp
    have Ji := pin_add J0 (pin_new (p := (Ia, io)) I hIa hgI (I.hok.fresh hIa) hio)
    exact ⟨H, F, pin_add Ji (pin_new (p := (Sa, seqObj "list" #[] 0)) I hSa hgS (I.hok.fresh hSa) fun v z => nomatch z), Gr.refl eF⟩
  · refine ⟨fun so io s1 ⟨H', F', J, g⟩ => ?_, fun so io s1 a e h1 tk ⟨H', F', J, g⟩ hg1 kp1 => ?_, fun so io io' s1 h1 tk ⟨H', F', J, g⟩ hnc hg1 kp1 => ?_, fun i u so io s1 ⟨v, hv, ruv⟩ ⟨H', F', J, g⟩ => ?_, fun so io s1 h1 tk ⟨H', F', J, g⟩ kp1 => ?_⟩
    · obtain ⟨its1, rv1, hL1, _⟩ := J.list (ex_l g.h hl)
      exact ⟨(pin_at J).1, (pin_at (pin_drop J)).1, its1, hL1.isList, rv1⟩
    · have hn := (pin_at J).2
      have fp : FpOk X ((Ia, io) :: (f, PySem.W.kla_obj "<lambda>" q params be scope [] pm c' ctv) :: pins) H' Sa := fpk_add (I.fpOk hSa hn) hne.symm
      have J2 := (pin_drop J).turnedL (t' := tk) (ch := [Sa]) (h' := h1) (fun b o hb e => kp1 b o (by simpa using hb) e) fun b hb => by
        obtain rfl : b = Sa := by simpa using hb
        exact fp
      exact ⟨H', F', pin_add J2 ⟨hg1, hn, fp.2.1, fp.2.2.1, fun v z => nomatch z⟩, g⟩
    · have hn := (pin_at (pin_drop J)).2
      have K1 : Inv X ((Sa, so) :: (f, PySem.W.kla_obj "<lambda>" q params be scope [] pm c' ctv) :: pins) σ H' s1 := J.pins_of fun p hp => J.pin p (List.mem_append_right _ (by
        rcases List.mem_cons.mp hp with z | z
        · exact List.mem_cons.mpr (.inl z)
        · exact List.mem_cons.mpr (.inr (List.mem_cons.mpr (.inr z)))))
      have fp : FpOk X ((Sa, so) :: (f, PySem.W.kla_obj "<lambda>" q params be scope [] pm c' ctv) :: pins) H' Ia := fpk_add (I.fpOk hIa hn) hne
      have K2 := K1.turnedL (t' := tk) (ch := [Ia]) (h' := h1) (fun b o hb e => kp1 b o (by simpa using hb) e) fun b hb => by
        obtain rfl : b = Ia := by simpa using hb
        exact fp
      have K3 := pin_add (p := (Ia, io')) K2 ⟨hg1, hn, fp.2.1, fp.2.2.1, hnc⟩
      refine ⟨H', F', K3.pins_of fun p hp => K3.pin p (List.mem_append_right _ (by
        rcases List.mem_cons.mp hp with z | z
        · exact List.mem_cons.mpr (.inr (List.mem_cons.mpr (.inl z)))
        · rcases List.mem_cons.mp z with z | z
          · exact List.mem_cons.mpr (.inl z)
          · exact List.mem_cons.mpr (.inr (List.mem_cons.mpr (.inr z))))), g⟩
    · obtain ⟨d, hd, rd⟩ := ra.getV hv
      obtain ⟨k, hk, em⟩ := hme _ _ hd
      have ek : ks.getD i 0 = k := by rw [List.getD_eq_getElem?_getD, hk]; rfl
      have hf := (pin_at (pin_drop (pin_drop J))).1
      obtain ⟨t, pt, sat⟩ := hbody X.A.in1 X.stack s1 H'
      have R0 : Rel X.K Y F' H' F' (startF [x] [v] []) H' [some (.val d)] := rel_start (N := [x]) g.fh (tb.up g.f) (.cons (rd.mono g.f) .nil)
      have run := lam_run (CX := L2.CX X.prog X.w) (K := X.K) (F := lamF q params scope c') (f := f) (vs := [v]) (us := [u]) (ws := []) (k := j)
        (Q := fun y H2 => ∃ F2, Gr F' H' F2 H2 ∧ Rep X.K Y F2 y (.int k)) (E := fun _ _ _ => False) S (hb u) (hr.mono (Nat.le_refl _)).in1 J.env0.in1 hf (g.h.code hc) ⟨rfl, (fun y c z => nomatch z), (fun y z c h => nomatch h), (fun i y z => nomatch z)⟩ (.cons ruv .nil) rfl pt
        (sat _ _ em _ _ _ _ _ R0 _ fun y F2 H2 g2 r2 => ⟨F2, g2, r2⟩)
      refine wpAny_call (codeAny_mono run fun r s2 hh => ?_)
      match r, hh with
      | .error ee, hh =>
        obtain ⟨_, _, _, _, _, _, _, _, _, _, _, _, z⟩ := hh
        exact z.elim
      | .ok (.ret u2), hh =>
        obtain ⟨y, H2, J2, ry, F2, g2, r2⟩ := J.after hh
        cases r2
        obtain ⟨t2, rfl⟩ := ry
        exact ⟨⟨t2, by rw [ek]⟩, H2, F2, J2, g.trans g2⟩
      | .ok .next, hh => exact False.elim hh
      | .ok .brk, hh => exact False.elim hh
      | .ok .cont, hh => exact False.elim hh
    · have hnS := (pin_at J).2
      have hnI := (pin_at (pin_drop J)).2
      refine ⟨H', F', (pin_drop (pin_drop (pin_drop J))).turnedL (t' := tk) (ch := [Sa, Ia]) (h' := h1) (fun b o hb e => kp1 b o (by simp at hb; exact hb.1) (by simp at hb; exact hb.2) e) fun b hb => ?_, g⟩
      rcases List.mem_cons.mp hb with rfl | hb
      · exact (pin_drop I).fpOk hSa hnS
      · obtain rfl : b = Ia := by simpa using hb
        exact (pin_drop I).fpOk hIa hnI
  · obtain ⟨d, hd, rd⟩ := ra.getV hx
    exact ⟨x, H', J, rx, k1 i d hd (fun j hj => hbest j (by omega)) x F' H' g (rd.mono g.f)⟩
variable {Y : Cfg} {W : WX} {e be : Expr} {p lp kp kp2 pos p3 : Pos} {x : Str} {c P : Addr} {params : Arguments} {scope : Scope} {m0 me : Env → M} {j : Nat}
theorem ge_minK {k3 : Nat} (hcalm : X.calm = true) (hr : Room (j + 2) X.A) (hg : Gl X "min") (hm : X.mg "min" = none) (ha : GE Y X W e m0) (B : TabB X.base X.mg c P) (hP : P ∈ Named.tb) (hq : Named.nm P = X.env.qual ++ "<lambda>") (hcode : X.env.code = .ref c) (S : NScope [x] [x] [] scope)
    (hbody : ∀ (q : Str) (c' f : Addr) (A : Around) (outer : List PySem.Env) (s : Shared) (H : Hp), GE Y (ncx (L2.CX X.prog X.w) X.prog X.w X.K X.mg X.base [x] (lamF q params scope c') f A outer s H (fun _ _ _ => False)) (fun _ _ _ _ => False) be me)
    (hclo : cloFrom X.env.cells scope.names [] = []) (hfree : ∀ y ∈ scope.names, y.2 ≠ .free) (hdef : defaultsOf params X.env = ([], []) := by rfl)
    (hb : ∀ (q : Str) (pm : Value) (c' : Addr) (ctv u : Value), bindArgs (PySem.W.kla_fn "<lambda>" q params be scope [] pm (.ref c') ctv) ⟨[u], []⟩ = pure [(x, u)] := by intros; rfl)
    (he : backTo pos (starEach [e] X.env) = (false, eval e X.env) :: backTo pos (starEach [] X.env) := by rfl) (hs : starEach [e] X.env = [(false, eval e X.env)] := by rfl) (hpl : (backTo pos (starEach [e] X.env)).any (·.1) = false := by rfl) :
    GE Y X W (.Call (.Name "min" p) [e] [⟨some "key", .Lambda params be scope lp, kp⟩, ⟨some "default", .Constant .none k3 p3, kp2⟩] pos) (dMinK me m0) := by
  obtain ⟨t, pt, sat⟩ := ha
  refine ⟨fun σ H Q => t σ H fun v H1 => ∃ l xs ds ks F, [v] = [V.ref l] ∧ Ex F H1 ∧ Tb F ∧ SqL X.K H1 l xs ∧ RepL X.K Y F xs ds ∧ keysI me ds = some ks ∧ (ds.length = 0 → ∀ F' H', Gr F H1 F' H' → Q .non H') ∧
      ∀ (i : Nat) (d : D), ds[i]? = some d → (∀ j, j < ds.length → ks.getD i 0 ≤ ks.getD j 0 ∧ (j < i → ks.getD i 0 < ks.getD j 0)) → ∀ v F' H', Gr F H1 F' H' → Rep X.K Y F' v d → Q v H', ⟨fun pins s σ H Q I h => ?_⟩, fun ρ r h F0 H0 F σ H R Q w => ?_⟩
  · refine wpAny_Call_Name_kw (ld_blt I hg hm bt_min ?_)
    refine PyProof.Rows.callWith_kw (thn ((pa_cons pt pa_nil hs).run pos pins s σ H (fun vs H1 => ∃ l xs ds ks F, vs = [V.ref l] ∧ Ex F H1 ∧ Tb F ∧ SqL X.K H1 l xs ∧ RepL X.K Y F xs ds ∧ keysI me ds = some ks ∧ (ds.length = 0 → ∀ F' H', Gr F H1 F' H' → Q .non H') ∧
      ∀ (i : Nat) (d : D), ds[i]? = some d → (∀ j, j < ds.length → ks.getD i 0 ≤ ks.getD j 0 ∧ (j < i → ks.getD i 0 < ks.getD j 0)) → ∀ v F' H', Gr F H1 F' H' → Rep X.K Y F' v d → Q v H') I ?_) fun us s1 ⟨vs, H1, I1, r1, q1⟩ => ?_) he hpl rfl rfl
    · exact h
    · obtain ⟨l, xs, ds, ks, F, rfl, ex, tb, hl, ra, hk, k0, k1⟩ := q1
      obtain rfl := Vals.ref1 r1
      show wpAny _ _ (evalAll [do let v ← eval (.Lambda params be scope lp) X.env; standAt pos; pure v, do let v ← eval (.Constant .none k3 p3) X.env; standAt pos; pure v]) _ _ s1
      refine wpAny_evalAll_cons (wpAny_bind (lam_new I1 B hcode hq ((tb.up ex) P hP) hdef (fun y hy z => absurd z (hfree y hy)) fun f c' pm ctv H2 s2 ex2 I2 hc => wpAny_bind (wpAny_standAt (wpAny_pure ?_))))
      refine wpAny_evalAll_cons ?_
      show wpAny _ _ ((pure Value.none : Sem Value) >>= fun v => standAt pos >>= fun _ => pure v) _ _ _
      rw [pure_bind]
      refine wpAny_bind (wpAny_standAt (wpAny_pure (wpAny_evalAll_nil ?_)))
      rw [hclo] at I2
      refine mk_run (Y := Y) (me := me) (j := j) hcalm I2 (ex.trans ex2) tb (ex_l ex2 hl) ra hc hr S (hb _ _ _ _) (fun A outer s H => hbody _ c' f A outer s H) (keysI_get hk).2 (fun z => k0 z F H2 (Gr.heap ex ex2)) fun i d hd hbest v F' H' g r => k1 i d hd hbest v F' H' ((Gr.heap ex ex2).trans g) r
  · rcases bd_some h with ⟨d, e1, h⟩ | ⟨z, e1, rfl⟩
    · refine sat ρ _ e1 F0 H0 F σ H R _ fun v F' H' g rv => ?_
      cases hd : minKD me d with
      | none => rw [hd] at h; cases h
      | some d2 =>
        rw [hd] at h
        cases h
        unfold minKD at hd
        split at hd
        · rename_i ds
          obtain ⟨l, xs, rfl, hl, ra⟩ := rep_lst rv
          split at hd
          · rename_i k ks d0 ds0 hk
            cases hd
            refine ⟨l, xs, _, _, F', rfl, g.fh, R.tbF.up g.f, ex_l g.fh hl, ra, hk, (fun z => nomatch z), fun i d hd hb v2 F2 H2 g2 r2 => ?_⟩
            have hlk := (keysI_get hk).1
            obtain ⟨ki, hki, _⟩ := (keysI_get hk).2 i d hd
            have e := minK_one (ks.zip ds0) k d0 i (ki, d) (by
              show ((k :: ks).zip (d0 :: ds0))[i]? = _
              exact (zipK_get hlk i _).mpr ⟨hki, hd⟩) fun j q hq => by
              have hq : ((k :: ks).zip (d0 :: ds0))[j]? = some q := hq
              obtain ⟨h1, h2⟩ := (zipK_get hlk j _).mp hq
              have := hb j (List.getElem?_eq_some_iff.mp h2).1
              have e1 : (k :: ks).getD i 0 = ki := by rw [List.getD_eq_getElem?_getD, hki]; rfl
              have e2 : (k :: ks).getD j 0 = q.1 := by rw [List.getD_eq_getElem?_getD, h1]; rfl
              rw [e1, e2] at this
              exact this
            have e : d = minK k d0 (ks.zip ds0) := e
            subst e
            exact w _ F2 H2 (g.trans g2) r2
          · rename_i hk
            cases hd
            have hlk := (keysI_get hk).1
            refine ⟨l, xs, _, _, F', rfl, g.fh, R.tbF.up g.f, ex_l g.fh hl, ra, hk, (fun z F2 H2 g2 => w _ F2 H2 (g.trans g2) .non), fun i d hd hb v2 F2 H2 g2 r2 => ?_⟩
            rw [List.length_nil] at hlk
            have := (List.getElem?_eq_some_iff.mp hd).1
            omega
          · cases hd
        · cases hd
    · exact sat ρ _ e1 F0 H0 F σ H R _ w
end
end Den
set_option Elab.async false
set_option linter.all false
set_option maxRecDepth 100000
set_option maxHeartbeats 4000000
namespace Den
open PySem L2
/-! ### min(l), max(l), l a list of ints -/
def maxL (n : Int) (ns : List Int) : Int := ns.foldl max n
theorem maxL_le : ∀ (ns : List Int) (n : Int), n ≤ maxL n ns ∧ ∀ m ∈ ns, m ≤ maxL n ns
  | [], n => ⟨Int.le_refl _, fun _ h => nomatch h⟩
  | a :: ns, n => by
    obtain ⟨h1, h2⟩ := maxL_le ns (max n a)
    refine ⟨Int.le_trans (Int.le_max_left ..) h1, fun m hm => ?_⟩
    rcases List.mem_cons.mp hm with rfl | hm
    · exact Int.le_trans (Int.le_max_right ..) h1
    · exact h2 m hm
theorem maxL_mem : ∀ (ns : List Int) (n : Int), maxL n ns = n ∨ maxL n ns ∈ ns
  | [], n => .inl rfl
  | a :: ns, n => by
    rcases maxL_mem ns (max n a) with h | h
    · have e : maxL n (a :: ns) = max n a := h
      rcases Int.le_total n a with z | z
      · exact .inr (by rw [e, Int.max_eq_right z]; exact List.mem_cons_self ..)
      · exact .inl (by rw [e]; exact Int.max_eq_left z)
    · exact .inr (List.mem_cons_of_mem _ h)
theorem maxL_one {ns : List Int} {n m : Int} (h : m ∈ n :: ns) (hl : ∀ x ∈ n :: ns, x ≤ m) : m = maxL n ns := by
  have h1 := maxL_le ns n
  have a1 : m ≤ maxL n ns := by
    rcases List.mem_cons.mp h with rfl | h
    · exact h1.1
    · exact h1.2 m h
  have a2 : maxL n ns ≤ m := by
    rcases maxL_mem ns n with e | e
    · rw [e]; exact hl n (List.mem_cons_self ..)
    · exact hl _ (List.mem_cons_of_mem _ e)
  omega
def minLD : List D → Option D
  | [.lst ds] => match intsOf ds with
    | some (n :: ns) => some (.int (minL n ns))
    | _ => none
  | _ => none
def maxLD : List D → Option D
  | [.lst ds] => match intsOf ds with
    | some (n :: ns) => some (.int (maxL n ns))
    | _ => none
  | _ => none
variable [Named]
section
variable {Y : Cfg} {X : Cx}
theorem cd_minL (hc : X.calm = true) : CallD Y X (.builtin "min") minLD := by
  intro pins s σ H xs us Q I r hq
  obtain ⟨F, ds, z, ex, rs, eq, k⟩ := hq
  unfold minLD at eq
  split at eq
  · rename_i es
    split at eq
    · rename_i n ns hb
      cases eq
      obtain ⟨v, rfl, q⟩ := repL1 rs
      obtain ⟨a, ys, rfl, ha, ra⟩ := rep_lst q
      have e := ints_rep ra hb
      subst e
      exact cr_min hc pins s σ H _ us Q I r ⟨a, n :: ns, rfl, (ex_l ex ha), Nat.succ_pos _, fun m hm hl => by
        rw [minL_one hm hl]
        exact k _ F H (Gr.refl ex) (.int _)⟩
    · cases eq
  · cases eq
theorem cd_maxL (hc : X.calm = true) : CallD Y X (.builtin "max") maxLD := by
  intro pins s σ H xs us Q I r hq
  obtain ⟨F, ds, z, ex, rs, eq, k⟩ := hq
  unfold maxLD at eq
  split at eq
  · rename_i es
    split at eq
    · rename_i n ns hb
      cases eq
      obtain ⟨v, rfl, q⟩ := repL1 rs
      obtain ⟨a, ys, rfl, ha, ra⟩ := rep_lst q
      have e := ints_rep ra hb
      subst e
      exact cr_max hc pins s σ H _ us Q I r ⟨a, n :: ns, rfl, (ex_l ex ha), Nat.succ_pos _, fun m hm hl => by
        rw [maxL_one hm hl]
        exact k _ F H (Gr.refl ex) (.int _)⟩
    · cases eq
  · cases eq
end
end Den
set_option Elab.async false
set_option linter.all false
set_option maxRecDepth 100000
set_option maxHeartbeats 4000000
/-! Den40: what is called while no repr runs: a def's promise for such callers alone, repr of data, the end of a law whose own text asks repr -/
namespace Den
open PySem PySem.Spec PyProof.Rows L2 LamX
/-- a def keeps its promise wherever no repr is under way -/
def FnG (P : Program) (w : World) (K : PySem.W.Frag) (mg : Str → Option Value) (base : Heap) (cx : CXT) (k : Nat) (f : Addr) (fd : FuncData) (ps : List Str) (sp : Sp) : Prop :=
  ∀ (A : Around) (outer : List PySem.Env) (s : Shared) (H : Hp) (args : Args) (us : List Value) (vs : List V) (Q : VK) (E : XK), A.guards = some [] → Room k A → Env0 P w K mg base A outer s H → BindsTo s fd args (ps.zip us) → Vals vs us → sp vs H Q E →
    codeAny (model P w) A (.call (.ref f) args) (CR cx outer P w H s Q E) s
section
variable {P : Program} {w : World} {K : PySem.W.Frag} {mg mb : Str → Option Value} {base : Heap} {cx : CXT} {k : Nat} {f : Addr} {fd : FuncData} {ps : List Str} {sp : Sp}
theorem FnG.imp {sp' : Sp} (F : FnG P w K mg base cx k f fd ps sp) (h : ∀ vs H Q E, sp' vs H Q E → sp vs H Q E) : FnG P w K mg base cx k f fd ps sp' :=
  fun A outer s H args us vs Q E g r e b v q => F A outer s H args us vs Q E g r e b v (h _ _ _ _ q)
/-- a frame is entered -/
theorem fnG_of {name qual : Str} {pars : Arguments} {sts : List Stmt} {sco : Scope} {dv kv dc pm cv ct oc : Value} {an od : Option Addr} {osl : Array (Option Value)} {N : List Str}
    (known : K.lookup f = some ⟨oc, od, .func (PySem.W.fnOf name qual pars sts sco dv kv dc pm an cv ct), osl⟩) (code : PySem.W.codeIn K cv qual = true) (S : FnScope N ps sco) (len : ∀ vs H Q E, sp vs H Q E → vs.length = ps.length)
    (body : ∀ (A : Around) (outer : List PySem.Env) (s : Shared) (H : Hp) (vs : List V) (Q : VK) (E : XK), A.guards = some [] → Room k (A.deeper (PyProof.Rows.envOfC qual sco s.heap.objs.size f cv)) → sp vs H Q E →
      ∃ t, PSs (cxOf cx P w K mg base N qual sco f cv A outer s H E) sts t ∧ t { nx := fun _ H' => Q .non H', rt := Q } (start N vs) H) :
    FnG P w K mg base cx (k + 1) f (PySem.W.fnOf name qual pars sts sco dv kv dc pm an cv ct) ps sp := by
  intro A outer s H args us vs Q E gd room e0 binds rel promise
  have n1 := len vs H Q E promise
  obtain ⟨t, run, goal⟩ := body A outer s H vs Q E gd (room.deeper _) promise
  have inK : K.In s.heap := e0.mod.kin.keeps fun b o e => (e0.bs b o e).1
  have free : s.heap.NoLimit := e0.mod.nolimit.keeps fun b o e => (e0.bs b o e).1
  have loc : ∀ y ∈ ps.zip us, sco.names.lookup y.1 = some .local ∨ (sco.names.lookup y.1 = some .cell ∧ ((cellsFrom (s.heap.objs.size + 1) sco.names []).lookup y.1).isSome = true) := by
    intro y hy
    obtain ⟨nm, val⟩ := y
    exact (S.par nm (List.of_mem_zip hy).1).imp id fun q => ⟨q, PySem.W.cellsFrom_some _ _ _ (.inl q)⟩
  refine codeAny_call_function room.depth (inK _ _ known) rfl S.co S.gen rfl (PySem.W.codeRec_of inK code) (binds _ _ _ _ (wpAny_newFunctionEnv_cells S.kind loc fun env ee s1 into => ?_))
  cases ee
  refine ⟨free.keeps into.toInCall.keep, codeAny_func (wpAny_mono (run.run [] s1 (start N vs) H _ (inv_start S room.hd e0 n1 rel into) goal) (fun out s2 post => ?_) fun _ _ post => post)⟩
  rcases out with _ | _ | _ | u
  · obtain ⟨sl, H', J, q⟩ := post
    exact ⟨V.non, H', J.os, J.bare, J.base, J.hok, rfl, q⟩
  · exact (post.elim fun _ z => z.elim fun _ z => z.2).elim
  · exact (post.elim fun _ z => z.elim fun _ z => z.2).elim
  · obtain ⟨v, sl, H', J, r, q⟩ := post
    exact ⟨v, H', J.os, J.bare, J.base, J.hok, r, q⟩
end
end Den
namespace Den
open PySem PySem.Spec PyProof.Rows L2 LamX
variable [Named]
section
variable {P : Program} {w : World} {K : PySem.W.Frag} {mg : Str → Option Value} {base : Heap} {k : Nat} {f : Addr} {fd : FuncData} {ps : List Str} {x : Str}
/-- the rule for a def that is called while no repr is under way -/
theorem dokG {Y : Cfg} {qual : Str} {st : Stmt} {N : List Str} {body : SM} {dvv : List V} {kwv : List (Str × V)} (Fn : FunD K x qual (defArgs st) (defBody st) (defScope st) dvv kwv f fd) (S : FnScope N ps (defScope st))
    (hb : ∀ (cdv : Value) (A : Around) (outer : List PySem.Env) (s : Shared) (H : Hp) (E : XK), A.guards = some [] → Room k (A.deeper (PyProof.Rows.envOfC qual (defScope st) s.heap.objs.size f cdv)) →
      Takes (cxOf (L2.CX P w) P w K mg base N qual (defScope st) f cdv A outer s H E) (fun cls d _ H => E cls d H) →
      PassesOwn (model P w) (A.deeper (PyProof.Rows.envOfC qual (defScope st) s.heap.objs.size f cdv)) (PyProof.Rows.envOfC qual (defScope st) s.heap.objs.size f cdv) (cxOf (L2.CX P w) P w K mg base N qual (defScope st) f cdv A outer s H E).xe →
      GSs Y (cxOf (L2.CX P w) P w K mg base N qual (defScope st) f cdv A outer s H E) (fun cls d _ H => E cls d H) (defBody st) body) :
    FnG P w K mg base (L2.CX P w) (k + 1) f fd ps (spD Y K ps.length (runD N ps.length body)) := by
  obtain ⟨oc, od, dV, kV, doc, pm, an, cdv, ct, osl, rfl, lk, hcdv, _, _⟩ := Fn.ex
  refine fnG_of lk hcdv S (fun vs H Q E ⟨F, ds, r, _, rs, hl, _⟩ => by rw [rs.len, hl]) fun A outer s H vs Q E gd hr ⟨F, ds, r, e, rs, hl, hf, want⟩ => ?_
  obtain ⟨t, pt, q⟩ := hb cdv A outer s H E gd hr (takes_of rfl rfl rfl rfl) PassesOwn.leaving
  refine ⟨t, pt, ?_⟩
  unfold runD at hf
  rw [if_pos hl] at hf
  cases ho : body (startE N ds) with
  | none => rw [ho] at hf; cases hf
  | some oo =>
    refine q _ oo ho F H F _ H (rel_start (N := N) e.1 e.2 rs) _ ?_
    cases oo with
    | nx ρ => rw [ho] at hf; cases hf; exact fun F' σ' H' e' R' => want .non F' H' R'.gr .non
    | ret d => rw [ho] at hf; cases hf; exact fun v F' H' e' g rv => want v F' H' g rv
    | exc z ρ => rw [ho] at hf; cases hf; exact fun F' σ' H' dx e' R' xr => want F' H' dx R'.gr xr
    | bk ρ => rw [ho] at hf; cases hf
    | ct ρ => rw [ho] at hf; cases hf
end
/-! ### repr of data -/
def reprD : List D → Option D
  | [.non] => some (.str "None")
  | [.int i] => if i.natAbs.log2 < 1920 then some (.str (toString i)) else none
  | [.tup ds] => if shD (.tup ds) = true ∧ (D.tup ds).py.showable = true ∧ (D.tup ds).py.hasDict = false ∧ (D.tup ds).py.shown.length ≤ sizeLine then some (.str (D.tup ds).py.shown) else none
  | [.lst ds] => if shD (.lst ds) = true ∧ (D.lst ds).py.showable = true ∧ (D.lst ds).py.hasDict = false ∧ (D.lst ds).py.shown.length ≤ sizeLine then some (.str (D.lst ds).py.shown) else none
  | _ => none
theorem bt_repr : bootBuiltins "repr" = some (.builtin "repr") := by decide +kernel
theorem hu66 {k : Nat} {A : Around} (r : Room k A) : A.units + 66 < cLine := by have := r.un; omega
@[simp] theorem c_reprN : reprD [.non] = some (.str "None") := rfl
section
variable {Y : Cfg} {X : Cx}
theorem cd_repr (gd : X.A.guards = some []) (hu : X.A.units + 66 < cLine) : CallD Y X (.builtin "repr") reprD := by
  intro pins s σ H xs us Q I r hq
  obtain ⟨F, ds, z, ex, rs, eq, k⟩ := hq
  unfold reprD at eq
  split at eq
  · cases eq
    obtain ⟨v, rfl, q⟩ := repL1 rs
    obtain rfl := rep_non q
    obtain ⟨u, rfl, ru⟩ := vals1 r
    obtain rfl : u = Value.none := ru
    exact PySem.P.repr_of_none ⟨.str _, H, I.tok _, ⟨_, rfl⟩, k _ F H (Gr.refl ex) (.str _)⟩
  · rename_i i
    split at eq
    · cases eq
      obtain ⟨v, rfl, q⟩ := repL1 rs
      obtain rfl := rep_int q
      exact SkE.call_repr_int pins s σ H _ us Q I r ⟨i, rfl, by assumption, k _ F H (Gr.refl ex) (.str _)⟩
    · cases eq
  · rename_i es
    split at eq
    · rename_i hs
      cases eq
      obtain ⟨v, rfl, q⟩ := repL1 rs
      obtain ⟨u, rfl, ru⟩ := vals1 r
      have d := dp_ex ex q hs.1
      have dep := SeqAt.depth_of_shaped hs.1
      obtain ⟨as, rd⟩ := Dp.reads I _ v u d ru
      obtain ⟨a, ys, rfl, _⟩ := rep_tup q
      obtain rfl : u = .ref a := ru
      refine repr_of_reads' rd hs.2.1 (fun z => by rw [hs.2.2.1] at z; cases z) gd (by omega) (fun _ _ e => e) (fun h' t tk kp => ⟨.str _, H, I.kept kp, ⟨t, rfl⟩, k _ F H (Gr.refl ex) (.str _)⟩) hs.2.2.2
    · cases eq
  · rename_i es
    split at eq
    · rename_i hs
      cases eq
      obtain ⟨v, rfl, q⟩ := repL1 rs
      obtain ⟨u, rfl, ru⟩ := vals1 r
      have d := dp_ex ex q hs.1
      have dep := SeqAt.depth_of_shaped hs.1
      obtain ⟨as, rd⟩ := Dp.reads I _ v u d ru
      obtain ⟨a, ys, rfl, _⟩ := rep_lst q
      obtain rfl : u = .ref a := ru
      refine repr_of_reads' rd hs.2.1 (fun z => by rw [hs.2.2.1] at z; cases z) gd (by omega) (fun _ _ e => e) (fun h' t tk kp => ⟨.str _, H, I.kept kp, ⟨t, rfl⟩, k _ F H (Gr.refl ex) (.str _)⟩) hs.2.2.2
    · cases eq
  · cases eq
end
end Den

/-! ### the end of a law whose own text asks repr -/
namespace Den
open PySem PySem.Spec PyProof.Rows L2 LamX
section
variable {P : Program} {w : World} {K : PySem.W.Frag} {mg mb : Str → Option Value} {cx : CXT} {k : Nat} {fa a : Addr} {cs : List (Addr × Addr)} {fd : FuncData} {x : Str} {sp : Sp} {S : Shared} {vs : List Value} {ns : List Int}
/-- what the abstract heap H may know of a heap: the script, and empty tables -/
structure Opening (P : Program) (w : World) (K : PySem.W.Frag) (cs : List (Addr × Addr)) (a : Addr) (vs : List Value) (S : Shared) (H : Hp) : Prop where
  script : S.heap.get? a = some { cls := .type "list", data := .seq vs.toArray }
  tab : ∀ p ∈ cs, S.heap.get? p.2 = some { cls := .none, data := .fields #[] } ∧ K.lookup p.2 = none ∧ PySem.W.CodeHd S.heap p.1 p.2 ∧ H p.2 = some (.tbl #[])
  kinds : ∀ b, H b = none ∨ (∃ p ∈ cs, p.2 = b) ∨ ∃ o xs, H b = some (.frz o (.lst xs))
  only : ∀ b, H b ≠ none → b = a ∨ ∃ p ∈ cs, p.2 = b
  own : H a ≠ none → K.lookup a = none
  hok : HOk P w H S.heap
variable {H : Hp}
theorem Opening.hid (O : Opening P w K cs a vs S H) {b : Addr} {o : Obj} (e : S.heap.get? b = some o) (n1 : ∀ us m, o.data = .seq us m → False) (n2 : o.data = .fields #[] → False) : H b = none := by
  by_cases z : H b = none
  · exact z
  · rcases O.only b z with rfl | ⟨p, hp, rfl⟩
    · rw [O.script] at e
      injection e with e
      exact (n1 _ _ (by rw [← e])).elim
    · rw [(O.tab p hp).1] at e
      injection e with e
      exact (n2 (by rw [← e])).elim
theorem Opening.dict (O : Opening P w K cs a vs S H) {b : Addr} {m : Str → Option Value} (h : S.heap.Ns b m) : (hidT S.heap H).Ns b m := by
  obtain ⟨o, es, ep, e, d, r⟩ := h
  exact ⟨o, es, ep, hidT_get e (O.hid e (fun _ _ q => by rw [d] at q; cases q) fun q => by rw [d] at q; cases q), d, r⟩
theorem Opening.known (O : Opening P w K cs a vs S H) (KX : K.In S.heap) : K.In (hidT S.heap H) := by
  intro b o e
  refine hidT_get (KX b o e) ?_
  by_cases z : H b = none
  · exact z
  · rcases O.only b z with rfl | ⟨p, hp, rfl⟩
    · rw [O.own z] at e
      cases e
    · rw [(O.tab p hp).2.1] at e
      cases e
theorem Opening.tabs (O : Opening P w K cs a vs S H) (hns : S.heap.Ns mainGlobals mg) (hbm : ∃ (bm : Addr) (ob : Obj), mg "__builtins__" = some (.ref bm) ∧ bm ≠ builtinsNs ∧ S.heap.get? bm = some ob ∧ ob.cls = .type "module" ∧ ob.dict = some builtinsNs ∧ ob.data = .plain) :
    ∀ p ∈ cs, TabB (hidT S.heap H) mg p.1 p.2 := by
  intro p hp
  obtain ⟨empty, _, code, _⟩ := O.tab p hp
  obtain ⟨gO, gE, gP, gG, gD, gR⟩ := hns
  refine ⟨?_, ?_, fun z => ?_⟩
  · obtain ⟨ob, us, file, tf, flags, tg, inF, text, tt, here, r1, r2, r3, rest⟩ := code
    refine ⟨ob, us, file, tf, flags, tg, inF, text, tt, hidT_get here (O.hid here (fun _ _ z => ?_) fun z => ?_), r1, r2, r3, rest⟩
    · rw [r2] at z; cases z
    · rw [r2] at z
      cases z
      simp at r3
  · obtain ⟨bm, ob, b1, b2, b3, b4, b5, b6⟩ := hbm
    refine ⟨bm, ob, b1, b2, fun z => ?_, fun z => ?_, hidT_get b3 (O.hid b3 (fun _ _ z => ?_) fun z => ?_), b4, b5, b6⟩
    · subst z
      rw [gG] at b3
      cases b3
      rw [gD] at b6
      cases b6
    · subst z
      rw [empty] at b3
      cases b3
      cases b6
    · rw [b6] at z; cases z
    · rw [b6] at z; cases z
  · have e2 := empty
    rw [← z, gG] at e2
    cases e2
    cases gD
theorem Opening.run (O : Opening P w K cs a vs S H) (KX : K.In S.heap) (hns : S.heap.Ns mainGlobals mg) (hb : S.heap.Ns builtinsNs mb) (hbb : ∀ x : Str, x ≠ "__name__" → mb x = bootBuiltins x) (hlim : S.heap.NoLimit) (hg : S.gens = #[])
    (hbm : ∃ (bm : Addr) (ob : Obj), mg "__builtins__" = some (.ref bm) ∧ bm ≠ builtinsNs ∧ S.heap.get? bm = some ob ∧ ob.cls = .type "module" ∧ ob.dict = some builtinsNs ∧ ob.data = .plain) (hr : Room k callerA)
    (F : ∀ base : Heap, K.In base → base.Ns mainGlobals mg → (∀ p ∈ cs, TabB base mg p.1 p.2) → FnG P w K mg base cx k fa fd [x] sp) (hbind : ∀ (s : Shared) (u : Value), BindsTo s fd ⟨[u], []⟩ [(x, u)])
    (hsp : sp [.ref a] H (fun v _ => v = .bl true) fun _ _ _ => False) (hCX : ∀ e s', cx [] H S (fun _ _ _ => False) e s' → False) :
    codeAny (model P w) callerA (.call (.ref fa) ⟨[.ref a], []⟩) (fun r s' => r = .ok (.ret (.bool true)) ∧ OldK S.heap s'.heap ∧ s'.os = S.os ∧ AllBare s'.gens) S := by
  obtain ⟨lm, l1, l2⟩ := hlim
  have M : L2.Mod K mg (hidT S.heap H) := ⟨O.known KX, O.dict hns, ⟨mb, O.dict hb, hbb⟩, ⟨lm, O.dict l1, l2⟩⟩
  have env : Env0 P w K mg (hidT S.heap H) callerA [] S H := ⟨rfl, M, fun _ _ e => of_hidT e, Nat.le_of_eq (hidT_size _ _), trivial, fun b m => absurd (show b ∈ ([] : List Addr) from m) List.not_mem_nil, O.hok, .of_eq hg⟩
  have go := F _ (O.known KX) (O.dict hns) (O.tabs hns hbm) callerA [] S H ⟨[.ref a], []⟩ [.ref a] [.ref a] _ _ rfl hr env (hbind S (.ref a)) (.cons rfl .nil) hsp
  refine codeAny_mono go fun r T post => ?_
  match r, post with
  | .error e, post => exact (hCX e T post).elim
  | .ok .next, post => exact False.elim post
  | .ok .brk, post => exact False.elim post
  | .ok .cont, post => exact False.elim post
  | .ok (.ret u), post =>
    obtain ⟨v, H', os, bare, un, hok', rv, q⟩ := post
    obtain rfl : v = .bl true := q
    obtain rfl : u = Value.bool true := rv
    have stays : ∀ b o, (∀ p ∈ cs, p.2 ≠ b) → S.heap.get? b = some o → T.heap.get? b = some o := by
      intro b o nb e
      rcases O.kinds b with z | ⟨p, hp, z⟩ | ⟨ob, ys, z⟩
      · exact un.keep b o e z (fun m => absurd (show b ∈ ([] : List Addr) from m) List.not_mem_nil) (by simp)
      · exact absurd z (nb p hp)
      · have z1 := (O.hok b _ z).1
        have z2 := (hok' b _ (un.frzs b ob _ z)).1
        rw [e] at z1
        cases z1
        exact z2
    have grows : ∀ p ∈ cs, ∃ more : Array Value, T.heap.get? p.2 = some { cls := .none, data := .fields more } := by
      intro p hp
      obtain ⟨more, z⟩ := un.tbls p.2 #[] (O.tab p hp).2.2.2
      exact ⟨_, hok' p.2 _ z⟩
    refine ⟨rfl, ⟨fun b o e => ?_, fun b o e => ?_⟩, os, bare⟩
    · by_cases m : ∃ p ∈ cs, p.2 = b
      · obtain ⟨p, hp, rfl⟩ := m
        obtain ⟨t1, _, t3, _⟩ := O.tab p hp
        obtain ⟨more, hm⟩ := grows p hp
        rw [t1] at e
        cases e
        exact .inr (.inl ⟨(t3.tab t1).isCodeTable, rfl, #[], more, rfl, by rw [Array.empty_append]; exact hm⟩)
      · exact .inl (stays b o (fun p hp z => m ⟨p, hp, z⟩) e)
    · by_cases m : ∃ p ∈ cs, p.2 = b
      · obtain ⟨p, hp, rfl⟩ := m
        obtain ⟨more, hm⟩ := grows p hp
        exact ⟨_, hm⟩
      · exact ⟨o, stays b o (fun p hp z => m ⟨p, hp, z⟩) e⟩
open Classical in
theorem law_openG (KX : K.In S.heap) (hns : S.heap.Ns mainGlobals mg) (hb : S.heap.Ns builtinsNs mb) (hbb : ∀ x : Str, x ≠ "__name__" → mb x = bootBuiltins x) (hlim : S.heap.NoLimit) (hg : S.gens = #[])
    (hT : ∀ p ∈ cs, S.heap.get? p.2 = some { cls := .none, data := .fields #[] } ∧ K.lookup p.2 = none ∧ PySem.W.CodeHd S.heap p.1 p.2)
    (hbm : ∃ (bm : Addr) (ob : Obj), mg "__builtins__" = some (.ref bm) ∧ bm ≠ builtinsNs ∧ S.heap.get? bm = some ob ∧ ob.cls = .type "module" ∧ ob.dict = some builtinsNs ∧ ob.data = .plain) (hr : Room k callerA)
    (script : S.heap.get? a = some { cls := .type "list", data := .seq vs.toArray }) (hi : IntsAre vs ns) (hl : ns.length ≤ sizeLine)
    (F : ∀ base : Heap, K.In base → base.Ns mainGlobals mg → (∀ p ∈ cs, TabB base mg p.1 p.2) → FnG P w K mg base cx k fa fd [x] sp) (hbind : ∀ (s : Shared) (u : Value), BindsTo s fd ⟨[u], []⟩ [(x, u)])
    (hsp : ∀ H : Hp, (∀ p ∈ cs, H p.2 = some (.tbl #[])) → SqL K H a (ns.map V.int) → sp [.ref a] H (fun v _ => v = .bl true) fun _ _ _ => False) (hCX : ∀ H e s', cx [] H S (fun _ _ _ => False) e s' → False) :
    codeAny (model P w) callerA (.call (.ref fa) ⟨[.ref a], []⟩) (fun r s' => r = .ok (.ret (.bool true)) ∧ OldK S.heap s'.heap ∧ s'.os = S.os ∧ AllBare s'.gens) S := by
  have rv := vals_ints hi
  let isTab : Addr → Prop := fun b => ∃ p ∈ cs, p.2 = b
  have tabAt : ∀ b, isTab b → S.heap.get? b = some { cls := .none, data := .fields #[] } := fun b ⟨p, hp, e⟩ => by rw [← e]; exact (hT p hp).1
  have notA : ¬ isTab a := fun z => by
    have e := tabAt a z
    rw [script] at e
    injection e with e
    injection e with _ _ e
    cases e
  by_cases hk : K.lookup a = none
  · let H : Hp := fun b => if b = a then some (.frz { cls := .type "list", data := .seq vs.toArray } (.lst (ns.map V.int))) else if isTab b then some (.tbl #[]) else none
    have Ha : H a = some (.frz { cls := .type "list", data := .seq vs.toArray } (.lst (ns.map V.int))) := if_pos rfl
    have Ht : ∀ b, isTab b → H b = some (.tbl #[]) := fun b z => by
      show (if b = a then _ else if isTab b then _ else none) = _
      rw [if_neg (fun e => notA (by rw [← e]; exact z)), if_pos z]
    have Hn : ∀ b, b ≠ a → ¬ isTab b → H b = none := fun b n1 n2 => by
      show (if b = a then _ else if isTab b then _ else none) = _
      rw [if_neg n1, if_neg n2]
    have O : Opening P w K cs a vs S H := by
      refine ⟨script, fun p hp => ⟨(hT p hp).1, (hT p hp).2.1, (hT p hp).2.2, Ht _ ⟨p, hp, rfl⟩⟩, fun b => ?_, fun b nz => ?_, fun _ => hk, fun b u z => ?_⟩
      · by_cases e : b = a
        · rw [e]; exact .inr (.inr ⟨_, _, Ha⟩)
        · by_cases t : isTab b
          · exact .inr (.inl t)
          · exact .inl (Hn b e t)
      · by_cases e : b = a
        · exact .inl e
        · by_cases t : isTab b
          · exact .inr t
          · exact absurd (Hn b e t) nz
      · by_cases e : b = a
        · rw [e, Ha] at z
          cases z
          rw [e]
          exact ⟨script, by rw [List.length_map]; exact hl, vs, _, rv, script⟩
        · by_cases t : isTab b
          · rw [Ht b t] at z
            cases z
            exact tabAt b t
          · rw [Hn b e t] at z
            cases z
    exact O.run KX hns hb hbb hlim hg hbm hr F hbind (hsp H (fun p hp => Ht _ ⟨p, hp, rfl⟩) (.inl (.inr ⟨_, Ha⟩))) (hCX H)
  · obtain ⟨o, ho⟩ := Option.ne_none_iff_exists'.mp hk
    let H : Hp := fun b => if isTab b then some (.tbl #[]) else none
    have Ht : ∀ b, isTab b → H b = some (.tbl #[]) := fun b z => if_pos z
    have Hn : ∀ b, ¬ isTab b → H b = none := fun b z => if_neg z
    have O : Opening P w K cs a vs S H := by
      refine ⟨script, fun p hp => ⟨(hT p hp).1, (hT p hp).2.1, (hT p hp).2.2, Ht _ ⟨p, hp, rfl⟩⟩, fun b => ?_, fun b nz => ?_, fun nz => absurd (Hn a notA) nz, fun b u z => ?_⟩
      · by_cases t : isTab b
        · exact .inr (.inl t)
        · exact .inl (Hn b t)
      · by_cases t : isTab b
        · exact .inr t
        · exact absurd (Hn b t) nz
      · by_cases t : isTab b
        · rw [Ht b t] at z
          cases z
          exact tabAt b t
        · rw [Hn b t] at z
          cases z
    have e := KX a o ho
    rw [script] at e
    cases e
    exact O.run KX hns hb hbb hlim hg hbm hr F hbind (hsp H (fun p hp => Ht _ ⟨p, hp, rfl⟩) (.inr ⟨_, vs.toArray, _, ho, rfl, rfl, rfl, by rw [List.size_toArray, hi.length]; exact hl, by simpa using rv⟩)) (hCX H)
end
/-- what a law's def gives at the top -/
def LawG (l : PySem.W.OpenLaw) (w : World) (K : PySem.W.Frag) (cx : CXT) (k n : Nat) (x : Str) (mg : Str → Option Value) (fa : Addr) (h : Heap) : Prop :=
  ∃ (fd : FuncData) (cs : List (Addr × Addr)) (sp : Sp), (∀ p ∈ cs, h.get? p.2 = some { cls := .none, data := .fields #[] } ∧ K.lookup p.2 = none ∧ PySem.W.CodeHd h p.1 p.2) ∧ (∀ (s : Shared) (u : Value), BindsTo s fd ⟨[u], []⟩ [(x, u)]) ∧
    (∀ (H : Hp) (a : Addr) (ns : List Int), ns.length ≤ n → (∀ p ∈ cs, H p.2 = some (.tbl #[])) → SqL K H a (ns.map V.int) → sp [.ref a] H (fun v _ => v = .bl true) fun _ _ _ => False) ∧
    ∀ base : Heap, K.In base → base.Ns mainGlobals mg → (∀ p ∈ cs, TabB base mg p.1 p.2) → FnG l.prog w K mg base cx k fa fd [x] sp
theorem walk_ofG {l : PySem.W.OpenLaw} {n k : Nat} {q : Program} {loose : List Str} {XP : (Str → Option Value) → Heap → Prop} {YP : World → Heap → Prop} {d : DefRec} {K : Params → PySem.W.Frag} {cx : World → CXT} {x : Str}
    (hn : l.most = some n) (hn2 : n ≤ sizeLine) (hdf : d.params.defaults = []) (hr : Room k callerA) (hY : ∀ (w : World) (h : Heap), YP w h → (K w.params).In h)
    (F : ∀ (w : World) (mg : Str → Option Value) (fa : Addr) (h : Heap), YP w h → (K w.params).In h → h.Ns mainGlobals mg → mg d.name = some (.ref fa) → LawG l w (K w.params) (cx w) k n x mg fa h)
    (hCX : ∀ (w : World) (H : Hp) (s : Shared) (e : Value) (s' : Shared), cx w [] H s (fun _ _ _ => False) e s' → False) :
    PySem.W.WalkO q loose XP YP l.row.toRowW d [] (fun f vs => PySem.call f vs) :=
  Att.attach_callB hn hdf fun w s₀ s₁ mg mb fa o pm cd doc a vs ns G Y _ _ _ hmg hobj hints hlen _ hg => by
    have known := hY w _ Y
    obtain ⟨fd, cs, sp, hT, hb, hsp, hF⟩ := F w mg fa _ Y known G.T.g hmg
    exact law_openG known G.T.g G.T.b G.T.builtins G.T.nolimit hg hT G.T.bmain hr hobj hints (Nat.le_trans hlen hn2) hF hb (fun H h1 h2 => hsp H a ns hlen h1 h2) fun H e s' => hCX w H s₁ e s'
end Den
set_option Elab.async false
set_option linter.all false
set_option maxRecDepth 100000
set_option maxHeartbeats 4000000
namespace Den
open PySem L2
/-! ### min(l, default=d), l a list of data that are alike -/
theorem readsAll_get {h : Heap} : ∀ {vs : List Value} {ps : List PyData} {as : List Addr}, ReadsAll h vs ps as → ∀ (i : Nat) (v : Value), vs[i]? = some v → ∃ p bs, ps[i]? = some p ∧ Reads h v p bs
  | [], _, _, _, i, v, e => by simp at e
  | v0 :: vs, p :: ps, _, .cons r q, i, v, e => by
    rcases i with _ | i
    · cases e
      exact ⟨p, _, rfl, r⟩
    · exact readsAll_get q i v e
mutual
theorem py_inj : ∀ (d e : D), PyData.canLay0 d.py = true → d.py = e.py → d = e
  | .non, e, _, h => by cases e <;> first | rfl | (simp [D.py] at h)
  | .bl b, e, _, h => by cases e <;> simp [D.py] at h; rw [h]
  | .int i, e, _, h => by cases e <;> simp [D.py] at h; rw [h]
  | .str x, e, _, h => by cases e <;> simp [D.py] at h; rw [h]
  | .tup ds, e, c, h => by
    cases e <;> simp [D.py] at h
    rw [pys_inj _ _ (by simpa [D.py, PyData.canLay0] using c) h]
  | .lst ds, e, c, h => by
    cases e <;> simp [D.py] at h
    rw [pys_inj _ _ (by simpa [D.py, PyData.canLay0] using c) h]
  | .dic ks ds, e, c, _ => by simp [D.py, PyData.canLay0] at c
  | .obj k ds, e, c, _ => by simp [D.py, PyData.canLay0] at c
theorem pys_inj : ∀ (ds es : List D), PyData.canLayAll0 (D.pys ds) = true → D.pys ds = D.pys es → ds = es
  | [], [], _, _ => rfl
  | [], e :: es, _, h => by simp [D.pys] at h
  | d :: ds, [], _, h => by simp [D.pys] at h
  | d :: ds, e :: es, c, h => by
    simp only [D.pys, PyData.canLayAll0, Bool.and_eq_true] at c
    simp only [D.pys, List.cons.injEq] at h
    rw [py_inj d e c.1 h.1, pys_inj ds es c.2 h.2]
end
def minG (d : D) (ds : List D) : D := ds.foldl (fun a e => if PySem.W.dataLt e.py a.py = true then e else a) d
theorem pys_map (ds : List D) : D.pys ds = ds.map D.py := by
  induction ds with
  | nil => rfl
  | cons d ds ih => simp [D.pys, ih]
theorem minG_py : ∀ (ds : List D) (d : D), (minG d ds).py = PySem.W.minD d.py (D.pys ds)
  | [], d => rfl
  | e :: ds, d => by
    show (minG (if PySem.W.dataLt e.py d.py = true then e else d) ds).py = PySem.W.minD (if PySem.W.dataLt e.py d.py = true then e.py else d.py) (D.pys ds)
    rw [minG_py ds]
    congr 1
    split <;> rfl
theorem minG_mem : ∀ (ds : List D) (d : D), minG d ds ∈ d :: ds
  | [], d => List.mem_cons_self ..
  | e :: ds, d => by
    have h := minG_mem ds (if PySem.W.dataLt e.py d.py = true then e else d)
    show minG (if PySem.W.dataLt e.py d.py = true then e else d) ds ∈ _
    rcases List.mem_cons.mp h with h | h
    · rw [h]
      split
      · exact List.mem_cons_of_mem _ (List.mem_cons_self ..)
      · exact List.mem_cons_self ..
    · exact List.mem_cons_of_mem _ (List.mem_cons_of_mem _ h)
open Classical in
noncomputable def minGD (x y : D) : Option D := match x with
  | .lst ds => if PySem.W.AlikeAll (D.pys ds) ∧ shD (.lst ds) = true then (match ds with
    | [] => some y
    | d :: ds => some (minG d ds)) else none
  | _ => none
noncomputable def dMinDg (m md : Env → M) : Env → M := fun ρ => bd (m ρ) fun x => bd (md ρ) fun y => lift (minGD x y)
@[simp] theorem c_minDg {m md : Env → M} {ρ : Env} : dMinDg m md ρ = bd (m ρ) fun x => bd (md ρ) fun y => lift (minGD x y) := rfl
variable [Named]
section
variable {Y : Cfg} {X : Cx} {W : WX} {K : PySem.W.Frag} {F H : Hp} {a b e : Expr} {es : List Expr} {ma mb : Env → M} {ms : Env → ML} {pos p p2 p3 kp : Pos}
def rMinDg (K : PySem.W.Frag) : List V → List V → Hp → VK → Prop := fun vs zs H Q => ∃ (a : Addr) (ys : List V) (ps : List PyData) (z : V), vs = [V.ref a] ∧ zs = [z] ∧ SqL K H a ys ∧ Dp K H (.ref a) (.list ps) ∧ PySem.W.AlikeAll ps ∧ PyData.depthAll ps ≤ 64 ∧ (ps = [] → Q z H) ∧
  ∀ (i : Nat) (y : V) (q : PyData) (qs : List PyData), ps = q :: qs → ys[i]? = some y → ps[i]? = some (PySem.W.minD q qs) → Q y H
theorem cr_minDg (hc : X.calm = true) (hu : X.A.units + 66 < cLine) : CallRK X (.builtin "min") [Str.ofString "default"] (rMinDg X.K) := by
  intro pins s σ H vs zs us ws Q I r rz h
  obtain ⟨l, ys, ps, z, rfl, rfl, hs, dp, al, dep, q0, q1⟩ := h
  obtain ⟨its, rv, hl, _⟩ := I.list hs
  obtain rfl := Vals.ref1 r
  obtain ⟨w1, rfl, e1⟩ := vals1 rz
  obtain ⟨as, rd⟩ := Dp.reads I _ (V.ref l) (.ref l) dp rfl
  cases rd with
  | list h1 h2 h3 h4 =>
    rename_i o vs n as
    obtain ⟨o', g1, g2, n', g3⟩ := hl.isList
    rw [g1] at h1
    cases h1
    rw [g3] at h3
    cases h3
    refine PySem.W.min_list_default (I.ok.hd hc) hl.isList h4 al (by omega) (fun hz h' tk kp => ⟨z, H, I.kept kp, e1, q0 hz⟩) fun y0 yr i v h' tk bs hp hv rm kp => ?_
    obtain ⟨y, hy, ry⟩ := vals_get rv (by simpa using hv)
    obtain ⟨p1, bs1, hp1, r1⟩ := readsAll_get h4 i v (by simpa using hv)
    have r2 := PySem.W.reads_keeps kp r1
    have e := (Reads.unique r2 _ _ rm).1
    subst e
    exact ⟨y, H, I.kept kp, ry, q1 i y y0 yr hp hy (by rw [hp1])⟩
theorem ge_minDg (hc : X.calm = true) (hu : X.A.units + 66 < cLine) (hg : Gl X "min") (hm : X.mg "min" = none) (ha : GA Y X W [e] (dCons ma dNil)) (hb : GE Y X W b mb)
    (he : backTo pos (starEach [e] X.env) = (false, eval e X.env) :: backTo pos (starEach [] X.env) := by rfl) (hpl : (backTo pos (starEach [e] X.env)).any (·.1) = false := by rfl) :
    GE Y X W (.Call (.Name "min" p) [e] [⟨some "default", b, kp⟩] pos) (dMinDg ma mb) := by
  obtain ⟨t, pt, q⟩ := ha
  obtain ⟨t2, pb, q2⟩ := hb
  refine ⟨_, pe_callBK (cr_minDg hc hu) hg hm bt_min pt (pk_cons pb pk_nil) (by decide) (by decide) he hpl rfl rfl rfl, fun ρ r h F0 H0 F σ H R Q w => ?_⟩
  rcases bd_some h with ⟨d, e1, h⟩ | ⟨x, e1, rfl⟩
  · refine q ρ (.ok [d]) (by simp [dCons, dNil, e1, consL]) F0 H0 F σ H R _ fun vs F1 H1 g1 rs => ?_
    obtain ⟨v, rfl, rv⟩ := repL1 rs
    rcases bd_some h with ⟨d2, e2, h⟩ | ⟨x, e2, rfl⟩
    · refine q2 ρ _ e2 F0 H0 F1 σ H1 (R.grow g1) _ fun u F2 H2 g2 ru => ?_
      obtain ⟨z, e3, rfl⟩ := lift_some h
      unfold minGD at e3
      clear h
      cases d with
      | lst ds =>
        dsimp only at e3
        split at e3
        · rename_i hz
          obtain ⟨l, ys, rfl, hl, ra⟩ := rep_lst rv
          have dp := dp_ex (g1.fh.trans g2.h) rv hz.2
          have lay := SeqAt.canLay_of_shaped hz.2
          have dep := SeqAt.depth_of_shaped hz.2
          refine ⟨l, ys, D.pys ds, u, rfl, rfl, ex_l (g1.fh.trans g2.h) hl, dp, hz.1, ?_, fun z => ?_, fun i y q0 qs hp hy hq => ?_⟩
          · have : (D.lst ds).py.depth = PyData.depthAll (D.pys ds) + 1 := by simp [D.py, PyData.depth]
            omega
          · cases ds with
            | nil => cases e3; exact w _ _ _ (g1.trans g2) ru
            | cons d ds => simp [D.pys] at z
          · cases ds with
            | nil => simp [D.pys] at hp
            | cons d ds =>
              cases e3
              simp only [D.pys, List.cons.injEq] at hp
              obtain ⟨rfl, rfl⟩ := hp
              rw [← minG_py] at hq
              obtain ⟨di, hdi, rdi⟩ := ra.getV hy
              have e4 : (D.pys (d :: ds))[i]? = some di.py := by rw [pys_map, List.getElem?_map, hdi]; rfl
              rw [e4] at hq
              have e5 : di.py = (minG d ds).py := Option.some.inj hq
              have cl : ∀ x ∈ d :: ds, PyData.canLay0 x.py = true := fun x hx => by
                have h0 : PyData.canLayAll0 (D.pys (d :: ds)) = true := by simpa [D.py, PyData.canLay0] using lay
                have all_ : ∀ (es : List D), PyData.canLayAll0 (D.pys es) = true → ∀ x ∈ es, PyData.canLay0 x.py = true := fun es => by
                  induction es with
                  | nil => intro _ x hx; cases hx
                  | cons e0 es ih =>
                    intro hh x hx
                    simp only [D.pys, PyData.canLayAll0, Bool.and_eq_true] at hh
                    rcases List.mem_cons.mp hx with rfl | hx
                    · exact hh.1
                    · exact ih hh.2 x hx
                exact all_ _ h0 x hx
              obtain rfl := py_inj di _ (cl di (List.mem_of_getElem? hdi)) e5
              exact w _ F2 H2 (g1.trans g2) (rdi.mono g2.f)
        · cases e3
      | _ => cases e3
    · exact q2 ρ _ e2 F0 H0 F1 σ H1 (R.grow g1) _ (w.exc g1)
  · exact q ρ (.exc x) (by simp [dCons, dNil, e1, consL]) F0 H0 F σ H R _ w
end
end Den
namespace Den
open PySem L2
/-! ### sorted(l), l a list of data that are alike -/
theorem hu100 {k : Nat} {A : Around} (r : Room k A) : A.units + 100 < cLine := by have := r.un; omega
noncomputable def sortG (ds : List D) : List D := ds.mergeSort (PySem.W.dataLe false D.py)
open Classical in
noncomputable def sortGD : List D → Option D
  | [.lst ds] => if PySem.W.AllAlike (ds.map D.py) ∧ PySem.W.Sortable (ds.map D.py) ∧ shD (.lst ds) = true ∧ ds.length ≤ 16777216 then some (.lst (sortG ds)) else none
  | _ => none
theorem each_vals {K : PySem.W.Frag} {Y : Core} {F : Hp} : ∀ {us : List Value} {ds : List D}, PySem.W.EachIs (fun u d => ∃ v, RelV v u ∧ Rep K Y F v d) us ds → ∃ ys, Vals ys us ∧ RepL K Y F ys ds
  | _, _, .nil => ⟨[], .nil, .nil⟩
  | _, _, .cons h t => by
    obtain ⟨v, r1, r2⟩ := h
    obtain ⟨ys, r3, r4⟩ := each_vals t
    exact ⟨v :: ys, .cons r1 r3, .cons r2 r4⟩
variable [Named]
section
variable {Y : Cfg} {X : Cx}
theorem vals_each {K : PySem.W.Frag} {Y : Core} {F : Hp} : ∀ {ys : List V} {us : List Value} {ds : List D}, Vals ys us → RepL K Y F ys ds → PySem.W.EachIs (fun u d => ∃ v, RelV v u ∧ Rep K Y F v d) us ds
  | [], _, _, .nil, .nil => .nil
  | _ :: _, _, _, .cons r1 r2, .cons q1 q2 => .cons ⟨_, r1, q1⟩ (vals_each r2 q2)
theorem cd_sortG (hu : X.A.units + 100 < cLine) : CallD Y X (.builtin "sorted") sortGD := by
  intro pins s σ H xs us Q I r hq
  obtain ⟨F, ds, z, ex, rs, eq, k⟩ := hq
  unfold sortGD at eq
  split at eq
  · rename_i es
    split at eq
    · rename_i hs
      obtain ⟨al, so, sd, len⟩ := hs
      cases eq
      obtain ⟨v, rfl, q⟩ := repL1 rs
      obtain ⟨l, ys, rfl, hl, ra⟩ := rep_lst q
      obtain ⟨its, rv, hL, hz⟩ := I.list (ex_l ex hl)
      obtain rfl := Vals.ref1 r
      have e := vals_each rv ra
      have lay := SeqAt.canLay_of_shaped sd
      have dep := SeqAt.depth_of_shaped sd
      have h0 : PyData.canLayAll0 (D.pys es) = true := by simpa [D.py, PyData.canLay0] using lay
      have dp : ∀ x ∈ es, PyData.canLay0 x.py = true ∧ x.py.depth ≤ PyData.depthAll (D.pys es) := by
        have all_ : ∀ (es : List D), PyData.canLayAll0 (D.pys es) = true → ∀ x ∈ es, PyData.canLay0 x.py = true ∧ x.py.depth ≤ PyData.depthAll (D.pys es) := fun es => by
          induction es with
          | nil => intro _ x hx; cases hx
          | cons e0 es ih =>
            intro hh x hx
            simp only [D.pys, PyData.canLayAll0, Bool.and_eq_true] at hh
            have h3 : PyData.depthAll (D.pys (e0 :: es)) = max e0.py.depth (PyData.depthAll (D.pys es)) := by simp [D.pys, PyData.depthAll]
            rcases List.mem_cons.mp hx with rfl | hx
            · exact ⟨hh.1, by omega⟩
            · have := ih hh.2 x hx
              exact ⟨this.1, by omega⟩
        exact all_ es h0
      have er : PySem.W.EachIs (fun v b => ∃ as, Reads s.heap v (D.py b) as) its es := by
        have := PySem.W.each_mem e
        refine this.mono fun u d ⟨⟨v, r1, r2⟩, hd⟩ => ?_
        exact Dp.reads I _ v u ((r2.mono ex).dp (dp d hd).1) r1
      refine PySem.W.sorted_data (β := D) (enc := D.py) (R := fun u d => ∃ v, RelV v u ∧ Rep X.K Y F v d) hL.isList e er al so (by rw [sizeLine_eq]; exact len) (fun b hb => ?_) fun out ho eo => ?_
      · have := (dp b hb).2
        have h3 : (D.lst es).py.depth = PyData.depthAll (D.pys es) + 1 := by simp [D.py, PyData.depth]
        omega
      · obtain ⟨zs, v1, v2⟩ := each_vals eo
        obtain ⟨c, hc⟩ := PyProof.Rows.sortedAll_at s.heap its out.toArray
        have fr : H (s.heap.objs.size + 1) = none := I.hok.fresh (Nat.le_succ _)
        have J := I.take (t' := s.toks) (it := s.heap.objs.size + 1) (o := .lst zs) (h' := PyProof.Rows.sortedAll s.heap its out.toArray) (fun b o _ e => PyProof.Rows.sortedAll_old e) (I.fpOk (Nat.le_succ _) fr) ⟨by rw [v1.length, ho]; rw [sizeLine_eq]; exact len, out, c, v1, hc⟩
        have g := Gr.new (o := .lst zs) ex fr
        exact ⟨.ref _, _, J, rfl, k _ _ _ g (.lst (SqL.of upd_same) (v2.mono g.f))⟩
    · cases eq
  · cases eq
end
end Den
set_option Elab.async false
set_option linter.all false
set_option maxRecDepth 100000
set_option maxHeartbeats 4000000
namespace Den
open PySem L2 PyProof.Rows
/-! ### a def called without arguments -/
theorem pe_call0SD {sp : Sp} {E : L2.St → XK} (Fn : FnOk X.prog X.w X.K X.mg X.base (L2.CX X.prog X.w) k f fd ps sp) (hr : Room k X.A) (hg : Gl X x) (hm : X.mg x = some (.ref f)) (hk : PySem.W.keepIn X.K (.ref f) = true) (hb : Binds X.K fd ps ds) (hd : Vals dvs ds) (hx : ∀ σ, PassesAt (L2.CX X.prog X.w) X σ (E σ))
    (hdb : (x == ("__debug__" : Str)) = false := by decide) : PE X (.Call (.Name x p) [] [] pos) (fun σ H Q => sp dvs H Q (E σ)) :=
  ⟨fun pins s σ H Q I h => wpAny_Call_Name_kw (ld_glob I hg hm (PySem.W.callWith_K0 I.kIn hk (run_fnSD (us := []) (vs := []) Fn hr hb hd (hx σ) I .nil h)) hdb)⟩
def dCall0 (m : Mn) (dls : List D) : Env → M := fun _ => m dls
@[simp] theorem c_call0 {m : Mn} {dls : List D} {ρ : Env} : dCall0 m dls ρ = m dls := rfl
variable [Named] {Y : Cfg}
theorem ge_call0 (Fn : DOk Y X.prog X.w X.K X.mg X.base k f fd ps m) (hr : Room k X.A) (tk : Takes X W) (hg : Gl X x) (hm : X.mg x = some (.ref f)) (hk : PySem.W.keepIn X.K (.ref f) = true) (hb : Binds X.K fd ps vls) (hd : Dfl X.K Y dvs vls dls) (hlen : ∀ ds r, m ds = some r → ds.length = ps.length)
    (hdb : (x == ("__debug__" : Str)) = false := by decide) :
    GE Y X W (.Call (.Name x p) [] [] pos) (dCall0 m dls) := by
  refine ⟨_, pe_call0SD Fn hr hg hm hk hb hd.1 (fun σ => passAt tk σ) hdb, fun ρ r h F0 H0 F σ H R Q w => ?_⟩
  exact sp_want R.ex R.tbF (hd.2 F) (hlen _ _ h) h (fun z hz => by subst hz; exact w) (fun d hd => by subst hd; exact w)
end Den
set_option Elab.async false
set_option linter.all false
set_option maxRecDepth 100000
set_option maxHeartbeats 4000000
namespace Den
open PySem L2 PyProof.Rows
/-! ### list(range(a, b, c)), c above 0 -/
def rgN (a b c : Int) : Nat := (if a < b then (b - a - 1) / c + 1 else 0).toNat
def rg3D (a b c : Int) : List D := (List.range (rgN a b c)).map fun i : Nat => .int (a + (i : Int) * c)
def rg3V (a b c : Int) : List V := (List.range (rgN a b c)).map fun i : Nat => .int (a + (i : Int) * c)
/-- a start, an end and a step that are small -/
def rg3Ok (a b c : Int) : Prop := 0 < c ∧ c < 1000000000 ∧ -1000000000 < a ∧ a < 1000000000 ∧ -1000000000 < b ∧ b < 1000000000 ∧ rgN a b c ≤ 16777216 ∧ Builtin.Range.small a b c = true
instance {a b c : Int} : Decidable (rg3Ok a b c) := inferInstanceAs (Decidable (_ ∧ _ ∧ _ ∧ _ ∧ _ ∧ _ ∧ _ ∧ _))
def lrg3O : Option RL → M
  | some (.ok [.int a, .int b, .int c]) => if rg3Ok a b c then some (.ok (.lst (rg3D a b c))) else none
  | some (.exc x) => some (.exc x)
  | _ => none
def dLstRg3 (ms : Env → ML) : Env → M := fun ρ => lrg3O (ms ρ)
@[simp] theorem c_lstRg3 {ms : Env → ML} {ρ : Env} : dLstRg3 ms ρ = lrg3O (ms ρ) := rfl
theorem c_lrg3 {a b c : Int} (h : rg3Ok a b c) : lrg3O (some (.ok [.int a, .int b, .int c])) = some (.ok (.lst (rg3D a b c))) := if_pos h
theorem rg3_size {a b c : Int} (h : 0 < c) : Builtin.Range.rangeSize a b c = rgN a b c := by
  unfold Builtin.Range.rangeSize rgN
  rw [if_pos h]
  split
  · have := Int.ediv_nonneg (show 0 ≤ b - a - 1 by omega) (show 0 ≤ c by omega)
    omega
  · rfl
variable [Named]
theorem vals_rg3 {a b c : Int} {acc : Array Value} (h : ItemsOf (fun i v => ∃ t, v = .int (a + i * c) t) acc (rgN a b c)) : Vals (rg3V a b c) acc.toList := by
  have e : acc.toList.length = rgN a b c := by rw [Array.length_toList]; exact h.1
  unfold rg3V
  rw [← e]
  refine vals_of_get acc.toList _ fun j u hj => ?_
  obtain ⟨t, rfl⟩ := h.2 j u (by rw [← hj, Array.getElem?_toList])
  exact ⟨t, rfl⟩
variable {X : Cx} {a b c : Expr} {ta : TA} {p p2 pos pos2 : Pos}
def tLst3 (ta : TA) : TE := fun σ H Q => ta σ H fun vs H1 => ∃ i j k, vs = [.int i, .int j, .int k] ∧ rg3Ok i j k ∧ ∀ q, H1 q = none → Q (.ref q) (upd H1 q (.lst (rg3V i j k)))
theorem pe_lst3 (hc : X.calm = true) (hg : Gl X "list") (hm : X.mg "list" = none) (hg2 : Gl X "range") (hm2 : X.mg "range" = none) (ha : PA X [a, b, c] ta)
    (hs : starEach [a, b, c] X.env = (false, eval a X.env) :: starEach [b, c] X.env := by rfl) (hpl : (backTo pos2 (starEach [b, c] X.env)).any (·.1) = false := by rfl)
    (na : starEach [.Call (.Name "range" p2) [a, b, c] [] pos2] X.env = (false, eval (.Call (.Name "range" p2) [a, b, c] [] pos2) X.env) :: starEach [] X.env := by rfl) :
    PE X (.Call (.Name "list" p) [.Call (.Name "range" p2) [a, b, c] [] pos2] [] pos) (tLst3 ta) := by
  refine ⟨fun pins s σ H Q I h => ?_⟩
  refine Call_ (ld_blt I hg hm boot_list (PyProof.Rows.callWith_type1 (args_cons (thn (Q := fun x s' => ∃ r i j k t u v H', x = .ref r ∧ IsRange s'.heap r i j k t u v ∧ Inv X pins σ H' s' ∧ rg3Ok i j k ∧ ∀ q, H' q = none → Q (.ref q) (upd H' q (.lst (rg3V i j k)))) ?_ fun x s1 ⟨r, i, j, k, t, u, v, H1, ex, hr, I1, ok, q⟩ => args_nil ?_) na) na))
  · refine Call_ (ld_blt I hg2 hm2 boot_range (PyProof.Rows.callWith_type1 (thn (ha.run pos2 pins s σ H _ I h) fun us s1 ⟨vs, H1, I1, r1, q1⟩ => ?_) hs hpl))
    obtain ⟨i, j, k, e, ok, q⟩ := q1
    subst e
    cases r1 with
    | cons r rr =>
      cases rr with
      | cons r' rr =>
        cases rr with
        | cons r'' rr =>
          cases rr
          obtain ⟨t, rfl⟩ := r
          obtain ⟨t', rfl⟩ := r'
          obtain ⟨t'', rfl⟩ := r''
          have ok' := ok
          obtain ⟨h1, h2, h3, h4, h5, h6, h7, h8⟩ := ok'
          refine call_range_3 (by omega) ?_ (.inl (PyProof.noPylong_small (by omega)))
          exact ⟨_, i, j, k, _, _, _, H1, rfl, IsRange.new _ _ _ _ _ _ _, I1.kept (t' := s1.toks) fun b o e => Heap.get?_push_of_some _ e, ok, q⟩
  · subst ex
    have ok' := ok
    obtain ⟨h1, h2, h3, h4, h5, h6, h7, h8⟩ := ok'
    refine call_list_range (n := rgN i j k) (I1.ok.hd hc) hr h8 (rg3_size h1) h7 fun h' tk acc c' hk e' hi => ?_
    refine ⟨.ref s1.heap.objs.size, upd H1 s1.heap.objs.size (.lst (rg3V i j k)), I1.laid hk (Nat.le_refl _) (show ObjOk X.prog X.w _ _ _ (.lst (rg3V i j k)) from ⟨?_, acc.toList, c', vals_rg3 hi, ?_⟩), rfl, q _ (I1.hok.fresh (Nat.le_refl _))⟩
    · unfold rg3V
      rw [List.length_map, List.length_range, sizeLine_eq]; omega
    · rw [Array.toArray_toList]; exact e'
variable [Named] {Y : Cfg} {W : WX} {K : PySem.W.Frag} {F : Hp} {ms : Env → ML}
theorem repL3 {vs : List V} {d e f : D} (h : RepL K Y F vs [d, e, f]) : ∃ v u x, vs = [v, u, x] ∧ Rep K Y F v d ∧ Rep K Y F u e ∧ Rep K Y F x f := by
  cases h with | cons a b => cases b with | cons c d => cases d with | cons e f => cases f; exact ⟨_, _, _, rfl, a, c, e⟩
theorem rg3_rep (a b c : Int) : RepL K Y F (rg3V a b c) (rg3D a b c) := by
  unfold rg3V rg3D
  generalize List.range (rgN a b c) = l
  induction l with
  | nil => exact .nil
  | cons x l ih => exact .cons (.int _) ih
theorem ge_lst3 (hc : X.calm = true) (hg : Gl X "list") (hm : X.mg "list" = none) (hg2 : Gl X "range") (hm2 : X.mg "range" = none) (ha : GA Y X W [a, b, c] ms)
    (hs : starEach [a, b, c] X.env = (false, eval a X.env) :: starEach [b, c] X.env := by rfl) (hpl : (backTo pos2 (starEach [b, c] X.env)).any (·.1) = false := by rfl)
    (na : starEach [.Call (.Name "range" p2) [a, b, c] [] pos2] X.env = (false, eval (.Call (.Name "range" p2) [a, b, c] [] pos2) X.env) :: starEach [] X.env := by rfl) :
    GE Y X W (.Call (.Name "list" p) [.Call (.Name "range" p2) [a, b, c] [] pos2] [] pos) (dLstRg3 ms) := by
  obtain ⟨t, pa, q⟩ := ha
  refine ⟨_, pe_lst3 hc hg hm hg2 hm2 pa hs hpl na, fun ρ r h F0 H0 F σ H R Q w => ?_⟩
  unfold dLstRg3 lrg3O at h
  split at h
  · rename_i i j k e1
    split at h
    · rename_i hk
      cases h
      refine q ρ _ e1 F0 H0 F σ H R _ fun vs F' H' g rs => ?_
      obtain ⟨v, u, x, rfl, rv, ru, rx⟩ := repL3 rs
      refine ⟨i, j, k, by rw [rep_int rv, rep_int ru, rep_int rx], hk, fun p hp => ?_⟩
      have n := Gr.new (o := .lst (rg3V i j k)) g.fh hp
      exact w _ _ _ (g.trans n) (.lst (SqL.of upd_same) (rg3_rep i j k))
    · cases h
  · rename_i x e1
    cases h
    exact q ρ _ e1 F0 H0 F σ H R _ w
  · cases h
end Den
set_option Elab.async false
set_option linter.all false
set_option maxRecDepth 100000
set_option maxHeartbeats 4000000
namespace Den
open PySem L2 PyProof.Rows
variable [Named]
/-! ### answers that are lists made anew: nobody else holds them -/
section
variable {Y : Cfg} {X : Cx} {W : WX} {K : PySem.W.Frag} {P : Program} {w : World} {mg : Str → Option Value} {base : Heap} {a b e o : Expr} {es : List Expr} {ma mb mo : Env → M} {ms : Env → ML} {pos p p2 apos : Pos} {k : Nat} {f C : Addr} {fd : FuncData} {ps : List Str} {m : Mn} {x nm : Str}
  {F0 H0 F F1 H H1 : Hp} {σ : L2.St} {ρ : Env} {dvs : List V} {dls : List D} {vls : List Value} {st : Stmt} {sts : List Stmt} {m1 m2 : SM}
/-- at p stands a list made anew, with these data -/
structure New (Y : Core) (K : PySem.W.Frag) (H : Hp) (F' H' : Hp) (p : Addr) (ds : List D) : Prop where
  old : H p = none
  fp : F' p = none
  at_ : ∃ xs, H' p = some (.lst xs) ∧ RepL K Y F' xs ds
def WantEF (Y : Cfg) (W : WX) (K : PySem.W.Frag) (F : Hp) (σ : L2.St) (H : Hp) (r : R) (Q : VK) : Prop := match r with
  | .ok d => ∃ ds, d = .lst ds ∧ ∀ p F' H', Gr F H F' H' → New Y.toCore K H F' H' p ds → Q (.ref p) H'
  | .exc x => ∀ F' H' dx, Gr F H F' H' → XRep K Y F' H' x dx → W (.ref (Y.cl x.c)) dx σ H'
def SatEF (Y : Cfg) (W : WX) (K : PySem.W.Frag) (t : TE) (ρ : Env) (r : R) : Prop := ∀ F0 H0 F σ H, Rel K Y F0 H0 F σ H ρ → ∀ Q : VK, WantEF Y W K F σ H r Q → t σ H Q
def GEF (Y : Cfg) (X : Cx) (W : WX) (e : Expr) (m : Env → M) : Prop := ∃ t, PE X e t ∧ ∀ ρ r, m ρ = some r → SatEF Y W X.K t ρ r
/-- x = e, e's list is the frame's own -/
def dOwnE (i : Nat) (m : Env → M) : SM := fun ρ => bo (m ρ) ρ fun d => match d with
  | .lst ds => some (.nx (ρ.set i (some (.own ds))))
  | _ => none
theorem gs_ownE (i : Nat) {x : Str} {pos' : Pos} (hN : X.N.Nodup) (he : GEF Y X W e ma) (hi : X.N[i]? = some x := by rfl) (hx : Loc X.env.scope x := by first | exact Or.inl rfl | exact Or.inr rfl) (hs : swapsWith e (some (.Name x pos')) pos.line X.env = pure false := by rfl)
    (hf : X.fn x = true ∨ X.env.scope.names.lookup x = some .local := by first | exact .inl rfl | exact .inr rfl | assumption) : GS Y X W (.Assign [.Name x pos'] e pos) (dOwnE i ma) := by
  obtain ⟨t, p, q⟩ := he
  refine ⟨_, ps_set (i := i) hN hi hx p hs hf, fun ρ o h F0 H0 F σ H R D w => ?_⟩
  rcases bo_some h with ⟨d, e1, h⟩ | ⟨x, e1, rfl⟩
  · split at h
    · rename_i ds
      cases h
      refine q ρ _ e1 F0 H0 F σ H R _ ⟨ds, rfl, fun p F' H' g n => ?_⟩
      obtain ⟨xs, h1, h2⟩ := n.at_
      exact w F' _ H' g.f (R.putOwn n.old g n.fp h1 h2)
    · cases h
  · exact q ρ _ e1 F0 H0 F σ H R _ fun F' H' dx g xr => w F' σ H' dx g.f (R.grow g) xr
@[simp] theorem c_ownE {i : Nat} : dOwnE i ma ρ = bo (ma ρ) ρ fun d => match d with
  | .lst ds => some (.nx (ρ.set i (some (.own ds))))
  | _ => none := rfl
/-- the promise of a def whose answer is a list made anew -/
def spF (Y : Core) (K : PySem.W.Frag) (n : Nat) (f : Mn) : Sp := fun vs H Q E => ∃ F ds r, (Ex F H ∧ Tb F) ∧ RepL K Y F vs ds ∧ ds.length = n ∧ f ds = some r ∧ match r with
  | .ok d => ∃ es, d = .lst es ∧ ∀ p F' H', Gr F H F' H' → New Y K H F' H' p es → Q (.ref p) H'
  | .exc x => ∀ F' H' dx, Gr F H F' H' → XRep K Y F' H' x dx → E (.ref (Y.cl x.c)) dx H'
abbrev FOk (Y : Core) (P : Program) (w : World) (K : PySem.W.Frag) (mg : Str → Option Value) (base : Heap) (k : Nat) (f : Addr) (fd : FuncData) (ps : List Str) (m : Mn) : Prop :=
  FnOk P w K mg base (L2.CX P w) k f fd ps (spF Y K ps.length m)
/-- a body that ends with such an answer -/
def WantSF (Y : Cfg) (W : WX) (K : PySem.W.Frag) (F0 H0 F : Hp) (o : O) (D : Ends) : Prop := match o with
  | .ret d => ∃ ds, d = .lst ds ∧ ∀ p F' H', Ex F F' → Gr F0 H0 F' H' → New Y.toCore K H0 F' H' p ds → D.rt (.ref p) H'
  | .exc x ρ => ∀ F' σ' H' dx, Ex F F' → Rel K Y F0 H0 F' σ' H' ρ → XRep K Y F' H' x dx → W (.ref (Y.cl x.c)) dx σ' H'
  | _ => False
theorem WantSF.grow {o : O} {D : Ends} (w : WantSF Y W K F0 H0 F o D) (e : Ex F F1) : WantSF Y W K F0 H0 F1 o D := by
  cases o with
  | ret d => obtain ⟨ds, h, q⟩ := w; exact ⟨ds, h, fun p F' H' g => q p F' H' (e.trans g)⟩
  | exc x ρ => exact fun F' σ' H' dx g => w F' σ' H' dx (e.trans g)
  | _ => exact w
def SatSF (Y : Cfg) (W : WX) (K : PySem.W.Frag) (t : TS) (ρ : Env) (o : O) : Prop := ∀ F0 H0 F σ H, Rel K Y F0 H0 F σ H ρ → ∀ D : Ends, WantSF Y W K F0 H0 F o D → t D σ H
def GSsF (Y : Cfg) (X : Cx) (W : WX) (s : List Stmt) (m : SM) : Prop := ∃ t, PSs X s t ∧ ∀ ρ o, m ρ = some o → SatSF Y W X.K t ρ o
/-- no answer ends it -/
def NoRet (m : SM) : Prop := ∀ ρ d, m ρ ≠ some (.ret d)
theorem nr_pass : NoRet dPass := fun _ _ h => by cases h
theorem nr_raise {c : Nat} : NoRet (dRaise c) := fun _ _ h => by cases h
theorem nr_bo {m : Env → M} {f : D → Env → Option O} (h : ∀ d ρ e, f d ρ ≠ some (.ret e)) : NoRet (fun ρ => bo (m ρ) ρ fun d => f d ρ) := fun ρ d z => by
  rcases bo_some z with ⟨_, _, z⟩ | ⟨_, _, z⟩
  · exact h _ _ _ z
  · cases z
theorem nr_drop {m : Env → M} : NoRet (dDrop m) := nr_bo fun _ _ _ h => by cases h
theorem nr_asg {m : Env → M} {g : TM} : NoRet (dAsg m g) := fun ρ d z => by
  rcases bo_some z with ⟨_, _, z⟩ | ⟨_, _, z⟩
  · split at z <;> cases z
  · cases z
theorem nr_asgLc {i : Nat} {ms : Env → ML} : NoRet (dAsgLc i ms) := fun ρ d z => by
  unfold dAsgLc at z
  split at z <;> cases z
theorem nr_own {i : Nat} {ms : Env → ML} : NoRet (dOwn i ms) := fun ρ d z => by
  unfold dOwn at z
  split at z
  · split at z <;> cases z
  · cases z
  · cases z
theorem nr_if {mc : Env → M} (h1 : NoRet m1) (h2 : NoRet m2) : NoRet (dIfS mc m1 m2) := fun ρ d z => by
  unfold dIfS at z
  rcases bo_some z with ⟨_, _, z⟩ | ⟨_, _, z⟩
  · split at z
    · exact h1 _ _ z
    · exact h2 _ _ z
    · cases z
  · cases z
theorem nr_seq (h1 : NoRet m1) (h2 : NoRet m2) : NoRet (dSeq m1 m2) := fun ρ d z => by
  unfold dSeq at z
  split at z
  · exact h2 _ _ z
  · rename_i q; cases z; exact h1 _ _ q
  · cases z
  · cases z
  · cases z
  · cases z
theorem nr_forD {g : TM} (h : NoRet m1) : ∀ (ds : List D) (ρ : Env) (d : D), forD g m1 ds ρ ≠ some (.ret d)
  | [], _, _, z => by cases z
  | d :: ds, ρ, v, z => by
    unfold forD at z
    split at z
    · cases z
    · split at z
      · exact nr_forD h ds _ _ z
      · exact nr_forD h ds _ _ z
      · cases z
      · rename_i q; exact h _ _ q
      · cases z
      · cases z
theorem nr_for {mi : Env → ML} {g : TM} (h : NoRet m1) : NoRet (dFor mi g m1) := fun ρ d z => by
  unfold dFor at z
  split at z
  · exact nr_forD h _ _ _ z
  · cases z
  · cases z
theorem nr_app {i : Nat} {m : Env → M} : NoRet (dApp i m) := fun ρ d z => by
  unfold dApp at z
  split at z
  · rcases bo_some z with ⟨_, _, z⟩ | ⟨_, _, z⟩
    · split at z <;> cases z
    · cases z
  · cases z
theorem nr_frz {i : Nat} (h : NoRet m1) : NoRet (dFrz i m1) := fun ρ d z => by
  unfold dFrz at z
  split at z
  · exact h _ _ z
  · cases z
theorem nr_ownE {i : Nat} {m : Env → M} : NoRet (dOwnE i m) := fun ρ d z => by
  unfold dOwnE at z
  rcases bo_some z with ⟨_, _, z⟩ | ⟨_, _, z⟩
  · split at z <;> cases z
  · cases z
theorem nr_ownLc {i : Nat} {ms : Env → ML} : NoRet (dOwnLc i ms) := fun ρ d z => by
  unfold dOwnLc at z
  split at z <;> cases z
theorem nr_ownList {i : Nat} {m : Env → M} : NoRet (dOwnList i m) := fun ρ d z => by
  unfold dOwnList at z
  rcases bo_some z with ⟨_, _, z⟩ | ⟨_, _, z⟩
  · split at z <;> cases z
  · cases z
theorem nr_put {i : Nat} {mk m : Env → M} : NoRet (dPut i mk m) := fun ρ d z => by
  unfold dPut at z
  split at z
  · rcases bo_some z with ⟨_, _, z⟩ | ⟨_, _, z⟩
    · rcases bo_some z with ⟨_, _, z⟩ | ⟨_, _, z⟩
      · split at z
        · split at z <;> cases z
        · cases z
      · cases z
    · cases z
  · cases z
theorem gssF_frz (i : Nat) (h : GSsF Y X W sts m1) : GSsF Y X W sts (dFrz i m1) := by
  obtain ⟨t, p, q⟩ := h
  refine ⟨t, p, fun ρ o h F0 H0 F σ H R D w => ?_⟩
  unfold dFrz at h
  split at h
  · rename_i ρ' e
    obtain ⟨F', ex, R'⟩ := frz_rel e R
    exact q ρ' o h F0 H0 F' σ H R' D (w.grow ex)
  · cases h
theorem gssF_cons (h1 : GS Y X W st m1) (hn : NoRet m1) (h2 : GSsF Y X W sts m2) : GSsF Y X W (st :: sts) (dSeq m1 m2) := by
  obtain ⟨t, p, q⟩ := h1
  obtain ⟨t2, p2, q2⟩ := h2
  refine ⟨_, pss_cons p p2, fun ρ o h F0 H0 F σ H R D w => ?_⟩
  unfold dSeq at h
  show t { D with nx := t2 D } σ H
  split at h
  · rename_i ρ' h1
    exact q ρ _ h1 F0 H0 F σ H R _ fun F' σ' H' e R' => q2 ρ' o h F0 H0 F' σ' H' R' D (w.grow e)
  · rename_i d h1; exact absurd h1 (hn _ _)
  · rename_i d h1; cases h; exact w.elim
  · rename_i d h1; cases h; exact w.elim
  · rename_i x d h1; cases h; exact q ρ _ h1 F0 H0 F σ H R _ w
  · cases h
theorem gssF_ret (h : GEF Y X W e ma) : GSsF Y X W [.Return (some e) pos] (dRet ma) := by
  obtain ⟨t, p, q⟩ := h
  refine ⟨_, pss_one (ps_ret p), fun ρ o h F0 H0 F σ H R D w => ?_⟩
  rcases bo_some h with ⟨d, e1, h⟩ | ⟨x, e1, rfl⟩
  · cases h
    obtain ⟨ds, hd, w⟩ := w
    exact q ρ _ e1 F0 H0 F σ H R _ ⟨ds, hd, fun p F' H' g n => w p F' H' g.f (R.gr.trans g) ⟨fresh_back R.gr.h n.old, n.fp, n.at_⟩⟩
  · exact q ρ _ e1 F0 H0 F σ H R _ fun F' H' dx g xr => w F' σ H' dx g.f (R.grow g) xr
/-- return x, x the frame's own -/
def dRetO (i : Nat) : SM := fun ρ => match ρ[i]? with
  | some (some (.own ds)) => some (.ret (.lst ds))
  | _ => none
@[simp] theorem c_retO {i : Nat} : dRetO i ρ = match ρ[i]? with
  | some (some (.own ds)) => some (.ret (.lst ds))
  | _ => none := rfl
theorem gssF_own (i : Nat) {x : Str} (hN : X.N[i]? = some x := by rfl) (hv : Vis X.env.scope x := by first | exact Or.inl rfl | exact Or.inr (Or.inl rfl) | exact Or.inr (Or.inr rfl)) (hd : (x == ("__debug__" : Str)) = false := by decide)
    (hcd : (x == ("__classdict__" : Str)) = false := by decide) : GSsF Y X W [.Return (some (.Name x p)) pos] (dRetO i) := by
  refine ⟨_, pss_one (ps_ret (pe_var hN hv hd hcd)), fun ρ o h F0 H0 F σ H R D w => ?_⟩
  unfold dRetO at h
  split at h
  · rename_i ds ei
    cases h
    obtain ⟨ds', e2, w⟩ := w
    cases e2
    obtain ⟨v, vi, pp, xs, rfl, h0, fp, hp, rr⟩ := R.sl i _ ei
    exact ⟨.ref pp, vi, w pp F H (Ex.refl F) R.gr ⟨h0, fp, xs, hp, rr⟩⟩
  · cases h
theorem gss_own (i : Nat) {x : Str} (hN : X.N[i]? = some x := by rfl) (hv : Vis X.env.scope x := by first | exact Or.inl rfl | exact Or.inr (Or.inl rfl) | exact Or.inr (Or.inr rfl)) (hd : (x == ("__debug__" : Str)) = false := by decide)
    (hcd : (x == ("__classdict__" : Str)) = false := by decide) : GSs Y X W [.Return (some (.Name x p)) pos] (dRetO i) := by
  refine ⟨_, pss_one (ps_ret (pe_var hN hv hd hcd)), fun ρ o h F0 H0 F σ H R D w => ?_⟩
  unfold dRetO at h
  split at h
  · rename_i ds ei
    cases h
    obtain ⟨F', ex, R'⟩ := R.freeze ei
    have hi : i < ρ.length := (List.getElem?_eq_some_iff.mp ei).1
    obtain ⟨v, vi, rv⟩ := R'.sl i (.val (.lst ds)) (List.getElem?_set_self hi)
    exact ⟨v, vi, w v F' H ex R'.gr rv⟩
  · cases h
theorem dokF {qual : Str} {st : Stmt} {N : List Str} {body : SM} {dvv : List V} {kwv : List (Str × V)} (Fn : FunD K x qual (defArgs st) (defBody st) (defScope st) dvv kwv f fd) (S : FnScope N ps (defScope st))
    (hb : ∀ (cdv : Value) (A : Around) (outer : List PySem.Env) (s : Shared) (H : Hp) (E : XK), Room k (A.deeper (PyProof.Rows.envOfC qual (defScope st) s.heap.objs.size f cdv)) →
      Takes (cxOf (L2.CX P w) P w K mg base N qual (defScope st) f cdv A outer s H E) (fun cls d _ H => E cls d H) →
      PassesOwn (model P w) (A.deeper (PyProof.Rows.envOfC qual (defScope st) s.heap.objs.size f cdv)) (PyProof.Rows.envOfC qual (defScope st) s.heap.objs.size f cdv) (cxOf (L2.CX P w) P w K mg base N qual (defScope st) f cdv A outer s H E).xe →
      GSsF Y (cxOf (L2.CX P w) P w K mg base N qual (defScope st) f cdv A outer s H E) (fun cls d _ H => E cls d H) (defBody st) body) :
    FOk Y.toCore P w K mg base (k + 1) f fd ps (runD N ps.length body) := by
  refine Fn.ok (CX := L2.CX P w) S (fun vs H Q E h => ?_) (fun cdv A outer s H vs Q E hr h => ?_)
  · obtain ⟨F, ds, r, e, rs, hl, _⟩ := h
    rw [rs.len, hl]
  · obtain ⟨F, ds, r, e, rs, hl, hf, want⟩ := h
    obtain ⟨t, pt, q⟩ := hb cdv A outer s H E hr (takes_of rfl rfl rfl rfl) PassesOwn.leaving
    refine ⟨t, pt, ?_⟩
    unfold runD at hf
    rw [if_pos hl] at hf
    have R := rel_start (N := N) e.1 e.2 rs
    cases ho : body (startE N ds) with
    | none => rw [ho] at hf; cases hf
    | some oo =>
      refine q _ oo ho F H F _ H R _ ?_
      cases oo with
      | nx ρ => rw [ho] at hf; cases hf; obtain ⟨es, z, _⟩ := want; cases z
      | ret d =>
        rw [ho] at hf; cases hf
        obtain ⟨es, z, want⟩ := want
        exact ⟨es, z, fun p F' H' e' g n => want p F' H' g n⟩
      | exc z ρ => rw [ho] at hf; cases hf; exact fun F' σ' H' dx e' R' xr => want F' H' dx R'.gr xr
      | bk ρ => rw [ho] at hf; cases hf
      | ct ρ => rw [ho] at hf; cases hf
theorem WantEF.grow {r : R} {Q : VK} (w : WantEF Y W K F σ H r Q) (g : Gr F H F1 H1) : WantEF Y W K F1 σ H1 r Q := by
  cases r with
  | ok d => obtain ⟨ds, e, w⟩ := w; exact ⟨ds, e, fun p F' H' g2 n => w p F' H' (g.trans g2) ⟨fresh_back g.h n.old, n.fp, n.at_⟩⟩
  | exc x => exact fun F' H' dx g2 xr => w F' H' dx (g.trans g2) xr
theorem sp_wantF {n : Nat} {E : XK} {r : R} {Q : VK} {vs : List V} {ds : List D} (e : Ex F H) (tb : Tb F) (rs : RepL K Y.toCore F vs ds) (hl : ds.length = n) (hm : m ds = some r) (w : WantEF Y (fun cls d _ H => E cls d H) K F σ H r Q) : spF Y.toCore K n m vs H Q E := by
  refine ⟨F, ds, r, ⟨e, tb⟩, rs, hl, hm, ?_⟩
  cases r with
  | ok d => exact w
  | exc x => exact w
theorem geF_call (Fn : FOk Y.toCore X.prog X.w X.K X.mg X.base k f fd ps m) (hr : Room k X.A) (tk : Takes X W) (hg : Gl X x) (hm : X.mg x = some (.ref f)) (hk : PySem.W.keepIn X.K (.ref f) = true) (hb : Binds X.K fd ps vls) (hd : Dfl X.K Y dvs vls dls) (hlen : ∀ ds r, m ds = some r → ds.length = ps.length)
    (ha : GA Y X W (e :: es) ms) (hdb : (x == ("__debug__" : Str)) = false := by decide) (he : starEach (e :: es) X.env = (false, eval e X.env) :: starEach es X.env := by rfl) (hpl : (backTo pos (starEach es X.env)).any (·.1) = false := by rfl) :
    GEF Y X W (.Call (.Name x p) (e :: es) [] pos) (dCall m dls ms) := by
  obtain ⟨t, pt, q⟩ := ha
  refine ⟨_, pe_callSD Fn hr hg hm hk hb hd.1 (fun σ => passAt tk σ) pt hdb he hpl, fun ρ r h F0 H0 F σ H R Q w => ?_⟩
  rcases bdL_some h with ⟨ds, e1, h⟩ | ⟨z, e1, rfl⟩
  · refine q ρ _ e1 F0 H0 F σ H R _ fun vs F' H' g rs => ?_
    exact sp_wantF (σ := σ) g.fh (R.tbF.up g.f) (rs.append (hd.2 F')) (hlen _ _ h) h (w.grow g)
  · exact q ρ _ e1 F0 H0 F σ H R _ w
theorem geF_meth {pl : Sem Bool} (c : Nat) (ho : GE Y X W o mo) (hc : Cls X.K (Y.cl c)) (hm : Meth X.K (Y.cl c) nm f) (hn : (Y.fn c).contains nm = false) (Fn : FOk Y.toCore X.prog X.w X.K X.mg X.base k f fd ps m) (hr : Room k X.A) (tk : Takes X W) (hb : Binds X.K fd ps vls) (hd : Dfl X.K Y dvs vls dls)
    (hlen : ∀ ds r, m ds = some r → ds.length = ps.length) (ha : GA Y X W (e :: es) ms) (hst : starEach (e :: es) X.env = (false, eval e X.env) :: starEach es X.env := by rfl) (hpl : (backTo pos (starEach es X.env)).any (·.1) = false := by rfl)
    (ht : eval (.Call (.Attribute o nm apos) (e :: es) [] pos) X.env = (eval o X.env >>= fun ov => standAt apos.atName >>= fun _ => holding [ov] (getMethod ov nm pl) >>= fun r => callWith pos r.1 r.2 (backTo pos (starEach (e :: es) X.env)) (backToKw pos (keywordEach [] X.env))) := by rfl) :
    GEF Y X W (.Call (.Attribute o nm apos) (e :: es) [] pos) (dMeth c m dls mo ms) := by
  obtain ⟨to, po, qo⟩ := ho
  obtain ⟨t, pt, q⟩ := ha
  refine ⟨_, methS po hc hm Fn hr hb hd.1 (fun σ => passAt tk σ) pt hst hpl ht, fun ρ r h F0 H0 F σ H R Q w => ?_⟩
  rcases obj_some h with ⟨fs, e0, h⟩ | ⟨z, e0, rfl⟩
  · refine qo ρ _ e0 F0 H0 F σ H R _ fun v F1 H1 g1 rv => ?_
    obtain ⟨p, dx, xs, rfl, hp, hl, rx⟩ := rep_obj rv
    refine ⟨p, dx, _, rfl, g1.fh _ _ hp, zip_none hn, ?_⟩
    rcases bdL_some h with ⟨ds, e1, h⟩ | ⟨z, e1, rfl⟩
    · refine q ρ _ e1 F0 H0 F1 σ H1 (R.grow g1) _ fun vs F' H' g rs => ?_
      exact sp_wantF (σ := σ) g.fh ((R.grow g1).tbF.up g.f) (.cons (rv.mono g.f) (rs.append (hd.2 F'))) (hlen _ _ h) h (w.grow (g1.trans g))
    · exact q ρ _ e1 F0 H0 F1 σ H1 (R.grow g1) _ (w.grow g1)
  · exact qo ρ _ e0 F0 H0 F σ H R _ w
theorem geF_meth0 {pl : Sem Bool} (c : Nat) (ho : GE Y X W o mo) (hc : Cls X.K (Y.cl c)) (hm : Meth X.K (Y.cl c) nm f) (hn : (Y.fn c).contains nm = false) (Fn : FOk Y.toCore X.prog X.w X.K X.mg X.base k f fd ps m) (hr : Room k X.A) (tk : Takes X W) (hb : Binds X.K fd ps vls) (hd : Dfl X.K Y dvs vls dls)
    (hlen : ∀ ds r, m ds = some r → ds.length = ps.length)
    (ht : eval (.Call (.Attribute o nm apos) [] [] pos) X.env = (eval o X.env >>= fun ov => standAt apos.atName >>= fun _ => holding [ov] (getMethod ov nm pl) >>= fun r => callWith pos r.1 r.2 (backTo pos (starEach [] X.env)) (backToKw pos (keywordEach [] X.env))) := by rfl) :
    GEF Y X W (.Call (.Attribute o nm apos) [] [] pos) (dMeth0 c m dls mo) := by
  obtain ⟨to, po, qo⟩ := ho
  refine ⟨_, methS0 po hc hm Fn hr hb hd.1 (fun σ => passAt tk σ) ht, fun ρ r h F0 H0 F σ H R Q w => ?_⟩
  rcases obj_some h with ⟨fs, e0, h⟩ | ⟨z, e0, rfl⟩
  · refine qo ρ _ e0 F0 H0 F σ H R _ fun v F1 H1 g1 rv => ?_
    obtain ⟨p, dx, xs, rfl, hp, hl, rx⟩ := rep_obj rv
    refine ⟨p, dx, _, rfl, g1.fh _ _ hp, zip_none hn, ?_⟩
    exact sp_wantF (σ := σ) g1.fh (R.grow g1).tbF (.cons rv (hd.2 F1)) (hlen _ _ h) h (w.grow g1)
  · exact qo ρ _ e0 F0 H0 F σ H R _ w
/-! built-in calls -/
def rCDF (Y : Core) (K : PySem.W.Frag) (g : List D → Option D) : List V → Hp → VK → Prop := fun xs H Q => ∃ F ds es, Ex F H ∧ RepL K Y F xs ds ∧ g ds = some (.lst es) ∧ ∀ p F' H', Gr F H F' H' → New Y K H F' H' p es → Q (.ref p) H'
def CallDF (Y : Core) (X : Cx) (f : Value) (g : List D → Option D) : Prop := CallR X f (rCDF Y X.K g)
theorem new_heap {es : List D} {xs : List V} {p : Addr} (ex : Ex F H) (hH : H p = none) (ra : RepL K Y.toCore F xs es) : Gr F H F (upd H p (.lst xs)) ∧ New Y.toCore K H F (upd H p (.lst xs)) p es :=
  ⟨Gr.heap ex (Ex.new hH), hH, fresh_back ex hH, xs, upd_same, ra⟩
theorem geF_cb {x : Str} {p : Pos} {id : String} {g : List D → Option D} (hc : CallDF Y.toCore X (.builtin id) g) (hg : Gl X x) (hm : X.mg x = none) (hv : bootBuiltins x = some (.builtin id)) (ha : GA Y X W (e :: es) ms) (hn : x ≠ "__name__" := by decide) (hdb : (x == ("__debug__" : Str)) = false := by decide)
    (he : starEach (e :: es) X.env = (false, eval e X.env) :: starEach es X.env := by rfl) (hpl : (backTo pos (starEach es X.env)).any (·.1) = false := by rfl) : GEF Y X W (.Call (.Name x p) (e :: es) [] pos) (dCB g ms) := by
  obtain ⟨t, pt, q⟩ := ha
  refine ⟨_, pe_callB hc hg hm hv pt hn hdb he hpl, fun ρ r h F0 H0 F σ H R Q w => ?_⟩
  rcases bdL_some h with ⟨ds, e1, h⟩ | ⟨x, e1, rfl⟩
  · obtain ⟨z, e2, rfl⟩ := lift_some h
    obtain ⟨es, rfl, w⟩ := w
    exact q ρ _ e1 F0 H0 F σ H R _ fun vs F' H' g rs => ⟨F', ds, es, g.fh, rs, e2, fun p F2 H2 g2 n => w p F2 H2 (g.trans g2) ⟨fresh_back g.h n.old, n.fp, n.at_⟩⟩
  · exact q ρ _ e1 F0 H0 F σ H R _ w
theorem cd_sortedF : CallDF Y.toCore X (.builtin "sorted") sortedD := by
  intro pins s σ H xs us Q I r hq
  obtain ⟨F, ds, z, ex, rs, eq, k⟩ := hq
  unfold sortedD at eq
  split at eq
  · rename_i es
    obtain ⟨v, rfl, q⟩ := repL1 rs
    obtain ⟨a, ys, rfl, ha, ra⟩ := rep_lst q
    split at eq
    · rename_i ns hb
      cases eq
      have e := ints_rep ra hb
      subst e
      refine cr_sortedI pins s σ H _ us Q I r ⟨a, ns, rfl, ex_l ex ha, fun ns' p hp hs hH => ?_⟩
      have g := new_heap (Y := Y) (K := X.K) (es := ns'.map D.int) ex hH (repL_ints _)
      rw [← sortI_uniq hp hs] at k
      exact k _ _ _ g.1 g.2
    · split at eq
      · rename_i k0 ks hb
        split at eq
        · rename_i hc
          obtain ⟨h1, h2, h3⟩ := hc
          cases eq
          obtain ⟨ps, e1, e2, e3⟩ := tups_rep ra hb
          have hall : ∀ q ∈ k0 :: ks, q.length = k0.length ∧ allNN q = true := fun q hq => by
            have := List.all_eq_true.mp h3 q hq
            simpa using this
          obtain ⟨B, hB⟩ := bd_all (k0 :: ks) fun q hq => (hall q hq).2
          subst e1
          have hlen : ps.length = ks.length + 1 := by
            have := congrArg List.length e2
            simpa using this.symm
          have hmem : ∀ p ∈ ps, p.2 ∈ k0 :: ks := fun p hp => by rw [e2]; exact List.mem_map_of_mem hp
          refine cr_sortT (d := k0.length) (B := B) h2 pins s σ H _ us Q I r ⟨a, _, rfl, ex_l ex ha, by rw [List.length_map]; omega, fun x hx => ?_, fun zs p hp hs hH => ?_⟩
          · obtain ⟨y, hy, rfl⟩ := List.mem_map.mp hx
            exact ⟨y.2, ⟨y.1, rfl, ex_t ex (e3 y hy)⟩, (hall _ (hmem y hy)).1, hB _ (hmem y hy)⟩
          · obtain ⟨qs, p1, rfl⟩ := perm_map_lift hp ps rfl
            have hq : ∀ y ∈ qs, SqT X.K F y.1 (y.2.map V.int) := fun y hy => e3 y (p1.mem_iff.mp hy)
            have g := new_heap (Y := Y) (K := X.K) ex hH (repL_tups (F := F) qs hq)
            have hm : ∀ y ∈ qs, y.2 ∈ k0 :: ks := fun y hy => hmem y (p1.mem_iff.mp hy)
            have e4 : qs.map (·.2) = sortL (k0 :: ks) := by
              refine sortL_uniq (n := k0.length) (fun q hq => (hall q hq).1) (by rw [e2]; exact p1.map _) ?_
              rw [List.pairwise_map]
              rw [List.pairwise_map] at hs
              refine List.Pairwise.imp_of_mem (fun {x y} hx hy hxy => ?_) hs
              have := hxy x.2 y.2 ⟨x.1, rfl, ex_t ex (hq x hx)⟩ ⟨y.1, rfl, ex_t ex (hq y hy)⟩
              exact leL_code x.2 y.2 (by rw [(hall _ (hm x hx)).1, (hall _ (hm y hy)).1]) (hB _ (hm x hx)) (hB _ (hm y hy)) this
            rw [← e4] at k
            exact k _ _ _ g.1 g.2
        · cases eq
      · cases eq
  · cases eq
theorem cd_sortGF (hu : X.A.units + 100 < cLine) : CallDF Y.toCore X (.builtin "sorted") sortGD := by
  intro pins s σ H xs us Q I r hq
  obtain ⟨F, ds, z, ex, rs, eq, k⟩ := hq
  unfold sortGD at eq
  split at eq
  · rename_i es
    split at eq
    · rename_i hs
      obtain ⟨al, so, sd, len⟩ := hs
      cases eq
      obtain ⟨v, rfl, q⟩ := repL1 rs
      obtain ⟨l, ys, rfl, hl, ra⟩ := rep_lst q
      obtain ⟨its, rv, hL, hz⟩ := I.list (ex_l ex hl)
      obtain rfl := Vals.ref1 r
      have e := vals_each rv ra
      have lay := SeqAt.canLay_of_shaped sd
      have dep := SeqAt.depth_of_shaped sd
      have h0 : PyData.canLayAll0 (D.pys es) = true := by simpa [D.py, PyData.canLay0] using lay
      have dp : ∀ x ∈ es, PyData.canLay0 x.py = true ∧ x.py.depth ≤ PyData.depthAll (D.pys es) := by
        have all_ : ∀ (es : List D), PyData.canLayAll0 (D.pys es) = true → ∀ x ∈ es, PyData.canLay0 x.py = true ∧ x.py.depth ≤ PyData.depthAll (D.pys es) := fun es => by
          induction es with
          | nil => intro _ x hx; cases hx
          | cons e0 es ih =>
            intro hh x hx
            simp only [D.pys, PyData.canLayAll0, Bool.and_eq_true] at hh
            have h3 : PyData.depthAll (D.pys (e0 :: es)) = max e0.py.depth (PyData.depthAll (D.pys es)) := by simp [D.pys, PyData.depthAll]
            rcases List.mem_cons.mp hx with rfl | hx
            · exact ⟨hh.1, by omega⟩
            · have := ih hh.2 x hx
              exact ⟨this.1, by omega⟩
        exact all_ es h0
      have er : PySem.W.EachIs (fun v b => ∃ as, Reads s.heap v (D.py b) as) its es := by
        have := PySem.W.each_mem e
        refine this.mono fun u d ⟨⟨v, r1, r2⟩, hd⟩ => ?_
        exact Dp.reads I _ v u ((r2.mono ex).dp (dp d hd).1) r1
      refine PySem.W.sorted_data (β := D) (enc := D.py) (R := fun u d => ∃ v, RelV v u ∧ Rep X.K Y.toCore F v d) hL.isList e er al so (by rw [sizeLine_eq]; exact len) (fun b hb => ?_) fun out ho eo => ?_
      · have := (dp b hb).2
        have h3 : (D.lst es).py.depth = PyData.depthAll (D.pys es) + 1 := by simp [D.py, PyData.depth]
        omega
      · obtain ⟨zs, v1, v2⟩ := each_vals eo
        obtain ⟨c, hc⟩ := PyProof.Rows.sortedAll_at s.heap its out.toArray
        have fr : H (s.heap.objs.size + 1) = none := I.hok.fresh (Nat.le_succ _)
        have J := I.take (t' := s.toks) (it := s.heap.objs.size + 1) (o := .lst zs) (h' := PyProof.Rows.sortedAll s.heap its out.toArray) (fun b o _ e => PyProof.Rows.sortedAll_old e) (I.fpOk (Nat.le_succ _) fr) ⟨by rw [v1.length, ho]; rw [sizeLine_eq]; exact len, out, c, v1, hc⟩
        have g := new_heap (Y := Y) (K := X.K) ex fr v2
        exact ⟨.ref _, _, J, rfl, k _ _ _ g.1 g.2⟩
    · cases eq
  · cases eq
theorem geF_lc {js : List Nat} {ifs : List Expr} {scope : Scope} {tg iter elt : Expr} {mt me : Env → M} (own : List (Str × Nat)) {mi : Env → ML} {g : TM} (hc : X.calm = true) (hN : X.N.Nodup) (hi : GI Y X W tg iter mi) (ok : BlkOk X.N X.env.scope scope own)
    (hg : ∀ (s : Shared) (H : Hp) (C : Addr) (cl : List (Str × Addr)) (fp : List Addr), GG Y (X.blk s H scope (compEnvC scope cl C X.env) fp) tg js g) (hj : ∀ j ∈ js, j ∈ own.map (·.2))
    (ht : ∀ (s : Shared) (H : Hp) (C : Addr) (cl : List (Str × Addr)) (fp : List Addr), GTs Y (X.blk s H scope (compEnvC scope cl C X.env) fp) ifs mt)
    (he : ∀ (s : Shared) (H : Hp) (C : Addr) (cl : List (Str × Addr)) (fp : List Addr), GE Y (X.blk s H scope (compEnvC scope cl C X.env) fp) W0 elt me) (hs : ∀ x, foldedSetIterable iter X.env x = pure x := by intro _; rfl) :
    GEF Y X W (.ListComp elt [⟨tg, iter, ifs, 0⟩] scope pos) (dLcV (dLc (own.map (·.2)) mi g mt me)) := by
  refine ⟨_, pe_lc (g := gM Y X.K js g) (tt := tMT Y W0 X.K mt) (te := tM Y W0 X.K me) hc hN hi.pi ok (fun s H C cl fp => (hg s H C cl fp).pg) (fun s H C cl fp => (ht s H C cl fp).pts) (fun s H C cl fp => (he s H C cl fp).pe) hs, fun ρ r h F0 H0 F σ H R Q w => ?_⟩
  rcases bdL_some h with ⟨ds, e1, h⟩ | ⟨x, e1, rfl⟩
  · cases h
    obtain ⟨es, e2, w⟩ := w
    cases e2
    exact sat_lc (W := W) hj ρ _ e1 F0 H0 F σ H R Q fun p xs F' H' hp g fp hp' ra => w p F' H' g ⟨hp, fp, xs, hp', ra⟩
  · exact sat_lc (W := W) hj ρ _ e1 F0 H0 F σ H R Q w
theorem geF_lst (ha : GA Y X W es ms) : GEF Y X W (.List es pos) (dLst ms) := by
  obtain ⟨t, pt, q⟩ := ha
  refine ⟨_, pe_lst pt, fun ρ r h F0 H0 F σ H R Q w => ?_⟩
  rcases bdL_some h with ⟨ds, e1, h⟩ | ⟨x, e1, rfl⟩
  · split at h
    · rename_i hz
      cases h
      obtain ⟨es, e2, w⟩ := w
      cases e2
      refine q ρ _ e1 F0 H0 F σ H R _ fun vs F' H' g rs => ⟨by rw [rs.len]; exact hz, fun a ha => ?_⟩
      have n := new_heap (Y := Y) (K := X.K) g.fh ha rs
      exact w a _ _ (g.trans n.1) ⟨fresh_back g.h ha, n.2.fp, n.2.at_⟩
    · cases h
  · exact q ρ _ e1 F0 H0 F σ H R _ w
end
end Den
set_option Elab.async false
set_option linter.all false
set_option maxRecDepth 100000
set_option maxHeartbeats 4000000
namespace Den
open PySem L2 PyProof.Rows
variable [Named]
/-! ### a dict of the module that nobody changes: text keys -/
/-- at q: the module's dict with these keys and data -/
structure KdT (K : PySem.W.Frag) (w : World) (Y : Core) (q : Addr) (kds : List (Str × D)) : Prop where
  d : ∃ es n, KDict K w q es n
  hit : ∀ x z, kds.lookup x = some z → ∃ u v, PySem.W.nsIn K q x = some (some u) ∧ RelV v u ∧ ∀ F, Rep K Y F v z
  miss : ∀ x, kds.lookup x = none → PySem.W.nsIn K q x = some none
section
variable {Y : Cfg} {X : Cx} {W : WX} {K : PySem.W.Frag} {a : Expr} {ma : Env → M} {pos p : Pos} {q : Addr} {kds : List (Str × D)} {nm : Str}
def dKin (kds : List (Str × D)) (ma : Env → M) : Env → M := fun ρ => bd (ma ρ) fun d => match d with
  | .str x => some (.ok (.bl (kds.lookup x).isSome))
  | _ => none
def dKni (kds : List (Str × D)) (ma : Env → M) : Env → M := fun ρ => bd (ma ρ) fun d => match d with
  | .str x => some (.ok (.bl (!(kds.lookup x).isSome)))
  | _ => none
def dKget (kds : List (Str × D)) (ma : Env → M) : Env → M := fun ρ => bd (ma ρ) fun d => match d with
  | .str x => match kds.lookup x with
    | some z => some (.ok z)
    | none => none
  | _ => none
@[simp] theorem c_kin {ρ : Env} : dKin kds ma ρ = bd (ma ρ) fun d => match d with
  | .str x => some (.ok (.bl (kds.lookup x).isSome))
  | _ => none := rfl
@[simp] theorem c_kni {ρ : Env} : dKni kds ma ρ = bd (ma ρ) fun d => match d with
  | .str x => some (.ok (.bl (!(kds.lookup x).isSome)))
  | _ => none := rfl
@[simp] theorem c_kget {ρ : Env} : dKget kds ma ρ = bd (ma ρ) fun d => match d with
  | .str x => match kds.lookup x with
    | some z => some (.ok z)
    | none => none
  | _ => none := rfl
theorem KdT.ns (T : KdT X.K X.w Y.toCore q kds) (x : Str) : ∃ r, PySem.W.nsIn X.K q x = some r ∧ r.isSome = (kds.lookup x).isSome := by
  cases h : kds.lookup x with
  | none => exact ⟨none, T.miss x h, rfl⟩
  | some z => obtain ⟨u, v, e, _⟩ := T.hit x z h; exact ⟨some u, e, rfl⟩
theorem sat_kni (T : KdT X.K X.w Y.toCore q kds) {ta : TE} (ha : ∀ ρ r, ma ρ = some r → SatE Y W X.K ta ρ r) : ∀ ρ r, dKni kds ma ρ = some r → SatE Y W X.K (tOp (fun x y H Q => ∃ (z : Str) (r : Option Value), x = .str z ∧ y = .ref q ∧ PySem.W.nsIn X.K q z = some r ∧ Q (.bl (!r.isSome)) H) ta (tC (.ref q))) ρ r := by
  intro ρ r h F0 H0 F σ H R Q w
  rcases bd_some h with ⟨d, e1, h⟩ | ⟨x, e1, rfl⟩
  · split at h
    · rename_i x
      cases h
      refine ha ρ _ e1 F0 H0 F σ H R _ fun v F1 H1 g1 q1 => ?_
      rw [rep_str q1]
      obtain ⟨r, hr, hb⟩ := T.ns x
      refine ⟨x, r, rfl, rfl, hr, ?_⟩
      rw [hb]
      exact w _ F1 H1 g1 (.bl _)
    · cases h
  · exact ha ρ _ e1 F0 H0 F σ H R _ w
theorem sat_kin (T : KdT X.K X.w Y.toCore q kds) {ta : TE} (ha : ∀ ρ r, ma ρ = some r → SatE Y W X.K ta ρ r) : ∀ ρ r, dKin kds ma ρ = some r → SatE Y W X.K (tOp (fun x y H Q => ∃ (z : Str) (r : Option Value), x = .str z ∧ y = .ref q ∧ PySem.W.nsIn X.K q z = some r ∧ Q (.bl r.isSome) H) ta (tC (.ref q))) ρ r := by
  intro ρ r h F0 H0 F σ H R Q w
  rcases bd_some h with ⟨d, e1, h⟩ | ⟨x, e1, rfl⟩
  · split at h
    · rename_i x
      cases h
      refine ha ρ _ e1 F0 H0 F σ H R _ fun v F1 H1 g1 q1 => ?_
      rw [rep_str q1]
      obtain ⟨r, hr, hb⟩ := T.ns x
      refine ⟨x, r, rfl, rfl, hr, ?_⟩
      rw [hb]
      exact w _ F1 H1 g1 (.bl _)
    · cases h
  · exact ha ρ _ e1 F0 H0 F σ H R _ w
theorem gt_kni (T : KdT X.K X.w Y.toCore q kds) (hg : Gl X nm) (hm : X.mg nm = some (.ref q)) (ha : GE Y X W a ma) (hd : (nm == ("__debug__" : Str)) = false := by decide) (hmk : behindInMarks .NotIn (.Name nm p) = false := by first | exact nobehind _ (by decide) (by decide) | rfl) : GT Y X W (.Compare a [.NotIn] [.Name nm p] pos) (tst (dKni kds ma)) := by
  obtain ⟨ta, pa, sa⟩ := ha
  obtain ⟨es, n, D⟩ := T.d
  exact ⟨_, pt_cmpR (op_notIn_kd D) pa (pe_glob (v := .ref q) hg hm rfl hd) hmk, fun ρ r h => SatE.test (sat_kni T sa ρ) r h⟩
theorem gt_kin (T : KdT X.K X.w Y.toCore q kds) (hg : Gl X nm) (hm : X.mg nm = some (.ref q)) (ha : GE Y X W a ma) (hd : (nm == ("__debug__" : Str)) = false := by decide) (hmk : behindInMarks .In (.Name nm p) = false := by first | exact nobehind _ (by decide) (by decide) | rfl) : GT Y X W (.Compare a [.In] [.Name nm p] pos) (tst (dKin kds ma)) := by
  obtain ⟨ta, pa, sa⟩ := ha
  obtain ⟨es, n, D⟩ := T.d
  exact ⟨_, pt_cmpR (op_in_kd D) pa (pe_glob (v := .ref q) hg hm rfl hd) hmk, fun ρ r h => SatE.test (sat_kin T sa ρ) r h⟩
theorem ge_kget (T : KdT X.K X.w Y.toCore q kds) (hg : Gl X nm) (hm : X.mg nm = some (.ref q)) (ha : GE Y X W a ma) (hd : (nm == ("__debug__" : Str)) = false := by decide) (hs : PlainIx a := by intro _ _; rfl) : GE Y X W (.Subscript (.Name nm p) a pos) (dKget kds ma) := by
  obtain ⟨ta, pa, sa⟩ := ha
  obtain ⟨es, n, D⟩ := T.d
  refine ⟨_, pe_ix ix_kdict (pe_glob (v := .ref q) hg hm rfl hd) pa hs, fun ρ r h F0 H0 F σ H R Q w => ?_⟩
  show ta σ H _
  rcases bd_some h with ⟨d, e1, h⟩ | ⟨x, e1, rfl⟩
  · split at h
    · rename_i x
      split at h
      · rename_i z hz
        cases h
        refine sa ρ _ e1 F0 H0 F σ H R _ fun v F1 H1 g1 q1 => ?_
        rw [rep_str q1]
        obtain ⟨u, v0, e, rv, rp⟩ := T.hit x z hz
        exact ⟨q, x, v0, rfl, rfl, ⟨es, n, u, D.at_, D.lit, e, rv⟩, w _ F1 H1 g1 (rp F1)⟩
      · cases h
    · cases h
  · exact sa ρ _ e1 F0 H0 F σ H R _ w
end
/-- from the entries as the heap has them -/
theorem kdT_of {K : PySem.W.Frag} {w : World} {Y : Core} {q : Addr} {es : Array DictEntry} {n : Nat} (kds : List (Str × D)) (hl : K.lookup q = some ⟨.type "dict", none, .dict es n, #[]⟩) (low : (q == sysModules) = false) (lit : PySem.W.KeysLit w.params es.toList)
    (all : ∀ x, match kds.lookup x with
      | some z => ∃ e v, es.toList.find? (·.key.isStr x) = some e ∧ RelV v e.val ∧ ∀ F, Rep K Y F v z
      | none => es.toList.find? (·.key.isStr x) = none)
    (nr : es.toList.any (·.refKey) = false) : KdT K w Y q kds := by
  refine ⟨⟨es, n, hl, lit, low⟩, fun x z h => ?_, fun x h => ?_⟩
  · have a := all x
    rw [h] at a
    obtain ⟨e, v, h1, h2, h3⟩ := a
    refine ⟨e.val, v, ?_, h2, h3⟩
    unfold PySem.W.nsIn
    rw [hl]
    simp only [h1]
  · have a := all x
    rw [h] at a
    unfold PySem.W.nsIn
    rw [hl]
    simp only [a, nr]
    rfl
/-- entries one by one -/
theorem kd_nil {K : PySem.W.Frag} {Y : Core} (x : Str) : match ([] : List (Str × D)).lookup x with
      | some z => ∃ e v, ([] : List DictEntry).find? (·.key.isStr x) = some e ∧ RelV v e.val ∧ ∀ F, Rep K Y F v z
      | none => ([] : List DictEntry).find? (·.key.isStr x) = none := rfl
theorem kd_cons {K : PySem.W.Frag} {Y : Core} {h : Int} {y : Str} {t : Tok} {u : Value} {v : V} {z : D} {es : List DictEntry} {kds : List (Str × D)} (rv : RelV v u) (rp : ∀ F, Rep K Y F v z) (ih : ∀ x, match kds.lookup x with
      | some z => ∃ e v, es.find? (·.key.isStr x) = some e ∧ RelV v e.val ∧ ∀ F, Rep K Y F v z
      | none => es.find? (·.key.isStr x) = none) (x : Str) : match ((y, z) :: kds).lookup x with
      | some z => ∃ e v, ((⟨h, .str y t, u⟩ : DictEntry) :: es).find? (·.key.isStr x) = some e ∧ RelV v e.val ∧ ∀ F, Rep K Y F v z
      | none => ((⟨h, .str y t, u⟩ : DictEntry) :: es).find? (·.key.isStr x) = none := by
  by_cases e : x = y
  · subst e
    have h1 : ((x, z) :: kds).lookup x = some z := by simp [List.lookup]
    rw [h1]
    refine ⟨⟨h, .str x t, u⟩, v, ?_, rv, rp⟩
    have : Value.isStr (Value.str x t) x = true := by simp [Value.isStr]
    simp [List.find?, this]
  · have h1 : ((y, z) :: kds).lookup x = kds.lookup x := by
      have : (x == y) = false := by simpa using e
      simp [List.lookup, this]
    rw [h1]
    have h2 : Value.isStr (Value.str y t) x = false := by
      have : ¬ y = x := fun q => e q.symm
      simp [Value.isStr, this]
    have h3 : ((⟨h, .str y t, u⟩ : DictEntry) :: es).find? (·.key.isStr x) = es.find? (·.key.isStr x) := by simp [List.find?, h2]
    rw [h3]
    exact ih x
end Den
set_option Elab.async false
set_option linter.all false
set_option maxRecDepth 100000
set_option maxHeartbeats 4000000
namespace Den
open PySem L2 PyProof.Rows
variable [Named]
/-! ### math.lcm of greater numbers -/
def lcmW : List D → Option D
  | [.int i, .int j] => if i.natAbs < 2 ^ 128 ∧ j.natAbs < 2 ^ 128 then some (.int ((Nat.lcm i.natAbs j.natAbs : Nat) : Int)) else none
  | _ => none
section
variable {Y : Cfg} {X : Cx} {W : WX} {K : PySem.W.Frag}
theorem cd_lcmW : CallD Y X (.builtin "math.lcm") lcmW := by
  intro pins s σ H xs us Q I r hq
  obtain ⟨F, ds, z, ex, rs, eq, k⟩ := hq
  unfold lcmW at eq
  split at eq
  · rename_i i j
    split at eq
    · rename_i hb
      cases eq
      obtain ⟨v, u, rfl, q, q2⟩ := repL2 rs
      cases q
      cases q2
      obtain ⟨t1, t2, rfl⟩ := Vals.int2 r
      have e1 : Nat.lcm 1 i.natAbs = i.natAbs := by simp [Nat.lcm]
      have hlt : (Nat.lcm i.natAbs j.natAbs).log2 < PySem.bitsLine := by
        have h1 : Nat.lcm i.natAbs j.natAbs < 2 ^ 257 := by
          have : Nat.lcm i.natAbs j.natAbs ≤ i.natAbs * j.natAbs := by
            unfold Nat.lcm
            exact Nat.div_le_self _ _
          have h2 : i.natAbs * j.natAbs ≤ 2 ^ 128 * 2 ^ 128 := Nat.mul_le_mul (Nat.le_of_lt hb.1) (Nat.le_of_lt hb.2)
          have h3 : (2 : Nat) ^ 128 * 2 ^ 128 < 2 ^ 257 := by decide
          omega
        have := log2_lt h1 (by decide)
        exact Nat.lt_trans this (by decide)
      have h1 : (max 1 i.natAbs).log2 ≤ 127 := PySem.W.mg_log (by show max 1 i.natAbs < 2 ^ 128; omega)
      have h2 : (max i.natAbs j.natAbs).log2 ≤ 127 := PySem.W.mg_log (by show max i.natAbs j.natAbs < 2 ^ 128; omega)
      refine call_function_meets PySem.W.MGF.kind_lcm PySem.W.MGF.plain_lcm PySem.W.MGF.entry_lcm (PySem.W.MGF.args_lcm _ _) (PySem.W.mg_run_lcm i t1 j t2 (by omega) (by omega) (by rw [e1]; exact hlt)).meets ?_
      rw [e1]
      exact ⟨.int _, H, I.tok _, ⟨_, rfl⟩, k _ F H (Gr.refl ex) (.int _)⟩
    · cases eq
  · cases eq
end
end Den
set_option Elab.async false
set_option linter.all false
set_option maxRecDepth 100000
set_option maxHeartbeats 4000000
namespace Den
open PySem L2 PyProof.Rows PySem.W
/-! ### sorted of a tuple -/
section
variable {prog : Program} {w : World} {A : Around} {E : Value → Shared → Prop} {s : Shared}
theorem collect_tuple {l : Addr} {vs : List Value} {Q : List Value → Shared → Prop} (hl : PyProof.Rows.IsTup s.heap l vs.toArray)
    (h : Q vs { s with heap := (s.heap.push (seqObj "list" #[] 0)).update s.heap.objs.size (Obj.mapSeq (· ++ vs.toArray)) }) (hsz : vs.length ≤ sizeLine) :
    wpAny (model prog w) A (collect (.ref l)) Q E s := by
  obtain ⟨o, ho, hc, n, hd⟩ := id hl
  unfold collect
  refine wpAny_bind (wpAny_runValue (codeAny_builtin entry_proto_collect' ?_))
  show wpAny _ _ (do again (.builtin "list.__iadd__" ⟨[← newList [], .ref l], []⟩)) _ _ s
  refine wpAny_bind (wpAny_newList (wpAny_pure ⟨Code.quiet_builtin _ (by decide +kernel), codeAny_builtin entry_list_iadd' ?_⟩))
  show wpAny _ _ (Builtin.List.listExtendWith (.ref s.heap.objs.size) (.ref l) (.ref s.heap.objs.size)) _ _ { s with heap := s.heap.push (seqObj "list" #[] 0) }
  unfold Builtin.List.listExtendWith
  have ho' : (s.heap.push (seqObj "list" #[] 0)).get? l = some o := Heap.get?_push_of_some _ ho
  refine wpAny_bind (wpAny_typeOf (T := "tuple") ⟨o, ho', hc⟩ ?_)
  have ht : (Value.type "tuple" == Value.type "tuple") = true := by rfl
  rw [if_pos (by rw [ht]; simp)]
  refine wpAny_bind (listItems_at ho' hd ?_)
  refine wpAny_bind (listItems_at (xs := #[]) (n := 0) (Heap.get?_push_size _ rfl) rfl ?_)
  rw [if_neg (by simp)]
  refine wpAny_bind (listUpdate_at (xs := #[]) (n := 0) (Heap.get?_push_size _ rfl) rfl ?_ (Nat.zero_le _) (by show (#[] ++ vs.toArray).size ≤ sizeLine + 1; simp only [Array.size_append, List.size_toArray, List.length_nil]; omega))
  refine wpAny_pure ?_
  show wpAny (model prog w) A (do
      let o ← load s.heap.objs.size
      match o.data with
      | .seq xs _ => pure xs.toList
      | _ => unsupported "internal:collect") Q E { s with heap := (s.heap.push (seqObj "list" #[] 0)).update s.heap.objs.size (Obj.mapSeq (· ++ vs.toArray)) }
  refine wpAny_bind (wpAny_load (get?_update_seq (Heap.get?_push_size _ rfl) _) ?_)
  show wpAny _ _ (pure ((#[] : Array Value) ++ vs.toArray).toList) Q E _
  rw [show ((#[] : Array Value) ++ vs.toArray).toList = vs by simp]
  exact wpAny_pure h
theorem sorted_of_sortT {l : Addr} {vs : List Value} {kw : List (Str × Value)} {Q : Value → Shared → Prop} (hl : PyProof.Rows.IsTup s.heap l vs.toArray) (hL : vs.length ≤ sizeLine) (ha1 : argsOk "sorted" ⟨[.ref l], kw⟩) (ha2 : ∀ x, argsOk "list.sort" ⟨[.ref x], kw⟩)
    (body : ∀ E' : Value → Shared → Prop, wpAny (model prog w) A.in1.in1 (Builtin.«list.sort» ⟨[.ref (s.heap.objs.size + 1)], kw⟩) (fun f s' => f = .done (.ret .none) ∧ Q (.ref (s.heap.objs.size + 1)) s') E' { s with heap := copyHeap s.heap vs }) :
    wpAny (model prog w) A (call (.builtin "sorted") [.ref l] kw) Q E s := by
  refine call_function_entry_kw kind_sorted plain_sorted entry_sorted ha1 ?_
  unfold Builtin.«sorted»
  refine wpAny_bind (m := checkCount "sorted" 1 1 _) (wpAny_pure ?_)
  refine wpAny_bind (collect_tuple hl ?_ hL)
  refine wpAny_bind (wpAny_newList ?_ hL)
  have hsz : ((s.heap.push (seqObj "list" #[] 0)).update s.heap.objs.size (Obj.mapSeq (· ++ vs.toArray))).objs.size = s.heap.objs.size + 1 := by
    rw [Heap.size_update, size_push']
  show wpAny _ _ _ _ _ { s with heap := copyHeap s.heap vs }
  rw [hsz]
  refine wpAny_bind (wpAny_holding (wpAny_call_entry_kw slot_list_sort ⟨_, copyHeap_at s.heap vs, rfl⟩ entry_list_sort ?body (ha2 _)))
  case body =>
    show wpAny (model prog w) A.in1.in1 (Builtin.«list.sort» ⟨[.ref (s.heap.objs.size + 1)], kw⟩) _ _ _
    refine wpAny_mono (body _) (fun f s' hf => ?_) fun _ _ e => e
    obtain ⟨rfl, hq⟩ := hf
    exact ⟨_, rfl, wpAny_pure ⟨_, rfl, hq⟩⟩
theorem sorted_dataT {β : Type} {vs : List Value} {bs : List β} {enc : β → PyData} {R : Value → β → Prop} {l : Addr} {Q : Value → Shared → Prop} (hl : PyProof.Rows.IsTup s.heap l vs.toArray) (e : EachIs R vs bs) (er : EachIs (fun v b => ∃ as, Reads s.heap v (enc b) as) vs bs) (hal : AllAlike (bs.map enc)) (hk : Sortable (bs.map enc)) (hL : bs.length ≤ sizeLine)
    (hu : ∀ b, b ∈ bs → A.units + 2 + (enc b).depth < cLine) (h : ∀ out, out.length = bs.length → EachIs R out (bs.mergeSort (dataLe false enc)) → Q (.ref (s.heap.objs.size + 1)) { s with heap := sortedAll s.heap vs (List.toArray out) }) :
    wpAny (model prog w) A (call (.builtin "sorted") [.ref l]) Q E s := by
  have er' : EachIs (fun v b => ∃ as, Reads (sortingHeap (copyHeap s.heap vs) (s.heap.objs.size + 1) vs) v (enc b) as) vs bs := er.mono fun _ _ ⟨as, r⟩ => ⟨as, PyProof.Rows.Reads.keeps (fun _ _ => sorting_copy_old) r⟩
  have S := SortsAt.data (prog := prog) (w := w) (A := A.in1.in1) (s := { s with heap := sortingHeap (copyHeap s.heap vs) (s.heap.objs.size + 1) vs }) (each_map (R := fun v d => ∃ as, Reads (sortingHeap (copyHeap s.heap vs) (s.heap.objs.size + 1) vs) v d as) enc er') hal hk (bound_map hu)
  have hL' : vs.length ≤ sizeLine := by rw [e.length]; exact hL
  refine sorted_of_sortT hl hL' (args_sorted1 _) (fun _ => args_list_sort _) fun _ => list_sort_vals (s := { s with heap := copyHeap s.heap vs }) (copyHeap_at s.heap vs) S hL' ⟨rfl, ?_⟩
  exact h _ (by rw [sortVals_length false rfl]; exact e.length) (sortVals_data false e er' hal)
end
open Classical in
noncomputable def sortTD : List D → Option D
  | [.tup ds] => if PySem.W.AllAlike (ds.map D.py) ∧ PySem.W.Sortable (ds.map D.py) ∧ shD (.lst ds) = true ∧ ds.length ≤ 16777216 then some (.lst (sortG ds)) else none
  | xs => sortGD xs
variable [Named]
section
variable {Y : Cfg} {X : Cx}
theorem cd_sortT (hu : X.A.units + 100 < cLine) : CallD Y X (.builtin "sorted") sortTD := by
  intro pins s σ H xs us Q I r hq
  obtain ⟨F, ds, z, ex, rs, eq, k⟩ := hq
  unfold sortTD at eq
  split at eq
  · rename_i es
    split at eq
    · rename_i hs
      obtain ⟨al, so, sd, len⟩ := hs
      cases eq
      obtain ⟨v, rfl, q⟩ := repL1 rs
      obtain ⟨l, ys, rfl, hl, ra⟩ := rep_tup q
      obtain ⟨its, rv, hL, hz⟩ := I.tuple (ex_t ex hl)
      obtain rfl := Vals.ref1 r
      have e := vals_each rv ra
      have lay := SeqAt.canLay_of_shaped sd
      have dep := SeqAt.depth_of_shaped sd
      have h0 : PyData.canLayAll0 (D.pys es) = true := by simpa [D.py, PyData.canLay0] using lay
      have dp : ∀ x ∈ es, PyData.canLay0 x.py = true ∧ x.py.depth ≤ PyData.depthAll (D.pys es) := by
        have all_ : ∀ (es : List D), PyData.canLayAll0 (D.pys es) = true → ∀ x ∈ es, PyData.canLay0 x.py = true ∧ x.py.depth ≤ PyData.depthAll (D.pys es) := fun es => by
          induction es with
          | nil => intro _ x hx; cases hx
          | cons e0 es ih =>
            intro hh x hx
            simp only [D.pys, PyData.canLayAll0, Bool.and_eq_true] at hh
            have h3 : PyData.depthAll (D.pys (e0 :: es)) = max e0.py.depth (PyData.depthAll (D.pys es)) := by simp [D.pys, PyData.depthAll]
            rcases List.mem_cons.mp hx with rfl | hx
            · exact ⟨hh.1, by omega⟩
            · have := ih hh.2 x hx
              exact ⟨this.1, by omega⟩
        exact all_ es h0
      have er : PySem.W.EachIs (fun v b => ∃ as, Reads s.heap v (D.py b) as) its es := by
        have := PySem.W.each_mem e
        refine this.mono fun u d ⟨⟨v, r1, r2⟩, hd⟩ => ?_
        exact Dp.reads I _ v u ((r2.mono ex).dp (dp d hd).1) r1
      refine sorted_dataT (β := D) (enc := D.py) (R := fun u d => ∃ v, RelV v u ∧ Rep X.K Y F v d) hL e er al so (by rw [sizeLine_eq]; exact len) (fun b hb => ?_) fun out ho eo => ?_
      · have := (dp b hb).2
        have h3 : (D.lst es).py.depth = PyData.depthAll (D.pys es) + 1 := by simp [D.py, PyData.depth]
        omega
      · obtain ⟨zs, v1, v2⟩ := each_vals eo
        obtain ⟨c, hc⟩ := PyProof.Rows.sortedAll_at s.heap its out.toArray
        have fr : H (s.heap.objs.size + 1) = none := I.hok.fresh (Nat.le_succ _)
        have J := I.take (t' := s.toks) (it := s.heap.objs.size + 1) (o := .lst zs) (h' := PyProof.Rows.sortedAll s.heap its out.toArray) (fun b o _ e => PyProof.Rows.sortedAll_old e) (I.fpOk (Nat.le_succ _) fr) ⟨by rw [v1.length, ho]; rw [sizeLine_eq]; exact len, out, c, v1, hc⟩
        have g := Gr.new (o := .lst zs) ex fr
        exact ⟨.ref _, _, J, rfl, k _ _ _ g (.lst (SqL.of upd_same) (v2.mono g.f))⟩
    · cases eq
  · exact cd_sortG hu pins s σ H xs us Q I r ⟨F, ds, z, ex, rs, eq, k⟩
end
end Den
set_option Elab.async false
set_option linter.all false
set_option maxRecDepth 100000
set_option maxHeartbeats 4000000
namespace Den
open PySem L2
variable [Named]
/-! ### several clauses 'except C' without a name -/
section
variable {Y : Cfg} {X : Cx} {W : WX} {K : PySem.W.Frag} {pos : Pos} {F0 H0 F F1 H H1 : Hp} {σ : L2.St} {ρ : Env} {T : Exm}
abbrev SuiM := Nat × SM
def hdM (T : Exm) (z : Xd) (ρ' : Env) : List SuiM → Option O
  | [] => some (.exc z ρ')
  | q :: l => match T z.c q.1 with
    | some true => noX (q.2 ρ')
    | some false => hdM T z ρ' l
    | none => none
def dTryM (T : Exm) (m : SM) (l : List SuiM) : SM := fun ρ => match m ρ with
  | some (.exc z ρ') => hdM T z ρ' l
  | oo => oo
inductive GMm (Y : Cfg) (X : Cx) (T : Exm) : List ExceptHandler → List SuiM → Prop
  | nil : GMm Y X T [] []
  | cons {x : Str} {b0 : Stmt} {suite : List Stmt} {np hp : Pos} {hds : List ExceptHandler} {l : List SuiM} {m : SM} (c : Nat) (hc : Names X x (.ref (Y.cl c)))
      (hT : ∀ i b, T i c = some b → PySem.W.exmOne X.K (.ref (Y.cl i)) (.ref (Y.cl c)) = some b)
      (hsu : ∀ (a : Addr) (pn : List (Addr × Obj)), GSs Y (X.suite a pn) W0 (b0 :: suite) m)
      (r : GMm Y X T hds l) : GMm Y X T (.ExceptHandler (some (.Name x np)) none (b0 :: suite) hp :: hds) ((c, m) :: l)
def clM (Y : Cfg) (K : PySem.W.Frag) (q : SuiM) : Value × (Addr → Value → Option Addr → TS) := (.ref (Y.cl q.1), fun _ _ _ => sM Y W0 K q.2)
theorem GMm.ok {hds : List ExceptHandler} {l : List SuiM} (h : GMm Y X T hds l) : HdsOk X hds (l.map (clM Y X.K)) := by
  induction h with
  | nil => exact .nil
  | cons c hc hT hsu r ih => exact .cons hc (fun a oe cls d pn _ _ => (hsu a _).ps) ih
theorem GMm.ex {hds : List ExceptHandler} {l : List SuiM} (h : GMm Y X T hds l) : ∀ q ∈ l, ∀ i b, T i q.1 = some b → PySem.W.exmOne X.K (.ref (Y.cl i)) (.ref (Y.cl q.1)) = some b := by
  induction h with
  | nil => intro q hq; cases hq
  | cons c hc hT hsu r ih =>
    intro q hq
    rcases List.mem_cons.mp hq with rfl | hq
    · exact hT
    · exact ih q hq
theorem handledM {z : Xd} {ρ' : Env} {dx : Option Addr} {oo : O} {D : Ends} (R' : Rel K Y F0 H0 F σ H ρ') (xr : XRep K Y F H z dx) (w : WantS Y W K F0 H0 F oo D) : ∀ {l : List SuiM}, hdM T z ρ' l = some oo →
    (∀ q ∈ l, ∀ i b, T i q.1 = some b → PySem.W.exmOne K (.ref (Y.cl i)) (.ref (Y.cl q.1)) = some b) → wMany K W D (l.map (clM Y K)) (.ref (Y.cl z.c)) dx σ H
  | [], h, _ => by
    cases h
    exact w F σ H dx (Ex.refl F) R' xr
  | q :: l, h, hT => by
    have hq := hT q (List.mem_cons_self ..)
    unfold hdM at h
    split at h
    · rename_i e2
      exact ⟨true, hq _ _ e2, fun _ a ha => ⟨F0, H0, F, ρ', oo, R', (noX_some h).1, by
        cases oo with
        | exc y ρ2 => exact absurd rfl ((noX_some h).2 y ρ2)
        | nx ρ2 => exact w
        | ret d => exact w
        | bk ρ2 => exact w
        | ct ρ2 => exact w⟩, fun z => nomatch z⟩
    · rename_i e2
      exact ⟨false, hq _ _ e2, (fun z => nomatch z), fun _ => handledM R' xr w h fun q hq => hT q (List.mem_cons_of_mem _ hq)⟩
    · cases h
theorem gs_tryM {body : List Stmt} {h0 : ExceptHandler} {hds : List ExceptHandler} {l : List SuiM} {m1 : SM} (hs : X.stack = X.env :: X.outer) (hf : X.env.frame = some X.env.locals) (tk : Takes X W)
    (hb : ∀ (W' : WX) (pn : List (Addr × Obj)) (xe : Value → Shared → Prop), Takes (X.tr pn xe) W' → PassesOwn (model X.prog X.w) X.A X.env xe → GSs Y (X.tr pn xe) W' body m1) (hh : GMm Y X T (h0 :: hds) l) :
    GS Y X W (.Try body (h0 :: hds) [] [] pos) (dTryM T m1 l) := by
  refine ⟨_, ps_try_many (tb := fun W' => sM Y W' X.K m1) hs hf tk (fun W' pn xe tk' hp => (hb W' pn xe tk' hp).ps) hh.ok, fun ρ oo h F0 H0 F σ H R D w => ?_⟩
  unfold dTryM at h
  split at h
  · rename_i z ρ' e1
    exact ⟨F0, H0, F, ρ, _, R, e1, fun F' σ' H' dx ex R' xr => handledM R' xr (w.grow ex) h hh.ex⟩
  · exact ⟨F0, H0, F, ρ, oo, R, h, by
      cases oo with
      | exc y ρ2 => rename_i hn; exact absurd h (hn y ρ2)
      | nx ρ2 => exact w
      | ret d => exact w
      | bk ρ2 => exact w
      | ct ρ2 => exact w⟩
end
end Den
set_option Elab.async false
set_option linter.all false
set_option maxRecDepth 100000
set_option maxHeartbeats 4000000
namespace Den
open PySem PyProof.Rows Srt SrtO
/-! ### sorted(l, key=f), the keys ints: stable -/
section
variable {prog : Program} {w : World} {A : Around} {E : Value → Shared → Prop} {s : Shared}
/-- sorted by the keys, stable -/
def ByKeysI (ks vs : List Value) (out : List Keyed) : Prop :=
  Srtd (lt2 ltIv) out ∧ Stb (lt2 ltIv) out (ks.zip vs)
theorem ks_endI {kS a : Addr} {ks vs : List Value} {e e1 : Nat} {R : PySem.Fin → Shared → Prop} (hk : s.heap.get? kS = some (seqObj "list" ks.toArray e)) (ha : s.heap.get? a = some (seqObj "list" #[] e1)) (hne : a ≠ kS) (hl : ks.length = vs.length) (hz : vs.length ≤ sizeLine) (hp : ∀ v ∈ ks, ∃ i t, v = Value.int i t)
    (h : ∀ out : List Keyed, ByKeysI ks vs out → R (.done (.ret .none)) { s with heap := (s.heap.update kS (Obj.mapSeq fun _ => #[])).update a (Obj.mapSeq fun _ => (out.map (·.2)).toArray) }) :
    wpAny (model prog w) A (ksk_end a false vs.toArray e1 (.ref kS) ks.toArray) R E s := by
  have ez : (ks.toArray.zip vs.toArray).toList = ks.zip vs := ksk_zip ks.toArray vs
  have elen : (ks.zip vs).length = vs.length := by rw [List.length_zip, hl, Nat.min_self]
  have fin : ∀ st : SortSt, ByKeysI ks vs (arrOf st).toList → failedOf st = none → wpAny (model prog w) A (ksk_tail a false e1 (.ref kS) st) R E s := by
    intro st hb hf
    have hsz : (arrOf st).size ≤ sizeLine := by
      have := hb.2.len
      rw [Array.length_toList, elen] at this
      omega
    refine ks_tail hk ha hne (by rw [hl]; exact hz) hsz hf ?_
    have := h _ hb
    have e2 : ((arrOf st).toList.map (·.2)).toArray = (arrOf st).map (·.2) := by
      apply Array.ext'
      rw [Array.toList_map]
    rw [e2] at this
    exact this
  unfold ksk_end
  simp only [Bool.false_eq_true, if_false]
  by_cases h2 : vs.toArray.size < 2
  · rw [if_pos h2, if_pos h2]
    refine wpAny_bind (wpAny_pure ?_)
    rw [StateT.run_pure]
    refine wpAny_bind (wpAny_pure ?_)
    refine fin (SortSt.mk' general' (ks.toArray.zip vs.toArray) #[] 7 none) ?_ rfl
    show ByKeysI ks vs (ks.toArray.zip vs.toArray).toList
    rw [ez]
    refine ⟨?_, Stb.refl _⟩
    have h3 : (ks.zip vs).length < 2 := by rw [elen]; simpa using h2
    match ks.zip vs, h3 with
    | [], _ => exact List.Pairwise.nil
    | [v], _ => exact List.pairwise_singleton _ _
    | _ :: _ :: l, h => exact absurd h (by rw [List.length_cons, List.length_cons]; omega)
  · rw [if_neg h2, if_neg h2]
    have h4 : 2 ≤ vs.length := by simpa using h2
    obtain ⟨κ, hkind, hT⟩ := ints_sortable (prog := prog) (w := w) (A := A) (s := s) (a := a) (ints_iv hp) (by omega) s.heap (fun b o _ e => e)
    refine wpAny_bind (hkind _ _ ?_)
    have hall : AllL (fun p : Keyed => p.1 ∈ ks) (ks.toArray.zip vs.toArray).toList := fun p hm => by
      rw [ez] at hm
      exact (List.of_mem_zip hm).1
    refine wpAny_bind (wpAny_mono (wpS_sortO (st0 := SortSt.mk' κ (ks.toArray.zip vs.toArray) #[] 7 none)
      (Q := fun _ st' => ByKeysI ks vs (arrOf st').toList ∧ failedOf st' = none) (swo2 swo_int) hT rfl hall rfl rfl fun st' a1 a2 a3 => ⟨⟨a1, by
        have a2' : Stb (lt2 ltIv) (arrOf st').toList (ks.toArray.zip vs.toArray).toList := a2
        rw [ez] at a2'
        exact a2'⟩, a3⟩) ?_ fun _ _ e => e)
    rintro ⟨⟨⟩, st'⟩ s' ⟨rfl, hp1, hf⟩
    exact fin st' hp1 hf
end
theorem srt_pw {α : Type} {lt : α → α → Bool} (O : Swo lt) (l : List α) : Srtd lt (l.mergeSort fun a b => !lt b a) := by
  have h := List.pairwise_mergeSort (le := fun a b => !lt b a) (fun a b c h1 h2 => by
    have a1 : lt b a = false := by simpa using h1
    have a2 : lt c b = false := by simpa using h2
    simpa using O.tr a b c a1 a2) (fun a b => by
    cases h : lt b a with
    | false => rfl
    | true =>
      have := O.asym b a h
      simp [this]) l
  exact h.imp fun {x y} h => by simpa using h
theorem srt_stb {α : Type} {lt : α → α → Bool} (O : Swo lt) (l : List α) : Stb lt (l.mergeSort fun a b => !lt b a) l := by
  refine ⟨List.mergeSort_perm _ _, fun x => ?_⟩
  have pc : (l.filter (eqv lt x)).Pairwise fun a b => (!lt b a) = true := by
    refine List.Pairwise.imp_of_mem (R := fun _ _ => True) (fun {a b} ha hb _ => ?_) (List.pairwise_of_forall fun _ _ => trivial)
    have e1 := eqv_iff.mp (List.mem_filter.mp ha).2
    have e2 := eqv_iff.mp (List.mem_filter.mp hb).2
    have := O.tr a x b e1.1 e2.2
    simpa using this
  have sub := List.sublist_mergeSort (le := fun a b => !lt b a) (fun a b c h1 h2 => by
    have a1 : lt b a = false := by simpa using h1
    have a2 : lt c b = false := by simpa using h2
    simpa using O.tr a b c a1 a2) (fun a b => by
    cases h : lt b a with
    | false => rfl
    | true =>
      have := O.asym b a h
      simp [this]) pc List.filter_sublist
  have s2 := sub.filter (eqv lt x)
  rw [List.filter_filter] at s2
  simp only [Bool.and_self] at s2
  refine (s2.eq_of_length ?_).symm
  exact ((List.mergeSort_perm l _).symm.filter _).length_eq
/-- in the order of the keys -/
def leI (a b : D × Int) : Bool := decide (a.2 ≤ b.2)
def sortJ (ks : List Int) (ds : List D) : List D := ((ds.zip ks).mergeSort leI).map Prod.fst
def dSortJ (me m : Env → M) : Env → M := fun ρ => bd (m ρ) fun d => match d with
  | .lst ds => match keysI me ds with
    | some ks => some (.ok (.lst (sortJ ks ds)))
    | none => none
  | _ => none
end Den
namespace Den
open PySem PySem.Spec PyProof.Rows L2 LamX NdefX Srt SrtO
@[simp] theorem c_sortJ {me m : Env → M} {ρ : Env} : dSortJ me m ρ = bd (m ρ) fun d => match d with
  | .lst ds => match keysI me ds with
    | some ks => some (.ok (.lst (sortJ ks ds)))
    | none => none
  | _ => none := rfl
section
variable {X : Cx} {pins : List (Addr × Obj)} {σ : L2.St} {H : Hp} {s : Shared}
variable [Named]
theorem sort_runI {Y : Cfg} {f c' l j : Nat} {params : Arguments} {be : Expr} {scope : Scope} {pm ctv : Value} {q x : Str} {me : Env → M} {F : Hp} {xs : List V} {qs : List D} {nks : List Int} {Q : VK} {E : Value → Shared → Prop}
    (I : Inv X ((f, PySem.W.kla_obj "<lambda>" q params be scope [] pm c' ctv) :: pins) σ H s)
    (eF : Ex F H) (tb : Tb F) (hl : SqL X.K H l xs) (ra : RepL X.K Y F xs qs) (hc : H c' = some (CodeO c' q)) (hr : Room (j + 3) X.A)
    (S : NScope [x] [x] [] scope) (hb : ∀ u, bindArgs (PySem.W.kla_fn "<lambda>" q params be scope [] pm (.ref c') ctv) ⟨[u], []⟩ = pure [(x, u)])
    (hbody : ∀ (A : Around) (outer : List PySem.Env) (s : Shared) (H : Hp), GE Y (ncx (L2.CX X.prog X.w) X.prog X.w X.K X.mg X.base [x] (lamF q params scope c') f A outer s H (fun _ _ _ => False)) (fun _ _ _ _ => False) be me)
    (hks : keysI me qs = some nks)
    (k : ∀ a F' H', Gr F H F' H' → Rep X.K Y F' (.ref a) (.lst (sortJ nks qs)) → Q (.ref a) H') :
    wpAny (model X.prog X.w) X.A (call (.builtin "sorted") [.ref l] [(Str.ofString "key", .ref f)]) (EP X pins σ Q) E s := by
  obtain ⟨its, rv, hL, hz⟩ := I.list hl
  have hzi : its.length ≤ sizeLine := by rw [← rv.length]; exact hz
  have hlq : its.length = qs.length := by
    have := ra.len
    rw [rv.length] at this
    exact this
  have hnl := (keysI_get hks).1
  refine ks_sorted (Q := EP X pins σ Q) hL.isList hzi fun h' a kS e1 keep ha hkS hsa hsk hne => ?_
  have J0 := I.kept (t' := s.toks) keep
  have na := I.hok.fresh hsa
  have nk := I.hok.fresh hsk
  have Ja := pin_add J0 (pin_new (p := (a, seqObj "list" #[] e1)) I hsa ha na fun v z => nomatch z)
  have Jk := pin_add Ja (pin_new (p := (kS, seqObj "list" ([] : List Value).toArray 0)) I hsk hkS nk fun v z => nomatch z)
  have fpk := fun H' hn => fpk_of (e1 := e1) I hsk hne H' hn
  refine sort_turns (Y := Y) (pins := pins) (σ := σ) (H := H) (kds := nks.map D.int) (me := me) eF ra rv hzi hc hr S hb hbody tb (fun i d hd => ?_) (fun H' hn => fpk H' hn) ⟨H, F, [], 0, Jk, Gr.refl eF, .nil, .nil⟩ fun ks s' hlk ⟨H', F', kvs, e, J, g, vk, rk⟩ => ?_
  · obtain ⟨kk, hk1, hk2⟩ := (keysI_get hks).2 i d hd
    exact ⟨D.int kk, by rw [List.getElem?_map, hk1]; rfl, hk2⟩
  · have hkq : ks.length = qs.length := hlk.trans hlq
    rw [List.take_of_length_le (by rw [List.length_map]; omega)] at rk
    have pk := pin_at J
    have pa := pin_at (pin_drop J)
    have at_ : ∀ (i : Nat) (u : Value) (n : Int), ks[i]? = some u → nks[i]? = some n → ∃ t, u = Value.int n t := fun i u n hu hn => by
      obtain ⟨v, hv, rvu⟩ := vals_get vk hu
      obtain ⟨d, hd, rd⟩ := rk.getV hv
      rw [List.getElem?_map, hn] at hd
      cases hd
      cases rd
      exact rvu
    have all_ : ∀ u ∈ ks, ∃ i t, u = Value.int i t := fun u hu => by
      obtain ⟨i, hi⟩ := List.mem_iff_getElem?.mp hu
      have hlt : i < nks.length := by rw [hnl, ← hkq]; exact (List.getElem?_eq_some_iff.mp hi).1
      obtain ⟨t, e⟩ := at_ i u _ hi (List.getElem?_eq_getElem hlt)
      exact ⟨_, t, e⟩
    refine ks_endI pk.1 pa.1 hne hlk hzi all_ fun out hout => ⟨rfl, ?_⟩
    · have hqn : qs.length = nks.length := hnl.symm
      have l1 : (ks.zip its).length = (qs.zip nks).length := by rw [List.length_zip, List.length_zip, hlk, hnl, ← hlq]
      let Z := (ks.zip its).zip (qs.zip nks)
      have z1 : Z.map Prod.fst = ks.zip its := List.map_fst_zip (by rw [l1]; exact Nat.le_refl _)
      have z2 : Z.map Prod.snd = qs.zip nks := List.map_snd_zip (by rw [l1]; exact Nat.le_refl _)
      let ltZ : (Value × Value) × (D × Int) → (Value × Value) × (D × Int) → Bool := fun x y => lt2 ltIv x.1 y.1
      have OZ : Swo ltZ := ⟨fun x y => (swo2 swo_int).asym x.1 y.1, fun x y z => (swo2 swo_int).tr x.1 y.1 z.1⟩
      let T := Z.mergeSort fun a b => !ltZ b a
      have pT : T.Perm Z := List.mergeSort_perm _ _
      have inZ : ∀ t ∈ Z, ∃ i, ks[i]? = some t.1.1 ∧ its[i]? = some t.1.2 ∧ qs[i]? = some t.2.1 ∧ nks[i]? = some t.2.2 := fun t ht => by
        obtain ⟨i, hi⟩ := List.mem_iff_getElem?.mp ht
        obtain ⟨⟨u, v⟩, ⟨p, n⟩⟩ := t
        rw [List.getElem?_zip_eq_some] at hi
        have h2 := hi.1
        have h3 := hi.2
        rw [List.getElem?_zip_eq_some] at h2 h3
        exact ⟨i, h2.1, h2.2, h3.1, h3.2⟩
      have inT : ∀ t ∈ T, ∃ i, ks[i]? = some t.1.1 ∧ its[i]? = some t.1.2 ∧ qs[i]? = some t.2.1 ∧ nks[i]? = some t.2.2 := fun t ht => inZ t (pT.mem_iff.mp ht)
      have kZ : ∀ t ∈ Z, iv t.1.1 = t.2.2 := fun t ht => by
        obtain ⟨i, h1, h2, h3, h4⟩ := inZ t ht
        obtain ⟨tk, e⟩ := at_ i _ _ h1 h4
        rw [e]
        rfl
      have sT : Srtd (lt2 ltIv) (T.map Prod.fst) := srtd_map (srt_pw OZ Z)
      have bT : Stb (lt2 ltIv) (T.map Prod.fst) (ks.zip its) := by
        rw [← z1]
        exact Stb.map (swo2 swo_int) Prod.fst (srt_stb OZ Z)
      have eT : out = T.map Prod.fst := stb_uniq (swo2 swo_int) hout.1 sT (hout.2.trans ⟨bT.perm.symm, fun x => (bT.cls x).symm⟩)
      have eD : T.map Prod.snd = (qs.zip nks).mergeSort leI := by
        rw [← z2]
        exact List.map_mergeSort (r := fun a b => !ltZ b a) (s := leI) (f := Prod.snd) (l := Z) fun a ha b hb => by
          show (!decide (iv b.1.1 < iv a.1.1)) = decide (a.2.2 ≤ b.2.2)
          rw [kZ a ha, kZ b hb]
          by_cases q : a.2.2 ≤ b.2.2
          · rw [decide_eq_true q, decide_eq_false (by omega)]; rfl
          · rw [decide_eq_false q, decide_eq_true (by omega)]; rfl
      obtain ⟨ys, vy, ry⟩ := repl_map (K := X.K) (Y := Y.toCore) (F := F') (fu := fun t : (Value × Value) × (D × Int) => t.1.2) (fd := fun t => t.2.1) T fun t ht => by
        obtain ⟨i, h1, h2, h3, h4⟩ := inT t ht
        obtain ⟨v, hv, rvu⟩ := vals_get rv h2
        obtain ⟨d, hd, rd⟩ := ra.getV hv
        rw [h3] at hd
        cases hd
        exact ⟨v, rvu, rd.mono g.f⟩
      have J1 := pin_drop (pin_drop (pin_drop J))
      have fk := fpk_less (fpk_less (fpk H' pk.2))
      have J2 := J1.turnedL (t' := s'.toks) (ch := [kS]) (h' := s'.heap.update kS (Obj.mapSeq fun _ => #[])) (fun b o hb e => (Heap.get?_update_ne _ _ _ _ (fun z => hb (by simp [z]))).trans e) fun b hb => by
        obtain rfl : b = kS := by simpa using hb
        exact fk
      have oa : (s'.heap.update kS (Obj.mapSeq fun _ => #[])).get? a = some (seqObj "list" #[] e1) := (Heap.get?_update_ne _ _ _ _ hne).trans pa.1
      have o2 := get?_update_seq oa (fun _ => (out.map (·.2)).toArray)
      have fa : FpOk X pins H' a := fpk_less (I.fpOk hsa pa.2)
      have hlen : ys.length ≤ sizeLine := by
        rw [vy.length, List.length_map, pT.length_eq]
        show ((ks.zip its).zip (qs.zip nks)).length ≤ sizeLine
        rw [List.length_zip, List.length_zip]
        omega
      have eo : out.map (·.2) = T.map fun t => t.1.2 := by rw [eT, List.map_map]; rfl
      have J3 := J2.take (t' := s'.toks) (it := a) (o := .lst ys) (h' := (s'.heap.update kS (Obj.mapSeq fun _ => #[])).update a (Obj.mapSeq fun _ => (out.map (·.2)).toArray)) (fun b o hb e => (Heap.get?_update_ne _ _ _ _ hb).trans e) fa ⟨hlen, out.map (·.2), _, by rw [eo]; exact vy, o2⟩
      have g2 := Gr.new (o := .lst ys) g.fh pa.2
      refine ⟨.ref a, _, J3, rfl, k a _ _ (g.trans g2) (.lst (SqL.of upd_same) ?_)⟩
      have : sortJ nks qs = T.map fun t => t.2.1 := by
        unfold sortJ
        rw [← eD, List.map_map]
        rfl
      rw [this]
      exact ry.mono g2.f
end
section
variable [Named]
variable {Y : Cfg} {X : Cx} {W : WX} {e be : Expr} {p lp kp pos : Pos} {x : Str} {c P : Addr} {params : Arguments} {scope : Scope} {m0 me : Env → M} {j : Nat}
theorem ge_sortJ (hr : Room (j + 3) X.A) (hg : Gl X "sorted") (hm : X.mg "sorted" = none) (ha : GE Y X W e m0) (B : TabB X.base X.mg c P) (hP : P ∈ Named.tb) (hq : Named.nm P = X.env.qual ++ "<lambda>") (hcode : X.env.code = .ref c) (S : NScope [x] [x] [] scope)
    (hbody : ∀ (q : Str) (c' f : Addr) (A : Around) (outer : List PySem.Env) (s : Shared) (H : Hp), GE Y (ncx (L2.CX X.prog X.w) X.prog X.w X.K X.mg X.base [x] (lamF q params scope c') f A outer s H (fun _ _ _ => False)) (fun _ _ _ _ => False) be me)
    (hclo : cloFrom X.env.cells scope.names [] = []) (hfree : ∀ y ∈ scope.names, y.2 ≠ .free) (hdef : defaultsOf params X.env = ([], []) := by rfl)
    (hb : ∀ (q : Str) (pm : Value) (c' : Addr) (ctv u : Value), bindArgs (PySem.W.kla_fn "<lambda>" q params be scope [] pm (.ref c') ctv) ⟨[u], []⟩ = pure [(x, u)] := by intros; rfl)
    (he : backTo pos (starEach [e] X.env) = (false, eval e X.env) :: backTo pos (starEach [] X.env) := by rfl) (hs : starEach [e] X.env = [(false, eval e X.env)] := by rfl) (hpl : (backTo pos (starEach [e] X.env)).any (·.1) = false := by rfl) :
    GE Y X W (.Call (.Name "sorted" p) [e] [⟨some "key", .Lambda params be scope lp, kp⟩] pos) (dSortJ me m0) := by
  obtain ⟨t, pt, sat⟩ := ha
  refine ⟨fun σ H Q => t σ H fun v H1 => ∃ l xs qs ks F, [v] = [V.ref l] ∧ Ex F H1 ∧ Tb F ∧ SqL X.K H1 l xs ∧ RepL X.K Y F xs qs ∧ keysI me qs = some ks ∧
      ∀ a F' H', Gr F H1 F' H' → Rep X.K Y F' (.ref a) (.lst (sortJ ks qs)) → Q (.ref a) H', ⟨fun pins s σ H Q I h => ?_⟩, fun ρ r h F0 H0 F σ H R Q w => ?_⟩
  · refine wpAny_Call_Name_kw (ld_blt I hg hm bt_sorted ?_)
    refine PyProof.Rows.callWith_kw (thn ((pa_cons pt pa_nil hs).run pos pins s σ H (fun vs H1 => ∃ l xs qs ks F, vs = [.ref l] ∧ Ex F H1 ∧ Tb F ∧ SqL X.K H1 l xs ∧ RepL X.K Y F xs qs ∧ keysI me qs = some ks ∧
      ∀ a F' H', Gr F H1 F' H' → Rep X.K Y F' (.ref a) (.lst (sortJ ks qs)) → Q (.ref a) H') I ?_) fun us s1 ⟨vs, H1, I1, r1, q1⟩ => ?_) he hpl rfl rfl
    · exact h
    · obtain ⟨l, xs, qs, ks, F, rfl, ex, tb, hl, ra, hks, k⟩ := q1
      obtain rfl := Vals.ref1 r1
      show wpAny _ _ (evalAll [do let v ← eval (.Lambda params be scope lp) X.env; standAt pos; pure v]) _ _ s1
      refine wpAny_evalAll_cons (wpAny_bind (lam_new I1 B hcode hq ((tb.up ex) P hP) hdef (fun y hy z => absurd z (hfree y hy)) fun f c' pm ctv H2 s2 ex2 I2 hc => wpAny_bind (wpAny_standAt (wpAny_pure (wpAny_evalAll_nil ?_)))))
      rw [hclo] at I2
      exact sort_runI (Y := Y) (me := me) (j := j) I2 (ex.trans ex2) tb (ex_l ex2 hl) ra hc hr S (hb _ _ _ _) (fun A outer s H => hbody _ c' f A outer s H) hks fun a F' H' g r => k a F' H' ((Gr.heap ex ex2).trans g) r
  · rcases bd_some h with ⟨d, e1, h⟩ | ⟨z, e1, rfl⟩
    · refine sat ρ _ e1 F0 H0 F σ H R _ fun v F' H' g rv => ?_
      split at h
      · split at h
        · rename_i ds _ ks hks
          cases h
          obtain ⟨l, xs, rfl, hl, ra⟩ := rep_lst rv
          exact ⟨l, xs, ds, ks, F', rfl, g.fh, R.tbF.up g.f, ex_l g.fh hl, ra, hks, fun a F2 H2 g2 r2 => w _ F2 H2 (g.trans g2) r2⟩
        · cases h
      · cases h
    · exact sat ρ _ e1 F0 H0 F σ H R _ w
end
end Den
set_option Elab.async false
set_option linter.all false
set_option maxRecDepth 100000
set_option maxHeartbeats 4000000
namespace Den
open PySem PySem.Spec PyProof.Rows L2
/-! ### a text's methods with one argument or none; join -/
def dSm (g : Str → D → Option D) (mo me : Env → M) : Env → M := fun ρ => bd (mo ρ) fun x => match x with
  | .str a => bd (me ρ) fun y => lift (g a y)
  | _ => none
@[simp] theorem c_sm {g : Str → D → Option D} {mo me : Env → M} {ρ : Env} : dSm g mo me ρ = bd (mo ρ) fun x => match x with
  | .str a => bd (me ρ) fun y => lift (g a y)
  | _ => none := rfl
def dSm0 (g : Str → Option D) (mo : Env → M) : Env → M := fun ρ => bd (mo ρ) fun x => match x with
  | .str a => lift (g a)
  | _ => none
@[simp] theorem c_sm0 {g : Str → Option D} {mo : Env → M} {ρ : Env} : dSm0 g mo ρ = bd (mo ρ) fun x => match x with
  | .str a => lift (g a)
  | _ => none := rfl
def joinS (a : Str) (ds : List D) : Option D := match strsOf ds with
  | some ys => if (ys.map (·.length)).sum + ys.length * a.length ≤ 16777216 then some (.str (Txt.join a ys)) else none
  | none => none
def joinD (a : Str) : D → Option D
  | .lst ds => joinS a ds
  | .tup ds => joinS a ds
  | _ => none
variable [Named]
section
variable {Y : Cfg} {X : Cx} {W : WX} {o e : Expr} {mo me : Env → M} {apos pos : Pos}
theorem repl_strs {K : PySem.W.Frag} {Y : Core} {F : Hp} : ∀ {ds : List D} {ys : List Str} {xs : List V}, strsOf ds = some ys → RepL K Y F xs ds → xs = ys.map V.str
  | [], ys, xs, h, r => by
    cases h
    cases r
    rfl
  | .str s :: ds, ys, xs, h, r => by
    unfold strsOf at h
    cases hs : strsOf ds with
    | none => rw [hs] at h; cases h
    | some zs =>
      rw [hs] at h
      cases h
      cases r with
      | cons r1 r2 =>
        cases r1
        rw [repl_strs hs r2]
        rfl
  | .int _ :: _, _, _, h, _ => by cases h
  | .bl _ :: _, _, _, h, _ => by cases h
  | .non :: _, _, _, h, _ => by cases h
  | .tup _ :: _, _, _, h, _ => by cases h
  | .lst _ :: _, _, _, h, _ => by cases h
  | .dic _ _ :: _, _, _, h, _ => by cases h
  | .obj _ _ :: _, _, _, h, _ => by cases h
/-- from a text and data to data -/
def rSm (Y : Core) (K : PySem.W.Frag) (g : Str → D → Option D) : V → List V → Hp → VK → Prop := fun x xs H Q => ∃ F a y d z, Ex F H ∧ x = .str a ∧ xs = [y] ∧ Rep K Y F y d ∧ g a d = some z ∧ ∀ v F' H', Gr F H F' H' → Rep K Y F' v z → Q v H'
theorem ge_sm {id : String} {name : Str} {g : Str → D → Option D} (slot : Slot "str" name id) (ty : typeOf (.builtin id) = pure (.type "method_descriptor")) (rule : MtR X id (rSm Y X.K g)) (ho : GE Y X W o mo) (he : GE Y X W e me)
    (hs : starEach [e] X.env = [(false, eval e X.env)] := by rfl) (hbase : attributeBase o name X.env (eval o X.env) = eval o X.env := by rfl) (hline : (apos.endLine == pos.line) = true := by rfl) : GE Y X W (.Call (.Attribute o name apos) [e] [] pos) (dSm g mo me) := by
  obtain ⟨to, po, so⟩ := ho
  obtain ⟨te, pe, se⟩ := he
  refine ⟨_, pe_m1 slot ty rule po pe hs hbase hline, fun ρ r h F0 H0 F σ H R Q w => ?_⟩
  unfold dSm at h
  rcases bd_some h with ⟨d, e1, h⟩ | ⟨x, e1, rfl⟩
  · refine so ρ _ e1 F0 H0 F σ H R _ fun v F1 H1 g1 q1 => ?_
    split at h
    · rename_i a
      obtain rfl := rep_str q1
      refine ⟨⟨a, rfl⟩, ?_⟩
      rcases bd_some h with ⟨d2, e2, h⟩ | ⟨x, e2, rfl⟩
      · refine se ρ _ e2 F0 H0 F1 σ H1 (R.grow g1) _ fun u F2 H2 g2 q2 => ?_
        obtain ⟨z, e3, rfl⟩ := lift_some h
        exact ⟨F2, a, u, d2, z, g2.fh, rfl, rfl, q2, e3, fun v' F' H' g3 q3 => w v' F' H' ((g1.trans g2).trans g3) q3⟩
      · exact se ρ _ e2 F0 H0 F1 σ H1 (R.grow g1) _ (w.exc g1)
    · cases h
  · exact so ρ _ e1 F0 H0 F σ H R _ (w.exc (Gr.refl R.ex))
theorem mt_joinD : MtR X "str.join" (rSm Y X.K joinD) := by
  intro pins s σ H x xs v us Q I rx rs h
  obtain ⟨F, a, y, d, z, ex, rfl, rfl, ry, hg, k⟩ := h
  have fin : ∀ ys : List Str, ∀ p, y = .ref p → (SqL X.K H p (ys.map V.str) ∨ SqT X.K H p (ys.map V.str)) → (ys.map (·.length)).sum + ys.length * a.length ≤ 16777216 → z = .str (Txt.join a ys) → wpAny (model X.prog X.w) X.A (call (.builtin "str.join") (v :: us)) (EP X pins σ Q) X.xe s := fun ys p e1 e2 e3 e4 => by
    subst e1 e4
    exact mt_join pins s σ H _ _ v us Q I rx rs ⟨a, p, ys, rfl, rfl, e2, e3, k _ F H (Gr.refl ex) (.str _)⟩
  have go : ∀ ds : List D, joinS a ds = some z → ∃ ys, strsOf ds = some ys ∧ (ys.map (·.length)).sum + ys.length * a.length ≤ 16777216 ∧ z = .str (Txt.join a ys) := fun ds h => by
    unfold joinS at h
    split at h
    · rename_i ys hys
      split at h
      · rename_i hz
        cases h
        exact ⟨ys, hys, hz, rfl⟩
      · cases h
    · cases h
  cases d with
  | lst ds =>
    obtain ⟨ys, h1, h2, h3⟩ := go ds hg
    obtain ⟨p, xs, e, hl, ra⟩ := rep_lst ry
    cases repl_strs h1 ra
    exact fin ys p e (.inl (ex_l ex hl)) h2 h3
  | tup ds =>
    obtain ⟨ys, h1, h2, h3⟩ := go ds hg
    obtain ⟨p, xs, e, hl, ra⟩ := rep_tup ry
    cases repl_strs h1 ra
    exact fin ys p e (.inr (ex_t ex hl)) h2 h3
  | _ => cases hg
theorem ge_join (ho : GE Y X W o mo) (he : GE Y X W e me) (hs : starEach [e] X.env = [(false, eval e X.env)] := by rfl) (hbase : attributeBase o "join" X.env (eval o X.env) = eval o X.env := by rfl) (hline : (apos.endLine == pos.line) = true := by rfl) :
    GE Y X W (.Call (.Attribute o "join" apos) [e] [] pos) (dSm joinD mo me) := ge_sm PySem.F.slot_str_join PySem.F.type_str_join mt_joinD ho he hs hbase hline
end
end Den
set_option Elab.async false
set_option linter.all false
set_option maxRecDepth 100000
set_option maxHeartbeats 4000000
namespace Den
open PySem PySem.Spec PyProof.Rows L2
/-! ### a list's methods with one argument: l.count(x), l.index(x) of data -/
def cntLD (l x : D) : Option D := match l with
  | .lst ds => if shD x = true ∧ shD (.lst ds) = true then some (.int (((D.pys ds).countP fun z => PyData.eqv z x.py : Nat) : Int)) else none
  | _ => none
def idxLD (l x : D) : Option D := match l with
  | .lst ds => if shD x = true ∧ shD (.lst ds) = true then ((D.pys ds).findIdx? fun z => PyData.eqv z x.py).map fun j => .int (j : Int) else none
  | _ => none
def dLm (g : D → D → Option D) (mo me : Env → M) : Env → M := fun ρ => bd (mo ρ) fun x => match x with
  | .lst ds => bd (me ρ) fun y => lift (g (.lst ds) y)
  | _ => none
@[simp] theorem c_lm {g : D → D → Option D} {mo me : Env → M} {ρ : Env} : dLm g mo me ρ = bd (mo ρ) fun x => match x with
  | .lst ds => bd (me ρ) fun y => lift (g (.lst ds) y)
  | _ => none := rfl
theorem hu65S {k : Nat} {A : Around} {v : Option Value} (r : Room k A) : (A.mark v).units + 65 < cLine := by
  have := r.un
  show A.units + 65 < cLine
  omega
variable [Named]
section
variable {Y : Cfg} {X : Cx} {W : WX} {o e : Expr} {mo me : Env → M} {apos pos : Pos}
/-- from a list and data to data -/
def rLm (Y : Core) (K : PySem.W.Frag) (g : D → D → Option D) : V → List V → Hp → VK → Prop := fun x xs H Q => ∃ F ds y d z, Ex F H ∧ Rep K Y F x (.lst ds) ∧ xs = [y] ∧ Rep K Y F y d ∧ g (.lst ds) d = some z ∧ ∀ v F' H', Gr F H F' H' → Rep K Y F' v z → Q v H'
theorem ge_lm {id : String} {name : Str} {g : D → D → Option D} (slot : Slot "list" name id) (ty : typeOf (.builtin id) = pure (.type "method_descriptor")) (rule : MtR X id (rLm Y X.K g)) (ho : GE Y X W o mo) (he : GE Y X W e me)
    (hbase : attributeBase o name X.env (eval o X.env) = eval o X.env := by rfl)
    (hfew : ((backTo pos (starEach [e] X.env)).all (fun x => !x.1) && (backToKw pos (keywordEach [] X.env)).all (fun x => x.1.isSome)
      && decide (([e] : List Expr).length + ([] : List Keyword).length + (if ([] : List Keyword).isEmpty then 0 else 1) < 30)) = true := by rfl)
    (hline : (apos.endLine == pos.line) = true := by rfl) (hs : starEach [e] X.env = (false, eval e X.env) :: starEach [] X.env := by rfl) (hplain : (backTo pos (starEach [] X.env)).any (·.1) = false := by rfl) :
    GE Y X W (.Call (.Attribute o name apos) [e] [] pos) (dLm g mo me) := by
  obtain ⟨to, po, so⟩ := ho
  obtain ⟨te, pe, se⟩ := he
  refine ⟨_, pe_bm PySem.F.plainAttrs_list slot ty rule po (pa_cons pe pa_nil hs) hbase hfew hline hs hplain, fun ρ r h F0 H0 F σ H R Q w => ?_⟩
  unfold dLm at h
  rcases bd_some h with ⟨d, e1, h⟩ | ⟨x, e1, rfl⟩
  · refine so ρ _ e1 F0 H0 F σ H R _ fun v F1 H1 g1 q1 => ?_
    split at h
    · rename_i ds
      obtain ⟨p, xs, ev, hl, ra⟩ := rep_lst q1
      refine ⟨?_, ?_⟩
      · subst ev
        exact .inl ⟨rfl, xs, ex_l g1.fh hl⟩
      · rcases bd_some h with ⟨d2, e2, h⟩ | ⟨x, e2, rfl⟩
        · refine se ρ _ e2 F0 H0 F1 σ H1 (R.grow g1) _ fun u F2 H2 g2 q2 => ?_
          obtain ⟨z, e3, rfl⟩ := lift_some h
          exact ⟨F2, ds, u, d2, z, g2.fh, q1.mono g2.f, rfl, q2, e3, fun v' F' H' g3 q3 => w v' F' H' ((g1.trans g2).trans g3) q3⟩
        · exact se ρ _ e2 F0 H0 F1 σ H1 (R.grow g1) _ (w.exc g1)
    · cases h
  · exact so ρ _ e1 F0 H0 F σ H R _ (w.exc (Gr.refl R.ex))
theorem mt_countD (hu : X.A.units + 65 < cLine) : MtR X "list.count" (rLm Y X.K cntLD) := by
  intro pins s σ H x xs v us Q I rx rs h
  obtain ⟨F, ds, y, d, z, ex, rl, rfl, ry, hg, k⟩ := h
  unfold cntLD at hg
  dsimp only at hg
  · split at hg
    · rename_i hs
      cases hg
      have q1 : Dp X.K H x (.list (D.pys ds)) := dp_ex ex rl hs.2
      have q2 := dp_ex ex ry hs.1
      cases rs with
      | cons ruy rt =>
        rename_i uy ut
        cases rt
        obtain ⟨bs, r1⟩ := Dp.reads I _ y uy q2 ruy
        have hxs : PyData.canLayAll0 (D.pys ds) = true := SeqAt.canLay_of_shaped (d := .list (D.pys ds)) hs.2
        have hroom : X.A.units + 1 + min (PyData.depthAll (D.pys ds)) d.py.depth < cLine := by have := SeqAt.depth_of_shaped hs.1; omega
        cases q1 with
        | lst hq ha =>
          cases rx
          obtain ⟨its, rv, ⟨⟨cls, dd, data, sls⟩, n, ho, hc, hdn, hdt⟩, hlen⟩ := I.list hq
          simp only at hc hdt
          subst hc hdt
          obtain ⟨as, h4⟩ := Dp.readsAll I _ _ its ha rv
          have hmap : its.map (SeqAt.readOf s.heap) = D.pys ds := SeqAt.readsAll_map _ its as hxs h4
          refine call_meets PySem.F.slot_list_count ⟨_, ho, rfl⟩ PySem.F.entry_list_count (PySem.F.args_list_count_2 _ _)
            (SeqAt.list_countAt _ its.toArray n dd sls uy (fun u => PyData.eqv (SeqAt.readOf s.heap u) d.py)) ⟨ho, SeqAt.items_eqAt (vs := its.toArray) (show ReadsAll s.heap its.toArray.toList (D.pys ds) as from h4) r1 hxs (SeqAt.canLay_of_shaped hs.1) hroom, ?_⟩
          refine ⟨.int _, H, I.tok _, ⟨s.toks, ?_⟩, k _ F H (Gr.refl ex) (.int _)⟩
          rw [← hmap, List.countP_map]
          rfl
    · cases hg
theorem mt_indexLD (hu : X.A.units + 65 < cLine) : MtR X "list.index" (rLm Y X.K idxLD) := by
  intro pins s σ H x xs v us Q I rx rs h
  obtain ⟨F, ds, y, d, z, ex, rl, rfl, ry, hg, k⟩ := h
  unfold idxLD at hg
  dsimp only at hg
  · split at hg
    · rename_i hs
      cases hj : (D.pys ds).findIdx? fun z => PyData.eqv z d.py with
      | none => rw [hj] at hg; cases hg
      | some j =>
        rw [hj] at hg
        cases hg
        have q1 : Dp X.K H x (.list (D.pys ds)) := dp_ex ex rl hs.2
        have q2 := dp_ex ex ry hs.1
        obtain ⟨a, _, ev, _, _⟩ := rep_lst rl
        obtain ⟨hlt, h1, h2⟩ := List.findIdx?_eq_some_iff_getElem.mp hj
        refine mt_indexD hu pins s σ H x [y] v us Q I rx rs ⟨a, y, d.py, D.pys ds, j, (D.pys ds)[j], ev, rfl, by rw [← ev]; exact q1, q2, hs.2, hs.1, List.getElem?_eq_getElem hlt, h1, fun m z' hm hz => ?_, k _ F H (Gr.refl ex) (.int _)⟩
        obtain ⟨hml, rfl⟩ := List.getElem?_eq_some_iff.mp hz
        exact Bool.eq_false_iff.mpr (h2 m hm)
    · cases hg
theorem ge_count (hu : X.A.units + 65 < cLine) (ho : GE Y X W o mo) (he : GE Y X W e me) (hbase : attributeBase o "count" X.env (eval o X.env) = eval o X.env := by rfl)
    (hfew : ((backTo pos (starEach [e] X.env)).all (fun x => !x.1) && (backToKw pos (keywordEach [] X.env)).all (fun x => x.1.isSome)
      && decide (([e] : List Expr).length + ([] : List Keyword).length + (if ([] : List Keyword).isEmpty then 0 else 1) < 30)) = true := by rfl)
    (hline : (apos.endLine == pos.line) = true := by rfl) (hs : starEach [e] X.env = (false, eval e X.env) :: starEach [] X.env := by rfl) (hplain : (backTo pos (starEach [] X.env)).any (·.1) = false := by rfl) :
    GE Y X W (.Call (.Attribute o "count" apos) [e] [] pos) (dLm cntLD mo me) := ge_lm PySem.F.slot_list_count PySem.F.type_list_count (mt_countD hu) ho he hbase hfew hline hs hplain
theorem ge_index (hu : X.A.units + 65 < cLine) (ho : GE Y X W o mo) (he : GE Y X W e me) (hbase : attributeBase o "index" X.env (eval o X.env) = eval o X.env := by rfl)
    (hfew : ((backTo pos (starEach [e] X.env)).all (fun x => !x.1) && (backToKw pos (keywordEach [] X.env)).all (fun x => x.1.isSome)
      && decide (([e] : List Expr).length + ([] : List Keyword).length + (if ([] : List Keyword).isEmpty then 0 else 1) < 30)) = true := by rfl)
    (hline : (apos.endLine == pos.line) = true := by rfl) (hs : starEach [e] X.env = (false, eval e X.env) :: starEach [] X.env := by rfl) (hplain : (backTo pos (starEach [] X.env)).any (·.1) = false := by rfl) :
    GE Y X W (.Call (.Attribute o "index" apos) [e] [] pos) (dLm idxLD mo me) := ge_lm PySem.F.slot_list_index PySem.F.type_list_index (mt_indexLD hu) ho he hbase hfew hline hs hplain
/-! ### x = [a, ..] * n, the frame's own list -/
def dOwnRep (i : Nat) (ms : Env → ML) (mb : Env → M) : SM := fun ρ => match ms ρ with
  | some (.ok ds) => if ds.length ≤ 16777216 then match mb ρ with
    | some (.ok (.int k)) => if -9223372036854775808 ≤ k ∧ k < 9223372036854775808 ∧ ds.length * k.toNat ≤ 16777216 then some (.nx (ρ.set i (some (.own (List.replicate k.toNat ds).flatten)))) else none
    | _ => none
    else none
  | _ => none
theorem gs_ownRep (i : Nat) {x : Str} {pos' p2 q : Pos} {es : List Expr} {b : Expr} {ms : Env → ML} {mb : Env → M} (hN : X.N.Nodup) (ha : GA Y X W es ms) (hb : GE Y X W b mb) (hi : X.N[i]? = some x := by rfl) (hx : Loc X.env.scope x := by first | exact Or.inl rfl | exact Or.inr rfl)
    (hs : swapsWith (.BinOp (.List es p2) .Mult b q) (some (.Name x pos')) pos.line X.env = pure false := by rfl)
    (hf : X.fn x = true ∨ X.env.scope.names.lookup x = some .local := by first | exact .inl rfl | exact .inr rfl | assumption) : GS Y X W (.Assign [.Name x pos'] (.BinOp (.List es p2) .Mult b q) pos) (dOwnRep i ms mb) := by
  obtain ⟨ta, pa, qa⟩ := ha
  obtain ⟨tb, pb, qb⟩ := hb
  refine ⟨_, ps_set (i := i) hN hi hx (pe_op op_rep (pe_lst pa) pb) hs hf, fun ρ o h F0 H0 F σ H R D w => ?_⟩
  unfold dOwnRep at h
  split at h
  · rename_i ds e1
    split at h
    · rename_i hz
      split at h
      · rename_i k e2
        split at h
        · rename_i hk
          cases h
          refine qa ρ _ e1 F0 H0 F σ H R _ fun vs F' H' g rs => ⟨by rw [rs.len]; exact hz, fun p hp => ?_⟩
          have n := Gr.new (o := .lst vs) g.fh hp
          refine qb ρ _ e2 F0 H0 _ σ _ ((R.grow g).grow n) _ fun u F2 H2 g2 rv => ?_
          cases rv
          have hp2 : H2 p = some (.lst vs) := g2.h p _ upd_same
          refine ⟨p, k, vs, rfl, rfl, hp2, hk.1, hk.2.1, by rw [rs.len]; exact hk.2.2, fun q hq => ?_⟩
          have gg := (g.trans n).trans g2
          exact w F2 _ _ gg.f ((R.grow gg).setOwn hq ((repl_rep rs k.toNat).mono (n.f.trans g2.f)))
        · cases h
      · cases h
    · cases h
  · cases h
/-! ### x[k], x the frame's own list -/
def dOwnIx (i : Nat) (mk : Env → M) : Env → M := fun ρ => match ρ[i]? with
  | some (some (.own ds)) => bd (mk ρ) fun k => match k with
    | .int k => lift (atI ds k)
    | _ => none
  | some (some (.val d)) => bd (mk ρ) fun k => lift (ixD d k)
  | _ => none
theorem ge_ownIx (i : Nat) {x : Str} {p1 : Pos} {ix : Expr} {mk : Env → M} (hk : GE Y X W ix mk) (hN : X.N[i]? = some x := by rfl) (hv : Vis X.env.scope x := by first | exact Or.inl rfl | exact Or.inr (Or.inl rfl) | exact Or.inr (Or.inr rfl)) (hd : (x == ("__debug__" : Str)) = false := by decide)
    (hcd : (x == ("__classdict__" : Str)) = false := by decide) (hs : PlainIx ix := by intro _ _; rfl) : GE Y X W (.Subscript (.Name x p1) ix pos) (dOwnIx i mk) := by
  obtain ⟨t0, p0, q0⟩ := ge_ix (pos := pos) (ge_var (Y := Y) (W := W) (pos := p1) i hN hv hd hcd) hk hs
  obtain ⟨tk, pk, qk⟩ := hk
  refine ⟨fun σ H Q => t0 σ H Q ∨ tOp (rIxL X.K) (fun σ H Q => ∃ v, σ[i]? = some (some v) ∧ Q v H) tk σ H Q, ⟨fun pins s σ H Q I h => ?_⟩, fun ρ r h F0 H0 F σ H R Q w => ?_⟩
  · rcases h with h | h
    · exact p0.run pins s σ H Q I h
    · exact (pe_ix (r := rIxL X.K) ix_list (pe_var hN hv hd hcd) pk hs).run pins s σ H Q I h
  unfold dOwnIx at h
  split at h
  · rename_i ds ei
    right
    obtain ⟨v, vi, pp, xs, rfl, h0, fp, hp, rr⟩ := R.sl i _ ei
    refine ⟨.ref pp, vi, ?_⟩
    rcases bd_some h with ⟨d, e1, h⟩ | ⟨x, e1, rfl⟩
    · refine qk ρ _ e1 F0 H0 F σ H R _ fun y F1 H1 g1 q1 => ?_
      split at h
      · rename_i k
        obtain ⟨z, e3, rfl⟩ := lift_some h
        obtain rfl := rep_int q1
        obtain ⟨v2, vi2, pp2, xs2, rfl, h02, fp2, hp2, rr2⟩ := (R.grow g1).sl i _ ei
        rw [vi] at vi2
        cases vi2
        obtain ⟨w', hw, rw'⟩ := atI_rep rr2 e3
        exact ⟨pp, xs2, k, w', rfl, rfl, SqL.of hp2, hw, w _ F1 H1 g1 rw'⟩
      · cases h
    · exact qk ρ _ e1 F0 H0 F σ H R _ (w.exc (Gr.refl R.ex))
  · rename_i d ei
    left
    refine q0 ρ r ?_ F0 H0 F σ H R Q w
    show bd (dVar i ρ) _ = _
    have : dVar i ρ = some (.ok d) := by
      unfold dVar
      rw [ei]
    rw [this]
    exact h
  · cases h
end
end Den
set_option Elab.async false
set_option linter.all false
set_option maxRecDepth 100000
set_option maxHeartbeats 4000000
namespace Den
open PySem L2
theorem nr_par {i j : Nat} {ms : Env → ML} : NoRet (dPar i j ms) := fun ρ d z => by
  unfold dPar at z
  split at z <;> cases z
end Den
set_option Elab.async false
set_option linter.all false
set_option maxRecDepth 100000
set_option maxHeartbeats 4000000
namespace Den
open PySem L2
variable [Named]
section
variable {Y : Cfg} {X : Cx} {W : WX} {K : PySem.W.Frag} {F H : Hp} {a : Expr} {ma : Env → M} {pos p1 p2 p3 : Pos} {k : Nat}
/-! ### x[::-1] of a list -/
def revD : D → Option D
  | .lst ds => some (.lst ds.reverse)
  | _ => none
def dRev (m : Env → M) : Env → M := fun ρ => bd (m ρ) fun d => lift (revD d)
theorem ge_rev (h : GE Y X W a ma) : GE Y X W (.Subscript a (.Slice none none (some (.UnaryOp .USub (.Constant (.int 1) k p1) p2)) p3) pos) (dRev ma) := by
  obtain ⟨t, p, q⟩ := h
  refine ⟨_, pe_revL p, fun ρ r h F0 H0 F σ H R Q w => ?_⟩
  rcases bd_some h with ⟨d, e1, h⟩ | ⟨x, e1, rfl⟩
  · obtain ⟨z, e3, rfl⟩ := lift_some h
    refine q ρ _ e1 F0 H0 F σ H R _ fun v F1 H1 g1 r1 => ?_
    unfold revD at e3
    split at e3
    · cases e3
      obtain ⟨p, xs, rfl, ha, ra⟩ := rep_lst r1
      refine ⟨p, xs, rfl, (ex_l g1.fh ha), fun n hn => ?_⟩
      have gn := Gr.new (o := .lst xs.reverse) g1.fh hn
      exact w _ _ _ (g1.trans gn) (.lst (SqL.of upd_same) (ra.rev.mono gn.f))
    · cases e3
  · exact q ρ _ e1 F0 H0 F σ H R _ w
end
@[simp] theorem c_rev {m : Env → M} {ρ : Env} : dRev m ρ = bd (m ρ) fun d => lift (revD d) := rfl
@[simp] theorem c_revD {ds : List D} : revD (.lst ds) = some (.lst ds.reverse) := rfl
end Den
set_option Elab.async false
set_option linter.all false
set_option maxRecDepth 100000
set_option maxHeartbeats 4000000
namespace Den
open PySem L2
variable [Named]
section
variable {Y : Cfg} {X : Cx} {W : WX} {K : PySem.W.Frag} {o e : Expr} {mo me : Env → M} {pos apos : Pos}
/-! ### text.split(sep) -/
def splitD (a : Str) (d : D) : Option D := match d with
  | .str b => if (b.length == 0) = false ∧ a.length + 2 ≤ sizeLine then some (.lst ((Txt.split a b).map D.str)) else none
  | _ => none
theorem repL_strs {Y : Core} {F : Hp} : ∀ ys : List Str, RepL K Y F (ys.map V.str) (ys.map D.str)
  | [] => .nil
  | y :: ys => .cons (.str y) (repL_strs ys)
theorem ge_split (ho : GE Y X W o mo) (he : GE Y X W e me) (hs : starEach [e] X.env = [(false, eval e X.env)] := by rfl) (hbase : attributeBase o "split" X.env (eval o X.env) = eval o X.env := by rfl) (hline : (apos.endLine == pos.line) = true := by rfl) :
    GE Y X W (.Call (.Attribute o "split" apos) [e] [] pos) (dSm splitD mo me) := by
  obtain ⟨to, po, so⟩ := ho
  obtain ⟨te, pe, se⟩ := he
  refine ⟨_, pe_split po pe hs hbase hline, fun ρ r h F0 H0 F σ H R Q w => ?_⟩
  unfold dSm at h
  rcases bd_some h with ⟨d, e1, h⟩ | ⟨x, e1, rfl⟩
  · refine so ρ _ e1 F0 H0 F σ H R _ fun v F1 H1 g1 q1 => ?_
    split at h
    · rename_i a
      obtain rfl := rep_str q1
      refine ⟨⟨a, rfl⟩, ?_⟩
      rcases bd_some h with ⟨d2, e2, h⟩ | ⟨x, e2, rfl⟩
      · refine se ρ _ e2 F0 H0 F1 σ H1 (R.grow g1) _ fun u F2 H2 g2 q2 => ?_
        obtain ⟨z, e3, rfl⟩ := lift_some h
        unfold splitD at e3
        split at e3
        · rename_i b
          obtain rfl := rep_str q2
          split at e3
          · rename_i hb
            cases e3
            refine ⟨a, b, rfl, rfl, hb.1, hb.2, fun p hp => ?_⟩
            have gn := Gr.new (o := .lst ((Txt.split a b).map V.str)) g2.fh hp
            exact w _ _ _ ((g1.trans g2).trans gn) (.lst (SqL.of upd_same) (repL_strs _))
          · cases e3
        · cases e3
      · exact se ρ _ e2 F0 H0 F1 σ H1 (R.grow g1) _ (w.exc g1)
    · cases h
  · exact so ρ _ e1 F0 H0 F σ H R _ (w.exc (Gr.refl R.ex))
end
end Den
set_option Elab.async false
set_option linter.all false
set_option maxRecDepth 100000
set_option maxHeartbeats 4000000
namespace Den
open PySem L2
variable [Named]
/-! ### enumerate(x, k) of a list -/
def IteS (K : PySem.W.Frag) (a : Addr) (k : Int) : It := ⟨fun i H => ∃ xs x, SqL K H a xs ∧ xs[i]? = some x, fun i H v H' => ∃ T x, v = .ref T ∧ H T = none ∧ H' = upd H T (.tup [.int (k + (i : Int)), x]) ∧ ∀ xs, SqL K H a xs → xs[i]? = some x, fun i H => ∃ xs, SqL K H a xs ∧ xs.length = i⟩
theorem turn_enumS {P : Program} {w : World} {K : PySem.W.Frag} {elts : List Expr} {kk : Nat} {tpos : Pos} (a e it : Addr) (k : Int) :
    Turn P w K (.Tuple elts kk tpos) (IteS K a k) [e, it] e fun i h => (∃ old, IsEnum h e it (k + (i : Int)) old) ∧ h.IsListIter it a i ∧ e ≠ it where
  mem := List.mem_cons_self ..
  obj := fun i h st b hb => by
    obtain ⟨⟨old, he⟩, ⟨o, ho, hc, hd⟩, hne⟩ := st
    simp only [List.mem_cons, List.not_mem_nil, or_false] at hb
    rcases hb with rfl | rfl
    · exact ⟨_, he, fun v q => nomatch q⟩
    · exact ⟨o, ho, fun v q => by rw [hd] at q; cases q⟩
  keep := fun i h h' st kp => by
    obtain ⟨⟨old, he⟩, hi, hne⟩ := st
    exact ⟨⟨old, kp e (List.mem_cons_self ..) _ he⟩, hi.at fun o q => kp it (by simp) o q, hne⟩
  item := fun X hP hw hK hc i pins s σ H E I hf st hg => by
    subst hP hw hK
    obtain ⟨⟨old, he⟩, hit, hne⟩ := st
    obtain ⟨xs, x, hq, hx⟩ := hg
    obtain ⟨its, rv, p, hz⟩ := I.list hq
    obtain ⟨u, hu, ru⟩ := rv.get hx
    have hel := Heap.lt_size he
    have hil : it < s.heap.objs.size := by
      obtain ⟨o, q, _⟩ := hit
      exact Heap.lt_size q
    have hai : a ≠ it := fun z => by
      obtain ⟨o, q, c1, _⟩ := hit
      obtain ⟨o2, n2, q2, c2, _⟩ := p
      rw [z, q] at q2
      cases q2
      rw [c1] at c2
      injection c2 with c3
      exact absurd c3 (by decide)
    have hea : e ≠ a := fun z => by
      obtain ⟨o2, n2, q2, c2, _⟩ := p
      rw [← z, he] at q2
      cases q2
      injection c2 with c3
      exact absurd c3 (by decide)
    have hu' : its.toArray[i]? = some u := by rw [List.getElem?_toArray]; exact hu
    have hlt : i < its.toArray.size := by
      have := (Array.getElem?_eq_some_iff.mp hu').1
      exact this
    refine wpAny_pyNext_enum_itemC (Draws.list (show X.A.in1.handled = none from I.ok.hd hc) it a hai its.toArray) he ⟨hit, p.isList⟩ hlt hne (by simp [hne, hea]) fun y h' tk hP ho hst hT hsz hk => ?_
    have hP : its.toArray[i]? = some y := hP
    rw [hu'] at hP
    cases hP
    refine ⟨_, rfl, wpAny_letOwnedTupleGo_enum ho fun h'' he' sb => ?_⟩
    have hT2 : h''.get? s.heap.objs.size = some { cls := Value.type "tuple", data := Data.seq #[Value.int (k + (i : Int)) tk, u] } := (sb.2 s.heap.objs.size (Nat.ne_of_gt hel)).trans hT
    have new : ObjOk X.prog X.w (upd H s.heap.objs.size (.tup [V.int (k + (i : Int)), x])) h'' s.heap.objs.size (.tup [V.int (k + (i : Int)), x]) := ⟨show 2 ≤ sizeLine by decide, [Value.int (k + (i : Int)) tk, u], .cons ⟨tk, rfl⟩ (.cons ru .nil), _, hT2, rfl, ⟨0, rfl⟩⟩
    have I1 := Inv.turnedNew (t' := tk + 1) I (ch := [e, it]) (fun b ob hb q => (sb.2 b fun z => hb (by simp [z])).trans (hk b ob (fun z => hb (by simp [z])) (fun z => hb (by simp [z])) q)) hf (Nat.le_refl s.heap.objs.size) new
    refine ⟨.ref s.heap.objs.size, upd H s.heap.objs.size (.tup [V.int (k + (i : Int)), x]), I1, rfl, ⟨s.heap.objs.size, x, rfl, HOk.fresh I.hok (Nat.le_refl _), rfl, fun ys hy => ?_⟩, ⟨⟨u, ?_⟩, hst.1.at fun o q => ?_, hne⟩, fun b hb => ?_⟩
    · rw [Inv.list_inj I hy hq]; exact hx
    · rw [show k + ((i + 1 : Nat) : Int) = k + (i : Int) + 1 by omega]
      exact he'
    · rw [sb.2 it hne.symm]; exact q
    · have hb' : b < s.heap.objs.size := by
        simp only [List.mem_cons, List.not_mem_nil, or_false] at hb
        rcases hb with rfl | rfl
        · exact hel
        · exact hil
      rw [upd_ne (Nat.ne_of_lt hb')]
      exact (hf b hb).1
  done := fun X hP hw hK hc i pins s σ H E I hf st hg => by
    subst hP hw hK
    obtain ⟨⟨old, he⟩, hit, hne⟩ := st
    obtain ⟨xs, hq, hx⟩ := hg
    obtain ⟨its, rv, p, hz⟩ := I.list hq
    have hl := rv.length
    have hai : a ≠ it := fun z => by
      obtain ⟨o, q, c1, _⟩ := hit
      obtain ⟨o2, n2, q2, c2, _⟩ := p
      rw [z, q] at q2
      cases q2
      rw [c1] at c2
      injection c2 with c3
      exact absurd c3 (by decide)
    obtain ⟨f0, f1, f2, f3, f4, f5⟩ := hf it (by simp)
    have hi : i = its.toArray.size := by rw [List.size_toArray]; omega
    subst hi
    exact wpAny_pyNext_enum_endD (Draws.list (show X.A.in1.handled = none from I.ok.hd hc) it a hai its.toArray) he ⟨hit, p.isList⟩ fun h' eb => ⟨rfl, Inv.turned I (fun b o hb q => eb b o hb q) f0 f1 f3 f4 f5⟩
  self := fun A i s Q E st h => by
    obtain ⟨⟨old, he⟩, _⟩ := st
    exact wpAny_pyIter_enum he h
/-- the call with a start that is a number -/
def jEnumS (K : PySem.W.Frag) (ta : TA) : TI := fun σ H R => ta σ H fun vs H1 => ∃ a xs k, vs = [.ref a, .int k] ∧ SqL K H1 a xs ∧ -2 ^ 63 ≤ k ∧ k < 2 ^ 63 ∧ R (IteS K a k) H1
theorem pi_enumS {X : Cx} {e e2 : Expr} {ta : TA} {p pos tpos : Pos} {elts : List Expr} {kk : Nat} (hg : Gl X "enumerate") (hm : X.mg "enumerate" = none) (ha : PA X [e, e2] ta)
    (hs : starEach [e, e2] X.env = (false, eval e X.env) :: starEach [e2] X.env := by rfl) (hp : ((backTo pos (starEach [e2] X.env)).any (·.1)) = false := by rfl) :
    PI X (.Tuple elts kk tpos) (.Call (.Name "enumerate" p) [e, e2] [] pos) (jEnumS X.K ta) := by
  refine ⟨fun pins s σ H R I h => ?_⟩
  refine PyProof.Rows.Call_ (ld_blt I hg hm PyProof.Rows.boot_enumerate (PyProof.Rows.callWith_type1 (thn (ha.run pos pins s σ H _ I h) fun us s1 ⟨vs, H1, I1, r1, q1⟩ => ?_) hs hp)) rfl
  · obtain ⟨a, xs, k, rfl, hq, k0, k1, q⟩ := q1
    cases r1 with
    | cons ra rr =>
      cases rr with
      | cons rb rn =>
        cases rn
        cases ra
        obtain ⟨tk, rfl⟩ := rb
        obtain ⟨its, rv, p', hz⟩ := I1.list hq
        refine enum_begins (begins_list a its.toArray) p'.isList k0 k1 fun h' he hit hsz hk => ?_
        refine wpAny_pyIter_enum he ?_
        have I2 := I1.kept (t' := s1.toks) hk
        refine ⟨s1.heap.objs.size + 1, [s1.heap.objs.size + 1, s1.heap.objs.size], _, IteS X.K a k, H1, rfl, I2, turn_enumS a _ _ k, ⟨⟨_, by rw [show k + ((0 : Nat) : Int) = k by omega]; exact he⟩, ⟨_, hit, rfl, rfl⟩, Nat.succ_ne_self _⟩, fun b hb => ?_, q⟩
        have hb' : s1.heap.objs.size ≤ b := by
          simp only [List.mem_cons, List.not_mem_nil, or_false] at hb
          rcases hb with rfl | rfl
          · exact Nat.le_succ _
          · exact Nat.le_refl _
        have := I1.fpOk hb' (I1.hok.fresh hb')
        exact this
/-- with data -/
def iEnmS (ms : Env → ML) : Env → ML := fun ρ => match ms ρ with
  | some (.ok [.lst ds, .int k]) => if 0 ≤ k ∧ k < 1000000 then some (.ok (numD k.toNat ds)) else none
  | some (.exc x) => some (.exc x)
  | _ => none
section
variable {Y : Cfg} {X : Cx} {W : WX} {K : PySem.W.Frag} {F : Hp}
theorem walkd_enumS {p : Addr} {xs : List V} {ds : List D} {k : Nat} (hp : SqL K F p xs) (rx : RepL K Y F xs ds) : WalkD K Y F (IteS K p (k : Int)) (numD k ds) := by
  have hl : (numD k ds).length = xs.length := by rw [numD_len, ← rx.len]
  refine ⟨fun H => SqL K H p xs, fun i H v H' => ∃ T x, v = .ref T ∧ H T = none ∧ H' = upd H T (.tup [.int ((k : Int) + (i : Int)), x]) ∧ xs[i]? = some x, ?_, fun H e => (ex_l e hp), fun i H x H' hi e y F1 e1 e2 => ?_⟩
  · rw [hl]
    exact ⟨fun i H hi q => ⟨xs, xs[i], q, by simp [hi]⟩, fun H q => ⟨xs, q, rfl⟩, fun i H v H' _ q y => by
      obtain ⟨T, x, h1, h2, h3, h4⟩ := y
      exact ⟨T, x, h1, h2, h3, h4 xs q⟩⟩
  · obtain ⟨T, y1, rfl, hT, rfl, hy1⟩ := y
    obtain ⟨d, hd, rd⟩ := rx.getV hy1
    have gn := Gr.new (o := .tup [V.int ((k : Int) + (i : Int)), y1]) e2 hT
    refine ⟨_, _, numD_get hd, gn, ?_⟩
    rw [show ((k + i : Nat) : Int) = (k : Int) + (i : Int) by omega]
    exact .tup (SqT.of upd_same) (.cons (.int _) (.cons (rd.mono (e1.trans gn.f)) .nil))
theorem gi_enumS {e e2 : Expr} {p pos tpos : Pos} {elts : List Expr} {kk : Nat} {ms : Env → ML} (hg : Gl X "enumerate") (hm : X.mg "enumerate" = none) (ha : GA Y X W [e, e2] ms)
    (hs : starEach [e, e2] X.env = (false, eval e X.env) :: starEach [e2] X.env := by rfl) (hp : ((backTo pos (starEach [e2] X.env)).any (·.1)) = false := by rfl) :
    GI Y X W (.Tuple elts kk tpos) (.Call (.Name "enumerate" p) [e, e2] [] pos) (iEnmS ms) := by
  obtain ⟨t, pa, q⟩ := ha
  refine ⟨_, pi_enumS hg hm pa hs hp, fun ρ r h F0 H0 F σ H R Q w => ?_⟩
  unfold iEnmS at h
  split at h
  · rename_i ds k e1
    split at h
    · rename_i hk
      cases h
      refine q ρ _ e1 F0 H0 F σ H R _ fun vs F' H' g rs => ?_
      obtain ⟨v, u, rfl, rv, ru⟩ := repL2 rs
      obtain rfl := rep_int ru
      obtain ⟨p, xs, rfl, hp, rx⟩ := rep_lst rv
      obtain ⟨n, rfl⟩ := Int.eq_ofNat_of_zero_le hk.1
      exact ⟨p, xs, _, rfl, (ex_l g.fh hp), by omega, by omega, w _ F' H' g (walkd_enumS hp rx)⟩
    · cases h
  · rename_i x e1
    cases h
    exact q ρ _ e1 F0 H0 F σ H R _ w
  · cases h
end
@[simp] theorem c_enmS {ms : Env → ML} {ρ : Env} {ds : List D} {k : Int} (h : ms ρ = some (.ok [.lst ds, .int k])) (h0 : 0 ≤ k) (h1 : k < 1000000) : iEnmS ms ρ = some (.ok (numD k.toNat ds)) := by
  unfold iEnmS
  rw [h]
  exact if_pos ⟨h0, h1⟩
end Den
set_option Elab.async false
set_option linter.all false
set_option maxRecDepth 100000
set_option maxHeartbeats 4000000
namespace Den
open PySem L2
variable [Named]
section
variable {Y : Cfg} {X : Cx} {W : WX} {st : Stmt} {a b c : Expr} {ma mb mc : Env → M} {pos : Pos}
/-- a statement that is never reached: no word of it -/
theorem gs_none : GS Y X W st (fun _ => none) := ⟨fun _ _ _ => False, ⟨fun _ _ _ _ _ _ h => h.elim⟩, fun _ _ h => nomatch h⟩
/-! ### a if t else b as a test -/
theorem pt_if {t ta tb : TT} (hc : PT X c t) (ha : PT X a ta) (hb : PT X b tb) : PT X (.IfExp c a b pos) (fun σ H Q => t σ H fun c H1 => if c = true then ta σ H1 Q else tb σ H1 Q) := ⟨fun pins s σ H Q I h => by
  rw [PySem.isTrue.eq_3]
  refine wpAny_bind (thn (hc.run pins s σ H _ I h) fun d s1 ⟨H1, I1, q1⟩ => ?_)
  cases d with
  | true => exact ha.run pins s1 σ H1 Q I1 (by simpa using q1)
  | false => exact hb.run pins s1 σ H1 Q I1 (by simpa using q1)⟩
theorem gt_if (hc : GT Y X W c mc) (ha : GT Y X W a ma) (hb : GT Y X W b mb) : GT Y X W (.IfExp c a b pos) (dIf mc ma mb) := by
  obtain ⟨t, p, q⟩ := hc
  obtain ⟨t1, p1, q1⟩ := ha
  obtain ⟨t2, p2, q2⟩ := hb
  refine ⟨_, pt_if p p1 p2, fun ρ r h F0 H0 F σ H R Q w => ?_⟩
  rcases bd_some h with ⟨d, e1, h⟩ | ⟨x, e1, rfl⟩
  · refine q ρ _ e1 F0 H0 F σ H R _ fun b eb F' H' g => ?_
    subst eb
    cases b with
    | true =>
      show if true = true then _ else _
      rw [if_pos rfl]
      exact q1 ρ r h F0 H0 F' σ H' (R.grow g) Q (w.grow g)
    | false =>
      show if false = true then _ else _
      rw [if_neg Bool.false_ne_true]
      exact q2 ρ r h F0 H0 F' σ H' (R.grow g) Q (w.grow g)
  · exact q ρ _ e1 F0 H0 F σ H R _ w
end
end Den
set_option Elab.async false
set_option linter.all false
set_option maxRecDepth 100000
set_option maxHeartbeats 4000000
namespace Den
open PySem L2
variable [Named]
section
variable {Y : Cfg} {X : Cx}
/-! ### str(x) of a number or a text -/
def strD2 : List D → Option D
  | [.int i] => if i.natAbs.log2 < 1920 then some (.str (toString i)) else none
  | [.str a] => some (.str a)
  | _ => none
theorem cd_str2 : CallD Y X (.type "str") strD2 := by
  intro pins s σ H xs us Q I r hq
  obtain ⟨F, ds, z, ex, rs, eq, k⟩ := hq
  unfold strD2 at eq
  split at eq
  · split at eq
    · rename_i hz
      cases eq
      obtain ⟨v, rfl, q⟩ := repL1 rs
      exact call_str_int pins s σ H _ us Q I r ⟨_, by rw [rep_int q], hz, k _ F H (Gr.refl ex) (.str _)⟩
    · cases eq
  · cases eq
    obtain ⟨v, rfl, q⟩ := repL1 rs
    exact SkE.call_str_str pins s σ H _ us Q I r ⟨_, by rw [rep_str q], k _ F H (Gr.refl ex) (.str _)⟩
  · cases eq
end
end Den
set_option Elab.async false
set_option linter.all false
set_option maxRecDepth 100000
set_option maxHeartbeats 4000000
namespace Den
open PySem PySem.Spec PyProof.Rows L2
variable [Named]
section
variable {Y : Cfg} {X : Cx} {W : WX} {K : PySem.W.Frag} {e : Expr} {es : List Expr} {m : Env → M} {ms : List (Env → M)} {pos : Pos}
/-! ### f-strings of texts and numbers -/
def fmtD : D → Option D
  | .str y => if y.length ≤ 16777216 then some (.str y) else none
  | .int i => if i.natAbs.log2 < 1920 then some (.str (toString i)) else none
  | _ => none
def dFmt (m : Env → M) : Env → M := fun ρ => bd (m ρ) fun d => lift (fmtD d)
theorem ge_fmt (h : GE Y X W e m) : GE Y X W (.FormattedValue e (-1) none pos) (dFmt m) := by
  obtain ⟨t, p, q⟩ := h
  refine ⟨_, pe_fmt p, fun ρ r h F0 H0 F σ H R Q w => ?_⟩
  rcases bd_some h with ⟨d, e1, h⟩ | ⟨x, e1, rfl⟩
  · obtain ⟨z, e3, rfl⟩ := lift_some h
    refine q ρ _ e1 F0 H0 F σ H R _ fun v F1 H1 g1 r1 => ?_
    unfold fmtD at e3
    split at e3
    · rename_i y
      split at e3
      · rename_i hz
        cases e3
        exact .inl ⟨y, rep_str r1, hz, w _ F1 H1 g1 (.str y)⟩
      · cases e3
    · rename_i i
      split at e3
      · rename_i hz
        cases e3
        exact .inr ⟨i, rep_int r1, hz, w _ F1 H1 g1 (.str _)⟩
      · cases e3
    · cases e3
  · exact q ρ _ e1 F0 H0 F σ H R _ w
def dJsA : List (Env → M) → Str → Env → M
  | [], acc => fun _ => some (.ok (.str acc))
  | m :: ms, acc => fun ρ => bd (m ρ) fun d => match d with
    | .str y => if (acc ++ y).length ≤ 16777216 then dJsA ms (acc ++ y) ρ else none
    | _ => none
def dJs (ms : List (Env → M)) : Env → M := dJsA ms Str.empty
inductive GJ (Y : Cfg) (X : Cx) (W : WX) : List Expr → List (Env → M) → Prop where
  | nil : GJ Y X W [] []
  | cons {e : Expr} {es : List Expr} {m : Env → M} {ms : List (Env → M)} (h : GE Y X W e m) (r : GJ Y X W es ms) : GJ Y X W (e :: es) (m :: ms)
theorem gj_ts (h : GJ Y X W es ms) : ∃ ts, PJ X es ts ∧ ∀ acc ρ r, dJsA ms acc ρ = some r → ∀ F0 H0 F σ H, Rel X.K Y F0 H0 F σ H ρ → ∀ Q : Str → Hp → Prop, WantE Y W X.K F σ H r (fun v H' => ∀ out, v = .str out → Q out H') → tJs ts acc σ H Q := by
  induction h with
  | nil =>
    refine ⟨[], .nil, fun acc ρ r h F0 H0 F σ H R Q w => ?_⟩
    cases h
    exact w _ F H (Gr.refl R.ex) (.str acc) acc rfl
  | cons h r ih =>
    obtain ⟨t, p, q⟩ := h
    obtain ⟨ts, pj, ih⟩ := ih
    refine ⟨t :: ts, .cons p pj, fun acc ρ r h F0 H0 F σ H R Q w => ?_⟩
    unfold dJsA at h
    rcases bd_some h with ⟨d, e1, h⟩ | ⟨x, e1, rfl⟩
    · refine q ρ _ e1 F0 H0 F σ H R _ fun v F1 H1 g1 r1 => ?_
      split at h
      · rename_i y
        split at h
        · rename_i hz
          exact ⟨y, rep_str r1, hz, ih _ ρ _ h F0 H0 F1 σ H1 (R.grow g1) Q (w.grow g1)⟩
        · cases h
      · cases h
    · exact q ρ _ e1 F0 H0 F σ H R _ w
theorem ge_joined {v1 v2 : Expr} {rest : List Expr} (h : GJ Y X W (v1 :: v2 :: rest) ms) : GE Y X W (.JoinedStr (v1 :: v2 :: rest) pos) (dJs ms) := by
  obtain ⟨ts, p, q⟩ := gj_ts h
  refine ⟨_, pe_joined p, fun ρ r h F0 H0 F σ H R Q w => ?_⟩
  refine q _ ρ r h F0 H0 F σ H R _ ?_
  cases r with
  | ok d =>
    intro v F' H' g rv out e
    subst e
    exact w _ F' H' g rv
  | exc x => exact w
/-! ### x[:0:-1] of a list: all but the first, from behind -/
theorem tl_range (n : Nat) : sliceRange ((n : Int) - 1) (max (-1) (min 0 ((n : Int) - 1))) (-1) = ((List.range (n - 1)).map (1 + ·)).reverse := by
  unfold sliceRange
  have h1 : ¬ ((-1 : Int) > 0) := by decide
  by_cases h : 1 < n
  · have e0 : max (-1) (min 0 ((n : Int) - 1)) = 0 := by omega
    have e : ((n : Int) - 1 - 0 - -1 - 1) / (- -1) = ((n - 1 : Nat) : Int) := by
      rw [show (- -1 : Int) = 1 by decide, Int.ediv_one]
      omega
    have h2 : (n : Int) - 1 > 0 := by omega
    simp only [e0, h1, if_false, h2, if_true, e, Int.toNat_natCast]
    apply List.ext_getElem
    · simp
    · intro i a b
      simp at a
      rw [List.getElem_map, List.getElem_range, List.getElem_reverse, List.getElem_map, List.getElem_range]
      simp
      omega
  · have e2 : ¬ ((n : Int) - 1 > max (-1) (min 0 ((n : Int) - 1))) := by omega
    have e3 : n - 1 = 0 := by omega
    simp only [h1, if_false, e2, e3]
    simp
theorem tl_pick (items : Array Value) : slicePick items none (some 0) (some (-1)) = (items.toList.drop 1).reverse.toArray := by
  unfold slicePick
  have hb : sliceBounds none (some 0) (some (-1)) items.size = ((items.size : Int) - 1, max (-1) (min 0 ((items.size : Int) - 1)), -1) := by
    first
    | rfl
    | simp [sliceBounds]
  rw [hb]
  show ((sliceRange ((items.size : Int) - 1) (max (-1) (min 0 ((items.size : Int) - 1))) (-1)).filterMap (items[·]?)).toArray = _
  rw [tl_range, List.filterMap_reverse, pick_run, List.take_of_length_le (by rw [List.length_drop, Array.length_toList]; exact Nat.le_refl _)]
def tRevT (K : PySem.W.Frag) (te : TE) : TE := fun σ H Q => te σ H fun x H1 => ∃ a xs, x = .ref a ∧ SqL K H1 a xs ∧ ∀ p, H1 p = none → Q (.ref p) (upd H1 p (.lst (xs.drop 1).reverse))
theorem pe_revT {e : Expr} {te : TE} {k k0 : Nat} {p0 p1 p2 p3 pos : Pos} (he : PE X e te) : PE X (.Subscript e (.Slice none (some (.Constant (.int 0) k0 p0)) (some (.UnaryOp .USub (.Constant (.int 1) k p1) p2)) p3) pos) (tRevT X.K te) := by
  refine ⟨fun pins s σ H Q I h => ?_⟩
  refine Subscript_ (thn (he.run pins s σ H _ I h) fun v s1 ⟨x, H1, I1, r1, q1⟩ => ?_)
  obtain ⟨a, xs, ex, hx, q⟩ := q1
  subst ex
  cases r1
  have hst : PO X (some (.UnaryOp .USub (.Constant (.int 1) k p1) p2)) (tPart (tUn (rU fun i => .int (-i)) (tC (.int 1)))) := po_some (pe_un un_neg pe_int)
  have h0t : PO X (some (.Constant (.int 0) k0 p0)) (tPart (tC (.int 0))) := po_some pe_int
  refine wpAny_Slice (thn (po_none.run pins s1 σ H1 (fun o H2 => o = none ∧ H2 = H1) I1 ⟨rfl, rfl⟩) fun vl s2 ⟨l, H2, I2, pl, el, e2⟩ => ?_)
  subst el e2
  refine thn (h0t.run pins s2 σ H2 (fun o H3 => o = some 0 ∧ H3 = H2) I2 ⟨0, rfl, rfl, rfl⟩) fun vu s3 ⟨u, H3, I3, pu, eu, e3⟩ => ?_
  subst eu e3
  refine thn (hst.run pins s3 σ H3 (fun o H4 => o = some (-1) ∧ H4 = H3) I3 ⟨1, rfl, -1, rfl, rfl, rfl⟩) fun vs s4 ⟨o, H4, I4, ps, eo, e4⟩ => ?_
  subst eo e4
  have I5 : Inv X pins σ H4 { s4 with heap := s4.heap.push { cls := .type "slice", data := .fields #[vl, vu, vs] } } := I4.kept (t' := s4.toks) fun b ob q => Heap.get?_push_of_some _ q
  obtain ⟨its, r, ht, hz⟩ := I5.list hx
  have hlen := r.length
  show wpAny (model X.prog X.w) X.A (subscriptTail e (.Slice none (some (.Constant (.int 0) k0 p0)) (some (.UnaryOp .USub (.Constant (.int 1) k p1) p2)) p3) (.ref a) (.ref s4.heap.objs.size)) (EP X pins σ Q) X.xe { s4 with heap := s4.heap.push { cls := .type "slice", data := .fields #[vl, vu, vs] } }
  refine tail_any (ops := [.ref a, .ref s4.heap.objs.size]) ht.isList.typeIs (PySem.slot_list_getitem.lookup) ?_ (by with_unfolding_all rfl)
  refine wpAny_getItem_list_slice ht.isList (Heap.IsSliceOf.new _ vl vu vs) pl pu ps (by decide) ?_ (by rw [List.size_toArray]; omega)
  rw [tl_pick]
  refine ⟨.ref _, _, I5.laid (t' := s4.toks) (o := .lst (xs.drop 1).reverse) (fun b ob q => Heap.get?_push_of_some _ q) (Nat.le_refl _) ?_, rfl, q _ (I5.hok.fresh (Nat.le_refl _))⟩
  exact ⟨by rw [List.length_reverse, List.length_drop]; omega, _, 0, (r.drop 1).reverse, Heap.get?_push_size _ rfl⟩
def revTD : D → Option D
  | .lst ds => some (.lst (ds.drop 1).reverse)
  | _ => none
def dRevT (m : Env → M) : Env → M := fun ρ => bd (m ρ) fun d => lift (revTD d)
theorem ge_revT {a : Expr} {ma : Env → M} {k k0 : Nat} {p0 p1 p2 p3 : Pos} (h : GE Y X W a ma) : GE Y X W (.Subscript a (.Slice none (some (.Constant (.int 0) k0 p0)) (some (.UnaryOp .USub (.Constant (.int 1) k p1) p2)) p3) pos) (dRevT ma) := by
  obtain ⟨t, p, q⟩ := h
  refine ⟨_, pe_revT p, fun ρ r h F0 H0 F σ H R Q w => ?_⟩
  rcases bd_some h with ⟨d, e1, h⟩ | ⟨x, e1, rfl⟩
  · obtain ⟨z, e3, rfl⟩ := lift_some h
    refine q ρ _ e1 F0 H0 F σ H R _ fun v F1 H1 g1 r1 => ?_
    unfold revTD at e3
    split at e3
    · cases e3
      obtain ⟨p, xs, rfl, ha, ra⟩ := rep_lst r1
      refine ⟨p, xs, rfl, (ex_l g1.fh ha), fun n hn => ?_⟩
      have gn := Gr.new (o := .lst (xs.drop 1).reverse) g1.fh hn
      exact w _ _ _ (g1.trans gn) (.lst (SqL.of upd_same) ((ra.drop 1).rev.mono gn.f))
    · cases e3
  · exact q ρ _ e1 F0 H0 F σ H R _ w
end
@[simp] theorem c_revT {m : Env → M} {ρ : Env} : dRevT m ρ = bd (m ρ) fun d => lift (revTD d) := rfl
@[simp] theorem c_revTD {ds : List D} : revTD (.lst ds) = some (.lst (ds.drop 1).reverse) := rfl
@[simp] theorem c_fmt {m : Env → M} {ρ : Env} : dFmt m ρ = bd (m ρ) fun d => lift (fmtD d) := rfl
@[simp] theorem c_fmt_s {y : Str} : fmtD (.str y) = if y.length ≤ 16777216 then some (.str y) else none := rfl
@[simp] theorem c_fmt_i {i : Int} : fmtD (.int i) = if i.natAbs.log2 < 1920 then some (.str (toString i)) else none := rfl
@[simp] theorem c_js {ms : List (Env → M)} {ρ : Env} : dJs ms ρ = dJsA ms Str.empty ρ := rfl
@[simp] theorem c_jsA0 {acc : Str} {ρ : Env} : dJsA [] acc ρ = some (.ok (.str acc)) := rfl
@[simp] theorem c_jsA {m : Env → M} {ms : List (Env → M)} {acc : Str} {ρ : Env} : dJsA (m :: ms) acc ρ = bd (m ρ) fun d => match d with
    | .str y => if (acc ++ y).length ≤ 16777216 then dJsA ms (acc ++ y) ρ else none
    | _ => none := rfl
end Den
set_option Elab.async false
set_option linter.all false
set_option maxRecDepth 100000
set_option maxHeartbeats 4000000
namespace Den
open PySem PySem.Spec PyProof.Rows L2
variable [Named]
section
variable {Y : Cfg} {X : Cx} {W : WX} {K : PySem.W.Frag} {kx vx tg iter o i : Expr} {ifs : List Expr} {scope : Scope} {pos p1 p3 : Pos} {mi : Env → ML} {g : TM} {mt mk me mo : Env → M} {ma mb : Env → M} {x s : Str}
/-! ### a field of the instance that is being made -/
theorem hu1 {k : Nat} {A : Around} (r : Room k A) : A.units + 1 < cLine := by have := r.un; omega
theorem hu1S {k : Nat} {A : Around} {v : Option Value} (r : Room k A) : (A.mark v).units + 1 < cLine := by
  have := r.un
  show A.units + 1 < cLine
  omega
def dFldI (i c : Nat) (x : Str) : Env → M := fun ρ => match ρ[i]? with
  | some (some (.ins c' fs)) => if c' = c then lift (fs.lookup x) else none
  | _ => none
theorem ins_fld {Y : Core} {F : Hp} : ∀ {fs : List (Str × D)} {xs : List (Str × V)} {x : Str} {d : D}, xs.map (·.1) = fs.map (·.1) → RepL K Y F (xs.map (·.2)) (fs.map (·.2)) → fs.lookup x = some d → ∃ v, xs.lookup x = some v ∧ Rep K Y F v d
  | [], [], x, d, _, _, h => by cases h
  | [], _ :: _, _, _, e, _, _ => by cases e
  | _ :: _, [], _, _, e, _, _ => by cases e
  | (n, d0) :: fs, (n', v0) :: xs, x, d, e, r, h => by
    simp only [List.map_cons, List.cons.injEq] at e
    obtain ⟨rfl, e⟩ := e
    rw [List.map_cons, List.map_cons] at r
    cases r with
    | cons a r =>
      rw [List.lookup_cons] at h ⊢
      by_cases hx : (x == n') = true
      · simp only [hx] at h ⊢
        cases h
        exact ⟨_, rfl, a⟩
      · have hx' : (x == n') = false := by simpa using hx
        simp only [hx'] at h ⊢
        exact ins_fld e r h
theorem ge_fldI (i c : Nat) (hc : Cls X.K (Y.cl c)) (hn : NoAttr X.K (Y.cl c) x) (hN : X.N[i]? = some s := by rfl) (hv : Vis X.env.scope s := by first | exact Or.inl rfl | exact Or.inr (Or.inl rfl) | exact Or.inr (Or.inr rfl)) (hd : (s == ("__debug__" : Str)) = false := by decide) (hcd : (s == ("__classdict__" : Str)) = false := by decide)
    (hb : attributeBase (.Name s p1) x X.env (eval (.Name s p1) X.env) = eval (.Name s p1) X.env := by rfl) : GE Y X W (.Attribute (.Name s p1) x pos) (dFldI i c x) := by
  refine ⟨_, pe_fld (pe_var hN hv hd hcd) hb, fun ρ r h F0 H0 F σ H R Q w => ?_⟩
  unfold dFldI at h
  split at h
  · rename_i c' fs e
    split at h
    · rename_i hcc
      subst hcc
      obtain ⟨d, e1, rfl⟩ := lift_some h
      obtain ⟨v, hv, dx, xs, rfl, _, _, hh, rf⟩ := R.sl i _ e
      obtain ⟨u, hu, ru⟩ := ins_fld rf.1 rf.2 e1
      exact ⟨_, hv, Y.self, _, dx, xs, u, rfl, hh, hc, hn, hu, w u F H (Gr.refl R.ex) ru⟩
    · cases h
  · cases h
/-! ### {k: v for ..}, text keys that differ -/
def prsK : List D → Option (List Key × List D)
  | [] => some ([], [])
  | .tup [.str s, d] :: xs => match prsK xs with
    | some (ks, ds) => some (.inr s :: ks, d :: ds)
    | none => none
  | _ => none
def dPr (mk me : Env → M) : Env → M := fun ρ => bd (mk ρ) fun k => bd (me ρ) fun v => some (.ok (.tup [k, v]))
def dDc (vs : List Nat) (mi : Env → ML) (g : TM) (mt mk me : Env → M) : Env → M := fun ρ => match mi ρ with
  | some (.ok ds) => if ds.length < sizeLine then match compD g mt (dPr mk me) (wipeE ρ vs) ds with
    | some xs => match prsK xs with
      | some (ks, es) => if ks.Nodup then some (.ok (.dic ks es)) else none
      | none => none
    | none => none
    else none
  | some (.exc x) => some (.exc x)
  | none => none
theorem valV_zip {κ : Type} [DecidableEq κ] {k : κ} : ∀ {ks : List κ} {vs : List V}, k ∉ ks → valV (ks.zip vs) k = none
  | [], _, _ => by rw [List.zip_nil_left]; exact valV_nil
  | _ :: _, [], _ => by rw [List.zip_nil_right]; exact valV_nil
  | j :: ks, v :: vs, h => by
    rw [List.zip_cons_cons, valV_neg (fun z => h (by rw [← z]; exact List.mem_cons_self ..))]
    exact valV_zip fun z => h (List.mem_cons_of_mem _ z)
theorem sat_dc {js vs : List Nat} (hj : ∀ j ∈ js, j ∈ vs) : ∀ ρ r, dDc vs mi g mt mk me ρ = some r → ∀ F0 H0 F σ H, Rel K Y F0 H0 F σ H ρ → ∀ Q : VK, WantE Y W K F σ H r Q →
    tDc (iM Y W K mi) (gM Y K js g) (tMT Y W0 K mt) (tM Y W0 K mk) (tM Y W0 K me) vs σ H Q := by
  intro ρ r h F0 H0 F σ H R Q want
  unfold dDc at h
  split at h
  · rename_i ds e1
    split at h
    · rename_i hz
      split at h
      · rename_i res e2
        split at h
        · rename_i kss ess e0
          split at h
          · rename_i hnd
            cases h
            refine ⟨F0, H0, F, ρ, _, R, e1, fun J F1 H1 g1 wk a ha => ?_⟩
            obtain ⟨G, Yf, wlk, hG, hY⟩ := wk
            have R1 := (R.grow g1).wipe vs
            let Pv : Nat → Hp → Prop := fun i H' => ∃ F' dk dv xs rest tk tv, Gr F1 H1 F' H' ∧ F' a = none ∧ H' a = some (.dK (dk.zip xs)) ∧ dk.length = xs.length ∧ RepL K Y F' xs dv ∧ dk.length ≤ i ∧ compD g mt (dPr mk me) (wipeE ρ vs) (ds.drop i) = some rest ∧ prsK rest = some (tk, tv) ∧ dk ++ tk = kss ∧ dv ++ tv = ess
            refine ⟨fun i b H' => b = ds.length - i ∧ i ≤ ds.length ∧ Pv i H', ⟨ds.length, by simp, Nat.zero_le _, F1, [], [], [], res, kss, ess, Gr.heap g1.fh (Ex.new ha), fresh_back g1.fh ha, by rw [upd_same]; rfl, rfl, .nil, Nat.le_refl _, e2, e0, rfl, rfl⟩, ?_⟩
            rintro i b H2 ⟨rfl, hi, F', dk, dv, xs, rest, tk, tv, g', fD, hDl, hlx, rx, hle, hc, hst, hk, hv⟩
            have q := hG H2 (g'.f.trans g'.fh)
            by_cases hlt : i < ds.length
            · refine .inr ⟨wlk.goes i H2 hlt q, Pv (i + 1), fun H' p' => ⟨ds.length - (i + 1), by omega, rfl, hlt, p'⟩, fun x H3 yl => ?_⟩
              obtain ⟨d, F2, hd, g2, rd⟩ := hY i H2 x H3 hlt (g'.f.trans g'.fh) (wlk.yields i H2 x H3 hlt q yl) F' g'.f g'.fh
              have hdrop : ds.drop i = d :: ds.drop (i + 1) := by
                have hl := (List.getElem?_eq_some_iff.mp hd).2
                rw [← hl]; exact List.drop_eq_getElem_cons hlt
              rw [hdrop] at hc
              have g12 := g'.trans g2
              have fD2 : F2 a = none := (g2.old _ _ hDl).trans fD
              have hD2 := g2.h _ _ hDl
              unfold compD at hc
              cases e3 : g d (wipeE ρ vs) with
              | none => rw [e3] at hc; cases hc
              | some ρ1 =>
                simp only [e3] at hc
                refine ⟨F0, H0, F2, wipeE ρ vs, d, ρ1, R1.grow g12, rd, e3, fun σ' o' R' => ⟨wipe_only o' hj, ?_⟩⟩
                cases e4 : mt ρ1 with
                | none => rw [e4] at hc; cases hc
                | some r4 =>
                  cases r4 with
                  | exc z => rw [e4] at hc; cases hc
                  | ok d4 =>
                    cases d4 with
                    | bl b4 =>
                      refine ⟨F0, H0, F2, ρ1, _, R', e4, fun b eb F4 H4 g4 => ?_⟩
                      cases eb
                      have fD4 : F4 a = none := (g4.old _ _ hD2).trans fD2
                      have hD4 := g4.h _ _ hD2
                      cases b4 with
                      | false =>
                        simp only [e4] at hc
                        exact iteF ⟨F4, dk, dv, xs, rest, tk, tv, g12.trans g4, fD4, hD4, hlx, rx.mono (g2.f.trans g4.f), by omega, hc, hst, hk, hv⟩
                      | true =>
                        simp only [e4] at hc
                        refine iteT ?_
                        cases e5 : mk ρ1 with
                        | none => simp only [dPr, e5, bd] at hc; cases hc
                        | some r5 =>
                          cases r5 with
                          | exc z => simp only [dPr, e5, bd] at hc; cases hc
                          | ok x5 =>
                            cases e6 : me ρ1 with
                            | none => simp only [dPr, e5, e6, bd] at hc; cases hc
                            | some r6 =>
                              cases r6 with
                              | exc z => simp only [dPr, e5, e6, bd] at hc; cases hc
                              | ok x6 =>
                                simp only [dPr, e5, e6, bd] at hc
                                cases e7 : compD g mt (dPr mk me) (wipeE ρ vs) (ds.drop (i + 1)) with
                                | none => rw [e7] at hc; cases hc
                                | some rest' =>
                                  rw [e7] at hc; cases hc
                                  cases x5 with
                                  | str s =>
                                    cases e8 : prsK rest' with
                                    | none => simp only [prsK, e8] at hst; cases hst
                                    | some kv =>
                                      obtain ⟨tk', tv'⟩ := kv
                                      simp only [prsK, e8] at hst
                                      cases hst
                                      refine ⟨F0, H0, F4, ρ1, _, R'.grow g4, e5, fun v F5 H5 g5 r5 => ?_⟩
                                      cases r5
                                      refine ⟨F0, H0, F5, ρ1, _, (R'.grow g4).grow g5, e6, fun u F6 H6 g6 r6 => ?_⟩
                                      have fD6 : F6 a = none := (g6.old _ _ (g5.h _ _ hD4)).trans ((g5.old _ _ hD4).trans fD4)
                                      have hD6 := g6.h _ _ (g5.h _ _ hD4)
                                      have gg := ((g12.trans g4).trans g5).trans g6
                                      have hnew : (Sum.inr s : Key) ∉ dk := fun z => by
                                        rw [← hk] at hnd
                                        exact (List.nodup_append.mp hnd).2.2 _ z _ (List.mem_cons_self ..) rfl
                                      refine ⟨dk.zip xs, .inr s, rfl, hD6, by rw [List.length_zip]; omega, F6, dk ++ [.inr s], dv ++ [x6], xs ++ [u], rest', tk', tv', ⟨gg.f, fun c u q => ?_, fun c u q => ?_, gg.old⟩, fD6, ?_, by simp [hlx], (rx.mono (((g2.f.trans g4.f).trans g5.f).trans g6.f)).append (.cons r6 .nil), by rw [List.length_append]; simp; omega, e7, e8, by rw [← hk]; simp, by rw [← hv]; simp⟩
                                      · exact (gg.fh c u q).mut (ne_of_none q fD6) (noCode hD6 fun _ z => nomatch z)
                                      · exact (gg.h c u q).mut (ne_of_none q ha) (noCode hD6 fun _ z => nomatch z)
                                      · rw [upd_same, putK_new _ (valV_zip hnew), List.zip_append hlx]
                                        rfl
                                  | _ => simp [prsK] at hst
                    | _ => rw [e4] at hc; cases hc
            · have ei : i = ds.length := by omega
              subst ei
              refine .inl ⟨wlk.stops H2 q, ?_⟩
              rw [List.drop_length] at hc
              cases hc
              cases hst
              rw [List.append_nil] at hk hv
              subst hk hv
              have gt := g1.trans g'
              have e : Ex F' (upd F' a (.dK (dk.zip xs))) := Ex.new fD
              refine want (.ref a) (upd F' a (.dK (dk.zip xs))) H2 ⟨gt.f.trans e, fun c u q => ?_, gt.h, fun c u q => ?_⟩ (.dic upd_same hlx (rx.mono e))
              · by_cases k : c = a
                · subst k; rw [upd_same] at q; cases q; exact ExO.same hDl
                · rw [upd_ne k] at q; exact gt.fh c u q
              · rw [upd_ne (ne_of_none q (fresh_back g1.h ha))]; exact gt.old c u q
          · cases h
        · cases h
      · cases h
    · cases h
  · rename_i x e1
    cases h
    exact ⟨F0, H0, F, ρ, _, R, e1, want⟩
  · cases h
theorem ge_dc {js : List Nat} (own : List (Str × Nat)) (hc : X.calm = true) (hN : X.N.Nodup) (hi : GI Y X W tg iter mi) (ok : BlkOk X.N X.env.scope scope own)
    (hg : ∀ (s : Shared) (H : Hp) (C : Addr) (cl : List (Str × Addr)) (fp : List Addr), GG Y (X.blk s H scope (compEnvC scope cl C X.env) fp) tg js g) (hj : ∀ j ∈ js, j ∈ own.map (·.2))
    (ht : ∀ (s : Shared) (H : Hp) (C : Addr) (cl : List (Str × Addr)) (fp : List Addr), GTs Y (X.blk s H scope (compEnvC scope cl C X.env) fp) ifs mt)
    (hk : ∀ (s : Shared) (H : Hp) (C : Addr) (cl : List (Str × Addr)) (fp : List Addr), GE Y (X.blk s H scope (compEnvC scope cl C X.env) fp) W0 kx mk)
    (he : ∀ (s : Shared) (H : Hp) (C : Addr) (cl : List (Str × Addr)) (fp : List Addr), GE Y (X.blk s H scope (compEnvC scope cl C X.env) fp) W0 vx me) (hs : ∀ x, foldedSetIterable iter X.env x = pure x := by intro _; rfl) :
    GE Y X W (.DictComp kx vx [⟨tg, iter, ifs, 0⟩] scope pos) (dDc (own.map (·.2)) mi g mt mk me) :=
  ⟨_, pe_dc (g := gM Y X.K js g) (tt := tMT Y W0 X.K mt) (tk := tM Y W0 X.K mk) (tv := tM Y W0 X.K me) hc hN hi.pi ok (fun s H C cl fp => (hg s H C cl fp).pg) (fun s H C cl fp => (ht s H C cl fp).pts) (fun s H C cl fp => (hk s H C cl fp).pe) (fun s H C cl fp => (he s H C cl fp).pe) hs,
    fun ρ r h F0 H0 F σ H R Q w => sat_dc hj ρ r h F0 H0 F σ H R Q w⟩
/-! ### d[k] of a dict with text keys -/
def dgD : List Key → List D → Str → Option D
  | .inr j :: ks, d :: ds, s => if j = s then some d else dgD ks ds s
  | .inl _ :: ks, _ :: ds, s => dgD ks ds s
  | _, _, _ => none
theorem dg_val {F : Hp} {Y : Core} : ∀ {ks : List Key} {xs : List V} {ds : List D} {s : Str} {d : D}, RepL K Y F xs ds → dgD ks ds s = some d → ∃ v, valV (ks.zip xs) (.inr s) = some v ∧ Rep K Y F v d
  | [], _, _, _, _, _, h => by simp [dgD] at h
  | .inr j :: ks, _, _, s, d, .nil, h => by simp [dgD] at h
  | .inl j :: ks, _, _, s, d, .nil, h => by simp [dgD] at h
  | .inr j :: ks, _, _, s, d, .cons (v := v) (d := d0) a r, h => by
    unfold dgD at h
    rw [List.zip_cons_cons]
    by_cases e : j = s
    · rw [if_pos e] at h
      cases h
      exact ⟨v, valV_pos (by rw [e]), a⟩
    · rw [if_neg e] at h
      obtain ⟨u, hu, ru⟩ := dg_val r h
      exact ⟨u, by rw [valV_neg (fun z => e (by injection z))]; exact hu, ru⟩
  | .inl j :: ks, _, _, s, d, .cons (v := v) (d := d0) a r, h => by
    unfold dgD at h
    rw [List.zip_cons_cons]
    obtain ⟨u, hu, ru⟩ := dg_val r h
    exact ⟨u, by rw [valV_neg (fun z => by cases z)]; exact hu, ru⟩
def dDg (mo mi : Env → M) : Env → M := fun ρ => bd (mo ρ) fun x => bd (mi ρ) fun y => match x, y with
  | .dic ks ds, .str s => lift (dgD ks ds s)
  | _, _ => none
theorem ge_dget (hu : X.A.units + 1 < cLine) (ho : GE Y X W o mo) (hi : GE Y X W i ma) (hs : NoSl i := by intro _ _; rfl) : GE Y X W (.Subscript o i pos) (dDg mo ma) := by
  obtain ⟨t, p, q⟩ := ho
  obtain ⟨t2, p2, q2⟩ := hi
  refine ⟨_, pe_dget hu p p2 hs, fun ρ r h F0 H0 F σ H R Q w => ?_⟩
  rcases bd_some h with ⟨d, e1, h⟩ | ⟨x, e1, rfl⟩
  · refine q ρ _ e1 F0 H0 F σ H R _ fun v F1 H1 g1 r1 => ?_
    rcases bd_some h with ⟨d2, e2, h⟩ | ⟨x, e2, rfl⟩
    · refine q2 ρ _ e2 F0 H0 F1 σ H1 (R.grow g1) _ fun v2 F2 H2 g2 r2 => ?_
      split at h
      · rename_i ksX dsX sX _
        obtain ⟨z, e3, rfl⟩ := lift_some h
        cases r2
        cases r1 with
        | dic ha hl rx =>
          obtain ⟨u, hu2, ru⟩ := dg_val rx e3
          rename_i ad xs
          generalize ksX.zip xs = kv at *
          have ha1 : F2 ad = some (.dK kv) := g2.f _ _ ha
          have ha2 : H2 ad = some (.dK kv) := g2.fh _ _ ha1
          have h2 := DGet.k (k := .inr sX) ha2
          rw [hu2] at h2
          exact ⟨ad, u, rfl, h2, w u F2 H2 (g1.trans g2) (ru.mono g2.f)⟩
      · cases h
    · exact q2 ρ _ e2 F0 H0 F1 σ H1 (R.grow g1) _ (w.exc g1)
  · exact q ρ _ e1 F0 H0 F σ H R _ (w.exc (Gr.refl R.ex))
end
@[simp] theorem c_dg {mo mi : Env → M} {ρ : Env} : dDg mo mi ρ = bd (mo ρ) fun x => bd (mi ρ) fun y => match x, y with
  | .dic ks ds, .str s => lift (dgD ks ds s)
  | _, _ => none := rfl
end Den
set_option Elab.async false
set_option linter.all false
set_option maxRecDepth 100000
set_option maxHeartbeats 4000000
namespace Den
open PySem PySem.Spec PyProof.Rows L2
variable [Named]
section
variable {Y : Cfg} {X : Cx}
/-! ### str(x) of a number, a text or None -/
def strD3 : List D → Option D
  | [.non] => some (.str "None")
  | ds => strD2 ds
theorem call_str_non : CallR X (.type "str") (fun xs H Q => xs = [.non] ∧ Q (.str "None") H) := by
  intro pins s σ H xs us Q I r h
  obtain ⟨rfl, q⟩ := h
  obtain ⟨u, rfl, r1⟩ := vals1 r
  cases r1
  exact PySem.P.str_of_none ⟨.str _, H, I.tok _, ⟨_, rfl⟩, q⟩
theorem cd_str3 : CallD Y X (.type "str") strD3 := by
  intro pins s σ H xs us Q I r hq
  obtain ⟨F, ds, z, ex, rs, eq, k⟩ := hq
  unfold strD3 at eq
  split at eq
  · cases eq
    obtain ⟨v, rfl, q⟩ := repL1 rs
    cases q
    exact call_str_non pins s σ H _ us Q I r ⟨rfl, k _ F H (Gr.refl ex) (.str _)⟩
  · exact cd_str2 pins s σ H xs us Q I r ⟨F, ds, z, ex, rs, eq, k⟩
end
@[simp] theorem c_str3n : strD3 [.non] = some (.str "None") := rfl
end Den
set_option Elab.async false
set_option linter.all false
set_option maxRecDepth 100000
set_option maxHeartbeats 8000000
namespace My
open PySem L2 Den
instance : Named := ⟨fun _ => "", []⟩
def topS (i : Nat) : Stmt := PySem.Challenge.pw_cushioned_k08_texts_of_no_setup.main.body.getD i (.Pass ⟨0, 0, 0, 0⟩)
abbrev s_law_row : Stmt := (topS 36)
abbrev N_law_row : List Str := ["cell", "many", "row", "rest", "mixed", "k"]
theorem sc_law_row : FnScope N_law_row ["cell", "many"] (defScope s_law_row) := ⟨rfl, rfl, rfl, by decide +kernel, rfl, by decide +kernel, by decide +kernel⟩
abbrev s_law_numbers : Stmt := (topS 37)
abbrev N_law_numbers : List Str := ["script", "many", "cells", "each", "numbers", "cell", "number"]
theorem sc_law_numbers : FnScope N_law_numbers ["script", "many"] (defScope s_law_numbers) := ⟨rfl, rfl, rfl, by decide +kernel, rfl, by decide +kernel, by decide +kernel⟩
abbrev s_law_big : Stmt := (topS 38)
abbrev N_law_big : List Str := ["numbers", "at", "least", "most", "choice", "value", "k"]
theorem sc_law_big : FnScope N_law_big ["numbers", "at", "least", "most"] (defScope s_law_big) := ⟨rfl, rfl, rfl, by decide +kernel, rfl, by decide +kernel, by decide +kernel⟩
abbrev s_law_count : Stmt := (topS 42)
abbrev N_law_count : List Str := ["number", "most"]
theorem sc_law_count : FnScope N_law_count ["number", "most"] (defScope s_law_count) := ⟨rfl, rfl, rfl, by decide +kernel, rfl, by decide +kernel, by decide +kernel⟩
abbrev s_law_points : Stmt := (topS 40)
abbrev N_law_points : List Str := ["numbers", "at", "width", "height", "many", "points", "k", "point"]
theorem sc_law_points : FnScope N_law_points ["numbers", "at", "width", "height", "many"] (defScope s_law_points) := ⟨rfl, rfl, rfl, by decide +kernel, rfl, by decide +kernel, by decide +kernel⟩
abbrev s_law_parts : Stmt := (topS 43)
abbrev N_law_parts : List Str := ["numbers", "width", "height"]
theorem sc_law_parts : FnScope N_law_parts ["numbers"] (defScope s_law_parts) := ⟨rfl, rfl, rfl, by decide +kernel, rfl, by decide +kernel, by decide +kernel⟩
abbrev s_law_name : Stmt := (topS 39)
abbrev N_law_name : List Str := ["numbers", "at", "k", "chars", "prefix", "n", "place"]
theorem sc_law_name : FnScope N_law_name ["numbers", "at", "k"] (defScope s_law_name) := ⟨rfl, rfl, rfl, by decide +kernel, rfl, by decide +kernel, by decide +kernel⟩
abbrev s_law_balls : Stmt := (topS 41)
abbrev N_law_balls : List Str := ["numbers", "at", "width", "height", "many", "balls", "k", "spot", "steps", "point"]
theorem sc_law_balls : FnScope N_law_balls ["numbers", "at", "width", "height", "many"] (defScope s_law_balls) := ⟨rfl, rfl, rfl, by decide +kernel, rfl, by decide +kernel, by decide +kernel⟩
abbrev s_law_changed : Stmt := (topS 49)
abbrev N_law_changed : List Str := ["parts", "balls", "numbers", "width", "height", "pockets", "choice", "number", "value", "at", "point", "changed", "ball"]
theorem sc_law_changed : FnScope N_law_changed ["parts", "balls", "numbers"] (defScope s_law_changed) := ⟨rfl, rfl, rfl, by decide +kernel, rfl, by decide +kernel, by decide +kernel⟩
abbrev s_law_lines : Stmt := (topS 46)
abbrev N_law_lines : List Str := ["parts", "balls", "lines", "x", "y", "ball", "part"]
theorem sc_law_lines : FnScope N_law_lines ["parts", "balls"] (defScope s_law_lines) := ⟨rfl, rfl, rfl, by decide +kernel, rfl, by decide +kernel, by decide +kernel⟩
abbrev s_check_size : Stmt := (topS 22)
abbrev N_check_size : List Str := ["width", "height", "side"]
theorem sc_check_size : FnScope N_check_size ["width", "height"] (defScope s_check_size) := ⟨rfl, rfl, rfl, by decide +kernel, rfl, by decide +kernel, by decide +kernel⟩
abbrev s_Table_is_point : Stmt := (inClass (topS 21) 1)
abbrev N_Table_is_point : List Str := ["self", "point", "x", "y"]
theorem sc_Table_is_point : FnScope N_Table_is_point ["self", "point"] (defScope s_Table_is_point) := ⟨rfl, rfl, rfl, by decide +kernel, rfl, by decide +kernel, by decide +kernel⟩
abbrev s_check_pockets : Stmt := (topS 23)
abbrev N_check_pockets : List Str := ["table", "pocket"]
theorem sc_check_pockets : FnScope N_check_pockets ["table"] (defScope s_check_pockets) := ⟨rfl, rfl, rfl, by decide +kernel, rfl, by decide +kernel, by decide +kernel⟩
abbrev s_Table___init : Stmt := (inClass (topS 21) 0)
abbrev N_Table___init : List Str := ["self", "width", "height", "pockets", "pocket"]
theorem sc_Table___init : FnScope N_Table___init ["self", "width", "height", "pockets"] (defScope s_Table___init) := ⟨rfl, rfl, rfl, by decide +kernel, rfl, by decide +kernel, by decide +kernel⟩
abbrev s_law_made : Stmt := (topS 44)
abbrev N_law_made : List Str := ["parts"]
theorem sc_law_made : FnScope N_law_made ["parts"] (defScope s_law_made) := ⟨rfl, rfl, rfl, by decide +kernel, rfl, by decide +kernel, by decide +kernel⟩
abbrev s_is_integer : Stmt := (topS 14)
abbrev N_is_integer : List Str := ["part"]
theorem sc_is_integer : FnScope N_is_integer ["part"] (defScope s_is_integer) := ⟨rfl, rfl, rfl, by decide +kernel, rfl, by decide +kernel, by decide +kernel⟩
abbrev s_is_name : Stmt := (topS 13)
abbrev N_is_name : List Str := ["text", "sign"]
theorem sc_is_name : FnScope N_is_name ["text"] (defScope s_is_name) := ⟨rfl, rfl, rfl, by decide +kernel, rfl, by decide +kernel, by decide +kernel⟩
abbrev s_is_ball : Stmt := (topS 15)
abbrev N_is_ball : List Str := ["table", "ball", "name", "x", "y", "dx", "dy", "minute", "part"]
theorem sc_is_ball : FnScope N_is_ball ["table", "ball"] (defScope s_is_ball) := ⟨rfl, rfl, rfl, by decide +kernel, rfl, by decide +kernel, by decide +kernel⟩
abbrev s_check_ball : Stmt := (topS 16)
abbrev N_check_ball : List Str := ["table", "ball"]
theorem sc_check_ball : FnScope N_check_ball ["table", "ball"] (defScope s_check_ball) := ⟨rfl, rfl, rfl, by decide +kernel, rfl, by decide +kernel, by decide +kernel⟩
abbrev s_check_balls : Stmt := (topS 17)
abbrev N_check_balls : List Str := ["table", "balls", "ball"]
theorem sc_check_balls : FnScope N_check_balls ["table", "balls"] (defScope s_check_balls) := ⟨rfl, rfl, rfl, by decide +kernel, rfl, by decide +kernel, by decide +kernel⟩
abbrev s_law_due : Stmt := (topS 48)
abbrev N_law_due : List Str := ["parts", "balls", "table"]
theorem sc_law_due : FnScope N_law_due ["parts", "balls"] (defScope s_law_due) := ⟨rfl, rfl, rfl, by decide +kernel, rfl, by decide +kernel, by decide +kernel⟩
abbrev s_is_number : Stmt := (topS 32)
abbrev N_is_number : List Str := ["word", "most_digits", "sign"]
theorem sc_is_number : FnScope N_is_number ["word", "most_digits"] (defScope s_is_number) := ⟨rfl, rfl, rfl, by decide +kernel, rfl, by decide +kernel, by decide +kernel⟩
abbrev s_is_ball_line : Stmt := (topS 31)
abbrev N_is_ball_line : List Str := ["words", "_", "name", "x", "y", "dx", "dy", "minute"]
theorem sc_is_ball_line : FnScope N_is_ball_line ["words"] (defScope s_is_ball_line) := ⟨rfl, rfl, rfl, by decide +kernel, rfl, by decide +kernel, by decide +kernel⟩
abbrev s_is_line : Stmt := (topS 30)
abbrev N_is_line : List Str := ["words"]
theorem sc_is_line : FnScope N_is_line ["words"] (defScope s_is_line) := ⟨rfl, rfl, rfl, by decide +kernel, rfl, by decide +kernel, by decide +kernel⟩
abbrev s_check_form : Stmt := (topS 29)
abbrev N_check_form : List Str := ["rows", "ahead", "number", "words"]
theorem sc_check_form : FnScope N_check_form ["rows"] (defScope s_check_form) := ⟨rfl, rfl, rfl, by decide +kernel, rfl, by decide +kernel, by decide +kernel⟩
abbrev s_read_pair : Stmt := (topS 33)
abbrev N_read_pair : List Str := ["words"]
theorem sc_read_pair : FnScope N_read_pair ["words"] (defScope s_read_pair) := ⟨rfl, rfl, rfl, by decide +kernel, rfl, by decide +kernel, by decide +kernel⟩
abbrev s_read_ball : Stmt := (topS 34)
abbrev N_read_ball : List Str := ["words", "_", "name", "x", "y", "dx", "dy", "minute"]
theorem sc_read_ball : FnScope N_read_ball ["words"] (defScope s_read_ball) := ⟨rfl, rfl, rfl, by decide +kernel, rfl, by decide +kernel, by decide +kernel⟩
abbrev s_parse_setup : Stmt := (topS 28)
abbrev N_parse_setup : List Str := ["text", "rows", "line", "pockets", "row", "balls", "width", "height", "table"]
theorem sc_parse_setup : FnScope N_parse_setup ["text"] (defScope s_parse_setup) := ⟨rfl, rfl, rfl, by decide +kernel, rfl, by decide +kernel, by decide +kernel⟩
abbrev s_law_parsed : Stmt := (topS 47)
abbrev N_law_parsed : List Str := ["text", "table", "balls", "e"]
theorem sc_law_parsed : FnScope N_law_parsed ["text"] (defScope s_law_parsed) := ⟨rfl, rfl, rfl, by decide +kernel, rfl, by decide +kernel, by decide +kernel⟩
abbrev s_law : Stmt := (topS 50)
abbrev N_law : List Str := ["script", "numbers", "parts", "balls", "changed", "others", "text", "due"]
theorem sc_law : FnScope N_law ["script"] (defScope s_law) := ⟨rfl, rfl, rfl, by decide +kernel, rfl, by decide +kernel, by decide +kernel⟩
/-! the program's data -/
def fnP : Nat → List Str
  | 4 => ["width", "height", "pockets"]
  | _ => []
def k_DIGITS : D := (.str "0123456789")
def k_GREATEST_SIDE : D := (.int 1000000000000000000000000000000)
def k_LATEST_START : D := (.int 1000000000000000000000000000000)
def k_LETTERS : D := (.str "abcdefghijklmnopqrstuvwxyz")
def k_LONGEST_NAME : D := (.int 12)
def k_MOST_BALLS : D := (.int 12)
def k_MOST_POCKETS : D := (.int 12)
def k_STEPS : D := (.tup [(.int (-1)), (.int 0), (.int 1)])
def kd_NEXT_WORDS : List (Str × D) := [("", (.tup [(.str "table")])), ("table", (.tup [(.str "pocket"), (.str "ball")])), ("pocket", (.tup [(.str "pocket"), (.str "ball")])), ("ball", (.tup [(.str "ball")]))]
def kd_STEP_WORDS : List (Str × D) := [("-1", (.int (-1))), ("0", (.int 0)), ("1", (.int 1))]
/-- does a clause of the class take it? -/
def exP : Nat → Nat → Option Bool
  | 0, 2 => some false
  | 0, 1 => some false
  | 1, 2 => some false
  | 1, 1 => some true
  | 2, 2 => some true
  | 2, 1 => some false
  | 3, 2 => some false
  | 3, 1 => some false
  | _, _ => none
def kit_InvalidNotation : Nat → Option Bool
  | 0 => some false
  | 1 => some false
  | 2 => some false
  | 3 => some true
  | _ => none
/-! each def as a function of data -/
noncomputable section
def d_law_row : SM :=
 (dSeq (dOwn 2 dNil)
 (dSeq (dAsg (dCB absD (dCons (dVar 0) dNil)) (tgN 3))
 (dSeq (dAsg (dOp modD (dCB intD (dCons (dOp addD (dOp mulD (dVar 3) (dC (.int 48271))) (dC (.int 69621))) dNil)) (dC (.int 2147483647))) (tgN 4))
 (dSeq (dFor (iRg1 (dCons (dVar 1) dNil)) (tgN 5)
 (dSeq (dAsg (dOp modD (dCB intD (dCons (dOp addD (dOp mulD (dVar 4) (dC (.int 16807))) (dOp mulD (dC (.int 271)) (dOp addD (dVar 5) (dC (.int 3))))) dNil)) (dC (.int 2147483629))) (tgN 4))
 (dIfS (tst (dOp geD (dCB absD (dCons (dVar 0) dNil)) (dOp powD (dC (.int 10)) (dC (.int 18)))))
 (dSeq (dApp 2 (dOp modD (dCB intD (dCons (dVar 3) dNil)) (dC (.int 1009))))
 (dAsg (dOp divD (dVar 3) (dC (.int 1009))) (tgN 3)))
 (dApp 2 (dOp modD (dCB intD (dCons (dOp divD (dVar 4) (dC (.int 7))) dNil)) (dC (.int 1009)))))))
 (dFrz 2 (dRet (dVar 2)))))))
def m_law_row : Mn := runD N_law_row 2 d_law_row
def d_law_numbers : SM :=
 (dSeq (dAsg (dCut (dVar 0) oNone (oSome (dC (.int 63)))) (tgN 2))
 (dSeq (dAsg (dOp addD (dC (.int 1)) (dOp divD (dVar 1) (dCB maxD (dCons (dC (.int 1)) (dCons (dCB lenD (dCons (dVar 2) dNil)) dNil))))) (tgN 3))
 (dSeq (dOwn 4 dNil)
 (dSeq (dFor (iSeq (dVar 2)) (tgN 5)
 (dFor (iSeq (dCall m_law_row [] (dCons (dVar 5) (dCons (dVar 3) dNil)))) (tgN 6)
 (dApp 4 (dVar 6))))
 (dSeq (dWh (dPeek 4 (tst (dOp ltD (dCB lenD (dCons (dVar 4) dNil)) (dVar 1))))
 (dApp 4 (dC (.int 0))))
 (dFrz 4 (dRet (dCut (dVar 4) oNone (oSome (dVar 1))))))))))
def m_law_numbers : Mn := runD N_law_numbers 2 d_law_numbers
def d_law_big : SM :=
 (dSeq (dAsg (dOp modD (dCB intD (dCons (dOp ixD (dVar 0) (dVar 1)) dNil)) (dC (.int 6))) (tgN 4))
 (dSeq (dIfS (tst (dOp eqO (dVar 4) (dC (.int 0))))
 (dRet (dVar 2))
 dPass)
 (dSeq (dIfS (tst (dOp eqO (dVar 4) (dC (.int 1))))
 (dRet (dVar 3))
 dPass)
 (dSeq (dIfS (tst (dOp ltD (dVar 4) (dC (.int 4))))
 (dRet (dCB minD (dCons (dVar 3) (dCons (dOp addD (dVar 2) (dOp modD (dCB intD (dCons (dOp ixD (dVar 0) (dOp addD (dVar 1) (dC (.int 1)))) dNil)) (dC (.int 9)))) dNil))))
 dPass)
 (dSeq (dAsg (dC (.int 0)) (tgN 5))
 (dSeq (dFor (iRg1 (dCons (dC (.int 10)) dNil)) (tgN 6)
 (dAsg (dOp addD (dOp mulD (dVar 5) (dC (.int 1009))) (dCB intD (dCons (dOp ixD (dVar 0) (dOp addD (dOp addD (dVar 1) (dC (.int 1))) (dVar 6))) dNil))) (tgN 5)))
 (dRet (dOp addD (dVar 2) (dOp modD (dCB intD (dCons (dVar 5) dNil)) (dOp addD (dOp subD (dVar 3) (dVar 2)) (dC (.int 1))))))))))))
def m_law_big : Mn := runD N_law_big 4 d_law_big
def d_law_count : SM :=
 (dRet (dOp ixD (dLst (dCons (dC (.int 0)) (dCons (dVar 1) (dCons (dOp modD (dCB intD (dCons (dVar 0) dNil)) (dOp addD (dVar 1) (dC (.int 1)))) (dCons (dOp modD (dOp divD (dCB intD (dCons (dVar 0) dNil)) (dC (.int 7))) (dOp addD (dVar 1) (dC (.int 1)))) dNil))))) (dOp modD (dCB intD (dCons (dVar 0) dNil)) (dC (.int 4)))))
def m_law_count : Mn := runD N_law_count 2 d_law_count
def d_law_points : SM :=
 (dSeq (dOwn 5 dNil)
 (dSeq (dFor (iRg1 (dCons (dVar 4) dNil)) (tgN 6)
 (dSeq (dAsg (dTup (dCons (dCall m_law_big [] (dCons (dVar 0) (dCons (dOp addD (dVar 1) (dOp mulD (dC (.int 7)) (dVar 6))) (dCons (dC (.int 0)) (dCons (dVar 2) dNil))))) (dCons (dCall m_law_big [] (dCons (dVar 0) (dCons (dOp addD (dOp addD (dVar 1) (dC (.int 3))) (dOp mulD (dC (.int 7)) (dVar 6))) (dCons (dC (.int 0)) (dCons (dVar 3) dNil))))) dNil))) (tgN 7))
 (dIfS (dPeek 5 (tst (dOp niO (dVar 7) (dVar 5))))
 (dApp 5 (dVar 7))
 dPass)))
 (dFrz 5 (dRet (dVar 5)))))
def m_law_points : Mn := runD N_law_points 5 d_law_points
def d_law_parts : SM :=
 (dSeq (dAsg (dCall m_law_big [] (dCons (dVar 0) (dCons (dC (.int 14)) (dCons (dC (.int 1)) (dCons (dOp powD (dC (.int 10)) (dC (.int 30))) dNil))))) (tgN 1))
 (dSeq (dAsg (dCall m_law_big [] (dCons (dVar 0) (dCons (dC (.int 26)) (dCons (dC (.int 1)) (dCons (dOp powD (dC (.int 10)) (dC (.int 30))) dNil))))) (tgN 2))
 (dRet (dLst (dCons (dVar 1) (dCons (dVar 2) (dCons (dCall m_law_points [] (dCons (dVar 0) (dCons (dC (.int 40)) (dCons (dVar 1) (dCons (dVar 2) (dCons (dCall m_law_count [] (dCons (dOp ixD (dVar 0) (dC (.int 38))) (dCons (dC (.int 12)) dNil))) dNil)))))) dNil)))))))
def m_law_parts : Mn := runD N_law_parts 1 d_law_parts
def d_law_name : SM :=
 (dSeq (dAsg (dC (.str "abcdefghijklmnopqrstuvwxyz0123456789")) (tgN 3))
 (dSeq (dAsg (dOp ixD (dVar 3) (dOp modD (dCB intD (dCons (dOp ixD (dVar 0) (dVar 1)) dNil)) (dC (.int 26)))) (tgN 4))
 (dSeq (dFor (iRg1 (dCons (dOp modD (dCB intD (dCons (dOp ixD (dVar 0) (dOp addD (dVar 1) (dC (.int 1)))) dNil)) (dC (.int 11))) dNil)) (tgN 5)
 (dAsg (dOp addD (dVar 4) (dOp ixD (dVar 3) (dOp modD (dCB intD (dCons (dOp addD (dOp ixD (dVar 0) (dOp addD (dVar 1) (dC (.int 2)))) (dOp mulD (dVar 5) (dOp ixD (dVar 0) (dOp addD (dVar 1) (dC (.int 3)))))) dNil)) (dC (.int 36))))) (tgN 4)))
 (dSeq (dAsg (dOp addD (dC (.int 1)) (dOp modD (dCB intD (dCons (dOp ixD (dVar 0) (dOp addD (dVar 1) (dC (.int 4)))) dNil)) (dCB lenD (dCons (dVar 4) dNil)))) (tgN 6))
 (dRet (dOp addD (dOp addD (dCut (dVar 4) oNone (oSome (dVar 6))) (dOp ixD (dVar 3) (dOp modD (dCB intD (dCons (dOp addD (dOp ixD (dVar 0) (dOp addD (dVar 1) (dC (.int 5)))) (dOp mulD (dC (.int 5)) (dVar 2))) dNil)) (dC (.int 36))))) (dCut (dVar 4) (oSome (dVar 6)) oNone)))))))
def m_law_name : Mn := runD N_law_name 3 d_law_name
def d_law_balls : SM :=
 (dSeq (dOwn 5 dNil)
 (dSeq (dFor (iRg1 (dCons (dVar 4) dNil)) (tgN 6)
 (dSeq (dAsg (dOp addD (dVar 1) (dOp mulD (dC (.int 9)) (dVar 6))) (tgN 7))
 (dSeq (dAsg (dOp ixD (dLst (dCons (dTup (dCons (dC (.int 1)) (dCons (dC (.int 0)) dNil))) (dCons (dTup (dCons (dC (.int 0)) (dCons (dC (.int 1)) dNil))) (dCons (dTup (dCons (dNeg (dC (.int 1))) (dCons (dC (.int 0)) dNil))) (dCons (dTup (dCons (dC (.int 0)) (dCons (dNeg (dC (.int 1))) dNil))) (dCons (dTup (dCons (dC (.int 1)) (dCons (dC (.int 1)) dNil))) (dCons (dTup (dCons (dNeg (dC (.int 1))) (dCons (dC (.int 1)) dNil))) (dCons (dTup (dCons (dC (.int 1)) (dCons (dNeg (dC (.int 1))) dNil))) (dCons (dTup (dCons (dNeg (dC (.int 1))) (dCons (dNeg (dC (.int 1))) dNil))) dNil))))))))) (dOp modD (dCB intD (dCons (dOp ixD (dVar 0) (dVar 7)) dNil)) (dC (.int 8)))) (tgN 8))
 (dSeq (dAsg (dTup (dCons (dCall m_law_big [] (dCons (dVar 0) (dCons (dOp addD (dVar 7) (dC (.int 1))) (dCons (dC (.int 0)) (dCons (dVar 2) dNil))))) (dCons (dCall m_law_big [] (dCons (dVar 0) (dCons (dOp addD (dVar 7) (dC (.int 3))) (dCons (dC (.int 0)) (dCons (dVar 3) dNil))))) dNil))) (tgN 9))
 (dApp 5 (dOp addD (dOp addD (dOp addD (dTup (dCons (dCall m_law_name [] (dCons (dVar 0) (dCons (dC (.int 8)) (dCons (dVar 6) dNil)))) dNil)) (dVar 9)) (dVar 8)) (dTup (dCons (dCall m_law_big [] (dCons (dVar 0) (dCons (dOp addD (dVar 7) (dC (.int 5))) (dCons (dC (.int 0)) (dCons (dOp powD (dC (.int 10)) (dC (.int 30))) dNil))))) dNil))))))))
 (dFrz 5 (dRet (dVar 5)))))
def m_law_balls : Mn := runD N_law_balls 5 d_law_balls
def d_law_changed : SM :=
 (dSeq (dAsg (dVar 0) (tgSeq 3 (tgsCons (tgN 3) (tgsCons (tgN 4) (tgsCons (tgN 5) tgsNil)))))
 (dSeq (dAsg (dOp modD (dCB intD (dCons (dOp ixD (dVar 2) (dC (.int 300))) dNil)) (dC (.int 10))) (tgN 6))
 (dSeq (dAsg (dCB intD (dCons (dOp ixD (dVar 2) (dC (.int 301))) dNil)) (tgN 7))
 (dSeq (dAsg (dOp ixD (dLst (dCons (dC (.int 0)) (dCons (dC (.int 1)) (dCons (dVar 3) (dCons (dOp addD (dVar 3) (dC (.int 1))) (dCons (dVar 4) (dCons (dOp addD (dVar 4) (dC (.int 1))) (dCons (dOp powD (dC (.int 10)) (dC (.int 30))) (dCons (dOp addD (dOp powD (dC (.int 10)) (dC (.int 30))) (dC (.int 1))) dNil))))))))) (dOp modD (dVar 7) (dC (.int 8)))) (tgN 8))
 (dSeq (dIfS (tst (dOp eqO (dVar 6) (dC (.int 0))))
 (dRet (dLst (dCons (dLst (dCons (dVar 8) (dCons (dVar 4) (dCons (dVar 5) dNil)))) (dCons (dVar 1) dNil))))
 dPass)
 (dSeq (dIfS (tst (dOp eqO (dVar 6) (dC (.int 1))))
 (dRet (dLst (dCons (dLst (dCons (dVar 3) (dCons (dVar 8) (dCons (dVar 5) dNil)))) (dCons (dVar 1) dNil))))
 dPass)
 (dSeq (dIfS (tst (dOp ltD (dVar 6) (dC (.int 5))))
 (dSeq (dAsg (dOp modD (dOp divD (dVar 7) (dC (.int 8))) (dOp addD (dCB lenD (dCons (dVar 5) dNil)) (dC (.int 1)))) (tgN 9))
 (dSeq (dAsg (dOp ixD (dOp addD (dCut (dVar 5) (oSome (dVar 9)) oNone) (dLst (dCons (dTup (dCons (dC (.int 0)) (dCons (dC (.int 0)) dNil))) dNil))) (dC (.int 0))) (tgN 10))
 (dSeq (dAsg (dOp ixD (dLst (dCons (dTup (dCons (dVar 8) (dCons (dOp ixD (dVar 10) (dC (.int 1))) dNil))) (dCons (dTup (dCons (dOp ixD (dVar 10) (dC (.int 0))) (dCons (dVar 8) dNil))) (dCons (dVar 10) dNil)))) (dOp subD (dVar 6) (dC (.int 2)))) (tgN 11))
 (dRet (dLst (dCons (dLst (dCons (dVar 3) (dCons (dVar 4) (dCons (dOp addD (dOp addD (dCut (dVar 5) oNone (oSome (dVar 9))) (dLst (dCons (dVar 11) dNil))) (dCut (dVar 5) (oSome (dOp addD (dVar 9) (dOp modD (dOp divD (dVar 7) (dC (.int 100))) (dC (.int 2))))) oNone)) dNil)))) (dCons (dVar 1) dNil)))))))
 dPass)
 (dSeq (dAsg (dOp modD (dOp divD (dVar 7) (dC (.int 8))) (dOp addD (dCB lenD (dCons (dVar 1) dNil)) (dC (.int 1)))) (tgN 9))
 (dSeq (dAsg (dOp ixD (dOp addD (dCut (dVar 1) (oSome (dVar 9)) oNone) (dLst (dCons (dTup (dCons (dC (.str "zzzzz")) (dCons (dC (.int 0)) (dCons (dC (.int 0)) (dCons (dC (.int 1)) (dCons (dC (.int 0)) (dCons (dC (.int 0)) dNil))))))) dNil))) (dC (.int 0))) (tgN 12))
 (dSeq (dIfS (tst (dOp eqO (dVar 6) (dC (.int 5))))
 (dAsg (dOp addD (dOp addD (dCut (dVar 12) oNone (oSome (dC (.int 1)))) (dTup (dCons (dVar 8) dNil))) (dCut (dVar 12) (oSome (dC (.int 2))) oNone)) (tgN 12))
 dPass)
 (dSeq (dIfS (tst (dOp eqO (dVar 6) (dC (.int 6))))
 (dAsg (dOp addD (dOp addD (dCut (dVar 12) oNone (oSome (dC (.int 2)))) (dTup (dCons (dVar 8) dNil))) (dCut (dVar 12) (oSome (dC (.int 3))) oNone)) (tgN 12))
 dPass)
 (dSeq (dIfS (tst (dOp eqO (dVar 6) (dC (.int 7))))
 (dAsg (dOp addD (dOp addD (dCut (dVar 12) oNone (oSome (dC (.int 3)))) (dOp ixD (dLst (dCons (dTup (dCons (dC (.int 0)) (dCons (dC (.int 0)) dNil))) (dCons (dTup (dCons (dC (.int 0)) (dCons (dC (.int 1)) dNil))) (dCons (dTup (dCons (dNeg (dC (.int 1))) (dCons (dC (.int 0)) dNil))) dNil)))) (dOp modD (dCB intD (dCons (dOp ixD (dVar 2) (dC (.int 302))) dNil)) (dC (.int 3))))) (dCut (dVar 12) (oSome (dC (.int 5))) oNone)) (tgN 12))
 dPass)
 (dSeq (dIfS (tst (dOp eqO (dVar 6) (dC (.int 8))))
 (dAsg (dOp addD (dCut (dVar 12) oNone (oSome (dC (.int 5)))) (dTup (dCons (dVar 8) dNil))) (tgN 12))
 dPass)
 (dRet (dLst (dCons (dVar 0) (dCons (dOp addD (dOp addD (dCut (dVar 1) oNone (oSome (dVar 9))) (dLst (dCons (dVar 12) dNil))) (dCut (dVar 1) (oSome (dOp addD (dVar 9) (dOp modD (dOp divD (dVar 7) (dC (.int 100))) (dC (.int 2))))) oNone)) dNil)))))))))))))))))
def m_law_changed : Mn := runD N_law_changed 3 d_law_changed
def d_law_lines : SM :=
 (dSeq (dOwn 2 (dCons (dOp addD (dOp addD (dOp addD (dC (.str "table ")) (dCB strD2 (dCons (dOp ixD (dVar 0) (dC (.int 0))) dNil))) (dC (.str " "))) (dCB strD2 (dCons (dOp ixD (dVar 0) (dC (.int 1))) dNil))) dNil))
 (dSeq (dFor (iSeq (dOp ixD (dVar 0) (dC (.int 2)))) (tgSeq 2 (tgsCons (tgN 3) (tgsCons (tgN 4) tgsNil)))
 (dApp 2 (dOp addD (dOp addD (dOp addD (dC (.str "pocket ")) (dCB strD2 (dCons (dVar 3) dNil))) (dC (.str " "))) (dCB strD2 (dCons (dVar 4) dNil)))))
 (dSeq (dFor (iSeq (dVar 1)) (tgN 5)
 (dApp 2 (dOp addD (dC (.str "ball ")) (dSm joinD (dC (.str " ")) (dLcV (dLc [6] (iSeq (dVar 5)) (tgN 6) dYes (dCB strD2 (dCons (dVar 6) dNil))))))))
 (dFrz 2 (dRet (dVar 2))))))
def m_law_lines : Mn := runD N_law_lines 2 d_law_lines
def d_check_size : SM :=
 (dFor (iSeq (dTup (dCons (dVar 0) (dCons (dVar 1) dNil)))) (tgN 2)
 (dIfS (dNot (tst (dChn leD leD (dC (.int 1)) (dVar 2) (dC k_GREATEST_SIDE))))
 (dRaise 1)
 dPass))
def m_check_size : Mn := runD N_check_size 2 d_check_size
def d_Table_is_point : SM :=
 (dSeq (dIfS (tst (dOp neO (dCB lenD (dCons (dVar 1) dNil)) (dC (.int 2))))
 (dRet (dC (.bl false)))
 dPass)
 (dSeq (dAsg (dVar 1) (tgSeq 2 (tgsCons (tgN 2) (tgsCons (tgN 3) tgsNil))))
 (dRet (dAnd (dChn leD leD (dC (.int 0)) (dVar 2) (dFld 4 (fnP 4) "width" (dVar 0))) (dChn leD leD (dC (.int 0)) (dVar 3) (dFld 4 (fnP 4) "height" (dVar 0)))))))
def m_Table_is_point : Mn := runD N_Table_is_point 2 d_Table_is_point
def d_check_pockets : SM :=
 (dSeq (dIfS (tst (dOp gtD (dCB lenD (dCons (dFld 4 (fnP 4) "pockets" (dVar 0)) dNil)) (dC k_MOST_POCKETS)))
 (dRaise 1)
 dPass)
 (dSeq (dFor (iSeq (dFld 4 (fnP 4) "pockets" (dVar 0))) (tgN 1)
 (dIfS (dNot (tru (dMeth 4 m_Table_is_point [] (dVar 0) (dCons (dVar 1) dNil))))
 (dRaise 1)
 dPass))
 (dIfS (tst (dOp ltD (fun ρ => bd ((dFld 4 (fnP 4) "pockets" (dVar 0)) ρ) fun d => lift (lenSetD d)) (dCB lenD (dCons (dFld 4 (fnP 4) "pockets" (dVar 0)) dNil))))
 (dRaise 1)
 dPass)))
def m_check_pockets : Mn := runD N_check_pockets 1 d_check_pockets
def d_Table___init : SM :=
 (dSeq (dFldS 0 4 "width" (dVar 1))
 (dSeq (dFldS 0 4 "height" (dVar 2))
 (dSeq (dFldS 0 4 "pockets" (dCB tupleD (dCons (dLcV (dLc [4] (iSeq (dVar 3)) (tgN 4) dYes (dCB tupleD (dCons (dVar 4) dNil)))) dNil)))
 (dSeq (dDrop (dCall m_check_size [] (dCons (dVar 1) (dCons (dVar 2) dNil))))
 (dDropI fnP 0 (dCall m_check_pockets [] (dCons (dVar 0) dNil)))))))
def m_Table___init : Mn := runI fnP N_Table___init 4 4 d_Table___init
def d_law_made : SM :=
 (dRet (dCall m_Table___init [] (dCons (dOp ixD (dVar 0) (dC (.int 0))) (dCons (dOp ixD (dVar 0) (dC (.int 1))) (dCons (dCB listD (dCons (dOp ixD (dVar 0) (dC (.int 2))) dNil)) dNil)))))
def m_law_made : Mn := runD N_law_made 1 d_law_made
def d_is_integer : SM :=
 (dRet (dAnd (fun ρ => bd ((dVar 0) ρ) fun d => lift (isiD "int" d)) (dNot (fun ρ => bd ((dVar 0) ρ) fun d => lift (isiD "bool" d)))))
def m_is_integer : Mn := runD N_is_integer 1 d_is_integer
def d_is_name : SM :=
 (dSeq (dIfS (dOr (dNot (tst (dChn leD leD (dC (.int 1)) (dCB lenD (dCons (dVar 0) dNil)) (dC k_LONGEST_NAME)))) (tst (dOp niO (dOp ixD (dVar 0) (dC (.int 0))) (dC k_LETTERS))))
 (dRet (dC (.bl false)))
 dPass)
 (dRet (dCB allD (dCons (dLcV (dLc [1] (iTxt (dVar 0)) (tgN 1) dYes (dOp inO (dVar 1) (dOp addD (dC k_LETTERS) (dC k_DIGITS))))) dNil))))
def m_is_name : Mn := runD N_is_name 1 d_is_name
def d_is_ball : SM :=
 (dSeq (dIfS (tst (dOp neO (dCB lenD (dCons (dVar 1) dNil)) (dC (.int 6))))
 (dRet (dC (.bl false)))
 dPass)
 (dSeq (dAsg (dVar 1) (tgSeq 6 (tgsCons (tgN 2) (tgsCons (tgN 3) (tgsCons (tgN 4) (tgsCons (tgN 5) (tgsCons (tgN 6) (tgsCons (tgN 7) tgsNil))))))))
 (dSeq (dIfS (dOr (dNot (tru (fun ρ => bd ((dVar 2) ρ) fun d => lift (isiD "str" d)))) (dNot (tru (dCB allD (dCons (dLcV (dLc [8] (iSeq (dCut (dVar 1) (oSome (dC (.int 1))) oNone)) (tgN 8) dYes (dCall m_is_integer [] (dCons (dVar 8) dNil)))) dNil)))))
 (dRet (dC (.bl false)))
 dPass)
 (dSeq (dIfS (dOr (tst (dOp niO (dVar 5) (dC k_STEPS))) (dOr (tst (dOp niO (dVar 6) (dC k_STEPS))) (tst (dOp eqO (dTup (dCons (dVar 5) (dCons (dVar 6) dNil))) (dTup (dCons (dC (.int 0)) (dCons (dC (.int 0)) dNil)))))))
 (dRet (dC (.bl false)))
 dPass)
 (dRet (dAnd (dCall m_is_name [] (dCons (dVar 2) dNil)) (dAnd (dMeth 4 m_Table_is_point [] (dVar 0) (dCons (dTup (dCons (dVar 3) (dCons (dVar 4) dNil))) dNil)) (dChn leD leD (dC (.int 0)) (dVar 7) (dC k_LATEST_START)))))))))
def m_is_ball : Mn := runD N_is_ball 2 d_is_ball
def d_check_ball : SM :=
 (dIfS (dNot (tru (dCall m_is_ball [] (dCons (dVar 0) (dCons (dVar 1) dNil)))))
 (dRaise 2)
 dPass)
def m_check_ball : Mn := runD N_check_ball 2 d_check_ball
def d_check_balls : SM :=
 (dSeq (dFor (iSeq (dVar 1)) (tgN 2)
 (dDrop (dCall m_check_ball [] (dCons (dVar 0) (dCons (dVar 2) dNil)))))
 (dSeq (dIfS (tst (dOp gtD (dCB lenD (dCons (dVar 1) dNil)) (dC k_MOST_BALLS)))
 (dRaise 2)
 dPass)
 (dIfS (tst (dOp ltD (dLenKs [2] (iSeq (dVar 1)) (tgN 2) dYes (dOp ixD (dVar 2) (dC (.int 0)))) (dCB lenD (dCons (dVar 1) dNil))))
 (dRaise 2)
 dPass)))
def m_check_balls : Mn := runD N_check_balls 2 d_check_balls
def d_law_due : SM :=
 (dSeq (dTry exP 1 (dAsg (dCall m_law_made [] (dCons (dVar 0) dNil)) (tgN 2))
 (dRet (dC (.str "table"))))
 (dSeq (dTry exP 2 (dDrop (dCall m_check_balls [] (dCons (dVar 2) (dCons (dVar 1) dNil))))
 (dRet (dC (.str "ball"))))
 (dRet (dLst (dCons (dOp ixD (dVar 0) (dC (.int 0))) (dCons (dOp ixD (dVar 0) (dC (.int 1))) (dCons (dCB tupleD (dCons (dOp ixD (dVar 0) (dC (.int 2))) dNil)) (dCons (dVar 1) dNil))))))))
def m_law_due : Mn := runD N_law_due 2 d_law_due
def d_is_number : SM :=
 (dSeq (dIfS (tst (dOp eqO (dVar 0) (dC (.str "0"))))
 (dRet (dC (.bl true)))
 dPass)
 (dSeq (dIfS (dOr (dNot (tst (dChn leD leD (dC (.int 1)) (dCB lenD (dCons (dVar 0) dNil)) (dVar 1)))) (tst (dOp eqO (dOp ixD (dVar 0) (dC (.int 0))) (dC (.str "0")))))
 (dRet (dC (.bl false)))
 dPass)
 (dRet (dCB allD (dCons (dLcV (dLc [2] (iTxt (dVar 0)) (tgN 2) dYes (dOp inO (dVar 2) (dC k_DIGITS)))) dNil)))))
def m_is_number : Mn := runD N_is_number 2 d_is_number
def d_is_ball_line : SM :=
 (dSeq (dIfS (tst (dOp neO (dCB lenD (dCons (dVar 0) dNil)) (dC (.int 7))))
 (dRet (dC (.bl false)))
 dPass)
 (dSeq (dAsg (dVar 0) (tgSeq 7 (tgsCons (tgN 1) (tgsCons (tgN 2) (tgsCons (tgN 3) (tgsCons (tgN 4) (tgsCons (tgN 5) (tgsCons (tgN 6) (tgsCons (tgN 7) tgsNil)))))))))
 (dSeq (dIfS (dOr (tst (dKni kd_STEP_WORDS (dVar 5))) (tst (dKni kd_STEP_WORDS (dVar 6))))
 (dRet (dC (.bl false)))
 dPass)
 (dRet (dAnd (dCall m_is_name [] (dCons (dVar 2) dNil)) (dAnd (dCall m_is_number [(.int 31)] (dCons (dVar 3) dNil)) (dAnd (dCall m_is_number [(.int 31)] (dCons (dVar 4) dNil)) (dCall m_is_number [(.int 31)] (dCons (dVar 7) dNil)))))))))
def m_is_ball_line : Mn := runD N_is_ball_line 1 d_is_ball_line
def d_is_line : SM :=
 (dSeq (dIfS (tst (dOp eqO (dOp ixD (dVar 0) (dC (.int 0))) (dC (.str "ball"))))
 (dRet (dCall m_is_ball_line [] (dCons (dVar 0) dNil)))
 dPass)
 (dRet (dAnd (dOp eqO (dCB lenD (dCons (dVar 0) dNil)) (dC (.int 3))) (dAnd (dCall m_is_number [(.int 31)] (dCons (dOp ixD (dVar 0) (dC (.int 1))) dNil)) (dCall m_is_number [(.int 31)] (dCons (dOp ixD (dVar 0) (dC (.int 2))) dNil))))))
def m_is_line : Mn := runD N_is_line 1 d_is_line
def d_check_form : SM :=
 (dSeq (dAsg (dC (.str "")) (tgN 1))
 (dFor (iEnmS (dCons (dVar 0) (dCons (dC (.int 1)) dNil))) (tgSeq 2 (tgsCons (tgN 2) (tgsCons (tgN 3) tgsNil)))
 (dSeq (dIfS (dOr (tst (dOp niO (dOp ixD (dVar 3) (dC (.int 0))) (dKget kd_NEXT_WORDS (dVar 1)))) (dNot (tru (dCall m_is_line [] (dCons (dVar 3) dNil)))))
 (fun _ => none)
 dPass)
 (dAsg (dOp ixD (dVar 3) (dC (.int 0))) (tgN 1)))))
def m_check_form : Mn := runD N_check_form 1 d_check_form
def d_read_pair : SM :=
 (dRet (dTup (dCons (dCB intD (dCons (dOp ixD (dVar 0) (dC (.int 1))) dNil)) (dCons (dCB intD (dCons (dOp ixD (dVar 0) (dC (.int 2))) dNil)) dNil))))
def m_read_pair : Mn := runD N_read_pair 1 d_read_pair
def d_read_ball : SM :=
 (dSeq (dAsg (dVar 0) (tgSeq 7 (tgsCons (tgN 1) (tgsCons (tgN 2) (tgsCons (tgN 3) (tgsCons (tgN 4) (tgsCons (tgN 5) (tgsCons (tgN 6) (tgsCons (tgN 7) tgsNil)))))))))
 (dRet (dTup (dCons (dVar 2) (dCons (dCB intD (dCons (dVar 3) dNil)) (dCons (dCB intD (dCons (dVar 4) dNil)) (dCons (dKget kd_STEP_WORDS (dVar 5)) (dCons (dKget kd_STEP_WORDS (dVar 6)) (dCons (dCB intD (dCons (dVar 7) dNil)) dNil)))))))))
def m_read_ball : Mn := runD N_read_ball 1 d_read_ball
def d_parse_setup : SM :=
 (dSeq (dAsgLc 1 (dLc [2] (iSeq (dSm splitD (dVar 0) (dC (.str "\n")))) (tgN 2) dYes (dSm splitD (dVar 2) (dC (.str " ")))))
 (dSeq (dDrop (dCall m_check_form [] (dCons (dVar 1) dNil)))
 (dSeq (dAsgLc 3 (dLc [4] (iSeq (dVar 1)) (tgN 4) (tst (dOp eqO (dOp ixD (dVar 4) (dC (.int 0))) (dC (.str "pocket")))) (dCall m_read_pair [] (dCons (dVar 4) dNil))))
 (dSeq (dAsgLc 5 (dLc [4] (iSeq (dVar 1)) (tgN 4) (tst (dOp eqO (dOp ixD (dVar 4) (dC (.int 0))) (dC (.str "ball")))) (dCall m_read_ball [] (dCons (dVar 4) dNil))))
 (dSeq (dAsg (dCall m_read_pair [] (dCons (dOp ixD (dVar 1) (dC (.int 0))) dNil)) (tgSeq 2 (tgsCons (tgN 6) (tgsCons (tgN 7) tgsNil))))
 (dSeq (dAsg (dCall m_Table___init [] (dCons (dVar 6) (dCons (dVar 7) (dCons (dVar 3) dNil)))) (tgN 8))
 (dSeq (dDrop (dCall m_check_balls [] (dCons (dVar 8) (dCons (dVar 5) dNil))))
 (dRet (dTup (dCons (dVar 8) (dCons (dVar 5) dNil)))))))))))
def m_parse_setup : Mn := runD N_parse_setup 1 d_parse_setup
def d_law_parsed : SM :=
 (dSeq (dTryN exP (dAsg (dCall m_parse_setup [] (dCons (dVar 0) dNil)) (tgSeq 2 (tgsCons (tgN 1) (tgsCons (tgN 2) tgsNil))))
 [(1, 3, (dRet (dOp ixD (dLst (dCons (dC (.str "odd")) (dCons (dC (.str "table")) dNil))) (dCB intD (dCons (dNot (dIsE 3 kit_InvalidNotation)) dNil))))), (2, 3, (dRet (dOp ixD (dLst (dCons (dC (.str "odd")) (dCons (dC (.str "ball")) dNil))) (dCB intD (dCons (dNot (dIsE 3 kit_InvalidNotation)) dNil)))))])
 (dRet (dLst (dCons (dFld 4 (fnP 4) "width" (dVar 1)) (dCons (dFld 4 (fnP 4) "height" (dVar 1)) (dCons (dFld 4 (fnP 4) "pockets" (dVar 1)) (dCons (dVar 2) dNil)))))))
def m_law_parsed : Mn := runD N_law_parsed 1 d_law_parsed
def d_law_7 : SM :=
 (dRet (dAnd (dOp eqO (dCall m_law_parsed [] (dCons (dVar 6) dNil)) (dVar 7)) (dOp eqO (dCall m_law_parsed [] (dCons (dC (.str "table 0 1\nball a 9 9 1 0 0")) dNil)) (dC (.str "table")))))
def d_law_6 : SM :=
 (dSeq (dIfS (dOr (tst (dOp neO (dCall m_law_parsed [] (dCons (dVar 6) dNil)) (dVar 7))) (tst (dOp neO (dCall m_law_parsed [] (dCons (dSm joinD (dC (.str "\n")) (dCall m_law_lines [] (dCons (dVar 2) (dCons (dVar 3) dNil)))) dNil)) (dCall m_law_due [] (dCons (dVar 2) (dCons (dVar 3) dNil))))))
 (dRet (dC (.bl false)))
 dPass)
 d_law_7)
def d_law_5 : SM :=
 (dSeq (dAsg (dCall m_law_due [] (dCons (dVar 4) (dCons (dVar 5) dNil))) (tgN 7))
 d_law_6)
def d_law_4 : SM :=
 (dSeq (dAsg (dSm joinD (dC (.str "\n")) (dCall m_law_lines [] (dCons (dVar 4) (dCons (dVar 5) dNil)))) (tgN 6))
 d_law_5)
def d_law_3 : SM :=
 (dSeq (dAsg (dCall m_law_changed [] (dCons (dVar 2) (dCons (dVar 3) (dCons (dVar 1) dNil)))) (tgSeq 2 (tgsCons (tgN 4) (tgsCons (tgN 5) tgsNil))))
 d_law_4)
def d_law_2 : SM :=
 (dSeq (dAsg (dCall m_law_balls [] (dCons (dVar 1) (dCons (dC (.int 150)) (dCons (dOp ixD (dVar 2) (dC (.int 0))) (dCons (dOp ixD (dVar 2) (dC (.int 1))) (dCons (dCall m_law_count [] (dCons (dOp ixD (dVar 1) (dC (.int 149))) (dCons (dC (.int 12)) dNil))) dNil)))))) (tgN 3))
 d_law_3)
def d_law_1 : SM :=
 (dSeq (dAsg (dCall m_law_parts [] (dCons (dVar 1) dNil)) (tgN 2))
 d_law_2)
def d_law : SM :=
 (dSeq (dAsg (dCall m_law_numbers [] (dCons (dVar 0) (dCons (dC (.int 310)) dNil))) (tgN 1))
 d_law_1)
def m_law : Mn := runD N_law 1 d_law
end
/-! what the top has left -/
structure Ad where
  e_Table___init : Addr
  a_law_row : Addr
  f_law_row : FuncData
  a_law_numbers : Addr
  f_law_numbers : FuncData
  a_law_big : Addr
  f_law_big : FuncData
  a_law_count : Addr
  f_law_count : FuncData
  a_law_points : Addr
  f_law_points : FuncData
  a_law_parts : Addr
  f_law_parts : FuncData
  a_law_name : Addr
  f_law_name : FuncData
  a_law_balls : Addr
  f_law_balls : FuncData
  a_law_changed : Addr
  f_law_changed : FuncData
  a_law_lines : Addr
  f_law_lines : FuncData
  a_check_size : Addr
  f_check_size : FuncData
  a_Table_is_point : Addr
  f_Table_is_point : FuncData
  a_check_pockets : Addr
  f_check_pockets : FuncData
  a_Table___init : Addr
  f_Table___init : FuncData
  a_law_made : Addr
  f_law_made : FuncData
  a_is_integer : Addr
  f_is_integer : FuncData
  a_is_name : Addr
  f_is_name : FuncData
  a_is_ball : Addr
  f_is_ball : FuncData
  a_check_ball : Addr
  f_check_ball : FuncData
  a_check_balls : Addr
  f_check_balls : FuncData
  a_law_due : Addr
  f_law_due : FuncData
  a_is_number : Addr
  f_is_number : FuncData
  a_is_ball_line : Addr
  f_is_ball_line : FuncData
  a_is_line : Addr
  f_is_line : FuncData
  a_check_form : Addr
  f_check_form : FuncData
  a_read_pair : Addr
  f_read_pair : FuncData
  a_read_ball : Addr
  f_read_ball : FuncData
  a_parse_setup : Addr
  f_parse_setup : FuncData
  a_law_parsed : Addr
  f_law_parsed : FuncData
  a_law : Addr
  f_law : FuncData
  c_CushionedError : Addr
  c_InvalidTable : Addr
  c_InvalidBall : Addr
  c_InvalidNotation : Addr
  c_Table : Addr
  q_STEPS : Addr
  q_NEXT_WORDS : Addr
  q_STEP_WORDS : Addr
  v_is_number_1 : List Value
def coreOf (A : Ad) : Core := ⟨fun n => match n with
  | 0 => A.c_CushionedError
  | 1 => A.c_InvalidTable
  | 2 => A.c_InvalidBall
  | 3 => A.c_InvalidNotation
  | 4 => A.c_Table
  | _ => 0, fnP⟩
structure Tx (K : PySem.W.Frag) (mg : Str → Option Value) (A : Ad) : Prop where
  F_law_row : FunD K "_law_row" "_law_row" (defArgs s_law_row) (defBody s_law_row) (defScope s_law_row) [] [] A.a_law_row A.f_law_row
  g_law_row : mg "_law_row" = some (.ref A.a_law_row)
  F_law_numbers : FunD K "_law_numbers" "_law_numbers" (defArgs s_law_numbers) (defBody s_law_numbers) (defScope s_law_numbers) [] [] A.a_law_numbers A.f_law_numbers
  g_law_numbers : mg "_law_numbers" = some (.ref A.a_law_numbers)
  F_law_big : FunD K "_law_big" "_law_big" (defArgs s_law_big) (defBody s_law_big) (defScope s_law_big) [] [] A.a_law_big A.f_law_big
  g_law_big : mg "_law_big" = some (.ref A.a_law_big)
  F_law_count : FunD K "_law_count" "_law_count" (defArgs s_law_count) (defBody s_law_count) (defScope s_law_count) [] [] A.a_law_count A.f_law_count
  g_law_count : mg "_law_count" = some (.ref A.a_law_count)
  F_law_points : FunD K "_law_points" "_law_points" (defArgs s_law_points) (defBody s_law_points) (defScope s_law_points) [] [] A.a_law_points A.f_law_points
  g_law_points : mg "_law_points" = some (.ref A.a_law_points)
  F_law_parts : FunD K "_law_parts" "_law_parts" (defArgs s_law_parts) (defBody s_law_parts) (defScope s_law_parts) [] [] A.a_law_parts A.f_law_parts
  g_law_parts : mg "_law_parts" = some (.ref A.a_law_parts)
  F_law_name : FunD K "_law_name" "_law_name" (defArgs s_law_name) (defBody s_law_name) (defScope s_law_name) [] [] A.a_law_name A.f_law_name
  g_law_name : mg "_law_name" = some (.ref A.a_law_name)
  F_law_balls : FunD K "_law_balls" "_law_balls" (defArgs s_law_balls) (defBody s_law_balls) (defScope s_law_balls) [] [] A.a_law_balls A.f_law_balls
  g_law_balls : mg "_law_balls" = some (.ref A.a_law_balls)
  F_law_changed : FunD K "_law_changed" "_law_changed" (defArgs s_law_changed) (defBody s_law_changed) (defScope s_law_changed) [] [] A.a_law_changed A.f_law_changed
  g_law_changed : mg "_law_changed" = some (.ref A.a_law_changed)
  F_law_lines : FunD K "_law_lines" "_law_lines" (defArgs s_law_lines) (defBody s_law_lines) (defScope s_law_lines) [] [] A.a_law_lines A.f_law_lines
  g_law_lines : mg "_law_lines" = some (.ref A.a_law_lines)
  F_check_size : FunD K "check_size" "check_size" (defArgs s_check_size) (defBody s_check_size) (defScope s_check_size) [] [] A.a_check_size A.f_check_size
  g_check_size : mg "check_size" = some (.ref A.a_check_size)
  F_Table_is_point : FunD K "is_point" "Table.is_point" (defArgs s_Table_is_point) (defBody s_Table_is_point) (defScope s_Table_is_point) [] [] A.a_Table_is_point A.f_Table_is_point
  F_check_pockets : FunD K "check_pockets" "check_pockets" (defArgs s_check_pockets) (defBody s_check_pockets) (defScope s_check_pockets) [] [] A.a_check_pockets A.f_check_pockets
  g_check_pockets : mg "check_pockets" = some (.ref A.a_check_pockets)
  F_Table___init : FunD K "__init__" "Table.__init__" (defArgs s_Table___init) (defBody s_Table___init) (defScope s_Table___init) [V.ref A.e_Table___init] [] A.a_Table___init A.f_Table___init
  F_law_made : FunD K "_law_made" "_law_made" (defArgs s_law_made) (defBody s_law_made) (defScope s_law_made) [] [] A.a_law_made A.f_law_made
  g_law_made : mg "_law_made" = some (.ref A.a_law_made)
  F_is_integer : FunD K "is_integer" "is_integer" (defArgs s_is_integer) (defBody s_is_integer) (defScope s_is_integer) [] [] A.a_is_integer A.f_is_integer
  g_is_integer : mg "is_integer" = some (.ref A.a_is_integer)
  F_is_name : FunD K "is_name" "is_name" (defArgs s_is_name) (defBody s_is_name) (defScope s_is_name) [] [] A.a_is_name A.f_is_name
  g_is_name : mg "is_name" = some (.ref A.a_is_name)
  F_is_ball : FunD K "is_ball" "is_ball" (defArgs s_is_ball) (defBody s_is_ball) (defScope s_is_ball) [] [] A.a_is_ball A.f_is_ball
  g_is_ball : mg "is_ball" = some (.ref A.a_is_ball)
  F_check_ball : FunD K "check_ball" "check_ball" (defArgs s_check_ball) (defBody s_check_ball) (defScope s_check_ball) [] [] A.a_check_ball A.f_check_ball
  g_check_ball : mg "check_ball" = some (.ref A.a_check_ball)
  F_check_balls : FunD K "check_balls" "check_balls" (defArgs s_check_balls) (defBody s_check_balls) (defScope s_check_balls) [] [] A.a_check_balls A.f_check_balls
  g_check_balls : mg "check_balls" = some (.ref A.a_check_balls)
  F_law_due : FunD K "_law_due" "_law_due" (defArgs s_law_due) (defBody s_law_due) (defScope s_law_due) [] [] A.a_law_due A.f_law_due
  g_law_due : mg "_law_due" = some (.ref A.a_law_due)
  F_is_number : FunD K "is_number" "is_number" (defArgs s_is_number) (defBody s_is_number) (defScope s_is_number) [V.int (31)] [] A.a_is_number A.f_is_number
  g_is_number : mg "is_number" = some (.ref A.a_is_number)
  F_is_ball_line : FunD K "is_ball_line" "is_ball_line" (defArgs s_is_ball_line) (defBody s_is_ball_line) (defScope s_is_ball_line) [] [] A.a_is_ball_line A.f_is_ball_line
  g_is_ball_line : mg "is_ball_line" = some (.ref A.a_is_ball_line)
  F_is_line : FunD K "is_line" "is_line" (defArgs s_is_line) (defBody s_is_line) (defScope s_is_line) [] [] A.a_is_line A.f_is_line
  g_is_line : mg "is_line" = some (.ref A.a_is_line)
  F_check_form : FunD K "check_form" "check_form" (defArgs s_check_form) (defBody s_check_form) (defScope s_check_form) [] [] A.a_check_form A.f_check_form
  g_check_form : mg "check_form" = some (.ref A.a_check_form)
  F_read_pair : FunD K "read_pair" "read_pair" (defArgs s_read_pair) (defBody s_read_pair) (defScope s_read_pair) [] [] A.a_read_pair A.f_read_pair
  g_read_pair : mg "read_pair" = some (.ref A.a_read_pair)
  F_read_ball : FunD K "read_ball" "read_ball" (defArgs s_read_ball) (defBody s_read_ball) (defScope s_read_ball) [] [] A.a_read_ball A.f_read_ball
  g_read_ball : mg "read_ball" = some (.ref A.a_read_ball)
  F_parse_setup : FunD K "parse_setup" "parse_setup" (defArgs s_parse_setup) (defBody s_parse_setup) (defScope s_parse_setup) [] [] A.a_parse_setup A.f_parse_setup
  g_parse_setup : mg "parse_setup" = some (.ref A.a_parse_setup)
  F_law_parsed : FunD K "_law_parsed" "_law_parsed" (defArgs s_law_parsed) (defBody s_law_parsed) (defScope s_law_parsed) [] [] A.a_law_parsed A.f_law_parsed
  g_law_parsed : mg "_law_parsed" = some (.ref A.a_law_parsed)
  F_law : FunD K "law" "law" (defArgs s_law) (defBody s_law) (defScope s_law) [] [] A.a_law A.f_law
  g_law : mg "law" = some (.ref A.a_law)
  b_Table___init : Binds K A.f_Table___init ["self", "width", "height", "pockets"] []
  b_Table_is_point : Binds K A.f_Table_is_point ["self", "point"] []
  b_law_balls : Binds K A.f_law_balls ["numbers", "at", "width", "height", "many"] []
  b_law_big : Binds K A.f_law_big ["numbers", "at", "least", "most"] []
  b_law_changed : Binds K A.f_law_changed ["parts", "balls", "numbers"] []
  b_law_count : Binds K A.f_law_count ["number", "most"] []
  b_law_due : Binds K A.f_law_due ["parts", "balls"] []
  b_law_lines : Binds K A.f_law_lines ["parts", "balls"] []
  b_law_made : Binds K A.f_law_made ["parts"] []
  b_law_name : Binds K A.f_law_name ["numbers", "at", "k"] []
  b_law_numbers : Binds K A.f_law_numbers ["script", "many"] []
  b_law_parsed : Binds K A.f_law_parsed ["text"] []
  b_law_parts : Binds K A.f_law_parts ["numbers"] []
  b_law_points : Binds K A.f_law_points ["numbers", "at", "width", "height", "many"] []
  b_law_row : Binds K A.f_law_row ["cell", "many"] []
  b_check_ball : Binds K A.f_check_ball ["table", "ball"] []
  b_check_balls : Binds K A.f_check_balls ["table", "balls"] []
  b_check_form : Binds K A.f_check_form ["rows"] []
  b_check_pockets : Binds K A.f_check_pockets ["table"] []
  b_check_size : Binds K A.f_check_size ["width", "height"] []
  b_is_ball : Binds K A.f_is_ball ["table", "ball"] []
  b_is_ball_line : Binds K A.f_is_ball_line ["words"] []
  b_is_integer : Binds K A.f_is_integer ["part"] []
  b_is_line : Binds K A.f_is_line ["words"] []
  b_is_name : Binds K A.f_is_name ["text"] []
  b_is_number_1 : Binds K A.f_is_number ["word", "most_digits"] A.v_is_number_1
  d_is_number_1 : Dfl K (coreOf A) [V.int (31)] A.v_is_number_1 [(.int 31)]
  b_law : Binds K A.f_law ["script"] []
  b_parse_setup : Binds K A.f_parse_setup ["text"] []
  b_read_ball : Binds K A.f_read_ball ["words"] []
  b_read_pair : Binds K A.f_read_pair ["words"] []
  cls_Table : Cls K A.c_Table
  mk_Table : Mk K A.c_Table A.a_Table___init
  m_Table_is_point : Meth K A.c_Table "is_point" A.a_Table_is_point
  no_Table_height : NoAttr K A.c_Table "height"
  no_Table_pockets : NoAttr K A.c_Table "pockets"
  no_Table_width : NoAttr K A.c_Table "width"
  gc_InvalidBall : mg "InvalidBall" = some (.ref A.c_InvalidBall)
  gc_InvalidNotation : mg "InvalidNotation" = some (.ref A.c_InvalidNotation)
  gc_InvalidTable : mg "InvalidTable" = some (.ref A.c_InvalidTable)
  gc_Table : mg "Table" = some (.ref A.c_Table)
  n_abs : mg "abs" = none
  n_all : mg "all" = none
  n_bool : mg "bool" = none
  n_enumerate : mg "enumerate" = none
  n_int : mg "int" = none
  n_isinstance : mg "isinstance" = none
  n_len : mg "len" = none
  n_list : mg "list" = none
  n_max : mg "max" = none
  n_min : mg "min" = none
  n_range : mg "range" = none
  n_set : mg "set" = none
  n_str : mg "str" = none
  n_tuple : mg "tuple" = none
  gd_NEXT_WORDS : mg "NEXT_WORDS" = some (.ref A.q_NEXT_WORDS)
  gd_STEP_WORDS : mg "STEP_WORDS" = some (.ref A.q_STEP_WORDS)
  kv_DIGITS : ∃ u, mg "DIGITS" = some u ∧ RelV (.str "0123456789") u
  r_DIGITS : ∀ F, Rep K (coreOf A) F (.str "0123456789") k_DIGITS
  kv_GREATEST_SIDE : ∃ u, mg "GREATEST_SIDE" = some u ∧ RelV (.int 1000000000000000000000000000000) u
  r_GREATEST_SIDE : ∀ F, Rep K (coreOf A) F (.int 1000000000000000000000000000000) k_GREATEST_SIDE
  kv_LATEST_START : ∃ u, mg "LATEST_START" = some u ∧ RelV (.int 1000000000000000000000000000000) u
  r_LATEST_START : ∀ F, Rep K (coreOf A) F (.int 1000000000000000000000000000000) k_LATEST_START
  kv_LETTERS : ∃ u, mg "LETTERS" = some u ∧ RelV (.str "abcdefghijklmnopqrstuvwxyz") u
  r_LETTERS : ∀ F, Rep K (coreOf A) F (.str "abcdefghijklmnopqrstuvwxyz") k_LETTERS
  kv_LONGEST_NAME : ∃ u, mg "LONGEST_NAME" = some u ∧ RelV (.int 12) u
  r_LONGEST_NAME : ∀ F, Rep K (coreOf A) F (.int 12) k_LONGEST_NAME
  kv_MOST_BALLS : ∃ u, mg "MOST_BALLS" = some u ∧ RelV (.int 12) u
  r_MOST_BALLS : ∀ F, Rep K (coreOf A) F (.int 12) k_MOST_BALLS
  kv_MOST_POCKETS : ∃ u, mg "MOST_POCKETS" = some u ∧ RelV (.int 12) u
  r_MOST_POCKETS : ∀ F, Rep K (coreOf A) F (.int 12) k_MOST_POCKETS
  kv_STEPS : ∃ u, mg "STEPS" = some u ∧ RelV (.ref A.q_STEPS) u
  r_STEPS : ∀ F, Rep K (coreOf A) F (.ref A.q_STEPS) k_STEPS
  x_InvalidBall : PySem.W.excIn K A.c_InvalidBall [.type "ValueError", .type "Exception", .type "BaseException", .type "object"] "ValueError.__new__" = true
  kc_InvalidBall : PySem.W.keepIn K (.ref A.c_InvalidBall) = true
  sb_InvalidBall : PySem.W.subIn K (.ref A.c_InvalidBall) (.type "BaseException") = some true
  tc_InvalidBall : PySem.W.typeIn K (.ref A.c_InvalidBall) = some (.type "type")
  x_InvalidTable : PySem.W.excIn K A.c_InvalidTable [.type "ValueError", .type "Exception", .type "BaseException", .type "object"] "ValueError.__new__" = true
  kc_InvalidTable : PySem.W.keepIn K (.ref A.c_InvalidTable) = true
  sb_InvalidTable : PySem.W.subIn K (.ref A.c_InvalidTable) (.type "BaseException") = some true
  tc_InvalidTable : PySem.W.typeIn K (.ref A.c_InvalidTable) = some (.type "type")
  ex_InvalidBall : ∀ i b, exP i 2 = some b → PySem.W.exmOne K (.ref ((coreOf A).cl i)) (.ref ((coreOf A).cl 2)) = some b
  ex_InvalidTable : ∀ i b, exP i 1 = some b → PySem.W.exmOne K (.ref ((coreOf A).cl i)) (.ref ((coreOf A).cl 1)) = some b
  exc_InvalidBall : ∀ i, exP i 2 = some true → ExcC K ((coreOf A).cl i) ∧ (fnP i).isEmpty = true
  exc_InvalidTable : ∀ i, exP i 1 = some true → ExcC K ((coreOf A).cl i) ∧ (fnP i).isEmpty = true
  kit_InvalidNotation : ∀ i b, kit_InvalidNotation i = some b → PySem.W.kitOne K (.ref ((coreOf A).cl i)) (.ref A.c_InvalidNotation) = some b
/-! each def keeps it -/
section
variable {P : Program} {w : World} {K : PySem.W.Frag} {mg : Str → Option Value} {base : Heap} {A : Ad}
abbrev cfg (A : Ad) : Cfg := ⟨coreOf A, 0, none, 0⟩
structure TDx (w : World) (K : PySem.W.Frag) (A : Ad) : Prop where
  kd_NEXT_WORDS : KdT K w (coreOf A) A.q_NEXT_WORDS kd_NEXT_WORDS
  kd_STEP_WORDS : KdT K w (coreOf A) A.q_STEP_WORDS kd_STEP_WORDS
theorem Tx.d_Table___init (T : Tx K mg A) : Dfl K (coreOf A) [] [] [] := dfl_nil
theorem Tx.d_Table_is_point (T : Tx K mg A) : Dfl K (coreOf A) [] [] [] := dfl_nil
theorem Tx.d_law_balls (T : Tx K mg A) : Dfl K (coreOf A) [] [] [] := dfl_nil
theorem Tx.d_law_big (T : Tx K mg A) : Dfl K (coreOf A) [] [] [] := dfl_nil
theorem Tx.d_law_changed (T : Tx K mg A) : Dfl K (coreOf A) [] [] [] := dfl_nil
theorem Tx.d_law_count (T : Tx K mg A) : Dfl K (coreOf A) [] [] [] := dfl_nil
theorem Tx.d_law_due (T : Tx K mg A) : Dfl K (coreOf A) [] [] [] := dfl_nil
theorem Tx.d_law_lines (T : Tx K mg A) : Dfl K (coreOf A) [] [] [] := dfl_nil
theorem Tx.d_law_made (T : Tx K mg A) : Dfl K (coreOf A) [] [] [] := dfl_nil
theorem Tx.d_law_name (T : Tx K mg A) : Dfl K (coreOf A) [] [] [] := dfl_nil
theorem Tx.d_law_numbers (T : Tx K mg A) : Dfl K (coreOf A) [] [] [] := dfl_nil
theorem Tx.d_law_parsed (T : Tx K mg A) : Dfl K (coreOf A) [] [] [] := dfl_nil
theorem Tx.d_law_parts (T : Tx K mg A) : Dfl K (coreOf A) [] [] [] := dfl_nil
theorem Tx.d_law_points (T : Tx K mg A) : Dfl K (coreOf A) [] [] [] := dfl_nil
theorem Tx.d_law_row (T : Tx K mg A) : Dfl K (coreOf A) [] [] [] := dfl_nil
theorem Tx.d_check_ball (T : Tx K mg A) : Dfl K (coreOf A) [] [] [] := dfl_nil
theorem Tx.d_check_balls (T : Tx K mg A) : Dfl K (coreOf A) [] [] [] := dfl_nil
theorem Tx.d_check_form (T : Tx K mg A) : Dfl K (coreOf A) [] [] [] := dfl_nil
theorem Tx.d_check_pockets (T : Tx K mg A) : Dfl K (coreOf A) [] [] [] := dfl_nil
theorem Tx.d_check_size (T : Tx K mg A) : Dfl K (coreOf A) [] [] [] := dfl_nil
theorem Tx.d_is_ball (T : Tx K mg A) : Dfl K (coreOf A) [] [] [] := dfl_nil
theorem Tx.d_is_ball_line (T : Tx K mg A) : Dfl K (coreOf A) [] [] [] := dfl_nil
theorem Tx.d_is_integer (T : Tx K mg A) : Dfl K (coreOf A) [] [] [] := dfl_nil
theorem Tx.d_is_line (T : Tx K mg A) : Dfl K (coreOf A) [] [] [] := dfl_nil
theorem Tx.d_is_name (T : Tx K mg A) : Dfl K (coreOf A) [] [] [] := dfl_nil
theorem Tx.d_law (T : Tx K mg A) : Dfl K (coreOf A) [] [] [] := dfl_nil
theorem Tx.d_parse_setup (T : Tx K mg A) : Dfl K (coreOf A) [] [] [] := dfl_nil
theorem Tx.d_read_ball (T : Tx K mg A) : Dfl K (coreOf A) [] [] [] := dfl_nil
theorem Tx.d_read_pair (T : Tx K mg A) : Dfl K (coreOf A) [] [] [] := dfl_nil
theorem ok_law_row (T : Tx K mg A) (TD : TDx w K A) : DOk (coreOf A) P w K mg base 1 A.a_law_row A.f_law_row ["cell", "many"] m_law_row := by
  refine dok (Y := cfg A) (body := d_law_row) T.F_law_row sc_law_row fun cdv A' outer s H E hr tk hp => ?_
  exact (gss_cons (gs_own 2 sc_law_row.nd ga_nil)
   (gss_cons (gs_set 3 sc_law_row.nd (ge_cb (cd_abs) rfl T.n_abs bt_abs (ga_cons (ge_var 0) ga_nil)))
   (gss_cons (gs_set 4 sc_law_row.nd (ge_op od_mod (ge_ct cd_int rfl T.n_int bt_int (ga_cons (ge_op od_add (ge_op od_mul (ge_var 3) ge_int) ge_int) ga_nil)) ge_int))
   (gss_cons (gs_for hp rfl (gi_range1 rfl T.n_range (ga_cons (ge_var 1) ga_nil)) (gg_name 5 sc_law_row.nd)
   (gss_cons (gs_set 4 sc_law_row.nd (ge_op od_mod (ge_ct cd_int rfl T.n_int bt_int (ga_cons (ge_op od_add (ge_op od_mul (ge_var 4) ge_int) (ge_op od_mul ge_int (ge_op od_add (ge_var 5) ge_int))) ga_nil)) ge_int))
   (gss_one (gs_if (gt_cmp od_ge (ge_cb (cd_abs) rfl T.n_abs bt_abs (ga_cons (ge_var 0) ga_nil)) (ge_op od_pow ge_int ge_int))
   (gss_cons (gs_app 2 (ge_op od_mod (ge_ct cd_int rfl T.n_int bt_int (ga_cons (ge_var 3) ga_nil)) ge_int))
   (gss_one (gs_set 3 sc_law_row.nd (ge_op od_div (ge_var 3) ge_int))))
   (gss_one (gs_app 2 (ge_op od_mod (ge_ct cd_int rfl T.n_int bt_int (ga_cons (ge_op od_div (ge_var 4) ge_int) ga_nil)) ge_int)))))))
   (gss_frz 2 (gss_one (gs_ret (ge_var 2))))))))
theorem ok_law_numbers (T : Tx K mg A) (TD : TDx w K A) : DOk (coreOf A) P w K mg base 2 A.a_law_numbers A.f_law_numbers ["script", "many"] m_law_numbers := by
  have G_law_row := ok_law_row (P := P) (w := w) (base := base) T TD
  refine dok (Y := cfg A) (body := d_law_numbers) T.F_law_numbers sc_law_numbers fun cdv A' outer s H E hr tk hp => ?_
  exact (gss_cons (gs_set 2 sc_law_numbers.nd (ge_cut (ge_var 0) go_none (go_some ge_int)))
   (gss_cons (gs_set 3 sc_law_numbers.nd (ge_op od_add ge_int (ge_op od_div (ge_var 1) (ge_cb (cd_max rfl) rfl T.n_max bt_max (ga_cons ge_int (ga_cons (ge_cb (cd_len) rfl T.n_len bt_len (ga_cons (ge_var 2) ga_nil)) ga_nil))))))
   (gss_cons (gs_own 4 sc_law_numbers.nd ga_nil)
   (gss_cons (gs_for hp rfl (gi_seq (ge_var 2)) (gg_name 5 sc_law_numbers.nd)
   (gss_one (gs_for hp rfl (gi_seq (ge_call G_law_row (hr.mono (by decide)) tk rfl T.g_law_row T.F_law_row.kp T.b_law_row T.d_law_row (fun _ _ h => runD_len h) (ga_cons (ge_var 5) (ga_cons (ge_var 3) ga_nil)))) (gg_name 6 sc_law_numbers.nd)
   (gss_one (gs_app 4 (ge_var 6))))))
   (gss_cons (gs_while hp (gt_peek 4 (gt_cmp od_lt (ge_cb (cd_len) rfl T.n_len bt_len (ga_cons (ge_var 4) ga_nil)) (ge_var 1)))
   (gss_one (gs_app 4 ge_int)))
   (gss_frz 4 (gss_one (gs_ret (ge_cut (ge_var 4) go_none (go_some (ge_var 1)))))))))))
theorem ok_law_big (T : Tx K mg A) (TD : TDx w K A) : DOk (coreOf A) P w K mg base 1 A.a_law_big A.f_law_big ["numbers", "at", "least", "most"] m_law_big := by
  refine dok (Y := cfg A) (body := d_law_big) T.F_law_big sc_law_big fun cdv A' outer s H E hr tk hp => ?_
  exact (gss_cons (gs_set 4 sc_law_big.nd (ge_op od_mod (ge_ct cd_int rfl T.n_int bt_int (ga_cons (ge_ix (ge_var 0) (ge_var 1)) ga_nil)) ge_int))
   (gss_cons (gs_if (gt_cmp (od_eq (hu65 hr)) (ge_var 4) ge_int)
   (gss_one (gs_ret (ge_var 2)))
   gss_nil)
   (gss_cons (gs_if (gt_cmp (od_eq (hu65 hr)) (ge_var 4) ge_int)
   (gss_one (gs_ret (ge_var 3)))
   gss_nil)
   (gss_cons (gs_if (gt_cmp od_lt (ge_var 4) ge_int)
   (gss_one (gs_ret (ge_cb (cd_min rfl) rfl T.n_min bt_min (ga_cons (ge_var 3) (ga_cons (ge_op od_add (ge_var 2) (ge_op od_mod (ge_ct cd_int rfl T.n_int bt_int (ga_cons (ge_ix (ge_var 0) (ge_op od_add (ge_var 1) ge_int)) ga_nil)) ge_int)) ga_nil)))))
   gss_nil)
   (gss_cons (gs_set 5 sc_law_big.nd ge_int)
   (gss_cons (gs_for hp rfl (gi_range1 rfl T.n_range (ga_cons ge_int ga_nil)) (gg_name 6 sc_law_big.nd)
   (gss_one (gs_set 5 sc_law_big.nd (ge_op od_add (ge_op od_mul (ge_var 5) ge_int) (ge_ct cd_int rfl T.n_int bt_int (ga_cons (ge_ix (ge_var 0) (ge_op od_add (ge_op od_add (ge_var 1) ge_int) (ge_var 6))) ga_nil))))))
   (gss_one (gs_ret (ge_op od_add (ge_var 2) (ge_op od_mod (ge_ct cd_int rfl T.n_int bt_int (ga_cons (ge_var 5) ga_nil)) (ge_op od_add (ge_op od_sub (ge_var 3) (ge_var 2)) ge_int)))))))))))
theorem ok_law_count (T : Tx K mg A) (TD : TDx w K A) : DOk (coreOf A) P w K mg base 1 A.a_law_count A.f_law_count ["number", "most"] m_law_count := by
  refine dok (Y := cfg A) (body := d_law_count) T.F_law_count sc_law_count fun cdv A' outer s H E hr tk hp => ?_
  exact (gss_one (gs_ret (ge_ix (ge_lst (ga_cons ge_int (ga_cons (ge_var 1) (ga_cons (ge_op od_mod (ge_ct cd_int rfl T.n_int bt_int (ga_cons (ge_var 0) ga_nil)) (ge_op od_add (ge_var 1) ge_int)) (ga_cons (ge_op od_mod (ge_op od_div (ge_ct cd_int rfl T.n_int bt_int (ga_cons (ge_var 0) ga_nil)) ge_int) (ge_op od_add (ge_var 1) ge_int)) ga_nil))))) (ge_op od_mod (ge_ct cd_int rfl T.n_int bt_int (ga_cons (ge_var 0) ga_nil)) ge_int))))
theorem ok_law_points (T : Tx K mg A) (TD : TDx w K A) : DOk (coreOf A) P w K mg base 2 A.a_law_points A.f_law_points ["numbers", "at", "width", "height", "many"] m_law_points := by
  have G_law_big := ok_law_big (P := P) (w := w) (base := base) T TD
  refine dok (Y := cfg A) (body := d_law_points) T.F_law_points sc_law_points fun cdv A' outer s H E hr tk hp => ?_
  exact (gss_cons (gs_own 5 sc_law_points.nd ga_nil)
   (gss_cons (gs_for hp rfl (gi_range1 rfl T.n_range (ga_cons (ge_var 4) ga_nil)) (gg_name 6 sc_law_points.nd)
   (gss_cons (gs_set 7 sc_law_points.nd (ge_tup (ga_cons (ge_call G_law_big (hr.mono (by decide)) tk rfl T.g_law_big T.F_law_big.kp T.b_law_big T.d_law_big (fun _ _ h => runD_len h) (ga_cons (ge_var 0) (ga_cons (ge_op od_add (ge_var 1) (ge_op od_mul ge_int (ge_var 6))) (ga_cons ge_int (ga_cons (ge_var 2) ga_nil))))) (ga_cons (ge_call G_law_big (hr.mono (by decide)) tk rfl T.g_law_big T.F_law_big.kp T.b_law_big T.d_law_big (fun _ _ h => runD_len h) (ga_cons (ge_var 0) (ga_cons (ge_op od_add (ge_op od_add (ge_var 1) ge_int) (ge_op od_mul ge_int (ge_var 6))) (ga_cons ge_int (ga_cons (ge_var 3) ga_nil))))) ga_nil))))
   (gss_one (gs_if (gt_peek 5 (gt_cmp (od_ni (hu65 hr)) (ge_var 7) (ge_var 5)))
   (gss_one (gs_app 5 (ge_var 7)))
   gss_nil))))
   (gss_frz 5 (gss_one (gs_ret (ge_var 5))))))
theorem ok_law_parts (T : Tx K mg A) (TD : TDx w K A) : DOk (coreOf A) P w K mg base 3 A.a_law_parts A.f_law_parts ["numbers"] m_law_parts := by
  have G_law_big := ok_law_big (P := P) (w := w) (base := base) T TD
  have G_law_count := ok_law_count (P := P) (w := w) (base := base) T TD
  have G_law_points := ok_law_points (P := P) (w := w) (base := base) T TD
  refine dok (Y := cfg A) (body := d_law_parts) T.F_law_parts sc_law_parts fun cdv A' outer s H E hr tk hp => ?_
  exact (gss_cons (gs_set 1 sc_law_parts.nd (ge_call G_law_big (hr.mono (by decide)) tk rfl T.g_law_big T.F_law_big.kp T.b_law_big T.d_law_big (fun _ _ h => runD_len h) (ga_cons (ge_var 0) (ga_cons ge_int (ga_cons ge_int (ga_cons (ge_op od_pow ge_int ge_int) ga_nil))))))
   (gss_cons (gs_set 2 sc_law_parts.nd (ge_call G_law_big (hr.mono (by decide)) tk rfl T.g_law_big T.F_law_big.kp T.b_law_big T.d_law_big (fun _ _ h => runD_len h) (ga_cons (ge_var 0) (ga_cons ge_int (ga_cons ge_int (ga_cons (ge_op od_pow ge_int ge_int) ga_nil))))))
   (gss_one (gs_ret (ge_lst (ga_cons (ge_var 1) (ga_cons (ge_var 2) (ga_cons (ge_call G_law_points (hr.mono (by decide)) tk rfl T.g_law_points T.F_law_points.kp T.b_law_points T.d_law_points (fun _ _ h => runD_len h) (ga_cons (ge_var 0) (ga_cons ge_int (ga_cons (ge_var 1) (ga_cons (ge_var 2) (ga_cons (ge_call G_law_count (hr.mono (by decide)) tk rfl T.g_law_count T.F_law_count.kp T.b_law_count T.d_law_count (fun _ _ h => runD_len h) (ga_cons (ge_ix (ge_var 0) ge_int) (ga_cons ge_int ga_nil))) ga_nil)))))) ga_nil))))))))
theorem ok_law_name (T : Tx K mg A) (TD : TDx w K A) : DOk (coreOf A) P w K mg base 1 A.a_law_name A.f_law_name ["numbers", "at", "k"] m_law_name := by
  refine dok (Y := cfg A) (body := d_law_name) T.F_law_name sc_law_name fun cdv A' outer s H E hr tk hp => ?_
  exact (gss_cons (gs_set 3 sc_law_name.nd ge_str)
   (gss_cons (gs_set 4 sc_law_name.nd (ge_ix (ge_var 3) (ge_op od_mod (ge_ct cd_int rfl T.n_int bt_int (ga_cons (ge_ix (ge_var 0) (ge_var 1)) ga_nil)) ge_int)))
   (gss_cons (gs_for hp rfl (gi_range1 rfl T.n_range (ga_cons (ge_op od_mod (ge_ct cd_int rfl T.n_int bt_int (ga_cons (ge_ix (ge_var 0) (ge_op od_add (ge_var 1) ge_int)) ga_nil)) ge_int) ga_nil)) (gg_name 5 sc_law_name.nd)
   (gss_one (gs_set 4 sc_law_name.nd (ge_op od_add (ge_var 4) (ge_ix (ge_var 3) (ge_op od_mod (ge_ct cd_int rfl T.n_int bt_int (ga_cons (ge_op od_add (ge_ix (ge_var 0) (ge_op od_add (ge_var 1) ge_int)) (ge_op od_mul (ge_var 5) (ge_ix (ge_var 0) (ge_op od_add (ge_var 1) ge_int)))) ga_nil)) ge_int))))))
   (gss_cons (gs_set 6 sc_law_name.nd (ge_op od_add ge_int (ge_op od_mod (ge_ct cd_int rfl T.n_int bt_int (ga_cons (ge_ix (ge_var 0) (ge_op od_add (ge_var 1) ge_int)) ga_nil)) (ge_cb (cd_len) rfl T.n_len bt_len (ga_cons (ge_var 4) ga_nil)))))
   (gss_one (gs_ret (ge_op od_add (ge_op od_add (ge_cut (ge_var 4) go_none (go_some (ge_var 6))) (ge_ix (ge_var 3) (ge_op od_mod (ge_ct cd_int rfl T.n_int bt_int (ga_cons (ge_op od_add (ge_ix (ge_var 0) (ge_op od_add (ge_var 1) ge_int)) (ge_op od_mul ge_int (ge_var 2))) ga_nil)) ge_int))) (ge_cut (ge_var 4) (go_some (ge_var 6)) go_none))))))))
theorem ok_law_balls (T : Tx K mg A) (TD : TDx w K A) : DOk (coreOf A) P w K mg base 2 A.a_law_balls A.f_law_balls ["numbers", "at", "width", "height", "many"] m_law_balls := by
  have G_law_big := ok_law_big (P := P) (w := w) (base := base) T TD
  have G_law_name := ok_law_name (P := P) (w := w) (base := base) T TD
  refine dok (Y := cfg A) (body := d_law_balls) T.F_law_balls sc_law_balls fun cdv A' outer s H E hr tk hp => ?_
  exact (gss_cons (gs_own 5 sc_law_balls.nd ga_nil)
   (gss_cons (gs_for hp rfl (gi_range1 rfl T.n_range (ga_cons (ge_var 4) ga_nil)) (gg_name 6 sc_law_balls.nd)
   (gss_cons (gs_set 7 sc_law_balls.nd (ge_op od_add (ge_var 1) (ge_op od_mul ge_int (ge_var 6))))
   (gss_cons (gs_set 8 sc_law_balls.nd (ge_ix (ge_lst (ga_cons (ge_tup (ga_cons ge_int (ga_cons ge_int ga_nil))) (ga_cons (ge_tup (ga_cons ge_int (ga_cons ge_int ga_nil))) (ga_cons (ge_tup (ga_cons (ge_neg ge_int) (ga_cons ge_int ga_nil))) (ga_cons (ge_tup (ga_cons ge_int (ga_cons (ge_neg ge_int) ga_nil))) (ga_cons (ge_tup (ga_cons ge_int (ga_cons ge_int ga_nil))) (ga_cons (ge_tup (ga_cons (ge_neg ge_int) (ga_cons ge_int ga_nil))) (ga_cons (ge_tup (ga_cons ge_int (ga_cons (ge_neg ge_int) ga_nil))) (ga_cons (ge_tup (ga_cons (ge_neg ge_int) (ga_cons (ge_neg ge_int) ga_nil))) ga_nil))))))))) (ge_op od_mod (ge_ct cd_int rfl T.n_int bt_int (ga_cons (ge_ix (ge_var 0) (ge_var 7)) ga_nil)) ge_int)))
   (gss_cons (gs_set 9 sc_law_balls.nd (ge_tup (ga_cons (ge_call G_law_big (hr.mono (by decide)) tk rfl T.g_law_big T.F_law_big.kp T.b_law_big T.d_law_big (fun _ _ h => runD_len h) (ga_cons (ge_var 0) (ga_cons (ge_op od_add (ge_var 7) ge_int) (ga_cons ge_int (ga_cons (ge_var 2) ga_nil))))) (ga_cons (ge_call G_law_big (hr.mono (by decide)) tk rfl T.g_law_big T.F_law_big.kp T.b_law_big T.d_law_big (fun _ _ h => runD_len h) (ga_cons (ge_var 0) (ga_cons (ge_op od_add (ge_var 7) ge_int) (ga_cons ge_int (ga_cons (ge_var 3) ga_nil))))) ga_nil))))
   (gss_one (gs_app 5 (ge_op od_add (ge_op od_add (ge_op od_add (ge_tup (ga_cons (ge_call G_law_name (hr.mono (by decide)) tk rfl T.g_law_name T.F_law_name.kp T.b_law_name T.d_law_name (fun _ _ h => runD_len h) (ga_cons (ge_var 0) (ga_cons ge_int (ga_cons (ge_var 6) ga_nil)))) ga_nil)) (ge_var 9)) (ge_var 8)) (ge_tup (ga_cons (ge_call G_law_big (hr.mono (by decide)) tk rfl T.g_law_big T.F_law_big.kp T.b_law_big T.d_law_big (fun _ _ h => runD_len h) (ga_cons (ge_var 0) (ga_cons (ge_op od_add (ge_var 7) ge_int) (ga_cons ge_int (ga_cons (ge_op od_pow ge_int ge_int) ga_nil))))) ga_nil)))))))))
   (gss_frz 5 (gss_one (gs_ret (ge_var 5))))))
theorem ok_law_changed (T : Tx K mg A) (TD : TDx w K A) : DOk (coreOf A) P w K mg base 1 A.a_law_changed A.f_law_changed ["parts", "balls", "numbers"] m_law_changed := by
  refine dok (Y := cfg A) (body := d_law_changed) T.F_law_changed sc_law_changed fun cdv A' outer s H E hr tk hp => ?_
  exact (gss_cons (gs_asg (ge_var 0) (gg_seq rfl (ggs_cons (gg_name 3 sc_law_changed.nd) (ggs_cons (gg_name 4 sc_law_changed.nd) (ggs_cons (gg_name 5 sc_law_changed.nd) ggs_nil)))))
   (gss_cons (gs_set 6 sc_law_changed.nd (ge_op od_mod (ge_ct cd_int rfl T.n_int bt_int (ga_cons (ge_ix (ge_var 2) ge_int) ga_nil)) ge_int))
   (gss_cons (gs_set 7 sc_law_changed.nd (ge_ct cd_int rfl T.n_int bt_int (ga_cons (ge_ix (ge_var 2) ge_int) ga_nil)))
   (gss_cons (gs_set 8 sc_law_changed.nd (ge_ix (ge_lst (ga_cons ge_int (ga_cons ge_int (ga_cons (ge_var 3) (ga_cons (ge_op od_add (ge_var 3) ge_int) (ga_cons (ge_var 4) (ga_cons (ge_op od_add (ge_var 4) ge_int) (ga_cons (ge_op od_pow ge_int ge_int) (ga_cons (ge_op od_add (ge_op od_pow ge_int ge_int) ge_int) ga_nil))))))))) (ge_op od_mod (ge_var 7) ge_int)))
   (gss_cons (gs_if (gt_cmp (od_eq (hu65 hr)) (ge_var 6) ge_int)
   (gss_one (gs_ret (ge_lst (ga_cons (ge_lst (ga_cons (ge_var 8) (ga_cons (ge_var 4) (ga_cons (ge_var 5) ga_nil)))) (ga_cons (ge_var 1) ga_nil)))))
   gss_nil)
   (gss_cons (gs_if (gt_cmp (od_eq (hu65 hr)) (ge_var 6) ge_int)
   (gss_one (gs_ret (ge_lst (ga_cons (ge_lst (ga_cons (ge_var 3) (ga_cons (ge_var 8) (ga_cons (ge_var 5) ga_nil)))) (ga_cons (ge_var 1) ga_nil)))))
   gss_nil)
   (gss_cons (gs_if (gt_cmp od_lt (ge_var 6) ge_int)
   (gss_cons (gs_set 9 sc_law_changed.nd (ge_op od_mod (ge_op od_div (ge_var 7) ge_int) (ge_op od_add (ge_cb (cd_len) rfl T.n_len bt_len (ga_cons (ge_var 5) ga_nil)) ge_int)))
   (gss_cons (gs_set 10 sc_law_changed.nd (ge_ix (ge_op od_add (ge_cut (ge_var 5) (go_some (ge_var 9)) go_none) (ge_lst (ga_cons (ge_tup (ga_cons ge_int (ga_cons ge_int ga_nil))) ga_nil))) ge_int))
   (gss_cons (gs_set 11 sc_law_changed.nd (ge_ix (ge_lst (ga_cons (ge_tup (ga_cons (ge_var 8) (ga_cons (ge_ix (ge_var 10) ge_int) ga_nil))) (ga_cons (ge_tup (ga_cons (ge_ix (ge_var 10) ge_int) (ga_cons (ge_var 8) ga_nil))) (ga_cons (ge_var 10) ga_nil)))) (ge_op od_sub (ge_var 6) ge_int)))
   (gss_one (gs_ret (ge_lst (ga_cons (ge_lst (ga_cons (ge_var 3) (ga_cons (ge_var 4) (ga_cons (ge_op od_add (ge_op od_add (ge_cut (ge_var 5) go_none (go_some (ge_var 9))) (ge_lst (ga_cons (ge_var 11) ga_nil))) (ge_cut (ge_var 5) (go_some (ge_op od_add (ge_var 9) (ge_op od_mod (ge_op od_div (ge_var 7) ge_int) ge_int))) go_none)) ga_nil)))) (ga_cons (ge_var 1) ga_nil))))))))
   gss_nil)
   (gss_cons (gs_set 9 sc_law_changed.nd (ge_op od_mod (ge_op od_div (ge_var 7) ge_int) (ge_op od_add (ge_cb (cd_len) rfl T.n_len bt_len (ga_cons (ge_var 1) ga_nil)) ge_int)))
   (gss_cons (gs_set 12 sc_law_changed.nd (ge_ix (ge_op od_add (ge_cut (ge_var 1) (go_some (ge_var 9)) go_none) (ge_lst (ga_cons (ge_tup (ga_cons ge_str (ga_cons ge_int (ga_cons ge_int (ga_cons ge_int (ga_cons ge_int (ga_cons ge_int ga_nil))))))) ga_nil))) ge_int))
   (gss_cons (gs_if (gt_cmp (od_eq (hu65 hr)) (ge_var 6) ge_int)
   (gss_one (gs_set 12 sc_law_changed.nd (ge_op od_add (ge_op od_add (ge_cut (ge_var 12) go_none (go_some ge_int)) (ge_tup (ga_cons (ge_var 8) ga_nil))) (ge_cut (ge_var 12) (go_some ge_int) go_none))))
   gss_nil)
   (gss_cons (gs_if (gt_cmp (od_eq (hu65 hr)) (ge_var 6) ge_int)
   (gss_one (gs_set 12 sc_law_changed.nd (ge_op od_add (ge_op od_add (ge_cut (ge_var 12) go_none (go_some ge_int)) (ge_tup (ga_cons (ge_var 8) ga_nil))) (ge_cut (ge_var 12) (go_some ge_int) go_none))))
   gss_nil)
   (gss_cons (gs_if (gt_cmp (od_eq (hu65 hr)) (ge_var 6) ge_int)
   (gss_one (gs_set 12 sc_law_changed.nd (ge_op od_add (ge_op od_add (ge_cut (ge_var 12) go_none (go_some ge_int)) (ge_ix (ge_lst (ga_cons (ge_tup (ga_cons ge_int (ga_cons ge_int ga_nil))) (ga_cons (ge_tup (ga_cons ge_int (ga_cons ge_int ga_nil))) (ga_cons (ge_tup (ga_cons (ge_neg ge_int) (ga_cons ge_int ga_nil))) ga_nil)))) (ge_op od_mod (ge_ct cd_int rfl T.n_int bt_int (ga_cons (ge_ix (ge_var 2) ge_int) ga_nil)) ge_int))) (ge_cut (ge_var 12) (go_some ge_int) go_none))))
   gss_nil)
   (gss_cons (gs_if (gt_cmp (od_eq (hu65 hr)) (ge_var 6) ge_int)
   (gss_one (gs_set 12 sc_law_changed.nd (ge_op od_add (ge_cut (ge_var 12) go_none (go_some ge_int)) (ge_tup (ga_cons (ge_var 8) ga_nil)))))
   gss_nil)
   (gss_one (gs_ret (ge_lst (ga_cons (ge_var 0) (ga_cons (ge_op od_add (ge_op od_add (ge_cut (ge_var 1) go_none (go_some (ge_var 9))) (ge_lst (ga_cons (ge_var 12) ga_nil))) (ge_cut (ge_var 1) (go_some (ge_op od_add (ge_var 9) (ge_op od_mod (ge_op od_div (ge_var 7) ge_int) ge_int))) go_none)) ga_nil))))))))))))))))))
theorem ok_law_lines (T : Tx K mg A) (TD : TDx w K A) : DOk (coreOf A) P w K mg base 1 A.a_law_lines A.f_law_lines ["parts", "balls"] m_law_lines := by
  refine dok (Y := cfg A) (body := d_law_lines) T.F_law_lines sc_law_lines fun cdv A' outer s H E hr tk hp => ?_
  exact (gss_cons (gs_own 2 sc_law_lines.nd (ga_cons (ge_op od_add (ge_op od_add (ge_op od_add ge_str (ge_ct cd_str2 rfl T.n_str bt_str (ga_cons (ge_ix (ge_var 0) ge_int) ga_nil))) ge_str) (ge_ct cd_str2 rfl T.n_str bt_str (ga_cons (ge_ix (ge_var 0) ge_int) ga_nil))) ga_nil))
   (gss_cons (gs_for hp rfl (gi_seq (ge_ix (ge_var 0) ge_int)) (gg_seq rfl (ggs_cons (gg_name 3 sc_law_lines.nd) (ggs_cons (gg_name 4 sc_law_lines.nd) ggs_nil)))
   (gss_one (gs_app 2 (ge_op od_add (ge_op od_add (ge_op od_add ge_str (ge_ct cd_str2 rfl T.n_str bt_str (ga_cons (ge_var 3) ga_nil))) ge_str) (ge_ct cd_str2 rfl T.n_str bt_str (ga_cons (ge_var 4) ga_nil))))))
   (gss_cons (gs_for hp rfl (gi_seq (ge_var 1)) (gg_name 5 sc_law_lines.nd)
   (gss_one (gs_app 2 (ge_op od_add ge_str (ge_join ge_str (ge_lc [("part", 6)] rfl sc_law_lines.nd (gi_seq (ge_var 5)) (blkOk_by (N := N_law_lines) (sc := defScope s_law_lines) (own := [("part", 6)]) (by decide +kernel)) (fun _ _ _ _ _ => (gg_name 6 sc_law_lines.nd)) (by decide) (fun _ _ _ _ _ => gts_nil) (fun _ _ _ _ _ => (ge_ct cd_str2 rfl T.n_str bt_str (ga_cons (ge_var 6) ga_nil)))))))))
   (gss_frz 2 (gss_one (gs_ret (ge_var 2)))))))
theorem ok_check_size (T : Tx K mg A) (TD : TDx w K A) : DOk (coreOf A) P w K mg base 1 A.a_check_size A.f_check_size ["width", "height"] m_check_size := by
  refine dok (Y := cfg A) (body := d_check_size) T.F_check_size sc_check_size fun cdv A' outer s H E hr tk hp => ?_
  exact (gss_one (gs_for hp rfl (gi_seq (ge_tup (ga_cons (ge_var 0) (ga_cons (ge_var 1) ga_nil)))) (gg_name 2 sc_check_size.nd)
   (gss_one (gs_if (gt_not (gt_chain od_le od_le ge_int (ge_var 2) (ge_globE rfl T.kv_GREATEST_SIDE T.r_GREATEST_SIDE)))
   (gss_one (gs_raise 1 rfl tk (pmk_own PySem.F.excBase_ValueError T.x_InvalidTable T.gc_InvalidTable T.kc_InvalidTable (raises_own T.sb_InvalidTable T.tc_InvalidTable) rfl) rfl))
   gss_nil))))
theorem ok_Table_is_point (T : Tx K mg A) (TD : TDx w K A) : DOk (coreOf A) P w K mg base 1 A.a_Table_is_point A.f_Table_is_point ["self", "point"] m_Table_is_point := by
  refine dok (Y := cfg A) (body := d_Table_is_point) T.F_Table_is_point sc_Table_is_point fun cdv A' outer s H E hr tk hp => ?_
  exact (gss_cons (gs_if (gt_cmp (od_ne (hu65 hr)) (ge_cb (cd_len) rfl T.n_len bt_len (ga_cons (ge_var 1) ga_nil)) ge_int)
   (gss_one (gs_ret ge_bl))
   gss_nil)
   (gss_cons (gs_asg (ge_var 1) (gg_seq rfl (ggs_cons (gg_name 2 sc_Table_is_point.nd) (ggs_cons (gg_name 3 sc_Table_is_point.nd) ggs_nil))))
   (gss_one (gs_ret (ge_and (ge_chain od_le od_le ge_int (ge_var 2) (ge_fld 4 (ge_var 0) T.cls_Table T.no_Table_width)) (ge_one (ge_chain od_le od_le ge_int (ge_var 3) (ge_fld 4 (ge_var 0) T.cls_Table T.no_Table_height))))))))
theorem ok_check_pockets (T : Tx K mg A) (TD : TDx w K A) : DOk (coreOf A) P w K mg base 2 A.a_check_pockets A.f_check_pockets ["table"] m_check_pockets := by
  have G_Table_is_point := ok_Table_is_point (P := P) (w := w) (base := base) T TD
  refine dok (Y := cfg A) (body := d_check_pockets) T.F_check_pockets sc_check_pockets fun cdv A' outer s H E hr tk hp => ?_
  exact (gss_cons (gs_if (gt_cmp od_gt (ge_cb (cd_len) rfl T.n_len bt_len (ga_cons (ge_fld 4 (ge_var 0) T.cls_Table T.no_Table_pockets) ga_nil)) (ge_globE rfl T.kv_MOST_POCKETS T.r_MOST_POCKETS))
   (gss_one (gs_raise 1 rfl tk (pmk_own PySem.F.excBase_ValueError T.x_InvalidTable T.gc_InvalidTable T.kc_InvalidTable (raises_own T.sb_InvalidTable T.tc_InvalidTable) rfl) rfl))
   gss_nil)
   (gss_cons (gs_for hp rfl (gi_seq (ge_fld 4 (ge_var 0) T.cls_Table T.no_Table_pockets)) (gg_name 1 sc_check_pockets.nd)
   (gss_one (gs_if (gt_not (gt_tru (ge_meth 4 (ge_var 0) T.cls_Table T.m_Table_is_point rfl G_Table_is_point (hr.mono (by decide)) tk T.b_Table_is_point T.d_Table_is_point (fun _ _ h => runD_len h) (ga_cons (ge_var 1) ga_nil))))
   (gss_one (gs_raise 1 rfl tk (pmk_own PySem.F.excBase_ValueError T.x_InvalidTable T.gc_InvalidTable T.kc_InvalidTable (raises_own T.sb_InvalidTable T.tc_InvalidTable) rfl) rfl))
   gss_nil)))
   (gss_one (gs_if (gt_cmp od_lt (ge_lenSet rfl (hu65 hr) rfl T.n_len rfl T.n_set (ge_fld 4 (ge_var 0) T.cls_Table T.no_Table_pockets)) (ge_cb (cd_len) rfl T.n_len bt_len (ga_cons (ge_fld 4 (ge_var 0) T.cls_Table T.no_Table_pockets) ga_nil)))
   (gss_one (gs_raise 1 rfl tk (pmk_own PySem.F.excBase_ValueError T.x_InvalidTable T.gc_InvalidTable T.kc_InvalidTable (raises_own T.sb_InvalidTable T.tc_InvalidTable) rfl) rfl))
   gss_nil))))
theorem ok_Table___init (T : Tx K mg A) (TD : TDx w K A) : IOk (coreOf A) 4 P w K mg base 3 A.a_Table___init A.f_Table___init ["self", "width", "height", "pockets"] m_Table___init := by
  have G_check_size := ok_check_size (P := P) (w := w) (base := base) T TD
  have G_check_pockets := ok_check_pockets (P := P) (w := w) (base := base) T TD
  refine iok (body := d_Table___init) T.F_Table___init sc_Table___init fun z cdv A' outer s H E hr tk hp => ?_
  exact (gss_cons (gs_fld 0 4 (ge_var 1) T.cls_Table T.no_Table_width)
   (gss_cons (gs_fld 0 4 (ge_var 2) T.cls_Table T.no_Table_height)
   (gss_cons (gs_fld 0 4 (ge_ct cd_tuple rfl T.n_tuple bt_tuple (ga_cons (ge_lc [("pocket", 4)] rfl sc_Table___init.nd (gi_seq (ge_var 3)) (blkOk_by (N := N_Table___init) (sc := defScope s_Table___init) (own := [("pocket", 4)]) (by decide +kernel)) (fun _ _ _ _ _ => (gg_name 4 sc_Table___init.nd)) (by decide) (fun _ _ _ _ _ => gts_nil) (fun _ _ _ _ _ => (ge_ct cd_tuple rfl T.n_tuple bt_tuple (ga_cons (ge_var 4) ga_nil)))) ga_nil)) T.cls_Table T.no_Table_pockets)
   (gss_cons (gs_expr (ge_call G_check_size (hr.mono (by decide)) tk rfl T.g_check_size T.F_check_size.kp T.b_check_size T.d_check_size (fun _ _ h => runD_len h) (ga_cons (ge_var 1) (ga_cons (ge_var 2) ga_nil))))
   (gss_one (gs_exprI 0 (ge_call G_check_pockets (hr.mono (by decide)) tk rfl T.g_check_pockets T.F_check_pockets.kp T.b_check_pockets T.d_check_pockets (fun _ _ h => runD_len h) (ga_cons (ge_var 0) ga_nil))))))))
theorem ok_law_made (T : Tx K mg A) (TD : TDx w K A) : DOk (coreOf A) P w K mg base 5 A.a_law_made A.f_law_made ["parts"] m_law_made := by
  have G_Table___init := ok_Table___init (P := P) (w := w) (base := base) T TD
  refine dok (Y := cfg A) (body := d_law_made) T.F_law_made sc_law_made fun cdv A' outer s H E hr tk hp => ?_
  exact (gss_one (gs_ret (ge_make 4 T.mk_Table G_Table___init (hr.mono (by decide)) tk rfl T.gc_Table T.b_Table___init T.d_Table___init (fun _ _ h => runI_len h) (ga_cons (ge_ix (ge_var 0) ge_int) (ga_cons (ge_ix (ge_var 0) ge_int) (ga_cons (ge_ct cd_list rfl T.n_list bt_list (ga_cons (ge_ix (ge_var 0) ge_int) ga_nil)) ga_nil))))))
theorem ok_is_integer (T : Tx K mg A) (TD : TDx w K A) : DOk (coreOf A) P w K mg base 1 A.a_is_integer A.f_is_integer ["part"] m_is_integer := by
  refine dok (Y := cfg A) (body := d_is_integer) T.F_is_integer sc_is_integer fun cdv A' outer s H E hr tk hp => ?_
  exact (gss_one (gs_ret (ge_and (ge_isi rfl T.n_isinstance rfl T.n_int bt_int (ge_var 0)) (ge_one (ge_not (ge_isi rfl T.n_isinstance rfl T.n_bool bt_bool (ge_var 0)))))))
theorem ok_is_name (T : Tx K mg A) (TD : TDx w K A) : DOk (coreOf A) P w K mg base 1 A.a_is_name A.f_is_name ["text"] m_is_name := by
  refine dok (Y := cfg A) (body := d_is_name) T.F_is_name sc_is_name fun cdv A' outer s H E hr tk hp => ?_
  exact (gss_cons (gs_if (GW.pt (gw_or (gt_not (gt_chain od_le od_le ge_int (ge_cb (cd_len) rfl T.n_len bt_len (ga_cons (ge_var 0) ga_nil)) (ge_globE rfl T.kv_LONGEST_NAME T.r_LONGEST_NAME))) (gw_or1 (gt_cmp (od_ni (hu65 hr)) (ge_ix (ge_var 0) ge_int) (ge_globE rfl T.kv_LETTERS T.r_LETTERS)))))
   (gss_one (gs_ret ge_bl))
   gss_nil)
   (gss_one (gs_ret (ge_cb (cd_all rfl) rfl T.n_all bt_all (ga_cons (ge_lc [("sign", 1)] rfl sc_is_name.nd (gi_str (ge_var 0)) (blkOk_by (N := N_is_name) (sc := defScope s_is_name) (own := [("sign", 1)]) (by decide +kernel)) (fun _ _ _ _ _ => (gg_name 1 sc_is_name.nd)) (by decide) (fun _ _ _ _ _ => gts_nil) (fun _ _ _ _ _ => (ge_cmp (od_in (hu65 hr)) (ge_var 1) (ge_op od_add (ge_globE rfl T.kv_LETTERS T.r_LETTERS) (ge_globE rfl T.kv_DIGITS T.r_DIGITS))))) ga_nil)))))
theorem ok_is_ball (T : Tx K mg A) (TD : TDx w K A) : DOk (coreOf A) P w K mg base 2 A.a_is_ball A.f_is_ball ["table", "ball"] m_is_ball := by
  have G_is_integer := ok_is_integer (P := P) (w := w) (base := base) T TD
  have G_is_name := ok_is_name (P := P) (w := w) (base := base) T TD
  have G_Table_is_point := ok_Table_is_point (P := P) (w := w) (base := base) T TD
  refine dok (Y := cfg A) (body := d_is_ball) T.F_is_ball sc_is_ball fun cdv A' outer s H E hr tk hp => ?_
  exact (gss_cons (gs_if (gt_cmp (od_ne (hu65 hr)) (ge_cb (cd_len) rfl T.n_len bt_len (ga_cons (ge_var 1) ga_nil)) ge_int)
   (gss_one (gs_ret ge_bl))
   gss_nil)
   (gss_cons (gs_asg (ge_var 1) (gg_seq rfl (ggs_cons (gg_name 2 sc_is_ball.nd) (ggs_cons (gg_name 3 sc_is_ball.nd) (ggs_cons (gg_name 4 sc_is_ball.nd) (ggs_cons (gg_name 5 sc_is_ball.nd) (ggs_cons (gg_name 6 sc_is_ball.nd) (ggs_cons (gg_name 7 sc_is_ball.nd) ggs_nil))))))))
   (gss_cons (gs_if (GW.pt (gw_or (gt_not (gt_tru (ge_isi rfl T.n_isinstance rfl T.n_str bt_str (ge_var 2)))) (gw_or1 (gt_not (gt_tru (ge_cb (cd_all rfl) rfl T.n_all bt_all (ga_cons (ge_lc [("part", 8)] rfl sc_is_ball.nd (gi_seq (ge_cut (ge_var 1) (go_some ge_int) go_none)) (blkOk_by (N := N_is_ball) (sc := defScope s_is_ball) (own := [("part", 8)]) (by decide +kernel)) (fun _ _ _ _ _ => (gg_name 8 sc_is_ball.nd)) (by decide) (fun _ _ _ _ _ => gts_nil) (fun _ _ _ _ _ => (ge_call G_is_integer (hr.mono (by decide)) takes0 rfl T.g_is_integer T.F_is_integer.kp T.b_is_integer T.d_is_integer (fun _ _ h => runD_len h) (ga_cons (ge_var 8) ga_nil)))) ga_nil)))))))
   (gss_one (gs_ret ge_bl))
   gss_nil)
   (gss_cons (gs_if (GW.pt (gw_or (gt_cmp (od_ni (hu65 hr)) (ge_var 5) (ge_globE rfl T.kv_STEPS T.r_STEPS)) (gw_or (gt_cmp (od_ni (hu65 hr)) (ge_var 6) (ge_globE rfl T.kv_STEPS T.r_STEPS)) (gw_or1 (gt_cmp (od_eq (hu65 hr)) (ge_tup (ga_cons (ge_var 5) (ga_cons (ge_var 6) ga_nil))) (ge_tup (ga_cons ge_int (ga_cons ge_int ga_nil))))))))
   (gss_one (gs_ret ge_bl))
   gss_nil)
   (gss_one (gs_ret (ge_and (ge_call G_is_name (hr.mono (by decide)) tk rfl T.g_is_name T.F_is_name.kp T.b_is_name T.d_is_name (fun _ _ h => runD_len h) (ga_cons (ge_var 2) ga_nil)) (ge_and (ge_meth 4 (ge_var 0) T.cls_Table T.m_Table_is_point rfl G_Table_is_point (hr.mono (by decide)) tk T.b_Table_is_point T.d_Table_is_point (fun _ _ h => runD_len h) (ga_cons (ge_tup (ga_cons (ge_var 3) (ga_cons (ge_var 4) ga_nil))) ga_nil)) (ge_one (ge_chain od_le od_le ge_int (ge_var 7) (ge_globE rfl T.kv_LATEST_START T.r_LATEST_START)))))))))))
theorem ok_check_ball (T : Tx K mg A) (TD : TDx w K A) : DOk (coreOf A) P w K mg base 3 A.a_check_ball A.f_check_ball ["table", "ball"] m_check_ball := by
  have G_is_ball := ok_is_ball (P := P) (w := w) (base := base) T TD
  refine dok (Y := cfg A) (body := d_check_ball) T.F_check_ball sc_check_ball fun cdv A' outer s H E hr tk hp => ?_
  exact (gss_one (gs_if (gt_not (gt_tru (ge_call G_is_ball (hr.mono (by decide)) tk rfl T.g_is_ball T.F_is_ball.kp T.b_is_ball T.d_is_ball (fun _ _ h => runD_len h) (ga_cons (ge_var 0) (ga_cons (ge_var 1) ga_nil)))))
   (gss_one (gs_raise 2 rfl tk (pmk_own PySem.F.excBase_ValueError T.x_InvalidBall T.gc_InvalidBall T.kc_InvalidBall (raises_own T.sb_InvalidBall T.tc_InvalidBall) rfl) rfl))
   gss_nil))
theorem ok_check_balls (T : Tx K mg A) (TD : TDx w K A) : DOk (coreOf A) P w K mg base 4 A.a_check_balls A.f_check_balls ["table", "balls"] m_check_balls := by
  have G_check_ball := ok_check_ball (P := P) (w := w) (base := base) T TD
  refine dok (Y := cfg A) (body := d_check_balls) T.F_check_balls sc_check_balls fun cdv A' outer s H E hr tk hp => ?_
  exact (gss_cons (gs_for hp rfl (gi_seq (ge_var 1)) (gg_name 2 sc_check_balls.nd)
   (gss_one (gs_expr (ge_call G_check_ball (hr.mono (by decide)) tk rfl T.g_check_ball T.F_check_ball.kp T.b_check_ball T.d_check_ball (fun _ _ h => runD_len h) (ga_cons (ge_var 0) (ga_cons (ge_var 2) ga_nil))))))
   (gss_cons (gs_if (gt_cmp od_gt (ge_cb (cd_len) rfl T.n_len bt_len (ga_cons (ge_var 1) ga_nil)) (ge_globE rfl T.kv_MOST_BALLS T.r_MOST_BALLS))
   (gss_one (gs_raise 2 rfl tk (pmk_own PySem.F.excBase_ValueError T.x_InvalidBall T.gc_InvalidBall T.kc_InvalidBall (raises_own T.sb_InvalidBall T.tc_InvalidBall) rfl) rfl))
   gss_nil)
   (gss_one (gs_if (gt_cmp od_lt (ge_lenKs [("ball", 2)] rfl sc_check_balls.nd rfl T.n_len (gi_seq (ge_var 1)) (blkOk_by (N := N_check_balls) (sc := defScope s_check_balls) (own := [("ball", 2)]) (by decide +kernel)) (fun _ _ _ _ _ => (gg_name 2 sc_check_balls.nd)) (by decide) (fun _ _ _ _ _ => gts_nil) (fun _ _ _ _ _ => (ge_ix (ge_var 2) ge_int))) (ge_cb (cd_len) rfl T.n_len bt_len (ga_cons (ge_var 1) ga_nil)))
   (gss_one (gs_raise 2 rfl tk (pmk_own PySem.F.excBase_ValueError T.x_InvalidBall T.gc_InvalidBall T.kc_InvalidBall (raises_own T.sb_InvalidBall T.tc_InvalidBall) rfl) rfl))
   gss_nil))))
theorem ok_law_due (T : Tx K mg A) (TD : TDx w K A) : DOk (coreOf A) P w K mg base 6 A.a_law_due A.f_law_due ["parts", "balls"] m_law_due := by
  have G_law_made := ok_law_made (P := P) (w := w) (base := base) T TD
  have G_check_balls := ok_check_balls (P := P) (w := w) (base := base) T TD
  refine dok (Y := cfg A) (body := d_law_due) T.F_law_due sc_law_due fun cdv A' outer s H E hr tk hp => ?_
  exact (gss_cons (gs_try (T := exP) 1 rfl rfl ⟨rfl, by decide, .inl T.gc_InvalidTable⟩ tk T.ex_InvalidTable (fun W' pn xe tk' hp' => (gss_one (gs_set 2 sc_law_due.nd (ge_call G_law_made (hr.mono (by decide)) tk' rfl T.g_law_made T.F_law_made.kp T.b_law_made T.d_law_made (fun _ _ h => runD_len h) (ga_cons (ge_var 0) ga_nil)))))
   (fun a pn => (gss_one (gs_ret ge_str))))
   (gss_cons (gs_try (T := exP) 2 rfl rfl ⟨rfl, by decide, .inl T.gc_InvalidBall⟩ tk T.ex_InvalidBall (fun W' pn xe tk' hp' => (gss_one (gs_expr (ge_call G_check_balls (hr.mono (by decide)) tk' rfl T.g_check_balls T.F_check_balls.kp T.b_check_balls T.d_check_balls (fun _ _ h => runD_len h) (ga_cons (ge_var 2) (ga_cons (ge_var 1) ga_nil))))))
   (fun a pn => (gss_one (gs_ret ge_str))))
   (gss_one (gs_ret (ge_lst (ga_cons (ge_ix (ge_var 0) ge_int) (ga_cons (ge_ix (ge_var 0) ge_int) (ga_cons (ge_ct cd_tuple rfl T.n_tuple bt_tuple (ga_cons (ge_ix (ge_var 0) ge_int) ga_nil)) (ga_cons (ge_var 1) ga_nil)))))))))
theorem ok_is_number (T : Tx K mg A) (TD : TDx w K A) : DOk (coreOf A) P w K mg base 1 A.a_is_number A.f_is_number ["word", "most_digits"] m_is_number := by
  refine dok (Y := cfg A) (body := d_is_number) T.F_is_number sc_is_number fun cdv A' outer s H E hr tk hp => ?_
  exact (gss_cons (gs_if (gt_cmp (od_eq (hu65 hr)) (ge_var 0) ge_str)
   (gss_one (gs_ret ge_bl))
   gss_nil)
   (gss_cons (gs_if (GW.pt (gw_or (gt_not (gt_chain od_le od_le ge_int (ge_cb (cd_len) rfl T.n_len bt_len (ga_cons (ge_var 0) ga_nil)) (ge_var 1))) (gw_or1 (gt_cmp (od_eq (hu65 hr)) (ge_ix (ge_var 0) ge_int) ge_str))))
   (gss_one (gs_ret ge_bl))
   gss_nil)
   (gss_one (gs_ret (ge_cb (cd_all rfl) rfl T.n_all bt_all (ga_cons (ge_lc [("sign", 2)] rfl sc_is_number.nd (gi_str (ge_var 0)) (blkOk_by (N := N_is_number) (sc := defScope s_is_number) (own := [("sign", 2)]) (by decide +kernel)) (fun _ _ _ _ _ => (gg_name 2 sc_is_number.nd)) (by decide) (fun _ _ _ _ _ => gts_nil) (fun _ _ _ _ _ => (ge_cmp (od_in (hu65 hr)) (ge_var 2) (ge_globE rfl T.kv_DIGITS T.r_DIGITS)))) ga_nil))))))
theorem ok_is_ball_line (T : Tx K mg A) (TD : TDx w K A) : DOk (coreOf A) P w K mg base 2 A.a_is_ball_line A.f_is_ball_line ["words"] m_is_ball_line := by
  have G_is_name := ok_is_name (P := P) (w := w) (base := base) T TD
  have G_is_number := ok_is_number (P := P) (w := w) (base := base) T TD
  refine dok (Y := cfg A) (body := d_is_ball_line) T.F_is_ball_line sc_is_ball_line fun cdv A' outer s H E hr tk hp => ?_
  exact (gss_cons (gs_if (gt_cmp (od_ne (hu65 hr)) (ge_cb (cd_len) rfl T.n_len bt_len (ga_cons (ge_var 0) ga_nil)) ge_int)
   (gss_one (gs_ret ge_bl))
   gss_nil)
   (gss_cons (gs_asg (ge_var 0) (gg_seq rfl (ggs_cons (gg_name 1 sc_is_ball_line.nd) (ggs_cons (gg_name 2 sc_is_ball_line.nd) (ggs_cons (gg_name 3 sc_is_ball_line.nd) (ggs_cons (gg_name 4 sc_is_ball_line.nd) (ggs_cons (gg_name 5 sc_is_ball_line.nd) (ggs_cons (gg_name 6 sc_is_ball_line.nd) (ggs_cons (gg_name 7 sc_is_ball_line.nd) ggs_nil)))))))))
   (gss_cons (gs_if (GW.pt (gw_or (gt_kni TD.kd_STEP_WORDS rfl T.gd_STEP_WORDS (ge_var 5)) (gw_or1 (gt_kni TD.kd_STEP_WORDS rfl T.gd_STEP_WORDS (ge_var 6)))))
   (gss_one (gs_ret ge_bl))
   gss_nil)
   (gss_one (gs_ret (ge_and (ge_call G_is_name (hr.mono (by decide)) tk rfl T.g_is_name T.F_is_name.kp T.b_is_name T.d_is_name (fun _ _ h => runD_len h) (ga_cons (ge_var 2) ga_nil)) (ge_and (ge_call G_is_number (hr.mono (by decide)) tk rfl T.g_is_number T.F_is_number.kp T.b_is_number_1 T.d_is_number_1 (fun _ _ h => runD_len h) (ga_cons (ge_var 3) ga_nil)) (ge_and (ge_call G_is_number (hr.mono (by decide)) tk rfl T.g_is_number T.F_is_number.kp T.b_is_number_1 T.d_is_number_1 (fun _ _ h => runD_len h) (ga_cons (ge_var 4) ga_nil)) (ge_one (ge_call G_is_number (hr.mono (by decide)) tk rfl T.g_is_number T.F_is_number.kp T.b_is_number_1 T.d_is_number_1 (fun _ _ h => runD_len h) (ga_cons (ge_var 7) ga_nil)))))))))))
theorem ok_is_line (T : Tx K mg A) (TD : TDx w K A) : DOk (coreOf A) P w K mg base 3 A.a_is_line A.f_is_line ["words"] m_is_line := by
  have G_is_ball_line := ok_is_ball_line (P := P) (w := w) (base := base) T TD
  have G_is_number := ok_is_number (P := P) (w := w) (base := base) T TD
  refine dok (Y := cfg A) (body := d_is_line) T.F_is_line sc_is_line fun cdv A' outer s H E hr tk hp => ?_
  exact (gss_cons (gs_if (gt_cmp (od_eq (hu65 hr)) (ge_ix (ge_var 0) ge_int) ge_str)
   (gss_one (gs_ret (ge_call G_is_ball_line (hr.mono (by decide)) tk rfl T.g_is_ball_line T.F_is_ball_line.kp T.b_is_ball_line T.d_is_ball_line (fun _ _ h => runD_len h) (ga_cons (ge_var 0) ga_nil))))
   gss_nil)
   (gss_one (gs_ret (ge_and (ge_cmp (od_eq (hu65 hr)) (ge_cb (cd_len) rfl T.n_len bt_len (ga_cons (ge_var 0) ga_nil)) ge_int) (ge_and (ge_call G_is_number (hr.mono (by decide)) tk rfl T.g_is_number T.F_is_number.kp T.b_is_number_1 T.d_is_number_1 (fun _ _ h => runD_len h) (ga_cons (ge_ix (ge_var 0) ge_int) ga_nil)) (ge_one (ge_call G_is_number (hr.mono (by decide)) tk rfl T.g_is_number T.F_is_number.kp T.b_is_number_1 T.d_is_number_1 (fun _ _ h => runD_len h) (ga_cons (ge_ix (ge_var 0) ge_int) ga_nil))))))))
theorem ok_check_form (T : Tx K mg A) (TD : TDx w K A) : DOk (coreOf A) P w K mg base 4 A.a_check_form A.f_check_form ["rows"] m_check_form := by
  have G_is_line := ok_is_line (P := P) (w := w) (base := base) T TD
  refine dok (Y := cfg A) (body := d_check_form) T.F_check_form sc_check_form fun cdv A' outer s H E hr tk hp => ?_
  exact (gss_cons (gs_set 1 sc_check_form.nd ge_str)
   (gss_one (gs_for hp rfl (gi_enumS rfl T.n_enumerate (ga_cons (ge_var 0) (ga_cons ge_int ga_nil))) (gg_seq rfl (ggs_cons (gg_name 2 sc_check_form.nd) (ggs_cons (gg_name 3 sc_check_form.nd) ggs_nil)))
   (gss_cons (gs_if (GW.pt (gw_or (gt_cmp (od_ni (hu65 hr)) (ge_ix (ge_var 3) ge_int) (ge_kget TD.kd_NEXT_WORDS rfl T.gd_NEXT_WORDS (ge_var 1))) (gw_or1 (gt_not (gt_tru (ge_call G_is_line (hr.mono (by decide)) tk rfl T.g_is_line T.F_is_line.kp T.b_is_line T.d_is_line (fun _ _ h => runD_len h) (ga_cons (ge_var 3) ga_nil)))))))
   (gss_one gs_none)
   gss_nil)
   (gss_one (gs_set 1 sc_check_form.nd (ge_ix (ge_var 3) ge_int)))))))
theorem ok_read_pair (T : Tx K mg A) (TD : TDx w K A) : DOk (coreOf A) P w K mg base 1 A.a_read_pair A.f_read_pair ["words"] m_read_pair := by
  refine dok (Y := cfg A) (body := d_read_pair) T.F_read_pair sc_read_pair fun cdv A' outer s H E hr tk hp => ?_
  exact (gss_one (gs_ret (ge_tup (ga_cons (ge_ct cd_int rfl T.n_int bt_int (ga_cons (ge_ix (ge_var 0) ge_int) ga_nil)) (ga_cons (ge_ct cd_int rfl T.n_int bt_int (ga_cons (ge_ix (ge_var 0) ge_int) ga_nil)) ga_nil)))))
theorem ok_read_ball (T : Tx K mg A) (TD : TDx w K A) : DOk (coreOf A) P w K mg base 1 A.a_read_ball A.f_read_ball ["words"] m_read_ball := by
  refine dok (Y := cfg A) (body := d_read_ball) T.F_read_ball sc_read_ball fun cdv A' outer s H E hr tk hp => ?_
  exact (gss_cons (gs_asg (ge_var 0) (gg_seq rfl (ggs_cons (gg_name 1 sc_read_ball.nd) (ggs_cons (gg_name 2 sc_read_ball.nd) (ggs_cons (gg_name 3 sc_read_ball.nd) (ggs_cons (gg_name 4 sc_read_ball.nd) (ggs_cons (gg_name 5 sc_read_ball.nd) (ggs_cons (gg_name 6 sc_read_ball.nd) (ggs_cons (gg_name 7 sc_read_ball.nd) ggs_nil)))))))))
   (gss_one (gs_ret (ge_tup (ga_cons (ge_var 2) (ga_cons (ge_ct cd_int rfl T.n_int bt_int (ga_cons (ge_var 3) ga_nil)) (ga_cons (ge_ct cd_int rfl T.n_int bt_int (ga_cons (ge_var 4) ga_nil)) (ga_cons (ge_kget TD.kd_STEP_WORDS rfl T.gd_STEP_WORDS (ge_var 5)) (ga_cons (ge_kget TD.kd_STEP_WORDS rfl T.gd_STEP_WORDS (ge_var 6)) (ga_cons (ge_ct cd_int rfl T.n_int bt_int (ga_cons (ge_var 7) ga_nil)) ga_nil))))))))))
theorem ok_parse_setup (T : Tx K mg A) (TD : TDx w K A) : DOk (coreOf A) P w K mg base 5 A.a_parse_setup A.f_parse_setup ["text"] m_parse_setup := by
  have G_check_form := ok_check_form (P := P) (w := w) (base := base) T TD
  have G_read_pair := ok_read_pair (P := P) (w := w) (base := base) T TD
  have G_read_ball := ok_read_ball (P := P) (w := w) (base := base) T TD
  have G_Table___init := ok_Table___init (P := P) (w := w) (base := base) T TD
  have G_check_balls := ok_check_balls (P := P) (w := w) (base := base) T TD
  refine dok (Y := cfg A) (body := d_parse_setup) T.F_parse_setup sc_parse_setup fun cdv A' outer s H E hr tk hp => ?_
  exact (gss_cons (gs_asgLc 1 [("line", 2)] rfl sc_parse_setup.nd (gi_seq (ge_split (ge_var 0) ge_str)) (blkOk_by (N := N_parse_setup) (sc := defScope s_parse_setup) (own := [("line", 2)]) (by decide +kernel)) (fun _ _ _ _ _ => (gg_name 2 sc_parse_setup.nd)) (by decide) (fun _ _ _ _ _ => gts_nil) (fun _ _ _ _ _ => (ge_split (ge_var 2) ge_str)))
   (gss_cons (gs_expr (ge_call G_check_form (hr.mono (by decide)) tk rfl T.g_check_form T.F_check_form.kp T.b_check_form T.d_check_form (fun _ _ h => runD_len h) (ga_cons (ge_var 1) ga_nil)))
   (gss_cons (gs_asgLc 3 [("row", 4)] rfl sc_parse_setup.nd (gi_seq (ge_var 1)) (blkOk_by (N := N_parse_setup) (sc := defScope s_parse_setup) (own := [("row", 4)]) (by decide +kernel)) (fun _ _ _ _ _ => (gg_name 4 sc_parse_setup.nd)) (by decide) (fun _ _ _ _ _ => (gts_one (gt_cmp (od_eq (hu65 hr)) (ge_ix (ge_var 4) ge_int) ge_str))) (fun _ _ _ _ _ => (ge_call G_read_pair (hr.mono (by decide)) takes0 rfl T.g_read_pair T.F_read_pair.kp T.b_read_pair T.d_read_pair (fun _ _ h => runD_len h) (ga_cons (ge_var 4) ga_nil))))
   (gss_cons (gs_asgLc 5 [("row", 4)] rfl sc_parse_setup.nd (gi_seq (ge_var 1)) (blkOk_by (N := N_parse_setup) (sc := defScope s_parse_setup) (own := [("row", 4)]) (by decide +kernel)) (fun _ _ _ _ _ => (gg_name 4 sc_parse_setup.nd)) (by decide) (fun _ _ _ _ _ => (gts_one (gt_cmp (od_eq (hu65 hr)) (ge_ix (ge_var 4) ge_int) ge_str))) (fun _ _ _ _ _ => (ge_call G_read_ball (hr.mono (by decide)) takes0 rfl T.g_read_ball T.F_read_ball.kp T.b_read_ball T.d_read_ball (fun _ _ h => runD_len h) (ga_cons (ge_var 4) ga_nil))))
   (gss_cons (gs_asg (ge_call G_read_pair (hr.mono (by decide)) tk rfl T.g_read_pair T.F_read_pair.kp T.b_read_pair T.d_read_pair (fun _ _ h => runD_len h) (ga_cons (ge_ix (ge_var 1) ge_int) ga_nil)) (gg_seq rfl (ggs_cons (gg_name 6 sc_parse_setup.nd) (ggs_cons (gg_name 7 sc_parse_setup.nd) ggs_nil))))
   (gss_cons (gs_set 8 sc_parse_setup.nd (ge_make 4 T.mk_Table G_Table___init (hr.mono (by decide)) tk rfl T.gc_Table T.b_Table___init T.d_Table___init (fun _ _ h => runI_len h) (ga_cons (ge_var 6) (ga_cons (ge_var 7) (ga_cons (ge_var 3) ga_nil)))))
   (gss_cons (gs_expr (ge_call G_check_balls (hr.mono (by decide)) tk rfl T.g_check_balls T.F_check_balls.kp T.b_check_balls T.d_check_balls (fun _ _ h => runD_len h) (ga_cons (ge_var 8) (ga_cons (ge_var 5) ga_nil))))
   (gss_one (gs_ret (ge_tup (ga_cons (ge_var 8) (ga_cons (ge_var 5) ga_nil))))))))))))
theorem ok_law_parsed (T : Tx K mg A) (TD : TDx w K A) : DOk (coreOf A) P w K mg base 6 A.a_law_parsed A.f_law_parsed ["text"] m_law_parsed := by
  have G_parse_setup := ok_parse_setup (P := P) (w := w) (base := base) T TD
  refine dok (Y := cfg A) (body := d_law_parsed) T.F_law_parsed sc_law_parsed fun cdv A' outer s H E hr tk hp => ?_
  exact (gss_cons (gs_tryN (T := exP) rfl rfl sc_law_parsed.nd tk (fun W' pn xe tk' hp' => (gss_one (gs_asg (ge_call G_parse_setup (hr.mono (by decide)) tk' rfl T.g_parse_setup T.F_parse_setup.kp T.b_parse_setup T.d_parse_setup (fun _ _ h => runD_len h) (ga_cons (ge_var 0) ga_nil)) (gg_seq rfl (ggs_cons (gg_name 1 sc_law_parsed.nd) (ggs_cons (gg_name 2 sc_law_parsed.nd) ggs_nil))))))
   (.cons 1 3 rfl rfl ⟨rfl, by decide, .inl T.gc_InvalidTable⟩ T.ex_InvalidTable (fun i a oe d pn hT hz hf hd => by
    cases hd (T.exc_InvalidTable i hT).2
    exact (gss_one (gs_ret (ge_ix (ge_lst (ga_cons ge_str (ga_cons ge_str ga_nil))) (ge_ct cd_int rfl T.n_int bt_int (ga_cons (ge_not (ge_isE (kit := kit_InvalidNotation) 3 (pe_glob (v := .ref A.c_InvalidNotation) rfl T.gc_InvalidNotation rfl) (fun _ h => h) (fun b h => T.kit_InvalidNotation _ b h) (call_isE (T.exc_InvalidTable _ hT).1 hz hf) rfl T.n_isinstance)) ga_nil))))))
   (.cons 2 3 rfl rfl ⟨rfl, by decide, .inl T.gc_InvalidBall⟩ T.ex_InvalidBall (fun i a oe d pn hT hz hf hd => by
    cases hd (T.exc_InvalidBall i hT).2
    exact (gss_one (gs_ret (ge_ix (ge_lst (ga_cons ge_str (ga_cons ge_str ga_nil))) (ge_ct cd_int rfl T.n_int bt_int (ga_cons (ge_not (ge_isE (kit := kit_InvalidNotation) 3 (pe_glob (v := .ref A.c_InvalidNotation) rfl T.gc_InvalidNotation rfl) (fun _ h => h) (fun b h => T.kit_InvalidNotation _ b h) (call_isE (T.exc_InvalidBall _ hT).1 hz hf) rfl T.n_isinstance)) ga_nil))))))
   .nil)))
   (gss_one (gs_ret (ge_lst (ga_cons (ge_fld 4 (ge_var 1) T.cls_Table T.no_Table_width) (ga_cons (ge_fld 4 (ge_var 1) T.cls_Table T.no_Table_height) (ga_cons (ge_fld 4 (ge_var 1) T.cls_Table T.no_Table_pockets) (ga_cons (ge_var 2) ga_nil))))))))
theorem ok_law (T : Tx K mg A) (TD : TDx w K A) : DOk (coreOf A) P w K mg base 7 A.a_law A.f_law ["script"] m_law := by
  have G_law_numbers := ok_law_numbers (P := P) (w := w) (base := base) T TD
  have G_law_parts := ok_law_parts (P := P) (w := w) (base := base) T TD
  have G_law_count := ok_law_count (P := P) (w := w) (base := base) T TD
  have G_law_balls := ok_law_balls (P := P) (w := w) (base := base) T TD
  have G_law_changed := ok_law_changed (P := P) (w := w) (base := base) T TD
  have G_law_lines := ok_law_lines (P := P) (w := w) (base := base) T TD
  have G_law_due := ok_law_due (P := P) (w := w) (base := base) T TD
  have G_law_parsed := ok_law_parsed (P := P) (w := w) (base := base) T TD
  refine dok (Y := cfg A) (body := d_law) T.F_law sc_law fun cdv A' outer s H E hr tk hp => ?_
  exact (gss_cons (gs_set 1 sc_law.nd (ge_call G_law_numbers (hr.mono (by decide)) tk rfl T.g_law_numbers T.F_law_numbers.kp T.b_law_numbers T.d_law_numbers (fun _ _ h => runD_len h) (ga_cons (ge_var 0) (ga_cons ge_int ga_nil))))
   (gss_cons (gs_set 2 sc_law.nd (ge_call G_law_parts (hr.mono (by decide)) tk rfl T.g_law_parts T.F_law_parts.kp T.b_law_parts T.d_law_parts (fun _ _ h => runD_len h) (ga_cons (ge_var 1) ga_nil)))
   (gss_cons (gs_set 3 sc_law.nd (ge_call G_law_balls (hr.mono (by decide)) tk rfl T.g_law_balls T.F_law_balls.kp T.b_law_balls T.d_law_balls (fun _ _ h => runD_len h) (ga_cons (ge_var 1) (ga_cons ge_int (ga_cons (ge_ix (ge_var 2) ge_int) (ga_cons (ge_ix (ge_var 2) ge_int) (ga_cons (ge_call G_law_count (hr.mono (by decide)) tk rfl T.g_law_count T.F_law_count.kp T.b_law_count T.d_law_count (fun _ _ h => runD_len h) (ga_cons (ge_ix (ge_var 1) ge_int) (ga_cons ge_int ga_nil))) ga_nil)))))))
   (gss_cons (gs_asg (ge_call G_law_changed (hr.mono (by decide)) tk rfl T.g_law_changed T.F_law_changed.kp T.b_law_changed T.d_law_changed (fun _ _ h => runD_len h) (ga_cons (ge_var 2) (ga_cons (ge_var 3) (ga_cons (ge_var 1) ga_nil)))) (gg_seq rfl (ggs_cons (gg_name 4 sc_law.nd) (ggs_cons (gg_name 5 sc_law.nd) ggs_nil))))
   (gss_cons (gs_set 6 sc_law.nd (ge_join ge_str (ge_call G_law_lines (hr.mono (by decide)) tk rfl T.g_law_lines T.F_law_lines.kp T.b_law_lines T.d_law_lines (fun _ _ h => runD_len h) (ga_cons (ge_var 4) (ga_cons (ge_var 5) ga_nil)))))
   (gss_cons (gs_set 7 sc_law.nd (ge_call G_law_due (hr.mono (by decide)) tk rfl T.g_law_due T.F_law_due.kp T.b_law_due T.d_law_due (fun _ _ h => runD_len h) (ga_cons (ge_var 4) (ga_cons (ge_var 5) ga_nil))))
   (gss_cons (gs_if (GW.pt (gw_or (gt_cmp (od_ne (hu65 hr)) (ge_call G_law_parsed (hr.mono (by decide)) tk rfl T.g_law_parsed T.F_law_parsed.kp T.b_law_parsed T.d_law_parsed (fun _ _ h => runD_len h) (ga_cons (ge_var 6) ga_nil)) (ge_var 7)) (gw_or1 (gt_cmp (od_ne (hu65 hr)) (ge_call G_law_parsed (hr.mono (by decide)) tk rfl T.g_law_parsed T.F_law_parsed.kp T.b_law_parsed T.d_law_parsed (fun _ _ h => runD_len h) (ga_cons (ge_join ge_str (ge_call G_law_lines (hr.mono (by decide)) tk rfl T.g_law_lines T.F_law_lines.kp T.b_law_lines T.d_law_lines (fun _ _ h => runD_len h) (ga_cons (ge_var 2) (ga_cons (ge_var 3) ga_nil)))) ga_nil)) (ge_call G_law_due (hr.mono (by decide)) tk rfl T.g_law_due T.F_law_due.kp T.b_law_due T.d_law_due (fun _ _ h => runD_len h) (ga_cons (ge_var 2) (ga_cons (ge_var 3) ga_nil)))))))
   (gss_one (gs_ret ge_bl))
   gss_nil)
   (gss_one (gs_ret (ge_and (ge_cmp (od_eq (hu65 hr)) (ge_call G_law_parsed (hr.mono (by decide)) tk rfl T.g_law_parsed T.F_law_parsed.kp T.b_law_parsed T.d_law_parsed (fun _ _ h => runD_len h) (ga_cons (ge_var 6) ga_nil)) (ge_var 7)) (ge_one (ge_cmp (od_eq (hu65 hr)) (ge_call G_law_parsed (hr.mono (by decide)) tk rfl T.g_law_parsed T.F_law_parsed.kp T.b_law_parsed T.d_law_parsed (fun _ _ h => runD_len h) (ga_cons ge_str ga_nil)) ge_str))))))))))))
end
/-! ### the end -/
def spLaw (K : PySem.W.Frag) : Sp := fun vs H Q _ => ∃ (a : Addr) (ns : List Int), vs = [.ref a] ∧ SqL K H a (ns.map V.int) ∧ ns.length ≤ 63 ∧ ∀ H', Q (.bl true) H'
theorem reps_ints {K : PySem.W.Frag} {Y : Core} {F : Hp} : ∀ ns : List Int, RepL K Y F (ns.map V.int) (ns.map D.int)
  | [] => .nil
  | n :: ns => .cons (.int n) (reps_ints ns)
section
def smalls (xs : List Int) : Prop := ∀ x ∈ xs, 0 ≤ x ∧ x < 1009
theorem smalls_snoc {xs : List Int} (h : smalls xs) {v : Int} (h0 : 0 ≤ v) (h1 : v < 1009) : smalls (xs ++ [v]) := by
  intro x hx
  rcases List.mem_append.mp hx with h2 | h2
  · exact h x h2
  · rw [List.mem_singleton.mp h2]; exact ⟨h0, h1⟩
theorem smalls_mod {xs : List Int} (h : smalls xs) (v : Int) : smalls (xs ++ [v % 1009]) := smalls_snoc h (Int.emod_nonneg _ (by decide)) (Int.emod_lt_of_pos _ (by decide))
theorem v_law_row (c n : Int) (hn : 0 ≤ n) (h2 : n < 1000) : ∃ xs : List Int, xs.length = n.toNat ∧ smalls xs ∧ m_law_row [.int c, .int n] = some (.ok (lsI xs)) := by
  unfold m_law_row d_law_row
  have h1 : -4611686018427387904 ≤ n := by omega
  have h3 : n < 4611686018427387904 := by omega
  simp [h1, h3]
  generalize hF : forD _ _ _ _ = o
  obtain ⟨ρ', rfl, k, xs, r, m, rfl, hl, hx⟩ := forD_of hF (fun i ρ => ∃ k xs r m, ρ = [some (Sl.val (D.int c)), some (Sl.val (D.int n)), some (Sl.own (xs.map D.int)), some (Sl.val (D.int r)), some (Sl.val (D.int m)), k] ∧ xs.length = i ∧ smalls xs) ⟨none, [], _, _, rfl, rfl, fun _ h => nomatch h⟩ (by
    rintro i hi ρ ⟨k, xs, r, m, rfl, hl, hx⟩
    rw [rngD_get]
    rw [rngD_len] at hi
    have hs : xs.length < 16777216 := by omega
    by_cases hc : 1000000000000000000 ≤ absI c
    · refine ⟨_, by simp [hs, hc]; rfl, ?_⟩
      exact ⟨_, xs ++ [r % 1009], _, _, by rw [List.map_append]; rfl, by simp [hl], smalls_mod hx _⟩
    · refine ⟨_, by simp [hs, hc]; rfl, ?_⟩
      exact ⟨_, xs ++ [_ % 1009], _, _, by rw [List.map_append]; rfl, by simp [hl], smalls_mod hx _⟩)
  refine ⟨xs, by rw [hl, rngD_len]; simp, hx, ?_⟩
  simp
theorem smalls_take {xs : List Int} (h : smalls xs) (n : Nat) : smalls (xs.take n) := fun x hx => h x (List.mem_of_mem_take hx)
theorem smalls_app {xs ys : List Int} (h : smalls xs) (h' : smalls ys) : smalls (xs ++ ys) := fun x hx => by
  rcases List.mem_append.mp hx with h2 | h2
  · exact h x h2
  · exact h' x h2
theorem v_numbers_while (a b : Option Sl) (n : Int) (hn : n < 10000) (r1 r2 r3 : Option Sl) : ∀ (k : Nat) (xs : List Int), (n - xs.length).toNat = k → smalls xs → xs.length < 100000 →
    ∃ (m : Nat) (ys : List Int), n ≤ ys.length ∧ smalls ys ∧ whD m (dPeek 4 (tst (dOp ltD (dCB lenD (dCons (dVar 4) dNil)) (dVar 1)))) (dApp 4 (dC (.int 0))) [a, some (.val (.int n)), b, r1, some (.own (xs.map D.int)), r2, r3] = some (.nx [a, some (.val (.int n)), b, r1, some (.own (ys.map D.int)), r2, r3])
  | 0, xs, h, hx, hl => by
    refine ⟨1, xs, by omega, hx, whD_end ?_⟩
    have : ¬ (xs.length : Int) < n := by omega
    simp [this]
  | k + 1, xs, h, hx, hl => by
    have h1 : (xs.length : Int) < n := by omega
    have h2 : xs.length < 16777216 := by omega
    obtain ⟨m, ys, e1, e2, e3⟩ := v_numbers_while a b n hn r1 r2 r3 k (xs ++ [0]) (by simp; omega) (smalls_snoc hx (by decide) (by decide)) (by simp; omega)
    refine ⟨m + 1, ys, e1, e2, whD_go ?_ ?_ e3⟩
    · simp [h1]
    · simp [h2]
theorem v_law_numbers (ns : List Int) (hns : ns.length ≤ 63) (n : Int) (hn : 0 ≤ n) (h2 : n < 990) : ∃ xs : List Int, xs.length = n.toNat ∧ smalls xs ∧ m_law_numbers [lsI ns, .int n] = some (.ok (lsI xs)) := by
  unfold m_law_numbers d_law_numbers
  have h0 : 0 < max 1 ((min 63 ns.length : Nat) : Int) := by omega
  have h1 : max 1 ((min 63 ns.length : Nat) : Int) < 1000000000000000000000000000000000000000000000000000000000000000000000000000 := by omega
  have hd : 0 ≤ n / max 1 ((min 63 ns.length : Nat) : Int) ∧ n / max 1 ((min 63 ns.length : Nat) : Int) ≤ n := ⟨Int.ediv_nonneg hn (by omega), Int.ediv_le_self _ hn⟩
  have hc := cut_lsI ns 63 (by decide)
  unfold lsI at hc ⊢
  simp [hc, c_div h0 h1]
  generalize n / max 1 ((min 63 ns.length : Nat) : Int) = e at hd
  generalize hF : forD _ _ _ _ = o
  obtain ⟨ρ', rfl, s5, s6, xs, rfl, hl, hx⟩ := forD_of hF (fun i ρ => ∃ s5 s6 xs, ρ = [some (Sl.val (.lst (ns.map .int))), some (Sl.val (.int n)), some (Sl.val (.lst ((ns.map .int).take 63))), some (Sl.val (.int (1 + e))), some (Sl.own (xs.map D.int)), s5, s6] ∧ xs.length ≤ i * 1000 ∧ smalls xs)
    ⟨_, _, [], rfl, by simp, fun _ h => nomatch h⟩ (by
    rintro i hi ρ ⟨s5, s6, xs, rfl, hl, hx⟩
    have hi2 : i < ns.length ∧ i < 63 := by
      have h := hi
      simp at h
      omega
    obtain ⟨row, r1, r2, r3⟩ := v_law_row ns[i] (1 + e) (by omega) (by omega)
    have hg : ((ns.map D.int).take 63)[i] = .int ns[i] := by simp
    rw [hg]
    unfold lsI at r3
    simp [r3]
    generalize hG : forD _ _ _ _ = o2
    obtain ⟨ρ2, rfl, s6', rfl⟩ := forD_of hG (fun j ρ => ∃ s6, ρ = [some (Sl.val (.lst (ns.map .int))), some (Sl.val (.int n)), some (Sl.val (.lst ((ns.map .int).take 63))), some (Sl.val (.int (1 + e))), some (Sl.own ((xs ++ row.take j).map D.int)), some (Sl.val (.int ns[i])), s6])
      ⟨s6, by simp⟩ (by
      rintro j hj ρ ⟨s6, rfl⟩
      have hj2 : j < row.length := by simpa using hj
      have hg2 : (row.map D.int)[j] = .int row[j] := by simp
      rw [hg2]
      have hb : xs.length + min j row.length < 16777216 := by omega
      refine ⟨_, by simp [hb]; rfl, ?_⟩
      refine ⟨some (Sl.val (.int row[j])), ?_⟩
      simp
      rw [List.take_succ_eq_append_getElem hj]
      simp)
    refine ⟨_, rfl, ?_⟩
    refine ⟨some (Sl.val (.int ns[i])), s6', xs ++ row, ?_, ?_, smalls_app hx r2⟩
    · rw [List.take_of_length_le (l := row) (by simp)]
    · rw [List.length_append]; omega)
  obtain ⟨m, ys, e1, e2, e3⟩ := v_numbers_while (some (Sl.val (.lst (ns.map .int)))) (some (Sl.val (.lst ((ns.map .int).take 63)))) n (by omega) (some (Sl.val (.int (1 + e)))) s5 s6 _ xs rfl hx (by
    have : ((ns.map D.int).take 63).length ≤ 63 := List.length_take_le ..
    have : ((ns.map D.int).take 63).length * 1000 ≤ 63 * 1000 := Nat.mul_le_mul_right _ this
    omega)
  have hw := dWh_of e3
  have hc2 := cut_lsI ys n hn
  unfold lsI at hc2
  simp only [c_seq1, c_seq, hw]
  refine ⟨ys.take n.toNat, ?_, smalls_take e2 _, ?_⟩
  · rw [List.length_take]; omega
  · simp [hc2]
theorem v_law_big {xs : List Int} (hx : smalls xs) {at' least most : Int} (ha : 0 ≤ at') (hl : at' + 11 ≤ xs.length) (hm : least ≤ most) :
    ∃ v, least ≤ v ∧ v ≤ most ∧ m_law_big [lsI xs, .int at', .int least, .int most] = some (.ok (.int v)) := by
  unfold m_law_big d_law_big
  obtain ⟨c, hc0, hc⟩ := ix_lsI (xs := xs) ha (by omega)
  unfold lsI at hc ⊢
  simp [hc]
  by_cases c0 : c % 6 = 0
  · simp [c0]; exact hm
  by_cases c1 : c % 6 = 1
  · simp [c1]; exact hm
  by_cases c4 : c % 6 < 4
  · obtain ⟨b, hb0, hb⟩ := ix_lsI (xs := xs) (i := at' + 1) (by omega) (by omega)
    unfold lsI at hb
    simp [c0, c1, c4, hb]
    omega
  simp [c0, c1, c4]
  generalize hF : forD _ _ _ _ = o
  obtain ⟨ρ', rfl, k, v, rfl⟩ := forD_of hF (fun i ρ => ∃ k v, ρ = [some (Sl.val (.lst (xs.map .int))), some (Sl.val (.int at')), some (Sl.val (.int least)), some (Sl.val (.int most)), some (Sl.val (.int (c % 6))), some (Sl.val (.int v)), k]) ⟨_, _, rfl⟩ (by
    rintro i hi ρ ⟨k, v, rfl⟩
    rw [rngD_get]
    rw [rngD_len] at hi
    have hi2 : i < 10 := hi
    obtain ⟨b, hb0, hb⟩ := ix_lsI (xs := xs) (i := at' + 1 + i) (by omega) (by omega)
    unfold lsI at hb
    refine ⟨_, by simp [hb]; rfl, ?_⟩
    exact ⟨_, _, rfl⟩)
  have hp : 0 < most - least + 1 := by omega
  simp [hp]
  have h1 := Int.emod_nonneg v (show most - least + 1 ≠ 0 by omega)
  have h2 := Int.emod_lt_of_pos v hp
  omega
theorem v_law_count {n most : Int} (hm : 0 ≤ most) (hb : most < 1000) : ∃ v, 0 ≤ v ∧ v ≤ most ∧ m_law_count [.int n, .int most] = some (.ok (.int v)) := by
  unfold m_law_count d_law_count
  have h1 : 0 < most + 1 := by omega
  have h3 := Int.emod_nonneg n (show most + 1 ≠ 0 by omega)
  have h4 := Int.emod_lt_of_pos n h1
  have h5 := Int.emod_nonneg (n / 7) (show most + 1 ≠ 0 by omega)
  have h6 := Int.emod_lt_of_pos (n / 7) h1
  simp [h1]
  have h : n % 4 = 0 ∨ n % 4 = 1 ∨ n % 4 = 2 ∨ n % 4 = 3 := by omega
  rcases h with e | e | e | e <;> rw [e]
  · exact ⟨0, by omega, by omega, rfl⟩
  · exact ⟨most, by omega, by omega, rfl⟩
  · exact ⟨n % (most + 1), by omega, by omega, rfl⟩
  · exact ⟨n / 7 % (most + 1), by omega, by omega, rfl⟩

def inTab (w h : Int) (ps : List (Int × Int)) : Prop := ∀ p ∈ ps, 0 ≤ p.1 ∧ p.1 ≤ w ∧ 0 ≤ p.2 ∧ p.2 ≤ h
theorem v_law_points {xs : List Int} (hx : smalls xs) {at' w h many : Int} (ha : 0 ≤ at') (hw : 0 ≤ w) (hh : 0 ≤ h) (hm : 0 ≤ many) (hm2 : many < 100) (hl : at' + 7 * many + 14 ≤ xs.length) :
    ∃ ps : List (Int × Int), ps.length ≤ many ∧ inTab w h ps ∧ ps.Nodup ∧ (0 < many → 0 < ps.length) ∧ m_law_points [lsI xs, .int at', .int w, .int h, .int many] = some (.ok (.lst (ptsD ps))) := by
  unfold m_law_points d_law_points
  have h1 : -4611686018427387904 ≤ many := by omega
  have h3 : many < 4611686018427387904 := by omega
  unfold lsI
  simp [h1, h3]
  generalize hF : forD _ _ _ _ = o
  obtain ⟨ρ', rfl, k, s7, ps, rfl, hl2, hin, hnd, hne⟩ := forD_of hF (fun i ρ => ∃ k s7 ps, ρ = [some (Sl.val (.lst (xs.map .int))), some (Sl.val (.int at')), some (Sl.val (.int w)), some (Sl.val (.int h)), some (Sl.val (.int many)), some (Sl.own (ptsD ps)), k, s7] ∧ ps.length ≤ i ∧ inTab w h ps ∧ ps.Nodup ∧ (0 < i → 0 < ps.length))
    ⟨_, _, [], rfl, Nat.zero_le _, (fun _ h => nomatch h), List.nodup_nil, fun z => absurd z (Nat.lt_irrefl 0)⟩ (by
    rintro i hi ρ ⟨k, s7, ps, rfl, hl2, hin, hnd, hne⟩
    rw [rngD_get]
    rw [rngD_len] at hi
    obtain ⟨x, x0, x1, ex⟩ := v_law_big hx (at' := at' + 7 * i) (least := 0) (most := w) (by omega) (by omega) hw
    obtain ⟨y, y0, y1, ey⟩ := v_law_big hx (at' := at' + 3 + 7 * i) (least := 0) (most := h) (by omega) (by omega) hh
    unfold lsI at ex ey
    have hb : ps.length < 16777216 := by omega
    have hni := (in_pts (x, y) ps).2
    unfold ptsD ptD at hni
    by_cases hp : (x, y) ∈ ps
    · refine ⟨_, by simp [ex, ey, hni, hp]; rfl, ?_⟩
      exact ⟨_, _, ps, rfl, by omega, hin, hnd, fun _ => List.length_pos_of_mem hp⟩
    · refine ⟨_, by simp [ex, ey, hni, hp, hb]; rfl, ?_⟩
      refine ⟨_, _, ps ++ [(x, y)], by simp only [ptsD, List.map_append]; rfl, by simp; omega, ?_, ?_, fun _ => by simp⟩
      · intro p hp'
        rcases List.mem_append.mp hp' with h2 | h2
        · exact hin p h2
        · rw [List.mem_singleton.mp h2]; exact ⟨x0, x1, y0, y1⟩
      · rw [List.nodup_append]
        exact ⟨hnd, by simp, fun a ha b hb e => hp (by rw [← List.mem_singleton.mp hb, ← e]; exact ha)⟩)
  refine ⟨ps, by rw [rngD_len] at hl2; omega, hin, hnd, fun z => hne (by rw [rngD_len]; omega), ?_⟩
  simp
theorem v_law_parts {xs : List Int} (hx : smalls xs) (hl : 200 ≤ xs.length) : ∃ (w h : Int) (ps : List (Int × Int)), 1 ≤ w ∧ w ≤ 1000000000000000000000000000000 ∧ 1 ≤ h ∧ h ≤ 1000000000000000000000000000000 ∧ ps.length ≤ 12 ∧ inTab w h ps ∧ ps.Nodup ∧
    m_law_parts [lsI xs] = some (.ok (.lst [.int w, .int h, .lst (ptsD ps)])) := by
  obtain ⟨w, w0, w1, ew⟩ := v_law_big hx (at' := 14) (least := 1) (most := 1000000000000000000000000000000) (by decide) (by omega) (by decide)
  obtain ⟨h, h0, h1, eh⟩ := v_law_big hx (at' := 26) (least := 1) (most := 1000000000000000000000000000000) (by decide) (by omega) (by decide)
  obtain ⟨c, _, ec⟩ := ix_lsI (xs := xs) (i := 38) (by decide) (by omega)
  obtain ⟨k, k0, k1, ek⟩ := v_law_count (n := c) (most := 12) (by decide) (by decide)
  obtain ⟨ps, p1, p2, p3, _, ep⟩ := v_law_points hx (at' := 40) (w := w) (h := h) (many := k) (by decide) (by omega) (by omega) k0 (by omega) (by omega)
  refine ⟨w, h, ps, w0, w1, h0, h1, by omega, p2, p3, ?_⟩
  unfold m_law_parts d_law_parts
  unfold lsI at *
  simp [ew, eh, ec, ek, ep]
theorem v_ix {xs : List Int} (hx : smalls xs) {i : Int} (h0 : 0 ≤ i) (h1 : i < xs.length) : ∃ v, 0 ≤ v ∧ v < 1009 ∧ ixD (lsI xs) (.int i) = some (.int v) := by
  obtain ⟨v, e, q⟩ := ix_lsI (xs := xs) h0 h1
  exact ⟨v, (hx v (List.mem_of_getElem? e)).1, (hx v (List.mem_of_getElem? e)).2, q⟩
theorem ix8 (a b c d e f g h : D) (n : Int) : ∃ x, ixD (.lst [a, b, c, d, e, f, g, h]) (.int (n % 8)) = some x ∧ (x = a ∨ x = b ∨ x = c ∨ x = d ∨ x = e ∨ x = f ∨ x = g ∨ x = h) := by
  have h : n % 8 = 0 ∨ n % 8 = 1 ∨ n % 8 = 2 ∨ n % 8 = 3 ∨ n % 8 = 4 ∨ n % 8 = 5 ∨ n % 8 = 6 ∨ n % 8 = 7 := by omega
  rcases h with e | e | e | e | e | e | e | e <;> rw [e]
  · exact ⟨_, rfl, .inl rfl⟩
  · exact ⟨_, rfl, .inr (.inl rfl)⟩
  · exact ⟨_, rfl, .inr (.inr (.inl rfl))⟩
  · exact ⟨_, rfl, .inr (.inr (.inr (.inl rfl)))⟩
  · exact ⟨_, rfl, .inr (.inr (.inr (.inr (.inl rfl))))⟩
  · exact ⟨_, rfl, .inr (.inr (.inr (.inr (.inr (.inl rfl)))))⟩
  · exact ⟨_, rfl, .inr (.inr (.inr (.inr (.inr (.inr (.inl rfl))))))⟩
  · exact ⟨_, rfl, .inr (.inr (.inr (.inr (.inr (.inr (.inr rfl))))))⟩
@[simp] theorem c_gm : k_GREATEST_SIDE = .int 1000000000000000000000000000000 := rfl
@[simp] theorem c_mp : k_MOST_POCKETS = .int 12 := rfl
@[simp] theorem f_w {a b c : D} : fldD (fnP 4) [a, b, c] "width" = some a := rfl
@[simp] theorem f_h {a b c : D} : fldD (fnP 4) [a, b, c] "height" = some b := rfl
@[simp] theorem f_p {a b c : D} : fldD (fnP 4) [a, b, c] "pockets" = some c := rfl
def goodSide (w : Int) : Prop := 1 ≤ w ∧ w ≤ 1000000000000000000000000000000
instance (w : Int) : Decidable (goodSide w) := inferInstanceAs (Decidable (_ ∧ _))
theorem v_check_size (w h : Int) : m_check_size [.int w, .int h] = if goodSide w ∧ goodSide h then some (.ok .non) else some (.exc ⟨1, []⟩) := by
  unfold m_check_size d_check_size
  have e : ∀ o, forD (tgN 2) (dIfS (dNot (tst (dChn leD leD (dC (.int 1)) (dVar 2) (dC k_GREATEST_SIDE)))) (dRaise 1) dPass) [.int w, .int h] [some (.val (.int w)), some (.val (.int h)), none] = o → runD N_check_size 2 (dFor (iSeq (dTup (dCons (dVar 0) (dCons (dVar 1) dNil)))) (tgN 2) (dIfS (dNot (tst (dChn leD leD (dC (.int 1)) (dVar 2) (dC k_GREATEST_SIDE)))) (dRaise 1) dPass)) [.int w, .int h] = endD o := fun o h => by
    rw [← h]; rfl
  by_cases hw : goodSide w
  · by_cases hh : goodSide h
    · rw [if_pos ⟨hw, hh⟩]
      refine e _ (forD_nx (ρ1 := [some (.val (.int w)), some (.val (.int h)), some (.val (.int w))]) ?_ (forD_nx (ρ1 := [some (.val (.int w)), some (.val (.int h)), some (.val (.int h))]) ?_ forD_nil))
      · simp [hw.1, hw.2]
      · simp [hh.1, hh.2]
    · rw [if_neg fun z => hh z.2]
      refine e _ (forD_nx (ρ1 := [some (.val (.int w)), some (.val (.int h)), some (.val (.int w))]) ?_ (forD_exc (x := ⟨1, []⟩) (ρ1 := [some (.val (.int w)), some (.val (.int h)), some (.val (.int h))]) ?_))
      · simp [hw.1, hw.2]
      · unfold goodSide at hh
        simp [hh]
  · rw [if_neg fun z => hw z.1]
    refine e _ (forD_exc (x := ⟨1, []⟩) (ρ1 := [some (.val (.int w)), some (.val (.int h)), some (.val (.int w))]) ?_)
    unfold goodSide at hw
    simp [hw]
abbrev tpD (q : List Int) : D := .tup (q.map D.int)
def ptIn (w h : Int) (q : List Int) : Prop := ∃ x y, q = [x, y] ∧ 0 ≤ x ∧ x ≤ w ∧ 0 ≤ y ∧ y ≤ h
open Classical in
theorem v_is_point (w h : Int) (ps : D) (q : List Int) : m_Table_is_point [.obj 4 [.int w, .int h, ps], tpD q] = some (.ok (.bl (decide (ptIn w h q)))) := by
  unfold m_Table_is_point d_Table_is_point
  by_cases hl : q.length = 2
  · match q, hl with
    | [x, y], _ =>
      have e : ptIn w h [x, y] ↔ (0 ≤ x ∧ x ≤ w) ∧ 0 ≤ y ∧ y ≤ h := by
        constructor
        · rintro ⟨_, _, e, h1, h2, h3, h4⟩
          cases e
          exact ⟨⟨h1, h2⟩, h3, h4⟩
        · rintro ⟨⟨h1, h2⟩, h3, h4⟩
          exact ⟨x, y, rfl, h1, h2, h3, h4⟩
      simp [c_asg, tgSeq, tgsCons, tgsNil, e]
  · have e : ¬ ptIn w h q := by
      rintro ⟨x, y, rfl, _⟩
      exact hl rfl
    simp [show ¬ ((q.length : Int) = 2) by omega, e]
theorem tups_tp : ∀ (qs : List (List Int)), tupsOf (qs.map tpD) = some qs
  | [] => rfl
  | q :: qs => by
    have e1 : ∀ q : List Int, intsOf (q.map D.int) = some q := fun q => by
      induction q with
      | nil => rfl
      | cons a l ih => simp [intsOf, ih]
    have e : tupInts (tpD q) = some q := e1 q
    show tupsOf (tpD q :: qs.map tpD) = _
    simp only [tupsOf, e, tups_tp qs]
abbrev tabD (w h : Int) (qs : List (List Int)) : D := .obj 4 [.int w, .int h, .tup (qs.map tpD)]
abbrev pkBody : SM := (dIfS (dNot (tru (dMeth 4 m_Table_is_point [] (dVar 0) (dCons (dVar 1) dNil))))
 (dRaise 1)
 dPass)
open Classical in
theorem v_pk_turn (t : List (List Int)) (w h : Int) (q : List Int) (s : Option Sl) : (ptIn w h q → turnD (tgN 1) pkBody (tpD q) [some (.val (tabD w h t)), s] = some (.nx [some (.val (tabD w h t)), some (.val (tpD q))])) ∧
    (¬ ptIn w h q → turnD (tgN 1) pkBody (tpD q) [some (.val (tabD w h t)), s] = some (.exc ⟨1, []⟩ [some (.val (tabD w h t)), some (.val (tpD q))])) := by
  have e := v_is_point w h (.tup (t.map tpD)) q
  constructor
  · intro hp
    simp only [decide_eq_true hp] at e
    simp [e]
  · intro hp
    simp only [decide_eq_false hp] at e
    simp [e]
theorem v_pk_loop (t : List (List Int)) (w h : Int) : ∀ (qs : List (List Int)) (s : Option Sl), ((∀ q ∈ qs, ptIn w h q) → ∃ s', forD (tgN 1) pkBody (qs.map tpD) [some (.val (tabD w h t)), s] = some (.nx [some (.val (tabD w h t)), s'])) ∧
    ((¬ ∀ q ∈ qs, ptIn w h q) → ∃ ρ', forD (tgN 1) pkBody (qs.map tpD) [some (.val (tabD w h t)), s] = some (.exc ⟨1, []⟩ ρ'))
  | [], s => ⟨fun _ => ⟨s, rfl⟩, fun z => absurd (fun _ h => nomatch h) z⟩
  | q :: qs, s => by
    by_cases hq : ptIn w h q
    · have ih := v_pk_loop t w h qs (some (.val (tpD q)))
      constructor
      · intro a
        obtain ⟨s', e⟩ := ih.1 fun x hx => a x (List.mem_cons_of_mem _ hx)
        exact ⟨s', forD_nx ((v_pk_turn t w h q s).1 hq) e⟩
      · intro a
        obtain ⟨s', e⟩ := ih.2 fun z => a fun x hx => by
          rcases List.mem_cons.mp hx with rfl | hx
          · exact hq
          · exact z x hx
        exact ⟨s', forD_nx ((v_pk_turn t w h q s).1 hq) e⟩
    · exact ⟨fun a => absurd (a q (List.mem_cons_self ..)) hq, fun _ => ⟨_, forD_exc ((v_pk_turn t w h q s).2 hq)⟩⟩
def goodPk (w h : Int) (qs : List (List Int)) : Prop := qs.length ≤ 12 ∧ (∀ q ∈ qs, ptIn w h q) ∧ qs.Nodup
theorem v_check_pockets (w h : Int) (qs : List (List Int)) : (goodPk w h qs → m_check_pockets [tabD w h qs] = some (.ok .non)) ∧ (¬ goodPk w h qs → m_check_pockets [tabD w h qs] = some (.exc ⟨1, []⟩)) := by
  unfold m_check_pockets d_check_pockets
  by_cases hl : qs.length ≤ 12
  · have hl2 : ¬ (12 : Int) < qs.length := by omega
    have hs : lenSetD (.tup (qs.map tpD)) = some (.int (ddup qs).length) := by
      show (match tupsOf (qs.map tpD) with | some ks => if ks.length < 64 then some (D.int (ddup ks).length) else none | none => none) = _
      rw [tups_tp]
      exact if_pos (by omega)
    have hn := ddup_lt (l := qs)
    by_cases ha : ∀ q ∈ qs, ptIn w h q
    · obtain ⟨s', e⟩ := (v_pk_loop qs w h qs none).1 ha
      by_cases hd : qs.Nodup
      · refine ⟨fun _ => ?_, fun z => absurd ⟨hl, ha, hd⟩ z⟩
        have h1 : ¬ (ddup qs).length < qs.length := fun z => (hn.mp z) hd
        simp [hl2, e, hs, h1]
      · refine ⟨fun z => absurd z.2.2 hd, fun _ => ?_⟩
        have h1 : (ddup qs).length < qs.length := hn.mpr hd
        simp [hl2, e, hs, h1]
    · obtain ⟨s', e⟩ := (v_pk_loop qs w h qs none).2 ha
      refine ⟨fun z => absurd z.2.1 ha, fun _ => ?_⟩
      simp [hl2, e]
  · refine ⟨fun z => absurd z.1 hl, fun _ => ?_⟩
    have hl2 : (12 : Int) < qs.length := by omega
    simp [hl2]
theorem i_fz {a b c : D} {r : Den.Env} : frzI fnP 0 (some (.ins 4 [(("width" : Str), a), (("height" : Str), b), (("pockets" : Str), c)]) :: r) = some (some (.val (.obj 4 [a, b, c])) :: r) := rfl
theorem i_end {a b c : D} {r : Den.Env} : endI fnP (some (.nx (some (.ins 4 [(("width" : Str), a), (("height" : Str), b), (("pockets" : Str), c)]) :: r))) = some (.ok (.obj 4 [a, b, c])) := rfl
/-- the list or tuple of the pockets -/
abbrev isSeqD (d : D) (l : List D) : Prop := d = .lst l ∨ d = .tup l
theorem v_init (w h : Int) (qs : List (List Int)) (pd : D) (hpd : isSeqD pd (qs.map tpD)) (hq : qs.length < 16777216) : (goodSide w ∧ goodSide h ∧ goodPk w h qs → m_Table___init [.int w, .int h, pd] = some (.ok (tabD w h qs))) ∧
    (¬ (goodSide w ∧ goodSide h ∧ goodPk w h qs) → m_Table___init [.int w, .int h, pd] = some (.exc ⟨1, []⟩)) := by
  have hc : compD (tgN 4) dYes (dCB tupleD (dCons (dVar 4) dNil)) (wipeE [some (.ins 4 [(("width" : Str), .int w), (("height" : Str), .int h)]), some (.val (.int w)), some (.val (.int h)), some (.val pd), none] [4]) (qs.map tpD) = some (qs.map tpD) := by
    rw [compD_map (fun d => d) _ fun d hd => ?_]
    · simp
    · obtain ⟨q, _, rfl⟩ := List.mem_map.mp hd
      refine ⟨_, rfl, rfl, ?_⟩
      simp [wipeE]
  have hsq : sqO (some (.ok pd)) = some (.ok (qs.map tpD)) := by
    rcases hpd with rfl | rfl <;> rfl
  have hs := v_check_size w h
  have hp := v_check_pockets w h qs
  have k1 : putFd "width" (D.int w) [] = [(("width" : Str), .int w)] := rfl
  have k2 : putFd "height" (D.int h) [(("width" : Str), D.int w)] = [(("width" : Str), .int w), (("height" : Str), .int h)] := rfl
  have k3 : putFd "pockets" (.tup (qs.map tpD)) [(("width" : Str), D.int w), (("height" : Str), D.int h)] = [(("width" : Str), .int w), (("height" : Str), .int h), (("pockets" : Str), .tup (qs.map tpD))] := rfl
  have hq' : qs.length < sizeLine := hq
  unfold m_Table___init d_Table___init
  by_cases hg : goodSide w ∧ goodSide h
  · rw [if_pos hg] at hs
    by_cases hk : goodPk w h qs
    · refine ⟨fun _ => ?_, fun z => absurd ⟨hg.1, hg.2, hk⟩ z⟩
      have hp' := hp.1 hk
      simp [c_fldS, startI, k1, k2, k3, dLcV, dLc, hsq, hc, hq', hs, c_dropI, i_fz, i_end, hp']
    · refine ⟨fun z => absurd z.2.2 hk, fun _ => ?_⟩
      have hp' := hp.2 hk
      simp [c_fldS, startI, k1, k2, k3, dLcV, dLc, hsq, hc, hq', hs, c_dropI, i_fz, i_end, hp']
  · rw [if_neg hg] at hs
    refine ⟨fun z => absurd ⟨z.1, z.2.1⟩ hg, fun _ => ?_⟩
    simp [c_fldS, startI, k1, k2, k3, dLcV, dLc, hsq, hc, hq', hs]
theorem v_made (w h : Int) (qs : List (List Int)) (hq : qs.length < 16777216) : (goodSide w ∧ goodSide h ∧ goodPk w h qs → m_law_made [.lst [.int w, .int h, .lst (qs.map tpD)]] = some (.ok (tabD w h qs))) ∧
    (¬ (goodSide w ∧ goodSide h ∧ goodPk w h qs) → m_law_made [.lst [.int w, .int h, .lst (qs.map tpD)]] = some (.exc ⟨1, []⟩)) := by
  obtain ⟨h1, h2⟩ := v_init w h qs (.lst (qs.map tpD)) (.inl rfl) hq
  unfold m_law_made d_law_made
  have e0 : ∀ a b c : D, ixD (.lst [a, b, c]) (.int 0) = some a := fun _ _ _ => rfl
  have e1 : ∀ a b c : D, ixD (.lst [a, b, c]) (.int 1) = some b := fun _ _ _ => rfl
  have e2 : ∀ a b c : D, ixD (.lst [a, b, c]) (.int 2) = some c := fun _ _ _ => rfl
  constructor
  · intro g
    simp [e0, e1, e2, h1 g]
  · intro g
    simp [e0, e1, e2, h2 g]
theorem sh_tp {q : List Int} : sh 1 (tpD q) := sh_tup (n := 0) fun d h => by
  obtain ⟨i, _, rfl⟩ := List.mem_map.mp h
  exact sh_int
theorem pts_tp (ps : List (Int × Int)) : ptsD ps = (ps.map fun p => [p.1, p.2]).map tpD := by
  unfold ptsD
  rw [List.map_map]
  rfl
theorem good_pts {w h : Int} {ps : List (Int × Int)} (hl : ps.length ≤ 12) (hin : inTab w h ps) (hnd : ps.Nodup) : goodPk w h (ps.map fun p => [p.1, p.2]) := by
  refine ⟨by simpa using hl, fun q hq => ?_, nodup_pts.mpr hnd⟩
  obtain ⟨p, hp, rfl⟩ := List.mem_map.mp hq
  exact ⟨p.1, p.2, rfl, hin p hp⟩
theorem cut_hi (ds : List D) (n : Int) (hn : 0 ≤ n) : cutD (.lst ds) none (some n) = some (.lst (ds.take n.toNat)) := by
  show some (D.lst (cutA ds none (some n))) = _
  unfold cutA
  obtain ⟨k, rfl⟩ := Int.eq_ofNat_of_zero_le hn
  rw [HT.sIx_none, HT.sIx_nat]
  simp only [Nat.sub_zero, List.drop_zero, Int.toNat_natCast]
  congr 2
  by_cases h : k ≤ ds.length
  · rw [Nat.min_eq_left h]
  · rw [Nat.min_eq_right (by omega), List.take_length, List.take_of_length_le (by omega)]
theorem cut_lo (ds : List D) (n : Int) (hn : 0 ≤ n) (hl : n ≤ ds.length) : cutD (.lst ds) (some n) none = some (.lst (ds.drop n.toNat)) := by
  show some (D.lst (cutA ds (some n) none)) = _
  unfold cutA
  obtain ⟨k, rfl⟩ := Int.eq_ofNat_of_zero_le hn
  rw [HT.sIx_none, HT.sIx_nat]
  have hk : k ≤ ds.length := by omega
  simp only [Int.toNat_natCast, Nat.min_eq_left hk]
  rw [List.take_of_length_le (by simp)]
def low : List Nat := [97, 98, 99, 100, 101, 102, 103, 104, 105, 106, 107, 108, 109, 110, 111, 112, 113, 114, 115, 116, 117, 118, 119, 120, 121, 122]
def dig : List Nat := [48, 49, 50, 51, 52, 53, 54, 55, 56, 57]
theorem t_low : ("abcdefghijklmnopqrstuvwxyz" : Str) = txS low := by decide +kernel
theorem t_dig : ("0123456789" : Str) = txS dig := by decide +kernel
theorem t_all : ("abcdefghijklmnopqrstuvwxyz0123456789" : Str) = txS (low ++ dig) := by decide +kernel
structure goodName (l : List Nat) : Prop where
  le : l.length ≤ 12
  all : ∀ c ∈ l, c ∈ low ++ dig
  hd : ∃ c r, l = c :: r ∧ c ∈ low
theorem all_at {i : Int} (h0 : 0 ≤ i) (h : i < 36) : ∃ c, c ∈ low ++ dig ∧ ixD (tx (low ++ dig)) (.int i) = some (tx [c]) ∧ (i < 26 → c ∈ low) := by
  have hz : (low ++ dig).length = 36 := rfl
  obtain ⟨c, e, q⟩ := ix_tx (l := low ++ dig) (i := i) (by rw [hz]; decide) h0 (by rw [hz]; exact h)
  refine ⟨c, List.mem_of_getElem? e, q, fun h26 => ?_⟩
  rw [List.getElem?_append_left (by show i.toNat < 26; omega)] at e
  exact List.mem_of_getElem? e
def nameOk (l : List Nat) : Bool := match l with
  | [] => false
  | c :: r => decide (r.length + 1 ≤ 12) && decide (c ∈ low) && (c :: r).all fun x => decide (x ∈ low ++ dig)
theorem compD_map2 {α : Type} {g : TM} {mt me : Den.Env → M} {ρ : Den.Env} (h F : α → D) : ∀ (l : List α), (∀ a ∈ l, ∃ ρ1, g (h a) ρ = some ρ1 ∧ mt ρ1 = some (.ok (.bl true)) ∧ me ρ1 = some (.ok (F a))) → compD g mt me ρ (l.map h) = some (l.map F)
  | [], _ => rfl
  | a :: l, q => by
    obtain ⟨ρ1, e1, e2, e3⟩ := q a (List.mem_cons_self ..)
    simp only [List.map_cons]
    unfold compD
    simp only [e1, e2, e3, compD_map2 h F l fun x hx => q x (List.mem_cons_of_mem _ hx)]
theorem blsOf_map {α : Type} (f : α → Bool) : ∀ l : List α, blsOf (l.map fun a => D.bl (f a)) = some (l.map f)
  | [] => rfl
  | a :: l => by simp only [List.map_cons, blsOf, blsOf_map f l, Option.map]
theorem v_is_name {l : List Nat} (hz : l.length ≤ 1000) : m_is_name [tx l] = some (.ok (.bl (nameOk l))) := by
  have k1 : k_LETTERS = tx low := congrArg D.str t_low
  have k2 : k_DIGITS = tx dig := congrArg D.str t_dig
  have k3 : k_LONGEST_NAME = .int 12 := rfl
  have lp := len_tx (l := l) (by omega)
  cases l with
  | nil =>
    have lp : lenD [tx []] = some (.int 0) := lp
    unfold m_is_name d_is_name
    generalize tx [] = B at *
    simp [N_is_name, lp, nameOk]
  | cons d r =>
    by_cases h12 : r.length + 1 ≤ 12
    · by_cases hd : d ∈ low
      · have n1 := ni_tx1 d low
        rw [decide_eq_true hd] at n1
        obtain ⟨d', hd', ed⟩ := ix_tx (l := d :: r) (i := 0) (by omega) (by decide) (by rw [List.length_cons]; omega)
        have hdc : d' = d := by simpa using hd'.symm
        subst hdc
        have ka := add_tx (a := low) (b := dig) (by decide)
        have hin : ∀ y, inO (tx [y]) (tx (low ++ dig)) = some (.bl (decide (y ∈ low ++ dig))) := fun y => in_tx1 y _
        have hcomp : ∀ A, compD (tgN 1) dYes (dOp inO (dVar 1) (dOp addD (dC (tx low)) (dC (tx dig)))) [A, none] ((d' :: r).map fun c => tx [c]) = some ((d' :: r).map fun c => D.bl (decide (c ∈ low ++ dig))) := by
          intro A
          refine compD_map2 _ _ _ fun y hy => ⟨[A, some (.val (tx [y]))], rfl, rfl, ?_⟩
          have := hin y
          generalize tx [y] = B at *
          generalize tx (low ++ dig) = C at *
          generalize tx low = D1 at *
          generalize tx dig = D2 at *
          simp [ka, this]
        have hall : allD [.lst ((d' :: r).map fun c => D.bl (decide (c ∈ low ++ dig)))] = some (.bl ((d' :: r).all fun x => decide (x ∈ low ++ dig))) := by
          show (blsOf _).map _ = _
          rw [blsOf_map]
          show some (D.bl (((d' :: r).map fun c => decide (c ∈ low ++ dig)).all id)) = _
          rw [List.all_map]; rfl
        have hsz : ((d' :: r).map fun c => tx [c]).length < sizeLine := by rw [List.length_map]; exact Nat.lt_of_le_of_lt hz (by decide)
        have hit : ∀ ρ : Den.Env, iTxt (dVar 0) (some (.val (tx (d' :: r))) :: ρ) = some (.ok ((d' :: r).map fun c => tx [c])) := fun ρ => itx_tx (by simp)
        have hok : nameOk (d' :: r) = (d' :: r).all fun x => decide (x ∈ low ++ dig) := by
          show (decide (r.length + 1 ≤ 12) && decide (d' ∈ low) && _) = _
          rw [decide_eq_true h12, decide_eq_true hd]; rfl
        rw [hok]
        have h1 : (1 : Int) ≤ (d' :: r).length := by rw [List.length_cons]; omega
        have h2 : ((d' :: r).length : Int) ≤ 12 := by rw [List.length_cons]; omega
        generalize ((d' :: r).all fun x => decide (x ∈ low ++ dig)) = bb at *
        generalize ((d' :: r).map fun c => tx [c]) = cs at *
        generalize ((d' :: r).map fun c => D.bl (decide (c ∈ low ++ dig))) = bs at *
        generalize ((d' :: r).length : Int) = L at *
        generalize tx (d' :: r) = B at *
        generalize tx [d'] = C at *
        generalize tx (low ++ dig) = E at *
        generalize tx low = D1 at *
        generalize tx dig = D2 at *
        unfold m_is_name d_is_name
        simp [N_is_name, lp, k3, h1, h2, ed, k1, k2, n1, dLcV, dLc, wipeE, hit, hsz, hcomp, hall]
      · have n1 := ni_tx1 d low
        rw [decide_eq_false hd] at n1
        obtain ⟨d', hd', ed⟩ := ix_tx (l := d :: r) (i := 0) (by omega) (by decide) (by rw [List.length_cons]; omega)
        have hdc : d' = d := by simpa using hd'.symm
        subst hdc
        have hok : nameOk (d' :: r) = false := by
          show (decide (r.length + 1 ≤ 12) && decide (d' ∈ low) && _) = _
          rw [decide_eq_false hd]; simp
        rw [hok]
        have h1 : (1 : Int) ≤ (d' :: r).length := by rw [List.length_cons]; omega
        have h2 : ((d' :: r).length : Int) ≤ 12 := by rw [List.length_cons]; omega
        generalize ((d' :: r).length : Int) = L at *
        generalize tx (d' :: r) = B at *
        generalize tx [d'] = C at *
        generalize tx low = D1 at *
        unfold m_is_name d_is_name
        simp [N_is_name, lp, k3, h1, h2, ed, k1, n1]
    · have hok : nameOk (d :: r) = false := by
        show (decide (r.length + 1 ≤ 12) && decide (d ∈ low) && _) = _
        rw [decide_eq_false h12]; simp
      rw [hok]
      have h2 : ¬ ((d :: r).length : Int) ≤ 12 := by rw [List.length_cons]; omega
      generalize ((d :: r).length : Int) = L at *
      generalize tx (d :: r) = B at *
      unfold m_is_name d_is_name
      simp [N_is_name, lp, k3, h2]
theorem nameOk_good {l : List Nat} (g : goodName l) : nameOk l = true := by
  obtain ⟨c, r, rfl, hc⟩ := g.hd
  have h := g.le
  show (decide (r.length + 1 ≤ 12) && decide (c ∈ low) && ((c :: r).all fun x => decide (x ∈ low ++ dig))) = true
  rw [decide_eq_true (show r.length + 1 ≤ 12 from h), decide_eq_true hc]
  have : ((c :: r).all fun x => decide (x ∈ low ++ dig)) = true := by
    rw [List.all_eq_true]
    intro x hx
    exact decide_eq_true (g.all x hx)
  rw [this]; rfl
theorem v_is_integer (i : Int) : m_is_integer [.int i] = some (.ok (.bl true)) := by
  unfold m_is_integer d_is_integer
  simp [N_is_integer]
abbrev blD (nm : Str) (x y dx dy t : Int) : D := .tup [.str nm, .int x, .int y, .int dx, .int dy, .int t]
def dirB (dx dy : Int) : Bool := decide (dx = -1 ∨ dx = 0 ∨ dx = 1) && decide (dy = -1 ∨ dy = 0 ∨ dy = 1) && !(decide (dx = 0) && decide (dy = 0))
theorem ni_steps (d : Int) : niO (.int d) k_STEPS = some (.bl (!decide (d = -1 ∨ d = 0 ∨ d = 1))) := by
  have h1 : shD (.int d) = true := sh_D (n := 0) sh_int (by decide)
  have h2 : shD k_STEPS = true := by decide +kernel
  have e : ∀ i : Int, PyData.eqv (D.int i).py (D.int d).py = (i == d) := fun i => by simp [D.py, PyData.eqv]
  have h3 : inD (.int d) k_STEPS = some (decide (d = -1 ∨ d = 0 ∨ d = 1)) := by
    show (if shD (.int d) = true ∧ shD k_STEPS = true then some (([D.int (-1), .int 0, .int 1] : List D).any fun z => PyData.eqv z.py (D.int d).py) else none) = _
    rw [if_pos ⟨h1, h2⟩]
    congr 1
    rw [List.any_cons, List.any_cons, List.any_cons, e, e, e, Bool.eq_iff_iff]
    simp only [Bool.or_eq_true, beq_iff_eq, List.any_nil, Bool.false_eq_true, or_false, decide_eq_true_eq]
    omega
  show (inD _ _).map _ = _
  rw [h3]; rfl
theorem eq_pt0 (a b : Int) : eqO (.tup [.int a, .int b]) (.tup [.int 0, .int 0]) = some (.bl (decide (a = 0) && decide (b = 0))) := by
  have h := eqv_pt (a, b) (0, 0)
  have s1 : shD (ptD (a, b)) = true := sh_D sh_pt (by decide)
  have s2 : shD (ptD ((0 : Int), (0 : Int))) = true := sh_D sh_pt (by decide)
  show (if shD (ptD (a, b)) = true ∧ shD (ptD ((0 : Int), (0 : Int))) = true then some (PyData.eqv (ptD (a, b)).py (ptD ((0 : Int), (0 : Int))).py) else none).map _ = _
  rw [if_pos ⟨s1, s2⟩, h]
  simp [Prod.ext_iff]
open Classical in
/-- is_ball of a tuple of a text and five ints -/
theorem v_is_ball_gen {nm : Str} {w h x y dx dy t : Int} {qs : List (List Int)} {nb : Bool} (hn : m_is_name [.str nm] = some (.ok (.bl nb))) :
    m_is_ball [tabD w h qs, blD nm x y dx dy t] = some (.ok (.bl (dirB dx dy && (nb && (decide (ptIn w h [x, y]) && decide (0 ≤ t ∧ t ≤ 1000000000000000000000000000000)))))) := by
  have hp : m_Table_is_point [tabD w h qs, .tup [.int x, .int y]] = some (.ok (.bl (decide (ptIn w h [x, y])))) := v_is_point w h _ [x, y]
  have k1 : k_LATEST_START = .int 1000000000000000000000000000000 := rfl
  have cut : cutD (blD nm x y dx dy t) (some 1) none = some (.tup [.int x, .int y, .int dx, .int dy, .int t]) := rfl
  have tg : tgSeq 6 (tgsCons (tgN 2) (tgsCons (tgN 3) (tgsCons (tgN 4) (tgsCons (tgN 5) (tgsCons (tgN 6) (tgsCons (tgN 7) tgsNil)))))) (blD nm x y dx dy t) [some (.val (tabD w h qs)), some (.val (blD nm x y dx dy t)), none, none, none, none, none, none, none] = some [some (.val (tabD w h qs)), some (.val (blD nm x y dx dy t)), some (.val (.str nm)), some (.val (.int x)), some (.val (.int y)), some (.val (.int dx)), some (.val (.int dy)), some (.val (.int t)), none] := rfl
  have hsz : (5 < sizeLine) = True := eq_true (by decide)
  have al : allD [.lst [.bl true, .bl true, .bl true, .bl true, .bl true]] = some (.bl true) := rfl
  have n1 := ni_steps dx
  have n2 := ni_steps dy
  have z := eq_pt0 dx dy
  unfold dirB
  generalize decide (ptIn w h [x, y]) = pp at *
  unfold m_is_ball d_is_ball
  by_cases h1 : dx = -1 ∨ dx = 0 ∨ dx = 1
  · by_cases h2 : dy = -1 ∨ dy = 0 ∨ dy = 1
    · by_cases h3 : dx = 0 ∧ dy = 0
      · rw [decide_eq_true h1] at n1
        rw [decide_eq_true h2] at n2
        rw [decide_eq_true h1, decide_eq_true h2]
        rw [decide_eq_true h3.1, decide_eq_true h3.2] at z ⊢
        simp [N_is_ball, c_asg, tg, cut, dLcV, dLc, compD, dYes, wipeE, v_is_integer, hsz, al, n1, n2, z]
      · have h4 : (decide (dx = 0) && decide (dy = 0)) = false := by
          by_cases a : dx = 0
          · rw [decide_eq_false (fun b => h3 ⟨a, b⟩), Bool.and_false]
          · rw [decide_eq_false a, Bool.false_and]
        rw [decide_eq_true h1] at n1
        rw [decide_eq_true h2] at n2
        rw [h4] at z
        rw [decide_eq_true h1, decide_eq_true h2, h4]
        cases nb with
        | false => simp [N_is_ball, c_asg, tg, cut, dLcV, dLc, compD, dYes, wipeE, v_is_integer, hsz, al, n1, n2, z, hn]
        | true =>
          cases pp with
          | false => simp [N_is_ball, c_asg, tg, cut, dLcV, dLc, compD, dYes, wipeE, v_is_integer, hsz, al, n1, n2, z, hn, hp]
          | true =>
            by_cases ht : 0 ≤ t
            · simp [N_is_ball, c_asg, tg, cut, dLcV, dLc, compD, dYes, wipeE, v_is_integer, hsz, al, n1, n2, z, hn, hp, k1, ht]
            · simp [N_is_ball, c_asg, tg, cut, dLcV, dLc, compD, dYes, wipeE, v_is_integer, hsz, al, n1, n2, z, hn, hp, k1, ht]
    · rw [decide_eq_true h1] at n1
      rw [decide_eq_false h2] at n2
      rw [decide_eq_true h1, decide_eq_false h2]
      simp [N_is_ball, c_asg, tg, cut, dLcV, dLc, compD, dYes, wipeE, v_is_integer, hsz, al, n1, n2]
  · rw [decide_eq_false h1] at n1
    rw [decide_eq_false h1]
    simp [N_is_ball, c_asg, tg, cut, dLcV, dLc, compD, dYes, wipeE, v_is_integer, hsz, al, n1]
theorem is_ball_len {T : D} {ds : List D} (h : ds.length ≠ 6) : m_is_ball [T, .tup ds] = some (.ok (.bl false)) := by
  have h2 : ¬ (ds.length : Int) = 6 := by omega
  unfold m_is_ball d_is_ball
  simp [N_is_ball, h2]
theorem v_check_ball_gen {T b : D} {q : Bool} (h : m_is_ball [T, b] = some (.ok (.bl q))) : m_check_ball [T, b] = if q = true then some (.ok .non) else some (.exc ⟨2, []⟩) := by
  unfold m_check_ball d_check_ball
  cases q <;> simp [N_check_ball, h]
structure Bl where
  nm : Str
  x : Int
  y : Int
  dx : Int
  dy : Int
  t : Int
abbrev blOf (b : Bl) : D := blD b.nm b.x b.y b.dx b.dy b.t
theorem chk_loop (T B : D) : ∀ (L : List D) (s : Option Sl), (∀ d ∈ L, m_check_ball [T, d] = some (.ok .non)) → ∃ s', ∀ rest, forD (tgN 2) (dDrop (dCall m_check_ball [] (dCons (dVar 0) (dCons (dVar 2) dNil)))) (L ++ rest) [some (.val T), some (.val B), s] = forD (tgN 2) (dDrop (dCall m_check_ball [] (dCons (dVar 0) (dCons (dVar 2) dNil)))) rest [some (.val T), some (.val B), s']
  | [], s, _ => ⟨s, fun _ => rfl⟩
  | d :: L, s, h => by
    obtain ⟨s', e⟩ := chk_loop T B L (some (.val d)) fun x hx => h x (List.mem_cons_of_mem _ hx)
    refine ⟨s', fun rest => ?_⟩
    rw [List.cons_append]
    refine forD_nx (ρ1 := [some (.val T), some (.val B), some (.val d)]) ?_ (e rest)
    have := h d (List.mem_cons_self ..)
    simp [this]
theorem strs_map {α : Type} (f : α → Str) : ∀ L : List α, strsOf (L.map fun a => D.str (f a)) = some (L.map f)
  | [] => rfl
  | a :: L => by simp only [List.map_cons, strsOf, strs_map f L, Option.map]
theorem v_check_balls_good {T : D} {L : List Bl} (h : ∀ b ∈ L, m_check_ball [T, blOf b] = some (.ok .non)) (hl : L.length < 1000) :
    (L.length ≤ 12 → (L.map Bl.nm).Nodup → m_check_balls [T, .lst (L.map blOf)] = some (.ok .non)) ∧ (¬ (L.length ≤ 12 ∧ (L.map Bl.nm).Nodup) → m_check_balls [T, .lst (L.map blOf)] = some (.exc ⟨2, []⟩)) := by
  have k12 : k_MOST_BALLS = .int 12 := rfl
  obtain ⟨s', e⟩ := chk_loop T (.lst (L.map blOf)) (L.map blOf) none fun d hd => by
    obtain ⟨b, hb, rfl⟩ := List.mem_map.mp hd
    exact h b hb
  have e0 := e []
  rw [List.append_nil] at e0
  have e1 : forD (tgN 2) (dDrop (dCall m_check_ball [] (dCons (dVar 0) (dCons (dVar 2) dNil)))) (L.map blOf) [some (.val T), some (.val (.lst (L.map blOf))), none] = some (.nx [some (.val T), some (.val (.lst (L.map blOf))), s']) := e0
  have hc : compD (tgN 2) dYes (dOp ixD (dVar 2) (dC (.int 0))) (wipeE [some (.val T), some (.val (.lst (L.map blOf))), s'] [2]) (L.map blOf) = some (L.map fun b => D.str b.nm) := by
    refine compD_map2 _ _ _ fun b hb => ⟨[some (.val T), some (.val (.lst (L.map blOf))), some (.val (blOf b))], rfl, rfl, ?_⟩
    have : ixD (blOf b) (.int 0) = some (.str b.nm) := rfl
    simp [this]
  have hs := strs_map Bl.nm L
  have hdd := ddup_lt (l := L.map Bl.nm)
  rw [List.length_map] at hdd
  by_cases h12 : L.length ≤ 12
  · have hn12 : ¬ (12 : Int) < L.length := by omega
    have h64 : L.length < 64 := by omega
    by_cases hnd : (L.map Bl.nm).Nodup
    · have hlt : ¬ ((ddup (L.map Bl.nm)).length : Int) < L.length := by
        have : ¬ (ddup (L.map Bl.nm)).length < L.length := fun z => hdd.mp z hnd
        omega
      refine ⟨fun _ _ => ?_, fun z => absurd ⟨h12, hnd⟩ z⟩
      unfold m_check_balls d_check_balls
      simp [N_check_balls, e1, k12, hn12, dLenKs, hc, hs, hlt, h64]
    · have hlt : ((ddup (L.map Bl.nm)).length : Int) < L.length := by
        have : (ddup (L.map Bl.nm)).length < L.length := hdd.mpr hnd
        omega
      refine ⟨fun _ z => absurd z hnd, fun _ => ?_⟩
      unfold m_check_balls d_check_balls
      simp [N_check_balls, e1, k12, hn12, dLenKs, hc, hs, hlt, h64]
  · have hn12 : (12 : Int) < L.length := by omega
    refine ⟨fun z => absurd z h12, fun _ => ?_⟩
    unfold m_check_balls d_check_balls
    simp [N_check_balls, e1, k12, hn12]
theorem v_check_balls_bad {T d : D} {L : List Bl} (h : ∀ b ∈ L, m_check_ball [T, blOf b] = some (.ok .non)) (hd : m_check_ball [T, d] = some (.exc ⟨2, []⟩)) (rest : List D) :
    m_check_balls [T, .lst (L.map blOf ++ d :: rest)] = some (.exc ⟨2, []⟩) := by
  obtain ⟨s', e⟩ := chk_loop T (.lst (L.map blOf ++ d :: rest)) (L.map blOf) none fun d hd => by
    obtain ⟨b, hb, rfl⟩ := List.mem_map.mp hd
    exact h b hb
  have e1 := e (d :: rest)
  have e2 : forD (tgN 2) (dDrop (dCall m_check_ball [] (dCons (dVar 0) (dCons (dVar 2) dNil)))) (d :: rest) [some (.val T), some (.val (.lst (L.map blOf ++ d :: rest))), s'] = some (.exc ⟨2, []⟩ [some (.val T), some (.val (.lst (L.map blOf ++ d :: rest))), some (.val d)]) := forD_exc (by simp [hd])
  rw [e2] at e1
  generalize L.map blOf ++ d :: rest = W at *
  unfold m_check_balls d_check_balls
  simp [N_check_balls, e1]
def chr (i : Int) : Nat := (low ++ dig).getD i.toNat 0
theorem chr_at {i : Int} (h0 : 0 ≤ i) (h : i < 36) : ixD (tx (low ++ dig)) (.int i) = some (tx [chr i]) ∧ chr i ∈ low ++ dig ∧ (i < 26 → chr i ∈ low) := by
  have hz : (low ++ dig).length = 36 := rfl
  obtain ⟨c, e, q⟩ := ix_tx (l := low ++ dig) (i := i) (by rw [hz]; decide) h0 (by rw [hz]; exact h)
  have hc : chr i = c := by
    unfold chr
    rw [List.getD_eq_getElem?_getD, e]; rfl
  rw [hc]
  refine ⟨q, List.mem_of_getElem? e, fun h26 => ?_⟩
  rw [List.getElem?_append_left (by show i.toNat < 26; omega)] at e
  exact List.mem_of_getElem? e
theorem chr_inj {i j : Int} (h0 : 0 ≤ i) (h1 : i < 36) (h2 : 0 ≤ j) (h3 : j < 36) (h : chr i = chr j) : i = j := by
  have key : ∀ a b : Fin 36, (low ++ dig).getD a.1 0 = (low ++ dig).getD b.1 0 → a = b := by decide +kernel
  have := key ⟨i.toNat, by omega⟩ ⟨j.toNat, by omega⟩ h
  have := congrArg Fin.val this
  simp only at this
  omega
def nameP (a0 a2 a3 : Int) (n : Nat) : List Nat := chr (a0 % 26) :: (List.range n).map fun (j : Nat) => chr ((a2 + (j : Int) * a3) % 36)
theorem nameP_len (a0 a2 a3 : Int) (n : Nat) : (nameP a0 a2 a3 n).length = n + 1 := by simp [nameP]
theorem nameP_succ (a0 a2 a3 : Int) (n : Nat) : nameP a0 a2 a3 (n + 1) = nameP a0 a2 a3 n ++ [chr ((a2 + (n : Int) * a3) % 36)] := by
  simp [nameP, List.range_succ]
theorem nameP_all (a0 a2 a3 : Int) (n : Nat) : ∀ c ∈ nameP a0 a2 a3 n, c ∈ low ++ dig := by
  intro c hc
  rcases List.mem_cons.mp hc with rfl | hc
  · exact (chr_at (Int.emod_nonneg _ (by decide)) (by omega)).2.1
  · obtain ⟨j, _, rfl⟩ := List.mem_map.mp hc
    exact (chr_at (Int.emod_nonneg _ (by decide)) (by omega)).2.1
theorem v_name_ix (xs : List Int) (at' k j a2 a3 : Int) (A B : D) (e2 : ixD (.lst (xs.map .int)) (.int (at' + 2)) = some (.int a2)) (e3 : ixD (.lst (xs.map .int)) (.int (at' + 3)) = some (.int a3)) (hmu : mulD (.int j) (.int a3) = some (.int (j * a3))) :
   dOp modD (dCB intD (dCons (dOp addD (dOp ixD (dVar 0) (dOp addD (dVar 1) (dC (.int 2)))) (dOp mulD (dVar 5) (dOp ixD (dVar 0) (dOp addD (dVar 1) (dC (.int 3)))))) dNil)) (dC (.int 36)) [some (.val (.lst (xs.map .int))), some (.val (.int at')), some (.val (.int k)), some (.val A), some (.val B), some (.val (.int j)), none] = some (.ok (.int ((a2 + j * a3) % 36))) := by
  simp [e2, e3, hmu]
theorem v_name_add (A B C : D) (ρ : Den.Env) (n : Int) (h : ρ[4]? = some (some (.val B))) (ma : Den.Env → M) (hm : ma ρ = some (.ok (.int n))) (ed : ixD A (.int n) = some C) (E : D) (ea : addD B C = some E) (h3 : dVar 3 ρ = some (.ok A)) (h4 : dVar 4 ρ = some (.ok B)) :
   dAsg (dOp addD (dVar 4) (dOp ixD (dVar 3) ma)) (tgN 4) ρ = some (.nx (ρ.set 4 (some (.val E)))) := by
  simp [h3, h4, hm, ed, ea]
theorem v_law_name2 {xs : List Int} (hx : smalls xs) {at' : Int} (ha : 0 ≤ at') (hl : at' + 6 ≤ xs.length) : ∃ (pre post : List Nat) (a5 : Int), ∀ k : Int, 0 ≤ k → k < 1000 → goodName (pre ++ [chr ((a5 + 5 * k) % 36)] ++ post) ∧ m_law_name [lsI xs, .int at', .int k] = some (.ok (tx (pre ++ [chr ((a5 + 5 * k) % 36)] ++ post))) := by
  obtain ⟨a0, _, _, e0⟩ := v_ix hx (i := at') ha (by omega)
  obtain ⟨a1, _, _, e1⟩ := v_ix hx (i := at' + 1) (by omega) (by omega)
  obtain ⟨a2, _, _, e2⟩ := v_ix hx (i := at' + 2) (by omega) (by omega)
  obtain ⟨a3, a30, a31, e3⟩ := v_ix hx (i := at' + 3) (by omega) (by omega)
  obtain ⟨a4, _, _, e4⟩ := v_ix hx (i := at' + 4) (by omega) (by omega)
  obtain ⟨a5, _, _, e5⟩ := v_ix hx (i := at' + 5) (by omega) (by omega)
  obtain ⟨ec0, c0m, c0l⟩ := chr_at (i := a0 % 26) (Int.emod_nonneg _ (by decide)) (by omega)
  have hn0 := Int.emod_nonneg a1 (show (11 : Int) ≠ 0 by decide)
  have hn1 := Int.emod_lt_of_pos a1 (show (0 : Int) < 11 by decide)
  have hPl := nameP_len a0 a2 a3 (a1 % 11).toNat
  have hpl : (nameP a0 a2 a3 (a1 % 11).toNat).length ≤ 11 := by omega
  have lp := len_tx (l := nameP a0 a2 a3 (a1 % 11).toNat) (by omega)
  have hall := nameP_all a0 a2 a3 (a1 % 11).toNat
  have hhd : ∃ r, nameP a0 a2 a3 (a1 % 11).toNat = chr (a0 % 26) :: r := ⟨_, rfl⟩
  generalize hL : ((nameP a0 a2 a3 (a1 % 11).toNat).length : Int) = L at lp
  have hL0 : 0 < L := by omega
  have hL1 : L ≤ 11 := by omega
  have pos0 := Int.emod_nonneg a4 (show L ≠ 0 by omega)
  have pos1 := Int.emod_lt_of_pos a4 hL0
  have q1 := cuthi_tx (l := nameP a0 a2 a3 (a1 % 11).toNat) (n := 1 + a4 % L) (by omega) (by omega)
  have q2 := cutlo_tx (l := nameP a0 a2 a3 (a1 % 11).toNat) (n := 1 + a4 % L) (by omega) (by omega) (by omega)
  have hn' : (1 + a4 % L).toNat = (a4 % L).toNat + 1 := by omega
  generalize hP : 1 + a4 % L = P at *
  refine ⟨(nameP a0 a2 a3 (a1 % 11).toNat).take P.toNat, (nameP a0 a2 a3 (a1 % 11).toNat).drop P.toNat, a5, fun k hk hk2 => ?_⟩
  obtain ⟨ec5, c5m, _⟩ := chr_at (i := (a5 + 5 * k) % 36) (Int.emod_nonneg _ (by decide)) (by omega)
  have mk : mulD (.int 5) (.int k) = some (.int (5 * k)) := c_mulL (by decide) (by decide)
  generalize chr ((a5 + 5 * k) % 36) = c5 at *
  have la : ((nameP a0 a2 a3 (a1 % 11).toNat).take P.toNat).length ≤ 11 := by rw [List.length_take]; omega
  have w1 := add_tx (a := (nameP a0 a2 a3 (a1 % 11).toNat).take P.toNat) (b := [c5]) (by rw [List.length_singleton]; omega)
  have w2 := add_tx (a := (nameP a0 a2 a3 (a1 % 11).toNat).take P.toNat ++ [c5]) (b := (nameP a0 a2 a3 (a1 % 11).toNat).drop P.toNat) (by rw [List.length_append, List.length_drop]; simp only [List.length_singleton]; omega)
  constructor
  · refine ⟨?_, ?_, ?_⟩
    · have := congrArg List.length (List.take_append_drop P.toNat (nameP a0 a2 a3 (a1 % 11).toNat))
      rw [List.length_append] at this
      rw [List.length_append, List.length_append, List.length_singleton]
      omega
    · intro x hx
      rcases List.mem_append.mp hx with hx | hx
      · rcases List.mem_append.mp hx with hx | hx
        · exact hall x (List.mem_of_mem_take hx)
        · rw [List.mem_singleton.mp hx]; exact c5m
      · exact hall x (List.mem_of_mem_drop hx)
    · obtain ⟨r, er⟩ := hhd
      rw [hn', er, List.take_succ_cons]
      exact ⟨chr (a0 % 26), _, rfl, c0l (by omega)⟩
  · have loop : ∀ A : D, A = tx (low ++ dig) → forD (tgN 5) (dAsg (dOp addD (dVar 4) (dOp ixD (dVar 3) (dOp modD (dCB intD (dCons (dOp addD (dOp ixD (dVar 0) (dOp addD (dVar 1) (dC (.int 2)))) (dOp mulD (dVar 5) (dOp ixD (dVar 0) (dOp addD (dVar 1) (dC (.int 3)))))) dNil)) (dC (.int 36))))) (tgN 4)) (rngD 0 (a1 % 11)) [some (.val (.lst (xs.map .int))), some (.val (.int at')), some (.val (.int k)), some (.val A), some (.val (tx [chr (a0 % 26)])), none, none]
        = forD (tgN 5) (dAsg (dOp addD (dVar 4) (dOp ixD (dVar 3) (dOp modD (dCB intD (dCons (dOp addD (dOp ixD (dVar 0) (dOp addD (dVar 1) (dC (.int 2)))) (dOp mulD (dVar 5) (dOp ixD (dVar 0) (dOp addD (dVar 1) (dC (.int 3)))))) dNil)) (dC (.int 36))))) (tgN 4)) (rngD 0 (a1 % 11)) [some (.val (.lst (xs.map .int))), some (.val (.int at')), some (.val (.int k)), some (.val A), some (.val (tx [chr (a0 % 26)])), none, none] → ∃ s5, forD (tgN 5) (dAsg (dOp addD (dVar 4) (dOp ixD (dVar 3) (dOp modD (dCB intD (dCons (dOp addD (dOp ixD (dVar 0) (dOp addD (dVar 1) (dC (.int 2)))) (dOp mulD (dVar 5) (dOp ixD (dVar 0) (dOp addD (dVar 1) (dC (.int 3)))))) dNil)) (dC (.int 36))))) (tgN 4)) (rngD 0 (a1 % 11)) [some (.val (.lst (xs.map .int))), some (.val (.int at')), some (.val (.int k)), some (.val A), some (.val (tx [chr (a0 % 26)])), none, none]
          = some (.nx [some (.val (.lst (xs.map .int))), some (.val (.int at')), some (.val (.int k)), some (.val A), some (.val (tx (nameP a0 a2 a3 (a1 % 11).toNat))), s5, none]) := by
      intro A hA hF
      obtain ⟨ρ', e, s5, rfl⟩ := forD_of hF (fun i ρ => ∃ s5, ρ = [some (Sl.val (.lst (xs.map .int))), some (Sl.val (.int at')), some (Sl.val (.int k)), some (Sl.val A), some (Sl.val (tx (nameP a0 a2 a3 i))), s5, none]) ⟨none, rfl⟩ (by
        rintro i hi ρ ⟨s5, rfl⟩
        rw [rngD_get]
        rw [rngD_len] at hi
        have hi11 : i < 11 := by omega
        rw [Int.zero_add]
        obtain ⟨ed, dm, _⟩ := chr_at (i := (a2 + (i : Int) * a3) % 36) (Int.emod_nonneg _ (by decide)) (by omega)
        rw [← hA] at ed
        have ea := add_tx (a := nameP a0 a2 a3 i) (b := [chr ((a2 + (i : Int) * a3) % 36)]) (by rw [nameP_len, List.length_singleton]; omega)
        rw [← nameP_succ] at ea
        refine ⟨[some (Sl.val (.lst (xs.map .int))), some (Sl.val (.int at')), some (Sl.val (.int k)), some (Sl.val A), some (Sl.val (tx (nameP a0 a2 a3 (i + 1)))), some (.val (.int i)), none], ?_, ⟨_, rfl⟩⟩
        have hj0 : (i : Int) < 11 := by omega
        have hj1 : 0 ≤ (i : Int) := by omega
        generalize nameP a0 a2 a3 (i + 1) = E' at *
        generalize nameP a0 a2 a3 i = B' at *
        generalize (i : Int) = j at *
        have hmu : mulD (.int j) (.int a3) = some (.int (j * a3)) := c_mulR (by omega) (by omega)
        generalize tx [chr ((a2 + j * a3) % 36)] = C at *
        generalize tx E' = E at *
        generalize tx B' = B at *
        clear hF hA
        have hh := v_name_ix xs at' k j a2 a3 A B e2 e3 hmu
        simp only [c_turnD, c_tgN, List.set_cons_zero, List.set_cons_succ]
        exact v_name_add A B C _ _ rfl _ hh ed E ea rfl rfl)
      rw [rngD_len, Int.sub_zero] at e
      exact ⟨s5, e⟩
    obtain ⟨s5, eF⟩ := loop _ rfl rfl
    have hr1 : -4611686018427387904 ≤ a1 % 11 := by omega
    have hr2 : a1 % 11 < 4611686018427387904 := by omega
    unfold m_law_name d_law_name
    rw [show D.str ("abcdefghijklmnopqrstuvwxyz0123456789" : Str) = tx (low ++ dig) from congrArg D.str t_all]
    clear loop
    unfold lsI at *
    generalize nameP a0 a2 a3 (a1 % 11).toNat = NP at *
    generalize tx (NP.take P.toNat ++ [c5] ++ NP.drop P.toNat) = E1 at *
    generalize tx (NP.take P.toNat ++ [c5]) = E2 at *
    generalize tx (NP.take P.toNat) = E3 at *
    generalize tx (NP.drop P.toNat) = E4 at *
    generalize tx NP = B at *
    generalize tx [c5] = C at *
    generalize tx [chr (a0 % 26)] = C0 at *
    generalize tx (low ++ dig) = A at *
    simp [N_law_name, e0, e1, ec0, hr1, hr2, eF, e4, e5, lp, hL0, hP, q1, q2, mk, ec5, w1, w2]
def goodB (w h : Int) (b : Bl) : Prop := m_is_name [.str b.nm] = some (.ok (.bl true)) ∧ dirB b.dx b.dy = true ∧ ptIn w h [b.x, b.y] ∧ 0 ≤ b.t ∧ b.t ≤ 1000000000000000000000000000000
theorem is_ball_good {w h : Int} {qs : List (List Int)} {b : Bl} (g : goodB w h b) : m_is_ball [tabD w h qs, blOf b] = some (.ok (.bl true)) := by
  have := v_is_ball_gen (w := w) (h := h) (x := b.x) (y := b.y) (dx := b.dx) (dy := b.dy) (t := b.t) (qs := qs) g.1
  rw [this, g.2.1]
  have h1 := g.2.2.1
  have h2 := g.2.2.2
  simp [h1, h2]
theorem chk_good {w h : Int} {qs : List (List Int)} {b : Bl} (g : goodB w h b) : m_check_ball [tabD w h qs, blOf b] = some (.ok .non) := by
  rw [v_check_ball_gen (is_ball_good g)]; rfl
theorem add_tup (a : D) (as b : List D) (h : (a :: as).length + b.length ≤ 100) : addD (.tup (a :: as)) (.tup b) = some (.tup (a :: as ++ b)) := by
  show (if (a :: as) = [] then none else if (a :: as).length + b.length ≤ sizeLine then some (D.tup (a :: as ++ b)) else none) = _
  rw [if_neg (by simp), if_pos (Nat.le_trans h (by decide))]
theorem ixdir3 (n : Int) : ∃ dx dy, dirB dx dy = true ∧ ixD (.lst [.tup [.int 1, .int 0], .tup [.int 0, .int 1], .tup [.int (-1), .int 0], .tup [.int 0, .int (-1)], .tup [.int 1, .int 1], .tup [.int (-1), .int 1], .tup [.int 1, .int (-1)], .tup [.int (-1), .int (-1)]]) (.int (n % 8)) = some (ptD (dx, dy)) := by
  obtain ⟨x, e, hx⟩ := ix8 (.tup [.int 1, .int 0]) (.tup [.int 0, .int 1]) (.tup [.int (-1), .int 0]) (.tup [.int 0, .int (-1)]) (.tup [.int 1, .int 1]) (.tup [.int (-1), .int 1]) (.tup [.int 1, .int (-1)]) (.tup [.int (-1), .int (-1)]) n
  rw [e]
  rcases hx with rfl | rfl | rfl | rfl | rfl | rfl | rfl | rfl
  · exact ⟨1, 0, rfl, rfl⟩
  · exact ⟨0, 1, rfl, rfl⟩
  · exact ⟨-1, 0, rfl, rfl⟩
  · exact ⟨0, -1, rfl, rfl⟩
  · exact ⟨1, 1, rfl, rfl⟩
  · exact ⟨-1, 1, rfl, rfl⟩
  · exact ⟨1, -1, rfl, rfl⟩
  · exact ⟨-1, -1, rfl, rfl⟩
/-- the k-th drawn name -/
def nmK (pre post : List Nat) (a5 : Int) (k : Int) : Str := txS (pre ++ [chr ((a5 + 5 * k) % 36)] ++ post)
theorem nmK_inj {pre post : List Nat} {a5 i j : Int} (h0 : 0 ≤ i) (h1 : i < 12) (h2 : 0 ≤ j) (h3 : j < 12) (h : nmK pre post a5 i = nmK pre post a5 j) : i = j := by
  have h4 : (pre ++ [chr ((a5 + 5 * i) % 36)] ++ post) = (pre ++ [chr ((a5 + 5 * j) % 36)] ++ post) := by
    have := congrArg (fun s : Str => s.cps.toList) h
    simpa [nmK, txS, txT] using this
  have h5 := List.append_cancel_left (List.append_cancel_right h4)
  have h6 : chr ((a5 + 5 * i) % 36) = chr ((a5 + 5 * j) % 36) := by simpa using h5
  have h7 := chr_inj (Int.emod_nonneg _ (by decide)) (by omega) (Int.emod_nonneg _ (by decide)) (by omega) h6
  omega
theorem v_law_balls {xs : List Int} (hx : smalls xs) (hl14 : 14 ≤ xs.length) : ∃ (pre post : List Nat) (a5 : Int), (∀ k : Int, 0 ≤ k → k < 1000 → goodName (pre ++ [chr ((a5 + 5 * k) % 36)] ++ post)) ∧ ∀ (at' w h many : Int), 0 ≤ at' → 0 ≤ w → 0 ≤ h → 0 ≤ many → many ≤ 12 → at' + 9 * many + 7 ≤ xs.length →
    ∃ L : List Bl, L.length = many.toNat ∧ (∀ b ∈ L, goodB w h b) ∧ L.map Bl.nm = (List.range many.toNat).map (fun k : Nat => nmK pre post a5 k) ∧ m_law_balls [lsI xs, .int at', .int w, .int h, .int many] = some (.ok (.lst (L.map blOf))) := by
  obtain ⟨pre, post, a5, hname⟩ := v_law_name2 hx (at' := 8) (by decide) (by omega)
  refine ⟨pre, post, a5, fun k h0 h1 => (hname k h0 h1).1, fun at' w h many ha hw hh hm hm2 hl => ?_⟩
  have o1 : -4611686018427387904 ≤ many := by omega
  have o2 : many < 4611686018427387904 := by omega
  unfold m_law_balls d_law_balls
  unfold lsI at *
  simp [N_law_balls, o1, o2]
  generalize hF : forD _ _ _ _ = o
  obtain ⟨ρ', rfl, s6, s7, s8, s9, L, rfl, hL, hg, hn⟩ := forD_of hF (fun i ρ => ∃ s6 s7 s8 s9 L, ρ = [some (Sl.val (.lst (xs.map .int))), some (Sl.val (.int at')), some (Sl.val (.int w)), some (Sl.val (.int h)), some (Sl.val (.int many)), some (Sl.own (L.map blOf)), s6, s7, s8, s9] ∧ L.length = i ∧ (∀ b ∈ L, goodB w h b) ∧ L.map Bl.nm = (List.range i).map (fun k : Nat => nmK pre post a5 k))
    ⟨none, none, none, none, [], rfl, rfl, (fun _ h => nomatch h), rfl⟩ (by
    rintro i hi ρ ⟨s6, s7, s8, s9, L, rfl, hL, hg, hn⟩
    rw [rngD_get]
    rw [rngD_len] at hi
    have hi0 : (i : Int) < many := by omega
    have hi1 : 0 ≤ (i : Int) := by omega
    rw [Int.zero_add]
    obtain ⟨gn, en⟩ := hname (i : Int) hi1 (by omega)
    have nmdef : nmK pre post a5 (i : Int) = txS (pre ++ [chr ((a5 + 5 * (i : Int)) % 36)] ++ post) := rfl
    have en' : m_law_name [.lst (xs.map D.int), .int 8, .int i] = some (.ok (.str (nmK pre post a5 i))) := en
    have gn' : m_is_name [.str (nmK pre post a5 i)] = some (.ok (.bl true)) := by
      have e := v_is_name (l := pre ++ [chr ((a5 + 5 * (i : Int)) % 36)] ++ post) (by have := gn.le; omega)
      have hok : nameOk (pre ++ [chr ((a5 + 5 * (i : Int)) % 36)] ++ post) = true := nameOk_good gn
      rw [hok] at e
      exact e
    have bl : L.length < 16777216 := by omega
    have hs : (List.range (i + 1)).map (fun k : Nat => nmK pre post a5 k) = (List.range i).map (fun k : Nat => nmK pre post a5 k) ++ [nmK pre post a5 i] := by
      rw [List.range_succ, List.map_append]; rfl
    rw [hs]
    clear en hs nmdef gn
    generalize nmK pre post a5 (i : Int) = nm at *
    generalize hj : (i : Int) = j at *
    have m9 : mulD (.int 9) (.int j) = some (.int (9 * j)) := c_mulL (by decide) (by decide)
    obtain ⟨n0, a0, b0, e0⟩ := v_ix hx (i := at' + 9 * j) (by omega) (by omega)
    obtain ⟨dx, dy, hd, ed⟩ := ixdir3 n0
    obtain ⟨x, x0, x1, ex⟩ := v_law_big hx (at' := at' + 9 * j + 1) (least := 0) (most := w) (by omega) (by omega) hw
    obtain ⟨y, y0, y1, ey⟩ := v_law_big hx (at' := at' + 9 * j + 3) (least := 0) (most := h) (by omega) (by omega) hh
    obtain ⟨t, t0, t1, et⟩ := v_law_big hx (at' := at' + 9 * j + 5) (least := 0) (most := 1000000000000000000000000000000) (by omega) (by omega) (by decide)
    unfold lsI at e0 ex ey et
    have a1 := add_tup (.str nm) [] [.int x, .int y] (by simp)
    have a2 := add_tup (.str nm) [.int x, .int y] [.int dx, .int dy] (by simp)
    have a3 := add_tup (.str nm) [.int x, .int y, .int dx, .int dy] [.int t] (by simp)
    simp only [List.cons_append, List.nil_append] at a1 a2 a3
    refine ⟨[some (Sl.val (.lst (xs.map .int))), some (Sl.val (.int at')), some (Sl.val (.int w)), some (Sl.val (.int h)), some (Sl.val (.int many)), some (Sl.own ((L ++ [(⟨nm, x, y, dx, dy, t⟩ : Bl)]).map blOf)), some (.val (.int j)), some (.val (.int (at' + 9 * j))), some (.val (ptD (dx, dy))), some (.val (ptD (x, y)))], ?_, ?_⟩
    · rw [List.map_append]
      simp [m9, e0, ed, ex, ey, et, en', a1, a2, a3, bl]
    · refine ⟨_, _, _, _, L ++ [(⟨nm, x, y, dx, dy, t⟩ : Bl)], rfl, by simp [hL], fun b hb => ?_, by rw [List.map_append, hn]; rfl⟩
      rcases List.mem_append.mp hb with hb | hb
      · exact hg b hb
      · rw [List.mem_singleton.mp hb]
        exact ⟨gn', hd, ⟨x, y, rfl, x0, x1, y0, y1⟩, t0, t1⟩)
  rw [rngD_len] at hL hn
  have e : (many - 0).toNat = many.toNat := by rw [Int.sub_zero]
  rw [e] at hL hn
  refine ⟨L, hL, hg, hn, ?_⟩
  simp
theorem c_lc {vs : List Nat} {mi : Den.Env → ML} {g : TM} {mt me : Den.Env → M} {ρ : Den.Env} {ds R : List D} (h1 : mi ρ = some (.ok ds)) (hz : ds.length < sizeLine) (hc : compD g mt me (wipeE ρ vs) ds = some R) : dLcV (dLc vs mi g mt me) ρ = some (.ok (.lst R)) := by
  have e : dLc vs mi g mt me ρ = some (.ok R) := by
    unfold dLc
    rw [h1]
    dsimp only
    rw [if_pos hz, hc]
  unfold dLcV
  rw [e]
  rfl
theorem c_aslc {i : Nat} {vs : List Nat} {mi : Den.Env → ML} {g : TM} {mt me : Den.Env → M} {ρ : Den.Env} {ds R : List D} (h1 : mi ρ = some (.ok ds)) (hz : ds.length < sizeLine) (hc : compD g mt me (wipeE ρ vs) ds = some R) : dAsgLc i (dLc vs mi g mt me) ρ = some (.nx (ρ.set i (some (.val (.lst R))))) := by
  have e : dLc vs mi g mt me ρ = some (.ok R) := by
    unfold dLc
    rw [h1]
    dsimp only
    rw [if_pos hz, hc]
  unfold dAsgLc
  rw [e]
theorem compD_fm {α : Type} {g : TM} {mt me : Den.Env → M} {ρ : Den.Env} (h F : α → D) (p : α → Bool) : ∀ (l : List α), (∀ a ∈ l, ∃ ρ1, g (h a) ρ = some ρ1 ∧ mt ρ1 = some (.ok (.bl (p a))) ∧ (p a = true → me ρ1 = some (.ok (F a)))) → compD g mt me ρ (l.map h) = some ((l.filter p).map F)
  | [], _ => rfl
  | a :: l, q => by
    obtain ⟨ρ1, e1, e2, e3⟩ := q a (List.mem_cons_self ..)
    have ih := compD_fm (g := g) (mt := mt) (me := me) (ρ := ρ) h F p l fun x hx => q x (List.mem_cons_of_mem _ hx)
    rw [List.map_cons]
    unfold compD
    cases hp : p a with
    | true =>
      rw [hp] at e2
      simp only [e1, e2, e3 hp, ih, List.filter_cons_of_pos hp, List.map_cons]
    | false =>
      rw [hp] at e2
      simp only [e1, e2, ih]
      rw [List.filter_cons_of_neg (by simp [hp])]
/-! ### a text split at one sign -/
def posL (c : Nat) : Nat → List Nat → List Nat
  | _, [] => []
  | k, x :: xs => if x = c then k :: posL c (k + 1) xs else posL c (k + 1) xs
def splL (c : Nat) : List Nat → List (List Nat)
  | [] => [[]]
  | x :: xs => if x = c then [] :: splL c xs else match splL c xs with
    | [] => [[x]]
    | h :: t => (x :: h) :: t
theorem spl_ne (c : Nat) : ∀ l, ∃ h t, splL c l = h :: t
  | [] => ⟨[], [], rfl⟩
  | x :: xs => by
    unfold splL
    split
    · exact ⟨_, _, rfl⟩
    · obtain ⟨h, t, e⟩ := spl_ne c xs
      rw [e]
      exact ⟨_, _, rfl⟩
theorem parts_spl (c : Nat) (L : List Nat) : ∀ (l : List Nat) (st0 k : Nat), L.drop k = l → st0 ≤ k → k + l.length = L.length →
    ∃ h t, splL c l = h :: t ∧ ((st0 :: (posL c k l).map (· + 1)).zip (posL c k l ++ [L.length])).map (fun (i, j) => (L.drop i).take (j - i)) = ((L.drop st0).take (k - st0) ++ h) :: t
  | [], st0, k, hd, hs, hl => by
    refine ⟨[], [], rfl, ?_⟩
    rw [List.length_nil, Nat.add_zero] at hl
    subst hl
    simp [posL]
  | x :: xs, st0, k, hd, hs, hl => by
    have hd1 : L.drop (k + 1) = xs := by
      rw [← List.drop_drop, hd]
      rfl
    have hl1 : k + 1 + xs.length = L.length := by rw [List.length_cons] at hl; omega
    have hk : k < L.length := by rw [List.length_cons] at hl; omega
    by_cases hx : x = c
    · obtain ⟨h, t, e1, e2⟩ := parts_spl c L xs (k + 1) (k + 1) hd1 (Nat.le_refl _) hl1
      refine ⟨[], h :: t, by rw [splL, if_pos hx, e1], ?_⟩
      rw [posL, if_pos hx]
      rw [List.map_cons, List.cons_append, List.zip_cons_cons, List.map_cons, e2]
      simp
    · obtain ⟨h, t, e1, e2⟩ := parts_spl c L xs st0 (k + 1) hd1 (by omega) hl1
      refine ⟨x :: h, t, by rw [splL, if_neg hx, e1], ?_⟩
      rw [posL, if_neg hx, e2]
      congr 1
      have : (L.drop st0).take (k + 1 - st0) = (L.drop st0).take (k - st0) ++ [x] := by
        have hlt : k - st0 < (L.drop st0).length := by rw [List.length_drop]; omega
        rw [show k + 1 - st0 = (k - st0) + 1 by omega, List.take_succ, List.getElem?_drop]
        rw [show st0 + (k - st0) = k by omega]
        have : L[k]? = some x := by
          have := congrArg (fun l => l[0]?) hd
          simpa using this
        rw [this]
        rfl
      rw [this, List.append_assoc]
      rfl
theorem spl_none (c : Nat) : ∀ l : List Nat, c ∉ l → splL c l = [l]
  | [], _ => rfl
  | x :: xs, h => by
    rw [List.mem_cons, not_or] at h
    rw [splL, if_neg (fun z => h.1 z.symm), spl_none c xs h.2]
theorem spl_app (c : Nat) : ∀ (l r : List Nat), c ∉ l → splL c (l ++ c :: r) = l :: splL c r
  | [], r, _ => by rw [List.nil_append, splL, if_pos rfl]
  | x :: xs, r, h => by
    rw [List.mem_cons, not_or] at h
    rw [List.cons_append, splL, if_neg (fun z => h.1 z.symm), spl_app c xs r h.2]
theorem spl_join (c : Nat) : ∀ (ps : List (List Nat)) (p : List Nat), c ∉ p → (∀ q ∈ ps, c ∉ q) → splL c (p ++ ps.flatMap (c :: ·)) = p :: ps
  | [], p, h, _ => by rw [List.flatMap_nil, List.append_nil, spl_none c p h]
  | q :: ps, p, h, hq => by
    rw [List.flatMap_cons, List.cons_append, spl_app c p _ h, spl_join c ps q (hq q (List.mem_cons_self ..)) fun r hr => hq r (List.mem_cons_of_mem _ hr)]
/-! occurrences of one sign -/
def occF (s sub : Str) (hi limit : Nat) (st : Array Nat × Nat) (i : Nat) : Array Nat × Nat := if (decide (st.1.size < limit) && decide (st.2 ≤ i) && decide (i + sub.length ≤ hi) && Builtin.Str.subAt s sub i) = true then (st.1.push i, i + sub.length) else st
theorem occ_fold (s sub : Str) (lo hi limit : Nat) : Builtin.Str.occurrences s sub lo hi limit = ((List.range' lo (hi + 1 - lo)).foldl (occF s sub hi limit) (#[], lo)).1.toList := by
  unfold Builtin.Str.occurrences
  simp only [Std.Legacy.Range.forIn_eq_forIn_range', Std.Legacy.Range.size]
  have h : ∀ (l : List Nat) (st : Array Nat × Nat), (forIn (m := Id) l st fun i __s => if (decide (__s.1.size < limit) && decide (__s.2 ≤ i) && decide (i + sub.length ≤ hi) && Builtin.Str.subAt s sub i) = true then pure (ForInStep.yield (__s.1.push i, i + sub.length)) else pure (ForInStep.yield (__s.1, __s.2))) = pure (l.foldl (occF s sub hi limit) st) := fun l => by
    induction l with
    | nil => intro st; rfl
    | cons i l ih =>
      intro st
      rw [List.forIn_cons, List.foldl_cons]
      unfold occF
      split
      · exact ih _
      · exact ih _
  rw [h]
  simp
theorem ex_list (a : Array Nat) (i j : Nat) : (a.extract i j).toList = (a.toList.drop i).take (j - i) := by
  rw [Array.toList_extract, List.extract_eq_take_drop]
theorem subAt_one (s : Str) (c k : Nat) : Builtin.Str.subAt s ⟨#[c]⟩ k = true ↔ s.cps.toList[k]? = some c := by
  unfold Builtin.Str.subAt
  rw [beq_iff_eq, ← Array.toList_inj, ex_list]
  show ((s.cps.toList.drop k).take (k + 1 - k) = [c]) ↔ _
  rw [show k + 1 - k = 1 by omega]
  cases h : s.cps.toList.drop k with
  | nil =>
    have := congrArg (fun l => l[0]?) h
    simp at this
    simp [this]
  | cons x xs =>
    have : s.cps.toList[k]? = some x := by
      have := congrArg (fun l => l[0]?) h
      simpa using this
    rw [this]
    simp
theorem occ_pos (s : Str) (c : Nat) : ∀ (n k : Nat) (st : Array Nat × Nat), k + n = s.length + 1 → st.2 ≤ k → st.1.size ≤ k → ((List.range' k n).foldl (occF s ⟨#[c]⟩ s.length (s.length + 1)) st).1.toList = st.1.toList ++ posL c k (s.cps.toList.drop k)
  | 0, k, st, h, _, _ => by
    have : s.cps.toList.length ≤ k := by
      have : s.cps.toList.length = s.length := Array.length_toList
      omega
    rw [List.drop_of_length_le this]
    simp [posL]
  | n + 1, k, st, h, h1, h2 => by
    have hl : s.cps.toList.length = s.length := Array.length_toList
    rw [List.range'_succ, List.foldl_cons]
    cases hd : s.cps.toList.drop k with
    | nil =>
      have hk : s.length ≤ k := by
        have := congrArg List.length hd
        rw [List.length_drop, List.length_nil] at this
        omega
      have e : occF s ⟨#[c]⟩ s.length (s.length + 1) st k = st := by
        unfold occF
        rw [if_neg]
        have : ¬ k + (⟨#[c]⟩ : Str).length ≤ s.length := by
          show ¬ k + 1 ≤ s.length
          omega
        simp [this]
      rw [e, occ_pos s c n (k + 1) st (by omega) (by omega) (by omega)]
      rw [List.drop_of_length_le (show s.cps.toList.length ≤ k + 1 by omega)]
      rfl
    | cons x xs =>
      have hk : k < s.length := by
        have := congrArg List.length hd
        rw [List.length_drop, List.length_cons] at this
        omega
      have hx : s.cps.toList[k]? = some x := by
        have := congrArg (fun l => l[0]?) hd
        simpa using this
      have hd1 : s.cps.toList.drop (k + 1) = xs := by
        rw [← List.drop_drop, hd]
        rfl
      by_cases hc : x = c
      · have e : occF s ⟨#[c]⟩ s.length (s.length + 1) st k = (st.1.push k, k + 1) := by
          unfold occF
          have q := (subAt_one s c k).mpr (by rw [hx, hc])
          have z : k + (⟨#[c]⟩ : Str).length ≤ s.length := by
            show k + 1 ≤ s.length
            omega
          have z1 : st.1.size < s.length + 1 := by omega
          rw [if_pos (by simp [z, z1, h1, q])]
          rfl
        rw [e, occ_pos s c n (k + 1) (st.1.push k, k + 1) (by omega) (Nat.le_refl _) (by rw [Array.size_push]; omega), hd1]
        rw [posL, if_pos hc]
        simp
      · have e : occF s ⟨#[c]⟩ s.length (s.length + 1) st k = st := by
          unfold occF
          have q : Builtin.Str.subAt s ⟨#[c]⟩ k = false := Bool.eq_false_iff.mpr fun z => by
            have := (subAt_one s c k).mp z
            rw [hx] at this
            exact hc (Option.some.inj this)
          rw [if_neg (by simp [q])]
        rw [e, occ_pos s c n (k + 1) st (by omega) (by omega) (by omega), hd1]
        rw [posL, if_neg hc]
theorem occ_one (s : Str) (c : Nat) : Builtin.Str.occurrences s ⟨#[c]⟩ 0 s.length (s.length + 1) = posL c 0 s.cps.toList := by
  rw [occ_fold, Nat.sub_zero, occ_pos s c (s.length + 1) 0 (#[], 0) (by omega) (Nat.le_refl _) (Nat.le_refl _)]
  rfl
theorem kind_pos (s : Str) : 1 ≤ Builtin.Str.strKind s := by
  unfold Builtin.Str.strKind
  split
  · exact Nat.le_refl _
  · split <;> decide
theorem split_one (s : Str) {c : Nat} (hc : c < 256) : Txt.split s ⟨#[c]⟩ = (splL c s.cps.toList).map fun l => ⟨l.toArray⟩ := by
  have hl : s.cps.toList.length = s.length := Array.length_toList
  have k1 : Builtin.Str.strKind ⟨#[c]⟩ = 1 := by
    unfold Builtin.Str.strKind
    rw [if_pos]
    simp [hc]
  obtain ⟨h, t, e1, e2⟩ := parts_spl c s.cps.toList s.cps.toList 0 0 rfl (Nat.le_refl _) (by omega)
  rw [List.drop_zero, Nat.sub_zero, List.take_zero, List.nil_append] at e2
  have self : (⟨s.cps.toList.toArray⟩ : Str) = s := by simp
  unfold Txt.split
  rw [k1, occ_one]
  by_cases hs : s.length < (⟨#[c]⟩ : Str).length
  · have hs0 : s.length < 1 := hs
    rw [if_pos (by simp [hs])]
    have : s.cps.toList = [] := List.eq_nil_of_length_eq_zero (by omega)
    rw [this]
    show [s] = [_]
    rw [← self, this]
  · have := kind_pos s
    rw [if_neg (by simp [hs]; omega)]
    have hpb : Builtin.Str.partsBetween s (posL c 0 s.cps.toList) (⟨#[c]⟩ : Str).length = (splL c s.cps.toList).map fun l => ⟨l.toArray⟩ := by
      rw [e1, ← e2]
      unfold Builtin.Str.partsBetween
      show List.map _ ((0 :: List.map (· + 1) (posL c 0 s.cps.toList)).zip (posL c 0 s.cps.toList ++ [s.length])) = _
      rw [List.map_map, hl]
      congr 1
      funext ⟨i, j⟩
      show Builtin.Str.strSub s i j = _
      unfold Builtin.Str.strSub
      congr 1
      rw [← Array.toList_inj, ex_list]
    split
    · rename_i he
      have he : posL c 0 s.cps.toList = [] := List.isEmpty_iff.mp he
      rw [he] at hpb
      rw [← hpb]
      unfold Builtin.Str.partsBetween
      show [s] = [Builtin.Str.strSub s 0 s.length]
      congr 1
      rw [← self]
      unfold Builtin.Str.strSub
      congr 1
      rw [← Array.toList_inj, ex_list]
      simp [← hl]
      exact (List.take_of_length_le (by rw [Array.length_toList]; exact Nat.le_refl _)).symm
    · exact hpb
/-! glued, and split again -/
theorem glued_list (g : Str) (p : Str) (ps : List Str) : (Txt.join g (p :: ps)).cps.toList = p.cps.toList ++ ps.flatMap fun q => g.cps.toList ++ q.cps.toList := by
  show (List.foldl (fun acc p => acc ++ g.cps ++ p.cps) p.cps ps).toList = _
  have : ∀ (ps : List Str) (a : Array Nat), (List.foldl (fun acc p => acc ++ g.cps ++ p.cps) a ps).toList = a.toList ++ ps.flatMap fun q => g.cps.toList ++ q.cps.toList := fun ps => by
    induction ps with
    | nil => intro a; simp
    | cons q ps ih =>
      intro a
      rw [List.foldl_cons, ih, List.flatMap_cons]
      simp
  exact this ps p.cps
theorem split_join {c : Nat} (hc : c < 256) (p : Str) (ps : List Str) (h : ∀ q ∈ p :: ps, c ∉ q.cps.toList) : Txt.split (Txt.join ⟨#[c]⟩ (p :: ps)) ⟨#[c]⟩ = p :: ps := by
  have hj := glued_list ⟨#[c]⟩ p ps
  have hf : (ps.flatMap fun q => (⟨#[c]⟩ : Str).cps.toList ++ q.cps.toList) = (ps.map fun q => q.cps.toList).flatMap (c :: ·) := by
    rw [List.flatMap_map]
    rfl
  rw [split_one _ hc, hj, hf, spl_join c _ _ (h p (List.mem_cons_self ..)) (fun l hl => by
    obtain ⟨q, hq, rfl⟩ := List.mem_map.mp hl
    exact h q (List.mem_cons_of_mem _ hq))]
  have : ∀ q : Str, (⟨q.cps.toList.toArray⟩ : Str) = q := fun q => by simp
  rw [List.map_cons, List.map_map, this]
  congr 1
  have : ((fun l : List Nat => (⟨l.toArray⟩ : Str)) ∘ fun q : Str => q.cps.toList) = id := by
    funext q
    exact this q
  rw [this, List.map_id]
/-! ### numbers as texts -/
abbrev numS (n : Nat) : Str := Str.ofString (toString (n : Int))
theorem num_cps (n : Nat) : (numS n).cps.toList = TL.numL n := by
  unfold numS
  rw [show ((n : Nat) : Int) = Int.ofNat n from rfl, PyProof.Rows.text_ofNat]
  rfl
theorem num_dig (n : Nat) : ∀ c ∈ TL.numL n, 48 ≤ c ∧ c ≤ 57 := fun c hc => by
  unfold TL.numL at hc
  obtain ⟨d, hd, rfl⟩ := List.mem_map.mp hc
  have := Nat.isDigit_of_mem_toDigits (by decide) (by decide) hd
  unfold Char.isDigit at this
  rw [Bool.and_eq_true, decide_eq_true_eq, decide_eq_true_eq] at this
  exact ⟨this.1, this.2⟩
theorem num_len {n : Nat} (h : n < 10 ^ 31) : (TL.numL n).length ≤ 31 := by
  unfold TL.numL
  rw [List.length_map]
  exact (Nat.length_toDigits_le_iff (by decide) (by decide)).mpr h
theorem num_ne (n : Nat) : TL.numL n ≠ [] := by
  unfold TL.numL
  intro z
  exact Nat.toDigits_ne_nil (List.map_eq_nil_iff.mp z)
theorem num_int {n : Nat} (h : n < 10 ^ 31) : PySem.intText? (numS n) = some (n : Int) := TL.int_num (by have := num_len h; omega)
theorem num_val {n : Nat} (h : n < 10 ^ 31) : NumText.digitsVal (TL.numL n) = n := by
  have e1 := num_int h
  have l : (numS n).length ≤ 4300 := by
    have := num_len h
    rw [← num_cps, Array.length_toList] at this
    show (numS n).cps.size ≤ 4300
    omega
  have e2 := intText_digits (x := numS n) (by rw [num_cps]; exact num_dig n) (by rw [num_cps]; exact num_ne n) l
  rw [e1, num_cps] at e2
  have := Option.some.inj e2
  omega
theorem num_head {n : Nat} (h : n < 10 ^ 31) (h0 : 0 < n) : ∀ c r, TL.numL n = c :: r → c ≠ 48 := fun c r e hc => by
  subst hc
  have t := NumText.toDigits_all (TL.numL n) (num_dig n)
  rw [num_val h, e] at t
  have len : (Nat.toDigits 10 n).length = r.length + 1 := by
    have := congrArg List.length e
    unfold TL.numL at this
    rw [List.length_map, List.length_cons] at this
    exact this
  have dw : List.dropWhile (fun x => x == 48) (48 :: r) = List.dropWhile (fun x => x == 48) r := rfl
  rw [dw] at t
  have ld := (List.dropWhile_sublist (fun x : Nat => x == 48) (l := r)).length_le
  cases hd : List.dropWhile (fun x => x == 48) r with
  | nil =>
    rw [hd] at t
    have t : Nat.toDigits 10 n = ['0'] := t
    have v := num_val h
    unfold TL.numL at v
    rw [t] at v
    have : NumText.digitsVal (['0'].map Char.toNat) = 0 := by decide
    omega
  | cons d ds =>
    rw [hd] at t ld
    have t : Nat.toDigits 10 n = List.map Char.ofNat (d :: ds) := t
    rw [t, List.length_map] at len
    omega
theorem num_free (n : Nat) {c : Nat} (hc : c < 45) : c ∉ (numS n).cps.toList := PyProof.Rows.int_text_free c (.inl hc) n
theorem in_digits {c : Nat} (h : 48 ≤ c ∧ c ≤ 57) : inO (.str ⟨#[c]⟩) k_DIGITS = some (.bl true) := by
  have : c = 48 ∨ c = 49 ∨ c = 50 ∨ c = 51 ∨ c = 52 ∨ c = 53 ∨ c = 54 ∨ c = 55 ∨ c = 56 ∨ c = 57 := by omega
  rcases this with rfl | rfl | rfl | rfl | rfl | rfl | rfl | rfl | rfl | rfl <;> rfl
theorem v_is_number {n : Nat} (h : n < 10 ^ 31) : m_is_number [.str (numS n), .int 31] = some (.ok (.bl true)) := by
  by_cases h0 : n = 0
  · subst h0
    have e : eqO (.str (numS 0)) (.str "0") = some (.bl true) := rfl
    generalize D.str (numS 0) = W at *
    unfold m_is_number d_is_number
    simp -implicitDefEqProofs [N_is_number, e]
  · have l := num_len h
    have hd := num_head h (by omega)
    have cps := num_cps n
    have dg := num_dig n
    have ne := num_ne n
    generalize numS n = s at *
    cases hL : TL.numL n with
    | nil => exact absurd hL ne
    | cons c r =>
      have hc := hd c r hL
      rw [hL] at l dg cps
      have hs : s.length = r.length + 1 := by
        show s.cps.size = _
        rw [← Array.length_toList, cps, List.length_cons]
      have ln : lenD [.str s] = some (.int (s.length : Nat)) := if_pos (by rw [hs]; rw [List.length_cons] at l; exact Nat.le_trans l (by decide))
      have i0 : ixD (.str s) (.int 0) = some (.str ⟨#[c]⟩) := by
        show (if s.length ≤ sizeLine then (atI s.cps.toList 0).map fun c => D.str ⟨#[c]⟩ else none) = _
        rw [if_pos (by rw [hs]; rw [List.length_cons] at l; exact Nat.le_trans l (by decide)), cps]
        have ha : atI (c :: r) 0 = some c := by
          unfold atI ixN
          rw [if_pos (by decide), if_pos (by rw [List.length_cons]; omega)]
          rfl
        rw [ha]
        rfl
      have e0 : eqO (.str s) (.str "0") = some (.bl false) := by
        show some (D.bl (s == "0")) = _
        have : s ≠ "0" := fun z => by
          rw [z] at cps
          have : ([48] : List Nat) = c :: r := cps
          exact hc (by injection this with a b; exact a.symm)
        rw [show (s == "0") = false from beq_eq_false_iff_ne.mpr this]
      have e1 : eqO (.str ⟨#[c]⟩) (.str "0") = some (.bl false) := by
        show some (D.bl ((⟨#[c]⟩ : Str) == "0")) = _
        have : (⟨#[c]⟩ : Str) ≠ "0" := fun z => hc (by
          have : (⟨#[c]⟩ : Str).cps.toList = [48] := by rw [z]; rfl
          simpa using this)
        rw [show ((⟨#[c]⟩ : Str) == "0") = false from beq_eq_false_iff_ne.mpr this]
      have it : iTxt (dVar 0) [some (.val (.str s)), some (.val (.int 31)), none] = some (.ok ((c :: r).map fun c => D.str ⟨#[c]⟩)) := by
        show some (RL.ok (s.cps.toList.map fun c => D.str ⟨#[c]⟩)) = _
        rw [cps]
      have cc := c_lc (vs := [2]) (g := tgN 2) (mi := iTxt (dVar 0)) (mt := dYes) (me := dOp inO (dVar 2) (dC k_DIGITS)) (ρ := [some (.val (.str s)), some (.val (.int 31)), none]) (ds := (c :: r).map fun c => D.str ⟨#[c]⟩) (R := (c :: r).map fun _ => D.bl true) it (by rw [List.length_map]; exact Nat.lt_of_le_of_lt l (by decide)) (by
        refine compD_map2 (fun c => D.str ⟨#[c]⟩) (fun _ => D.bl true) _ fun x hx => ?_
        refine ⟨[some (.val (.str s)), some (.val (.int 31)), some (.val (.str ⟨#[x]⟩))], rfl, rfl, ?_⟩
        have := in_digits (dg x hx)
        generalize k_DIGITS = KD at *
        generalize D.str ⟨#[x]⟩ = XX at *
        generalize D.str s = SS at *
        simp -implicitDefEqProofs [this])
      have al : allD [.lst ((c :: r).map fun _ => D.bl true)] = some (.bl true) := by
        have : ∀ l : List Nat, blsOf (l.map fun _ => D.bl true) = some (l.map fun _ => true) := fun l => by
          induction l with
          | nil => rfl
          | cons a l ih => simp only [List.map_cons, blsOf, ih, Option.map]
        show (blsOf ((c :: r).map fun _ => D.bl true)).map _ = _
        rw [this]
        show some (D.bl (((c :: r).map fun _ => true).all id)) = _
        rw [List.all_eq_true.mpr fun x hx => by obtain ⟨_, _, rfl⟩ := List.mem_map.mp hx; rfl]
      have k1 : (1 : Int) ≤ (s.length : Nat) := by omega
      have k2 : ((s.length : Nat) : Int) ≤ 31 := by rw [List.length_cons] at l; omega
      generalize ((s.length : Nat) : Int) = sl at *
      generalize ((c :: r).map fun _ => D.bl true) = TS at *
      generalize ((c :: r).map fun c => D.str ⟨#[c]⟩) = DS at *
      generalize D.str ⟨#[c]⟩ = C0 at *
      generalize D.str s = S at *
      unfold m_is_number d_is_number
      simp -implicitDefEqProofs [N_is_number, e0, ln, k1, k2, i0, e1, cc, al]
/-! ### rows and their texts -/
inductive Rr
  | x | y
  | p (a b c d e : Nat)
def Rr.tx : Rr → List Str
  | .x => ["x"]
  | .y => ["y"]
  | .p a b c d e => ["pair", numS a, numS b, numS c, numS d, numS e]
def Rr.l : Rr → List D
  | .x => [.str "x"]
  | .y => [.str "y"]
  | .p a b c d e => [.str "pair", .int a, .int b, .int c, .int d, .int e]
def rrD (r : Rr) : D := .tup r.l
def Rr.ok : Rr → Prop
  | .p a b c d e => a < 10 ^ 31 ∧ b < 10 ^ 31 ∧ c < 10 ^ 31 ∧ d < 10 ^ 31 ∧ e < 10 ^ 31
  | _ => True
theorem strs_of (ys : List Str) : strsOf (ys.map D.str) = some ys := by
  induction ys with
  | nil => rfl
  | cons a l ih => simp only [List.map_cons, strsOf, ih, Option.map]
theorem join_ok {g : Str} {ys : List Str} (h : (ys.map (·.length)).sum + ys.length * g.length ≤ 16777216) : joinD g (.lst (ys.map D.str)) = some (.str (Txt.join g ys)) := by
  show joinS g (ys.map D.str) = _
  unfold joinS
  rw [strs_of]
  exact if_pos h
theorem numS_len {n : Nat} (h : n < 10 ^ 31) : (numS n).length ≤ 31 := by
  have := num_len h
  rw [← num_cps, Array.length_toList] at this
  exact this
theorem tx_sum {r : Rr} (h : r.ok) : (r.tx.map (·.length)).sum + r.tx.length * 1 ≤ 400 := by
  cases r with
  | x => decide
  | y => decide
  | p a b c d e =>
    obtain ⟨h1, h2, h3, h4, h5⟩ := h
    have := numS_len h1
    have := numS_len h2
    have := numS_len h3
    have := numS_len h4
    have := numS_len h5
    have : ("pair" : Str).length = 4 := rfl
    simp only [Rr.tx, List.map_cons, List.map_nil, List.sum_cons, List.sum_nil, List.length_cons, List.length_nil]
    omega
def lineS (r : Rr) : Str := Txt.join " " r.tx
theorem fm_len (g : Str) : ∀ ps : List Str, (ps.flatMap fun q => g.cps.toList ++ q.cps.toList).length = (ps.map (·.length)).sum + ps.length * g.length
  | [] => by simp
  | q :: ps => by
    rw [List.flatMap_cons, List.length_append, fm_len g ps, List.length_append, List.map_cons, List.sum_cons, List.length_cons, Nat.succ_mul, Array.length_toList, Array.length_toList]
    show g.length + q.length + _ = _
    omega
theorem join_len (g : Str) (p : Str) (ps : List Str) : (Txt.join g (p :: ps)).length ≤ ((p :: ps).map (·.length)).sum + (p :: ps).length * g.length := by
  have e := congrArg List.length (glued_list g p ps)
  have hl : (Txt.join g (p :: ps)).cps.toList.length = (Txt.join g (p :: ps)).length := Array.length_toList
  rw [hl] at e
  rw [e, List.length_append, List.map_cons, List.sum_cons, List.length_cons, fm_len, Nat.succ_mul]
  have : p.cps.toList.length = p.length := Array.length_toList
  omega
theorem line_len {r : Rr} (h : r.ok) : (lineS r).length ≤ 400 := by
  have s := tx_sum h
  have : ∃ p ps, r.tx = p :: ps := by cases r <;> exact ⟨_, _, rfl⟩
  obtain ⟨p, ps, e⟩ := this
  unfold lineS
  rw [e] at s ⊢
  exact Nat.le_trans (join_len _ _ _) s
theorem nl_one : ("\n" : Str) = ⟨#[10]⟩ := by rfl
theorem sp_one : (" " : Str) = ⟨#[32]⟩ := by rfl
theorem tx_free {c : Nat} (hc : c = 10 ∨ c = 32) (r : Rr) : ∀ q ∈ r.tx, c ∉ q.cps.toList := by
  have h1 : c ∉ ("x" : Str).cps.toList := by rcases hc with rfl | rfl <;> decide
  have h2 : c ∉ ("y" : Str).cps.toList := by rcases hc with rfl | rfl <;> decide
  have h3 : c ∉ ("pair" : Str).cps.toList := by rcases hc with rfl | rfl <;> decide
  have h4 : ∀ n, c ∉ (numS n).cps.toList := fun n => num_free n (by omega)
  cases r with
  | x => intro q hq; rw [List.mem_singleton.mp hq]; exact h1
  | y => intro q hq; rw [List.mem_singleton.mp hq]; exact h2
  | p a b c d e =>
    intro q hq
    simp only [Rr.tx, List.mem_cons, List.not_mem_nil, or_false] at hq
    rcases hq with rfl | rfl | rfl | rfl | rfl | rfl
    · exact h3
    all_goals exact h4 _
theorem tx_cons (r : Rr) : ∃ p ps, r.tx = p :: ps := by cases r <;> exact ⟨_, _, rfl⟩
theorem line_free (r : Rr) : 10 ∉ (lineS r).cps.toList := by
  obtain ⟨p, ps, e⟩ := tx_cons r
  have f := tx_free (c := 10) (.inl rfl) r
  unfold lineS
  rw [e] at f ⊢
  rw [glued_list, List.mem_append, List.mem_flatMap]
  rintro (h | ⟨q, hq, h⟩)
  · exact f p (List.mem_cons_self ..) h
  · rcases List.mem_append.mp h with h | h
    · revert h; decide
    · exact f q (List.mem_cons_of_mem _ hq) h
theorem split_line (r : Rr) : Txt.split (lineS r) " " = r.tx := by
  obtain ⟨p, ps, e⟩ := tx_cons r
  have f := tx_free (c := 32) (.inr rfl) r
  unfold lineS
  rw [e] at f ⊢
  rw [sp_one]
  exact split_join (by decide) p ps f
def textS (R : List Rr) : Str := Txt.join "\n" ("never" :: R.map lineS)
theorem split_text (R : List Rr) : Txt.split (textS R) "\n" = ("never" : Str) :: R.map lineS := by
  unfold textS
  rw [nl_one]
  refine split_join (by decide) _ _ fun q hq => ?_
  rcases List.mem_cons.mp hq with rfl | hq
  · decide
  · obtain ⟨r, _, rfl⟩ := List.mem_map.mp hq
    exact line_free r
theorem split_never : Txt.split "never" " " = [("never" : Str)] := by
  have := split_join (c := 32) (by decide) "never" [] (fun q hq => by rw [List.mem_singleton.mp hq]; decide)
  rw [← sp_one] at this
  exact this
theorem lines_sum : ∀ {R : List Rr}, (∀ r ∈ R, r.ok) → ((R.map lineS).map (·.length)).sum ≤ 400 * R.length
  | [], _ => Nat.le_refl _
  | r :: R, h => by
    have := line_len (h r (List.mem_cons_self ..))
    have := lines_sum (R := R) fun x hx => h x (List.mem_cons_of_mem _ hx)
    rw [List.map_cons, List.map_cons, List.sum_cons, List.length_cons]
    omega
theorem text_sum {R : List Rr} (h : ∀ r ∈ R, r.ok) (hl : R.length ≤ 10) : ((("never" : Str) :: R.map lineS).map (·.length)).sum + (("never" : Str) :: R.map lineS).length * 1 ≤ 5000 := by
  have := lines_sum h
  have n5 : ("never" : Str).length = 5 := rfl
  rw [List.map_cons, List.sum_cons, List.length_cons, List.length_map]
  omega
theorem text_len {R : List Rr} (h : ∀ r ∈ R, r.ok) (hl : R.length ≤ 10) : (textS R).length ≤ 5000 := Nat.le_trans (join_len _ _ _) (text_sum h hl)
theorem str_int {n : Nat} (h : n < 10 ^ 31) : strD2 [.int (n : Int)] = some (.str (numS n)) := by
  have l : ((n : Int)).natAbs.log2 < 203 := log2_lt (by
    have h1 : (10 : Nat) ^ 31 < 2 ^ 203 := by decide
    show n < _
    omega) (by decide)
  have : ((n : Int)).natAbs.log2 < 1920 := by omega
  exact if_pos this
/-! ### texts of whole numbers from 0 on, below 10^31 -/
theorem compD_cons {g : TM} {mt me : Den.Env → M} {ρ ρ1 : Den.Env} {d e : D} {ds es : List D} (h1 : g d ρ = some ρ1) (h2 : mt ρ1 = some (.ok (.bl true))) (h3 : me ρ1 = some (.ok e)) (h4 : compD g mt me ρ ds = some es) : compD g mt me ρ (d :: ds) = some (e :: es) := by
  conv => lhs; unfold compD
  simp only [h1, h2, h3, h4]
theorem sp_len : (" " : Str).length = 1 := rfl
theorem nl_len : ("\n" : Str).length = 1 := rfl
theorem s_len (x : Str) : x.length = x.cps.toList.length := (Array.length_toList ..).symm
abbrev iS (i : Int) : Str := Str.ofString (toString i)
def okN (i : Int) : Prop := 0 ≤ i ∧ i.toNat < 10 ^ 31
theorem okN_nat {i : Int} (h : okN i) : ∃ n : Nat, n < 10 ^ 31 ∧ i = (n : Int) := ⟨i.toNat, h.2, (Int.toNat_of_nonneg h.1).symm⟩
theorem okN_of {i : Int} (h0 : 0 ≤ i) (h1 : i < 10 ^ 31) : okN i := ⟨h0, by
  have : (10 : Int) ^ 31 = ((10 ^ 31 : Nat) : Int) := by norm_cast
  rw [this] at h1
  omega⟩
theorem iS_len {i : Int} (h : okN i) : (iS i).length ≤ 31 := by
  obtain ⟨n, hn, rfl⟩ := okN_nat h
  exact numS_len hn
theorem iS_free {i : Int} (h : okN i) {c : Nat} (hc : c < 45) : c ∉ (iS i).cps.toList := by
  obtain ⟨n, hn, rfl⟩ := okN_nat h
  exact num_free n hc
theorem iS_isn {i : Int} (h : okN i) : m_is_number [.str (iS i), .int 31] = some (.ok (.bl true)) := by
  obtain ⟨n, hn, rfl⟩ := okN_nat h
  exact v_is_number hn
theorem iS_int {i : Int} (h : okN i) : intD [.str (iS i)] = some (.int i) := by
  obtain ⟨n, hn, rfl⟩ := okN_nat h
  have e := num_int hn
  have l := numS_len hn
  show (match PySem.intText? (numS n) with | some m => if (numS n).length ≤ 640 then some (D.int m) else none | none => none) = _
  rw [e]
  exact if_pos (by omega)
theorem okN_log {i : Int} (h : okN i) : i.natAbs.log2 < 1920 := by
  obtain ⟨n, hn, rfl⟩ := okN_nat h
  have l : ((n : Int)).natAbs.log2 < 203 := log2_lt (by
    have h1 : (10 : Nat) ^ 31 < 2 ^ 203 := by decide
    show n < _
    omega) (by decide)
  omega
theorem iS_str {i : Int} (h : okN i) : strD2 [.int i] = some (.str (iS i)) := if_pos (okN_log h)
theorem iS_fmt {i : Int} (h : okN i) : fmtD (.int i) = some (.str (iS i)) := if_pos (okN_log h)
theorem iS_sh {i : Int} (h : okN i) : sh 0 (.str (iS i)) := by
  obtain ⟨n, hn, rfl⟩ := okN_nat h
  refine ⟨?_, Nat.zero_le _⟩
  show (numS n).cps.all (· < 0x110000) = true
  rw [← Array.all_toList, List.all_eq_true]
  intro c hc
  rw [num_cps] at hc
  have := num_dig n c hc
  exact decide_eq_true (by omega)
theorem iS_ne {i : Int} (h : okN i) {c : Nat} (hc : c < 48) : iS i ≠ ⟨#[c]⟩ := by
  obtain ⟨n, hn, rfl⟩ := okN_nat h
  intro z
  have e := num_cps n
  have := num_dig n c (by rw [← e]; show c ∈ (iS n).cps.toList; rw [z]; exact List.mem_cons_self ..)
  omega
theorem ext_cps {a b : Str} (h : a.cps.toList = b.cps.toList) : a = b := by
  obtain ⟨a⟩ := a
  obtain ⟨b⟩ := b
  congr 1
  exact Array.toList_inj.mp h
theorem app_cps (a b : Str) : (a ++ b).cps.toList = a.cps.toList ++ b.cps.toList := Array.toList_append
/-- texts one behind the other with blanks -/
theorem join3 (a b c : Str) : Txt.join " " [a, b, c] = a ++ " " ++ b ++ " " ++ c := by
  apply ext_cps
  rw [glued_list]
  simp only [app_cps, List.flatMap_cons, List.flatMap_nil, List.append_nil, List.append_assoc]
theorem neO_lst_me {ds : List D} {n : Nat} (h : sh n (.lst ds)) (hn : n ≤ 64) : neO (.lst ds) (.lst ds) = some (.bl false) := by
  have h1 := sh_D h hn
  show (if shD (.lst ds) = true ∧ shD (.lst ds) = true then some (PyData.eqv (D.lst ds).py (D.lst ds).py) else none).map _ = _
  rw [if_pos ⟨h1, h1⟩, eqv_me _ h.1]
  rfl
theorem neO_tup_me {ds : List D} {n : Nat} (h : sh n (.tup ds)) (hn : n ≤ 64) : neO (.tup ds) (.tup ds) = some (.bl false) := by
  have h1 := sh_D h hn
  show (if shD (.tup ds) = true ∧ shD (.tup ds) = true then some (PyData.eqv (D.tup ds).py (D.tup ds).py) else none).map _ = _
  rw [if_pos ⟨h1, h1⟩, eqv_me _ h.1]
  rfl
theorem sh_ints {ns : List Int} : ∀ d ∈ ns.map D.int, sh 0 d := fun d h => by
  obtain ⟨i, _, rfl⟩ := List.mem_map.mp h
  exact sh_int
/-! ### rows of words and their text -/
def rowOk (r : List Str) : Prop := (∃ a l, r = a :: l) ∧ (∀ q ∈ r, 10 ∉ q.cps.toList ∧ 32 ∉ q.cps.toList) ∧ (r.map (·.length)).sum + r.length * 1 ≤ 400
def lnS (r : List Str) : Str := Txt.join " " r
def txS' (R : List (List Str)) : Str := Txt.join "\n" (R.map lnS)
theorem split_okG {a : Str} {c : Str} (hc : c.length = 1) (h : a.length ≤ 100000) : splitD a (.str c) = some (.lst ((Txt.split a c).map D.str)) := if_pos ⟨by rw [hc]; rfl, Nat.le_trans (show a.length + 2 ≤ 100002 by omega) (by decide)⟩
theorem ln_len {r : List Str} (h : rowOk r) : (lnS r).length ≤ 400 := by
  obtain ⟨⟨a, l, rfl⟩, _, hs⟩ := h
  exact Nat.le_trans (join_len _ _ _) (by rw [sp_len]; exact hs)
theorem ln_split {r : List Str} (h : rowOk r) : Txt.split (lnS r) " " = r := by
  obtain ⟨⟨a, l, rfl⟩, hf, _⟩ := h
  unfold lnS
  rw [sp_one]
  exact split_join (by decide) _ _ fun q hq => (hf q hq).2
theorem ln_free {r : List Str} (h : rowOk r) : 10 ∉ (lnS r).cps.toList := by
  obtain ⟨⟨a, l, rfl⟩, hf, _⟩ := h
  unfold lnS
  rw [glued_list, List.mem_append, List.mem_flatMap]
  rintro (z | ⟨q, hq, z⟩)
  · exact (hf a (List.mem_cons_self ..)).1 z
  · rcases List.mem_append.mp z with z | z
    · revert z; decide
    · exact (hf q (List.mem_cons_of_mem _ hq)).1 z
theorem ln_join {r : List Str} (h : rowOk r) : joinD " " (.lst (r.map D.str)) = some (.str (lnS r)) := join_ok (by rw [sp_len]; have := h.2.2; omega)
theorem lns_sum : ∀ {R : List (List Str)}, (∀ r ∈ R, rowOk r) → ((R.map lnS).map (·.length)).sum ≤ 400 * R.length
  | [], _ => Nat.le_refl _
  | r :: R, h => by
    have := ln_len (h r (List.mem_cons_self ..))
    have := lns_sum (R := R) fun x hx => h x (List.mem_cons_of_mem _ hx)
    rw [List.map_cons, List.map_cons, List.sum_cons, List.length_cons]
    omega
theorem tx_join {R : List (List Str)} (h : ∀ r ∈ R, rowOk r) (hl : R.length ≤ 100) : joinD "\n" (.lst ((R.map lnS).map D.str)) = some (.str (txS' R)) := join_ok (by
  rw [nl_len, List.length_map]
  have := lns_sum h
  omega)
theorem tx_lenS {r : List Str} {R : List (List Str)} (h : ∀ x ∈ r :: R, rowOk x) (hl : (r :: R).length ≤ 100) : (txS' (r :: R)).length ≤ 100000 := by
  have s := lns_sum h
  refine Nat.le_trans (join_len _ _ _) ?_
  rw [nl_len]
  rw [List.map_cons] at s
  rw [List.length_cons, List.length_map]
  rw [List.length_cons] at hl s
  omega
theorem tx_split {r : List Str} {R : List (List Str)} (h : ∀ x ∈ r :: R, rowOk x) : Txt.split (txS' (r :: R)) "\n" = (r :: R).map lnS := by
  unfold txS'
  rw [nl_one]
  refine split_join (by decide) _ _ fun q hq => ?_
  rw [← List.map_cons (f := lnS)] at hq
  obtain ⟨x, hx, rfl⟩ := List.mem_map.mp hq
  exact ln_free (h x hx)
abbrev wD (r : List Str) : D := .lst (r.map D.str)
/-! ### a setup's rows -/
inductive Rw
  | t (w h : Int)
  | p (q : Int × Int)
  | b (b : Bl)
def stS (i : Int) : Str := Str.ofString (toString i)
def Rw.w : Rw → List Str
  | .t w h => ["table", iS w, iS h]
  | .p q => ["pocket", iS q.1, iS q.2]
  | .b z => ["ball", z.nm, iS z.x, iS z.y, stS z.dx, stS z.dy, iS z.t]
def nmT (s : Str) : Prop := (∃ l, s = txS l ∧ goodName l)
def st3' (i : Int) : Prop := i = 0 ∨ i = 1 ∨ i = -1
def Rw.ok : Rw → Prop
  | .t w h => okN w ∧ okN h
  | .p q => okN q.1 ∧ okN q.2
  | .b z => nmT z.nm ∧ okN z.x ∧ okN z.y ∧ st3' z.dx ∧ st3' z.dy ∧ okN z.t
theorem nm_facts {s : Str} (h : nmT s) : s.length ≤ 12 ∧ (∀ c, c < 45 → c ∉ s.cps.toList) ∧ m_is_name [.str s] = some (.ok (.bl true)) := by
  obtain ⟨l, rfl, g⟩ := h
  refine ⟨?_, fun c hc z => ?_, ?_⟩
  · have := g.le
    rw [s_len]
    show l.toArray.toList.length ≤ 12
    simpa using this
  · have z : c ∈ l := by simpa [txS, txT] using z
    have := g.all c z
    simp only [low, dig, List.cons_append, List.nil_append, List.mem_cons, List.not_mem_nil, or_false] at this
    omega
  · have e := v_is_name (l := l) (by have := g.le; omega)
    rw [nameOk_good g] at e
    exact e
theorem st_facts {i : Int} (h : st3' i) : (stS i).length ≤ 2 ∧ (∀ c, c = 10 ∨ c = 32 → c ∉ (stS i).cps.toList) := by
  rcases h with rfl | rfl | rfl
  · exact ⟨by decide, fun c hc => by rcases hc with rfl | rfl <;> decide⟩
  · exact ⟨by decide, fun c hc => by rcases hc with rfl | rfl <;> decide⟩
  · exact ⟨by decide, fun c hc => by rcases hc with rfl | rfl <;> decide⟩
theorem rw_ok {r : Rw} (h : r.ok) : rowOk r.w := by
  cases r with
  | t w h' =>
    obtain ⟨h1, h2⟩ := h
    refine ⟨⟨_, _, rfl⟩, fun q hq => ?_, ?_⟩
    · simp only [Rw.w, List.mem_cons, List.not_mem_nil, or_false] at hq
      rcases hq with rfl | rfl | rfl
      · exact ⟨by decide, by decide⟩
      · exact ⟨iS_free h1 (by decide), iS_free h1 (by decide)⟩
      · exact ⟨iS_free h2 (by decide), iS_free h2 (by decide)⟩
    · have := iS_len h1
      have := iS_len h2
      have : ("table" : Str).length = 5 := rfl
      simp only [Rw.w, List.map_cons, List.map_nil, List.sum_cons, List.sum_nil, List.length_cons, List.length_nil]
      omega
  | p q0 =>
    obtain ⟨h1, h2⟩ := h
    refine ⟨⟨_, _, rfl⟩, fun q hq => ?_, ?_⟩
    · simp only [Rw.w, List.mem_cons, List.not_mem_nil, or_false] at hq
      rcases hq with rfl | rfl | rfl
      · exact ⟨by decide, by decide⟩
      · exact ⟨iS_free h1 (by decide), iS_free h1 (by decide)⟩
      · exact ⟨iS_free h2 (by decide), iS_free h2 (by decide)⟩
    · have := iS_len h1
      have := iS_len h2
      have : ("pocket" : Str).length = 6 := rfl
      simp only [Rw.w, List.map_cons, List.map_nil, List.sum_cons, List.sum_nil, List.length_cons, List.length_nil]
      omega
  | b b =>
    obtain ⟨h0, h1, h2, h3, h4, h5⟩ := h
    obtain ⟨n1, n2, _⟩ := nm_facts h0
    obtain ⟨a1, a2⟩ := st_facts h3
    obtain ⟨b1, b2⟩ := st_facts h4
    refine ⟨⟨_, _, rfl⟩, fun q hq => ?_, ?_⟩
    · simp only [Rw.w, List.mem_cons, List.not_mem_nil, or_false] at hq
      rcases hq with rfl | rfl | rfl | rfl | rfl | rfl | rfl
      · exact ⟨by decide, by decide⟩
      · exact ⟨n2 10 (by decide), n2 32 (by decide)⟩
      · exact ⟨iS_free h1 (by decide), iS_free h1 (by decide)⟩
      · exact ⟨iS_free h2 (by decide), iS_free h2 (by decide)⟩
      · exact ⟨a2 10 (.inl rfl), a2 32 (.inr rfl)⟩
      · exact ⟨b2 10 (.inl rfl), b2 32 (.inr rfl)⟩
      · exact ⟨iS_free h5 (by decide), iS_free h5 (by decide)⟩
    · have := iS_len h1
      have := iS_len h2
      have := iS_len h5
      have : ("ball" : Str).length = 4 := rfl
      simp only [Rw.w, List.map_cons, List.map_nil, List.sum_cons, List.sum_nil, List.length_cons, List.length_nil]
      omega
/-! ### is_line -/
theorem isn31 {i : Int} (h : okN i) : m_is_number [.str (iS i), .int 31] = some (.ok (.bl true)) := iS_isn h
theorem v_is_ball_line {b : Bl} (h : (Rw.b b).ok) : m_is_ball_line [wD (Rw.b b).w] = some (.ok (.bl true)) := by
  obtain ⟨h0, h1, h2, h3, h4, h5⟩ := h
  have ln : lenD [wD (Rw.b b).w] = some (.int 7) := rfl
  have tg : ∀ s1 s2 s3 s4 s5 s6 s7, tgSeq 7 (tgsCons (tgN 1) (tgsCons (tgN 2) (tgsCons (tgN 3) (tgsCons (tgN 4) (tgsCons (tgN 5) (tgsCons (tgN 6) (tgsCons (tgN 7) tgsNil))))))) (wD (Rw.b b).w) [some (.val (wD (Rw.b b).w)), s1, s2, s3, s4, s5, s6, s7] = some [some (.val (wD (Rw.b b).w)), some (.val (.str "ball")), some (.val (.str b.nm)), some (.val (.str (iS b.x))), some (.val (.str (iS b.y))), some (.val (.str (stS b.dx))), some (.val (.str (stS b.dy))), some (.val (.str (iS b.t)))] := fun _ _ _ _ _ _ _ => rfl
  have nm := (nm_facts h0).2.2
  have e1 := isn31 h1
  have e2 := isn31 h2
  have e5 := isn31 h5
  have kd : ∀ i, st3' i → (kd_STEP_WORDS.lookup (stS i)).isSome = true := fun i hi => by rcases hi with rfl | rfl | rfl <;> rfl
  have k3 := kd _ h3
  have k4 := kd _ h4
  have n3 : ∀ (r0 r1 r2 r3 r4 : Option Sl) (r : Den.Env), dKni kd_STEP_WORDS (dVar 5) (r0 :: r1 :: r2 :: r3 :: r4 :: some (.val (.str (stS b.dx))) :: r) = some (.ok (.bl false)) := fun _ _ _ _ _ _ => by
    show some (Den.R.ok (.bl (!(kd_STEP_WORDS.lookup (stS b.dx)).isSome))) = _
    rw [k3]; rfl
  have n4 : ∀ (r0 r1 r2 r3 r4 r5 : Option Sl) (r : Den.Env), dKni kd_STEP_WORDS (dVar 6) (r0 :: r1 :: r2 :: r3 :: r4 :: r5 :: some (.val (.str (stS b.dy))) :: r) = some (.ok (.bl false)) := fun _ _ _ _ _ _ _ => by
    show some (Den.R.ok (.bl (!(kd_STEP_WORDS.lookup (stS b.dy)).isSome))) = _
    rw [k4]; rfl
  generalize wD (Rw.b b).w = W at *
  generalize D.str b.nm = N at *
  generalize D.str (iS b.x) = X at *
  generalize D.str (iS b.y) = Y at *
  generalize D.str (iS b.t) = T at *
  generalize D.str (stS b.dx) = DX at *
  generalize D.str (stS b.dy) = DY at *
  unfold m_is_ball_line d_is_ball_line
  simp -implicitDefEqProofs [-c_kni, -c_lenl, N_is_ball_line, ln, c_asg, tg, n3, n4, nm, e1, e2, e5]
theorem v_is_line {r : Rw} (h : r.ok) : m_is_line [wD r.w] = some (.ok (.bl true)) := by
  cases r with
  | t a b =>
    obtain ⟨h1, h2⟩ := h
    have i0 : ixD (wD (Rw.t a b).w) (.int 0) = some (.str "table") := rfl
    have i1 : ixD (wD (Rw.t a b).w) (.int 1) = some (.str (iS a)) := rfl
    have i2 : ixD (wD (Rw.t a b).w) (.int 2) = some (.str (iS b)) := rfl
    have ln : lenD [wD (Rw.t a b).w] = some (.int 3) := rfl
    have eq : eqO (.str "table") (.str "ball") = some (.bl false) := rfl
    have e1 := isn31 h1
    have e2 := isn31 h2
    generalize wD (Rw.t a b).w = W at *
    generalize D.str (iS a) = A at *
    generalize D.str (iS b) = B at *
    unfold m_is_line d_is_line
    simp -implicitDefEqProofs [-c_lenl, N_is_line, i0, i1, i2, ln, eq, e1, e2]
  | p q =>
    obtain ⟨h1, h2⟩ := h
    have i0 : ixD (wD (Rw.p q).w) (.int 0) = some (.str "pocket") := rfl
    have i1 : ixD (wD (Rw.p q).w) (.int 1) = some (.str (iS q.1)) := rfl
    have i2 : ixD (wD (Rw.p q).w) (.int 2) = some (.str (iS q.2)) := rfl
    have ln : lenD [wD (Rw.p q).w] = some (.int 3) := rfl
    have eq : eqO (.str "pocket") (.str "ball") = some (.bl false) := rfl
    have e1 := isn31 h1
    have e2 := isn31 h2
    generalize wD (Rw.p q).w = W at *
    generalize D.str (iS q.1) = A at *
    generalize D.str (iS q.2) = B at *
    unfold m_is_line d_is_line
    simp -implicitDefEqProofs [-c_lenl, N_is_line, i0, i1, i2, ln, eq, e1, e2]
  | b b =>
    have i0 : ixD (wD (Rw.b b).w) (.int 0) = some (.str "ball") := rfl
    have eq : eqO (.str "ball") (.str "ball") = some (.bl true) := rfl
    have e := v_is_ball_line h
    generalize wD (Rw.b b).w = W at *
    unfold m_is_line d_is_line
    simp -implicitDefEqProofs [N_is_line, i0, eq, e]
/-! ### parse_setup -/
def Rw.kw : Rw → Str
  | .t _ _ => "table"
  | .p _ => "pocket"
  | .b _ => "ball"
def alw : Str → Rw → Prop
  | a, .t _ _ => a = ""
  | a, .p _ => a = "table" ∨ a = "pocket"
  | a, .b _ => a = "table" ∨ a = "pocket" ∨ a = "ball"
def chn : Str → List Rw → Prop
  | _, [] => True
  | a, r :: R => alw a r ∧ chn r.kw R
theorem kw_ix (r : Rw) : ixD (wD r.w) (.int 0) = some (.str r.kw) := by cases r <;> rfl
theorem sw1 : sh 0 (.str "table") := ⟨by simp [D.py, PyData.canLay0]; decide +kernel, by simp [D.py, PyData.depth]⟩
theorem sw2 : sh 0 (.str "pocket") := ⟨by simp [D.py, PyData.canLay0]; decide +kernel, by simp [D.py, PyData.depth]⟩
theorem sw3 : sh 0 (.str "ball") := ⟨by simp [D.py, PyData.canLay0]; decide +kernel, by simp [D.py, PyData.depth]⟩
theorem ni_t : niO (.str "table") (.tup [.str "table"]) = some (.bl false) := by
  have h1 : shD (.tup [.str "table"]) = true := sh_D (n := 1) (sh_tup (n := 0) fun d hd => by rw [List.mem_singleton.mp hd]; exact sw1) (by decide)
  have h2 : shD (.str "table") = true := sh_D sw1 (by decide)
  show (if shD (.str "table") = true ∧ shD (.tup [.str "table"]) = true then some (List.any [D.str "table"] fun z => PyData.eqv z.py (D.str "table").py) else none).map _ = _
  rw [if_pos ⟨h2, h1⟩]
  rfl
theorem sh_pb : shD (.tup [.str "pocket", .str "ball"]) = true := sh_D (n := 1) (sh_tup (n := 0) fun d hd => by
  rcases List.mem_cons.mp hd with rfl | hd
  · exact sw2
  rw [List.mem_singleton.mp hd]
  exact sw3) (by decide)
theorem ni_p : niO (.str "pocket") (.tup [.str "pocket", .str "ball"]) = some (.bl false) := by
  have h2 : shD (.str "pocket") = true := sh_D sw2 (by decide)
  show (if shD (.str "pocket") = true ∧ shD (.tup [.str "pocket", .str "ball"]) = true then some (List.any [D.str "pocket", D.str "ball"] fun z => PyData.eqv z.py (D.str "pocket").py) else none).map _ = _
  rw [if_pos ⟨h2, sh_pb⟩]
  rfl
theorem ni_b : niO (.str "ball") (.tup [.str "pocket", .str "ball"]) = some (.bl false) := by
  have h2 : shD (.str "ball") = true := sh_D sw3 (by decide)
  show (if shD (.str "ball") = true ∧ shD (.tup [.str "pocket", .str "ball"]) = true then some (List.any [D.str "pocket", D.str "ball"] fun z => PyData.eqv z.py (D.str "ball").py) else none).map _ = _
  rw [if_pos ⟨h2, sh_pb⟩]
  rfl
theorem ni_b1 : niO (.str "ball") (.tup [.str "ball"]) = some (.bl false) := by
  have h1 : shD (.tup [.str "ball"]) = true := sh_D (n := 1) (sh_tup (n := 0) fun d hd => by rw [List.mem_singleton.mp hd]; exact sw3) (by decide)
  have h2 : shD (.str "ball") = true := sh_D sw3 (by decide)
  show (if shD (.str "ball") = true ∧ shD (.tup [.str "ball"]) = true then some (List.any [D.str "ball"] fun z => PyData.eqv z.py (D.str "ball").py) else none).map _ = _
  rw [if_pos ⟨h2, h1⟩]
  rfl
noncomputable abbrev bodC : SM := (dSeq (dIfS (dOr (tst (dOp niO (dOp ixD (dVar 3) (dC (.int 0))) (dKget kd_NEXT_WORDS (dVar 1)))) (dNot (tru (dCall m_is_line [] (dCons (dVar 3) dNil)))))
(fun _ => none)
dPass)
(dAsg (dOp ixD (dVar 3) (dC (.int 0))) (tgN 1)))
theorem cf_turn {a : Str} {r : Rw} (ha : alw a r) (h : r.ok) (k : Int) (s0 s2 s3 : Option Sl) : turnD (tgSeq 2 (tgsCons (tgN 2) (tgsCons (tgN 3) tgsNil))) bodC (.tup [.int k, wD r.w]) [s0, some (.val (.str a)), s2, s3] = some (.nx [s0, some (.val (.str r.kw)), some (.val (.int k)), some (.val (wD r.w))]) := by
  have tg : tgSeq 2 (tgsCons (tgN 2) (tgsCons (tgN 3) tgsNil)) (.tup [.int k, wD r.w]) [s0, some (.val (.str a)), s2, s3] = some [s0, some (.val (.str a)), some (.val (.int k)), some (.val (wD r.w))] := rfl
  have i0 := kw_ix r
  have e := v_is_line h
  obtain ⟨T, kg, ni⟩ : ∃ T, (∀ s2 s3 : Option Sl, dKget kd_NEXT_WORDS (dVar 1) [s0, some (.val (.str a)), s2, s3] = some (.ok T)) ∧ niO (.str r.kw) T = some (.bl false) := by
    cases r with
    | t w h' =>
      have ha : a = "" := ha
      subst ha
      exact ⟨.tup [.str "table"], fun _ _ => rfl, ni_t⟩
    | p q =>
      have ha : a = "table" ∨ a = "pocket" := ha
      rcases ha with rfl | rfl
      · exact ⟨.tup [.str "pocket", .str "ball"], fun _ _ => rfl, ni_p⟩
      · exact ⟨.tup [.str "pocket", .str "ball"], fun _ _ => rfl, ni_p⟩
    | b z =>
      have ha : a = "table" ∨ a = "pocket" ∨ a = "ball" := ha
      rcases ha with rfl | rfl | rfl
      · exact ⟨.tup [.str "pocket", .str "ball"], fun _ _ => rfl, ni_b⟩
      · exact ⟨.tup [.str "pocket", .str "ball"], fun _ _ => rfl, ni_b⟩
      · exact ⟨.tup [.str "ball"], fun _ _ => rfl, ni_b1⟩
  generalize wD r.w = W at *
  generalize D.str r.kw = KW at *
  generalize D.str a = A at *
  unfold bodC
  unfold turnD
  rw [tg]
  simp -implicitDefEqProofs [-c_kget, i0, kg, ni, e]
theorem cf_loop (s0 : Option Sl) : ∀ (R : List Rw) (a : Str) (k : Nat) (s2 s3 : Option Sl), chn a R → (∀ r ∈ R, r.ok) → ∃ a' s2' s3', forD (tgSeq 2 (tgsCons (tgN 2) (tgsCons (tgN 3) tgsNil))) bodC (numD k (R.map fun r => wD r.w)) [s0, some (.val (.str a)), s2, s3] = some (.nx [s0, some (.val (.str a')), s2', s3'])
  | [], a, k, s2, s3, _, _ => ⟨a, s2, s3, rfl⟩
  | r :: R, a, k, s2, s3, hc, h => by
    obtain ⟨a', s2', s3', e⟩ := cf_loop s0 R r.kw (k + 1) (some (.val (.int (k : Int)))) (some (.val (wD r.w))) hc.2 fun x hx => h x (List.mem_cons_of_mem _ hx)
    refine ⟨a', s2', s3', ?_⟩
    rw [List.map_cons, numD]
    exact forD_nx (cf_turn hc.1 (h r (List.mem_cons_self ..)) (k : Int) s0 s2 s3) e
theorem v_check_form {R : List Rw} (hc : chn "" R) (h : ∀ r ∈ R, r.ok) : m_check_form [.lst (R.map fun r => wD r.w)] = some (.ok .non) := by
  obtain ⟨a', s2', s3', e⟩ := cf_loop (some (.val (.lst (R.map fun r => wD r.w)))) R "" 1 none none hc h
  have en : iEnmS (dCons (dVar 0) (dCons (dC (.int 1)) dNil)) [some (.val (.lst (R.map fun r => wD r.w))), some (.val (.str "")), none, none] = some (.ok (numD 1 (R.map fun r => wD r.w))) := rfl
  generalize numD 1 (R.map fun r => wD r.w) = NW at *
  generalize D.lst (R.map fun r => wD r.w) = W at *
  unfold bodC at e
  unfold m_check_form d_check_form
  simp -implicitDefEqProofs [N_check_form, en, e]
def rowsR (W H : Int) (ps : List (Int × Int)) (L : List Bl) : List Rw := .t W H :: (ps.map Rw.p ++ L.map Rw.b)
theorem chn_b : ∀ (L : List Bl) (a : Str), a = "table" ∨ a = "pocket" ∨ a = "ball" → chn a (L.map Rw.b)
  | [], _, _ => trivial
  | b :: L, a, h => ⟨h, chn_b L "ball" (.inr (.inr rfl))⟩
theorem chn_p (L : List Bl) : ∀ (ps : List (Int × Int)) (a : Str), a = "table" ∨ a = "pocket" → chn a (ps.map Rw.p ++ L.map Rw.b)
  | [], a, h => chn_b L a (h.elim .inl fun z => .inr (.inl z))
  | p :: ps, a, h => ⟨h, chn_p L ps "pocket" (.inr rfl)⟩
theorem chn_all (W H : Int) (ps : List (Int × Int)) (L : List Bl) : chn "" (rowsR W H ps L) := ⟨rfl, chn_p L ps "table" (.inl rfl)⟩
def isP : Rw → Bool
  | .p _ => true
  | _ => false
def isB' : Rw → Bool
  | .b _ => true
  | _ => false
def pD : Rw → D
  | .p q => ptD q
  | _ => .non
def bD : Rw → D
  | .b b => blOf b
  | _ => .non
theorem fil_p (W H : Int) (ps : List (Int × Int)) (L : List Bl) : ((rowsR W H ps L).filter isP).map pD = ptsD ps := by
  have h1 : ∀ ps : List (Int × Int), (ps.map Rw.p).filter isP = ps.map Rw.p := fun ps => List.filter_eq_self.mpr fun r hr => by obtain ⟨q, _, rfl⟩ := List.mem_map.mp hr; rfl
  have h2 : (L.map Rw.b).filter isP = [] := List.filter_eq_nil_iff.mpr fun r hr => by obtain ⟨q, _, rfl⟩ := List.mem_map.mp hr; exact Bool.false_ne_true
  unfold rowsR
  rw [List.filter_cons_of_neg (by exact Bool.false_ne_true), List.filter_append, h1, h2, List.append_nil, List.map_map]
  rfl
theorem fil_b (W H : Int) (ps : List (Int × Int)) (L : List Bl) : ((rowsR W H ps L).filter isB').map bD = L.map blOf := by
  have h1 : (ps.map Rw.p).filter isB' = [] := List.filter_eq_nil_iff.mpr fun r hr => by obtain ⟨q, _, rfl⟩ := List.mem_map.mp hr; exact Bool.false_ne_true
  have h2 : (L.map Rw.b).filter isB' = L.map Rw.b := List.filter_eq_self.mpr fun r hr => by obtain ⟨q, _, rfl⟩ := List.mem_map.mp hr; rfl
  unfold rowsR
  rw [List.filter_cons_of_neg (by exact Bool.false_ne_true), List.filter_append, h1, h2, List.nil_append, List.map_map]
  rfl
theorem v_read_pair {a b : Int} {s : Str} (h1 : okN a) (h2 : okN b) : m_read_pair [.lst [.str s, .str (iS a), .str (iS b)]] = some (.ok (.tup [.int a, .int b])) := by
  have i1 : ixD (.lst [.str s, .str (iS a), .str (iS b)]) (.int 1) = some (.str (iS a)) := rfl
  have i2 : ixD (.lst [.str s, .str (iS a), .str (iS b)]) (.int 2) = some (.str (iS b)) := rfl
  have e1 := iS_int h1
  have e2 := iS_int h2
  generalize D.lst [.str s, .str (iS a), .str (iS b)] = W at *
  generalize D.str (iS a) = A at *
  generalize D.str (iS b) = B at *
  unfold m_read_pair d_read_pair
  simp -implicitDefEqProofs [N_read_pair, i1, i2, e1, e2]
theorem v_read_ball {b : Bl} (h : (Rw.b b).ok) : m_read_ball [wD (Rw.b b).w] = some (.ok (blOf b)) := by
  obtain ⟨h0, h1, h2, h3, h4, h5⟩ := h
  have tg : ∀ s1 s2 s3 s4 s5 s6 s7, tgSeq 7 (tgsCons (tgN 1) (tgsCons (tgN 2) (tgsCons (tgN 3) (tgsCons (tgN 4) (tgsCons (tgN 5) (tgsCons (tgN 6) (tgsCons (tgN 7) tgsNil))))))) (wD (Rw.b b).w) [some (.val (wD (Rw.b b).w)), s1, s2, s3, s4, s5, s6, s7] = some [some (.val (wD (Rw.b b).w)), some (.val (.str "ball")), some (.val (.str b.nm)), some (.val (.str (iS b.x))), some (.val (.str (iS b.y))), some (.val (.str (stS b.dx))), some (.val (.str (stS b.dy))), some (.val (.str (iS b.t)))] := fun _ _ _ _ _ _ _ => rfl
  have e1 := iS_int h1
  have e2 := iS_int h2
  have e5 := iS_int h5
  have kd : ∀ i, st3' i → kd_STEP_WORDS.lookup (stS i) = some (.int i) := fun i hi => by rcases hi with rfl | rfl | rfl <;> rfl
  have k3 := kd _ h3
  have k4 := kd _ h4
  have n3 : ∀ (r0 r1 r2 r3 r4 : Option Sl) (r : Den.Env), dKget kd_STEP_WORDS (dVar 5) (r0 :: r1 :: r2 :: r3 :: r4 :: some (.val (.str (stS b.dx))) :: r) = some (.ok (.int b.dx)) := fun _ _ _ _ _ _ => by
    show (match kd_STEP_WORDS.lookup (stS b.dx) with | some z => some (Den.R.ok z) | none => none) = _
    rw [k3]
  have n4 : ∀ (r0 r1 r2 r3 r4 r5 : Option Sl) (r : Den.Env), dKget kd_STEP_WORDS (dVar 6) (r0 :: r1 :: r2 :: r3 :: r4 :: r5 :: some (.val (.str (stS b.dy))) :: r) = some (.ok (.int b.dy)) := fun _ _ _ _ _ _ _ => by
    show (match kd_STEP_WORDS.lookup (stS b.dy) with | some z => some (Den.R.ok z) | none => none) = _
    rw [k4]
  show _ = some (Den.R.ok (.tup [.str b.nm, .int b.x, .int b.y, .int b.dx, .int b.dy, .int b.t]))
  generalize wD (Rw.b b).w = W at *
  generalize D.str b.nm = N at *
  generalize D.str (iS b.x) = X at *
  generalize D.str (iS b.y) = Y at *
  generalize D.str (iS b.t) = T at *
  generalize D.str (stS b.dx) = DX at *
  generalize D.str (stS b.dy) = DY at *
  unfold m_read_ball d_read_ball
  simp -implicitDefEqProofs [-c_kget, N_read_ball, c_asg, tg, n3, n4, e1, e2, e5]
theorem eq_kw (r : Rw) : eqO (.str r.kw) (.str "pocket") = some (.bl (isP r)) ∧ eqO (.str r.kw) (.str "ball") = some (.bl (isB' r)) := by cases r <;> exact ⟨rfl, rfl⟩
abbrev setS (W H : Int) (ps : List (Int × Int)) (L : List Bl) : Str := txS' ((rowsR W H ps L).map Rw.w)
def okSet (W H : Int) (ps : List (Int × Int)) (L : List Bl) : Prop := (∀ r ∈ rowsR W H ps L, r.ok) ∧ ps.length ≤ 20 ∧ L.length ≤ 20
theorem rows_len {W H : Int} {ps : List (Int × Int)} {L : List Bl} (h : okSet W H ps L) : (rowsR W H ps L).length ≤ 41 := by
  unfold rowsR
  rw [List.length_cons, List.length_append, List.length_map, List.length_map]
  have := h.2.1
  have := h.2.2
  omega
theorem v_parse {W H : Int} {ps : List (Int × Int)} {L : List Bl} (h : okSet W H ps L) : ∃ s2 s4, (∀ T, m_Table___init [.int W, .int H, .lst (ptsD ps)] = some (.ok T) → m_check_balls [T, .lst (L.map blOf)] = some (.ok .non) → m_parse_setup [.str (setS W H ps L)] = some (.ok (.tup [T, .lst (L.map blOf)]))) ∧
    (∀ x, m_Table___init [.int W, .int H, .lst (ptsD ps)] = some (.exc x) → m_parse_setup [.str (setS W H ps L)] = some (.exc x)) ∧
    (∀ T x, m_Table___init [.int W, .int H, .lst (ptsD ps)] = some (.ok T) → m_check_balls [T, .lst (L.map blOf)] = some (.exc x) → m_parse_setup [.str (setS W H ps L)] = some (.exc x)) ∧ s2 = (none : Option Sl) ∧ s4 = (none : Option Sl) := by
  refine ⟨none, none, ?_⟩
  have hw : ∀ x ∈ (rowsR W H ps L).map Rw.w, rowOk x := fun x hx => by
    obtain ⟨r, hr, rfl⟩ := List.mem_map.mp hx
    exact rw_ok (h.1 r hr)
  have rl := rows_len h
  have s1 := split_okG (a := setS W H ps L) nl_len (tx_lenS (r := (Rw.t W H).w) (R := (ps.map Rw.p ++ L.map Rw.b).map Rw.w) hw (by
    have : ((rowsR W H ps L).map Rw.w).length ≤ 41 := by rw [List.length_map]; exact rl
    exact Nat.le_trans this (by decide)))
  rw [show Txt.split (setS W H ps L) "\n" = ((rowsR W H ps L).map Rw.w).map lnS from tx_split (r := (Rw.t W H).w) (R := (ps.map Rw.p ++ L.map Rw.b).map Rw.w) hw, List.map_map, List.map_map] at s1
  have szR : ((rowsR W H ps L).map fun r => D.str (lnS r.w)).length < sizeLine := by rw [List.length_map]; exact Nat.lt_of_le_of_lt rl (by decide)
  have szW : ((rowsR W H ps L).map fun r => wD r.w).length < sizeLine := by rw [List.length_map]; exact Nat.lt_of_le_of_lt rl (by decide)
  have c1 := c_aslc (i := 1) (vs := [2]) (g := tgN 2) (mi := iSeq (dSm splitD (dVar 0) (dC (.str "\n")))) (mt := dYes) (me := dSm splitD (dVar 2) (dC (.str " "))) (ρ := [some (.val (.str (setS W H ps L))), none, none, none, none, none, none, none, none]) (ds := (rowsR W H ps L).map fun r => D.str (lnS r.w)) (R := (rowsR W H ps L).map fun r => wD r.w) (by
    have s1 : splitD (setS W H ps L) (.str "\n") = some (.lst ((rowsR W H ps L).map fun r => D.str (lnS r.w))) := s1
    generalize ((rowsR W H ps L).map fun r => D.str (lnS r.w)) = LS at *
    simp -implicitDefEqProofs [s1]) szR (by
    refine compD_map2 _ _ _ fun r hr => ?_
    refine ⟨[some (.val (.str (setS W H ps L))), none, some (.val (.str (lnS r.w))), none, none, none, none, none, none], rfl, rfl, ?_⟩
    have ro := rw_ok (h.1 r hr)
    have e0 := split_okG (a := lnS r.w) sp_len (Nat.le_trans (ln_len ro) (by decide))
    rw [ln_split ro] at e0
    generalize D.str (setS W H ps L) = TT at *
    simp -implicitDefEqProofs [e0])
  have cf := v_check_form (chn_all W H ps L) h.1
  have c2 := fun (T : D) (s2 : Option Sl) => c_aslc (i := 3) (vs := [4]) (g := tgN 4) (mi := iSeq (dVar 1)) (mt := tst (dOp eqO (dOp ixD (dVar 4) (dC (.int 0))) (dC (.str "pocket")))) (me := dCall m_read_pair [] (dCons (dVar 4) dNil)) (ρ := [some (.val T), some (.val (.lst ((rowsR W H ps L).map fun r => wD r.w))), s2, none, none, none, none, none, none]) (ds := (rowsR W H ps L).map fun r => wD r.w) (R := ptsD ps) rfl szW (by
    rw [← fil_p W H ps L]
    refine compD_fm (fun r : Rw => wD r.w) pD isP _ fun r hr => ?_
    generalize hRW : (rowsR W H ps L).map (fun r => wD r.w) = RW
    refine ⟨[some (.val T), some (.val (.lst RW)), s2, none, some (.val (wD r.w)), none, none, none, none], rfl, ?_, fun hp => ?_⟩
    · have i0 := kw_ix r
      have e := (eq_kw r).1
      generalize wD r.w = W at *
      generalize D.str r.kw = KW at *
      simp -implicitDefEqProofs [i0, e]
    · cases r with
      | p q =>
        have hq := h.1 _ hr
        have e := v_read_pair (s := "pocket") hq.1 hq.2
        have e : m_read_pair [wD (Rw.p q).w] = some (.ok (pD (Rw.p q))) := e
        generalize wD (Rw.p q).w = W at *
        generalize pD (Rw.p q) = PD at *
        simp -implicitDefEqProofs [e]
      | t => cases hp
      | b => cases hp)
  have c3 := fun (T : D) (s2 s3 : Option Sl) => c_aslc (i := 5) (vs := [4]) (g := tgN 4) (mi := iSeq (dVar 1)) (mt := tst (dOp eqO (dOp ixD (dVar 4) (dC (.int 0))) (dC (.str "ball")))) (me := dCall m_read_ball [] (dCons (dVar 4) dNil)) (ρ := [some (.val T), some (.val (.lst ((rowsR W H ps L).map fun r => wD r.w))), s2, s3, none, none, none, none, none]) (ds := (rowsR W H ps L).map fun r => wD r.w) (R := L.map blOf) rfl szW (by
    rw [← fil_b W H ps L]
    refine compD_fm (fun r : Rw => wD r.w) bD isB' _ fun r hr => ?_
    generalize hRW : (rowsR W H ps L).map (fun r => wD r.w) = RW
    refine ⟨[some (.val T), some (.val (.lst RW)), s2, s3, some (.val (wD r.w)), none, none, none, none], rfl, ?_, fun hp => ?_⟩
    · have i0 := kw_ix r
      have e := (eq_kw r).2
      generalize wD r.w = W at *
      generalize D.str r.kw = KW at *
      simp -implicitDefEqProofs [i0, e]
    · cases r with
      | b q =>
        have e := v_read_ball (h.1 _ hr)
        have e : m_read_ball [wD (Rw.b q).w] = some (.ok (bD (Rw.b q))) := e
        generalize wD (Rw.b q).w = W at *
        generalize bD (Rw.b q) = PD at *
        simp -implicitDefEqProofs [e]
      | t => cases hp
      | p => cases hp)
  have i0 : ixD (.lst ((rowsR W H ps L).map fun r => wD r.w)) (.int 0) = some (wD (Rw.t W H).w) := by
    show atI ((rowsR W H ps L).map fun r => wD r.w) 0 = _
    unfold rowsR atI ixN
    rw [if_pos (by decide), if_pos (by rw [List.length_map, List.length_cons]; omega)]
    rfl
  have ht := h.1 (.t W H) (List.mem_cons_self ..)
  have rp := v_read_pair (s := "table") ht.1 ht.2
  have rp : m_read_pair [wD (Rw.t W H).w] = some (.ok (.tup [.int W, .int H])) := rp
  have tg : ∀ r0 r1 r2 r3 r4 r5 r6 r7 r8, tgSeq 2 (tgsCons (tgN 6) (tgsCons (tgN 7) tgsNil)) (.tup [.int W, .int H]) [r0, r1, r2, r3, r4, r5, r6, r7, r8] = some [r0, r1, r2, r3, r4, r5, some (.val (.int W)), some (.val (.int H)), r8] := fun _ _ _ _ _ _ _ _ _ => rfl
  have c2 := c2 (.str (setS W H ps L)) none
  have c3 := c3 (.str (setS W H ps L)) none (some (.val (.lst (ptsD ps))))
  generalize (rowsR W H ps L).map (fun r => wD r.w) = RW at *
  generalize wD (Rw.t W H).w = TW at *
  generalize D.tup [.int W, .int H] = WH at *
  generalize D.str (setS W H ps L) = TX at *
  generalize ptsD ps = P at *
  generalize L.map blOf = LB at *
  refine ⟨fun T hT hc => ?_, fun x hT => ?_, fun T x hT hc => ?_, rfl, rfl⟩
  · unfold m_parse_setup d_parse_setup
    simp -implicitDefEqProofs [N_parse_setup, c_asg, c1, cf, c2, c3, i0, rp, tg, hT, hc]
  · unfold m_parse_setup d_parse_setup
    simp -implicitDefEqProofs [N_parse_setup, c_asg, c1, cf, c2, c3, i0, rp, tg, hT]
  · unfold m_parse_setup d_parse_setup
    simp -implicitDefEqProofs [N_parse_setup, c_asg, c1, cf, c2, c3, i0, rp, tg, hT, hc]
theorem adS {a b : Str} (h : a.length + b.length ≤ 1000) : addD (.str a) (.str b) = some (.str (a ++ b)) := if_pos (Nat.le_trans h (by decide))
theorem app_len (x y : Str) : (x ++ y).length = x.length + y.length := by rw [s_len, app_cps, List.length_append, ← s_len, ← s_len]
def catS : List Str → Str
  | [] => Str.empty
  | y :: ys => y ++ catS ys
def jsR (ρ : Den.Env) : List (Den.Env → M) → List Str → Prop
  | [], [] => True
  | m :: ms, y :: ys => m ρ = some (.ok (.str y)) ∧ jsR ρ ms ys
  | _, _ => False
theorem em_cps : Str.empty.cps.toList = [] := rfl
theorem js_all {ρ : Den.Env} : ∀ (ms : List (Den.Env → M)) (ys : List Str) (acc : Str), jsR ρ ms ys → acc.length + (ys.map (·.length)).sum ≤ 16777216 → dJsA ms acc ρ = some (.ok (.str (acc ++ catS ys)))
  | [], [], acc, _, _ => by
    rw [c_jsA0, show acc ++ catS [] = acc from ext_cps (by rw [app_cps]; show acc.cps.toList ++ [] = _; simp)]
  | [], _ :: _, _, h, _ => h.elim
  | _ :: _, [], _, h, _ => h.elim
  | m :: ms, y :: ys, acc, h, hl => by
    rw [List.map_cons, List.sum_cons] at hl
    rw [c_jsA, h.1, c_bd1]
    show (if (acc ++ y).length ≤ 16777216 then dJsA ms (acc ++ y) ρ else none) = _
    rw [if_pos (by rw [app_len]; omega), js_all ms ys (acc ++ y) h.2 (by rw [app_len]; omega)]
    rw [show acc ++ y ++ catS ys = acc ++ catS (y :: ys) from ext_cps (by simp only [catS, app_cps, List.append_assoc])]
theorem fmt_int {m : Den.Env → M} {ρ : Den.Env} {i : Int} (h : m ρ = some (.ok (.int i))) (ok : i.natAbs.log2 < 1920) : dFmt m ρ = some (.ok (.str (iS i))) := by
  rw [c_fmt, h]
  show lift (if _ then _ else _) = _
  rw [if_pos ok]
  rfl
theorem fmt_str {m : Den.Env → M} {ρ : Den.Env} {s : Str} (h : m ρ = some (.ok (.str s))) (ok : s.length ≤ 12) : dFmt m ρ = some (.ok (.str s)) := by
  rw [c_fmt, h]
  show lift (if _ then _ else _) = _
  rw [if_pos (Nat.le_trans ok (by decide))]
  rfl
theorem st_log {i : Int} (h : st3' i) : i.natAbs.log2 < 1920 := by rcases h with rfl | rfl | rfl <;> decide
theorem js_row {ρ : Den.Env} {ms : List (Den.Env → M)} {ys : List Str} {r : List Str} (h : jsR ρ ms ys) (hl : (ys.map (·.length)).sum ≤ 1000) (e : catS ys = lnS r) : dJs ms ρ = some (.ok (.str (lnS r))) := by
  rw [c_js, js_all ms ys Str.empty h (by have : Str.empty.length = 0 := rfl; omega), show Str.empty ++ catS ys = lnS r from ext_cps (by rw [app_cps, em_cps, List.nil_append, e])]
theorem row_sum {r : Rw} (h : r.ok) : (r.w.map (·.length)).sum + r.w.length * 1 ≤ 400 := (rw_ok h).2.2
theorem ow_one {i : Nat} {m : Den.Env → M} {ρ : Den.Env} {d : D} (h : m ρ = some (.ok d)) : dOwn i (dCons m dNil) ρ = some (.nx (ρ.set i (some (.own [d])))) := by
  unfold dOwn
  rw [show dCons m dNil ρ = some (.ok [d]) from by show consL (m ρ) _ = _; rw [h]; rfl]
  exact if_pos (show 1 ≤ sizeLine by decide)
/-! ### format_setup -/
theorem cat_t (w h : Int) : catS ["table ", iS w, " ", iS h] = lnS (Rw.t w h).w := by
  unfold lnS Rw.w
  apply ext_cps
  rw [glued_list, show ("table " : Str) = "table" ++ " " from rfl]
  simp only [catS, app_cps, em_cps, List.flatMap_cons, List.flatMap_nil, List.append_nil, List.append_assoc]
theorem cat_p (q : Int × Int) : catS ["pocket ", iS q.1, " ", iS q.2] = lnS (Rw.p q).w := by
  unfold lnS Rw.w
  apply ext_cps
  rw [glued_list, show ("pocket " : Str) = "pocket" ++ " " from rfl]
  simp only [catS, app_cps, em_cps, List.flatMap_cons, List.flatMap_nil, List.append_nil, List.append_assoc]
theorem cat_b (b : Bl) : catS ["ball ", b.nm, " ", iS b.x, " ", iS b.y, " ", iS b.dx, " ", iS b.dy, " ", iS b.t] = lnS (Rw.b b).w := by
  unfold lnS Rw.w
  apply ext_cps
  rw [glued_list, show ("ball " : Str) = "ball" ++ " " from rfl]
  simp only [catS, app_cps, em_cps, List.flatMap_cons, List.flatMap_nil, List.append_nil, List.append_assoc]
  rfl
theorem rows_map (W H : Int) (ps : List (Int × Int)) (L : List Bl) : (rowsR W H ps L).map (fun r => D.str (lnS r.w)) = D.str (lnS (Rw.t W H).w) :: ((ps.map fun q => D.str (lnS (Rw.p q).w)) ++ L.map fun b => D.str (lnS (Rw.b b).w)) := by
  unfold rowsR
  rw [List.map_cons, List.map_append, List.map_map, List.map_map]
  rfl
theorem set_join {W H : Int} {ps : List (Int × Int)} {L : List Bl} (h : okSet W H ps L) : joinD "\n" (.lst ((rowsR W H ps L).map fun r => D.str (lnS r.w))) = some (.str (setS W H ps L)) := by
  have hw : ∀ x ∈ (rowsR W H ps L).map Rw.w, rowOk x := fun x hx => by
    obtain ⟨r, hr, rfl⟩ := List.mem_map.mp hx
    exact rw_ok (h.1 r hr)
  have e := tx_join hw (by rw [List.length_map]; have := rows_len h; omega)
  rw [List.map_map, List.map_map] at e
  exact e
theorem ok_parts {W H : Int} {ps : List (Int × Int)} {L : List Bl} (h : okSet W H ps L) : okN W ∧ okN H ∧ (∀ q ∈ ps, (Rw.p q).ok) ∧ ∀ b ∈ L, (Rw.b b).ok := by
  have ht := h.1 (.t W H) (List.mem_cons_self ..)
  exact ⟨ht.1, ht.2, fun q hq => h.1 _ (List.mem_cons_of_mem _ (List.mem_append_left _ (List.mem_map_of_mem hq))), fun b hb => h.1 _ (List.mem_cons_of_mem _ (List.mem_append_right _ (List.mem_map_of_mem hb)))⟩
theorem str_ok {i : Int} (h : i.natAbs.log2 < 1920) : strD2 [.int i] = some (.str (iS i)) := if_pos h
theorem str_one {ρ ρ1 : Den.Env} {i : Nat} {d e : D} {ds es : List D} (t : tgN i d ρ = some ρ1) (v : dVar i ρ1 = some (.ok d)) (h1 : strD2 [d] = some e) (h2 : compD (tgN i) dYes (dCB strD2 (dCons (dVar i) dNil)) ρ ds = some es) : compD (tgN i) dYes (dCB strD2 (dCons (dVar i) dNil)) ρ (d :: ds) = some (e :: es) := by
  refine compD_cons t rfl ?_ h2
  unfold dCB
  show bdL (consL (dVar i ρ1) (some (.ok []))) _ = _
  rw [v]
  show lift (strD2 [d]) = _
  rw [h1]
  rfl
def bW (b : Bl) : List Str := [b.nm, iS b.x, iS b.y, iS b.dx, iS b.dy, iS b.t]
theorem ball_ln (b : Bl) : "ball " ++ Txt.join " " (bW b) = lnS (Rw.b b).w := by
  unfold lnS Rw.w bW
  apply ext_cps
  rw [app_cps, glued_list, glued_list, show ("ball " : Str) = "ball" ++ " " from rfl]
  simp only [app_cps, List.flatMap_cons, List.flatMap_nil, List.append_nil, List.append_assoc]
  rfl
noncomputable abbrev bodP2 : SM := (dApp 2 (dOp addD (dOp addD (dOp addD (dC (.str "pocket ")) (dCB strD2 (dCons (dVar 3) dNil))) (dC (.str " "))) (dCB strD2 (dCons (dVar 4) dNil))))
noncomputable abbrev bodB2 : SM := (dApp 2 (dOp addD (dC (.str "ball ")) (dSm joinD (dC (.str " ")) (dLcV (dLc [6] (iSeq (dVar 5)) (tgN 6) dYes (dCB strD2 (dCons (dVar 6) dNil)))))))
theorem p_loop2 (T B : D) (r : Den.Env) : ∀ (ps : List (Int × Int)) (P : List D) (s3 s4 : Option Sl), (∀ q ∈ ps, (Rw.p q).ok) → P.length + ps.length < 16777216 → ∃ s3' s4', forD (tgSeq 2 (tgsCons (tgN 3) (tgsCons (tgN 4) tgsNil))) bodP2 (ptsD ps) (some (.val T) :: some (.val B) :: some (.own P) :: s3 :: s4 :: r) = some (.nx (some (.val T) :: some (.val B) :: some (.own (P ++ ps.map fun q => D.str (lnS (Rw.p q).w))) :: s3' :: s4' :: r))
  | [], P, s3, s4, _, _ => ⟨s3, s4, by rw [List.map_nil, List.append_nil]; rfl⟩
  | q :: ps, P, s3, s4, h, hl => by
    have hq := h q (List.mem_cons_self ..)
    obtain ⟨s3', s4', e2⟩ := p_loop2 T B r ps (P ++ [.str (lnS (Rw.p q).w)]) (some (.val (.int q.1))) (some (.val (.int q.2))) (fun x hx => h x (List.mem_cons_of_mem _ hx)) (by rw [List.length_append, List.length_singleton]; rw [List.length_cons] at hl; omega)
    refine ⟨s3', s4', ?_⟩
    rw [List.append_assoc] at e2
    have l1 := iS_len hq.1
    have l2' := iS_len hq.2
    have w7 : ("pocket " : Str).length = 7 := rfl
    have i1 := str_ok (okN_log hq.1)
    have i2 := str_ok (okN_log hq.2)
    have a1 := adS (a := "pocket ") (b := iS q.1) (by omega)
    have a2 := adS (a := "pocket " ++ iS q.1) (b := " ") (by rw [app_len, sp_len]; omega)
    have a3 := adS (a := "pocket " ++ iS q.1 ++ " ") (b := iS q.2) (by rw [app_len, app_len, sp_len]; omega)
    have eq : "pocket " ++ iS q.1 ++ " " ++ iS q.2 = lnS (Rw.p q).w := by
      rw [← cat_p q]
      apply ext_cps
      simp only [catS, app_cps, em_cps, List.append_nil, List.append_assoc]
    rw [eq] at a3
    have hP : P.length < 16777216 := by rw [List.length_cons] at hl; omega
    refine forD_nx (ρ1 := some (.val T) :: some (.val B) :: some (.own (P ++ [.str (lnS (Rw.p q).w)])) :: some (.val (.int q.1)) :: some (.val (.int q.2)) :: r) ?_ e2
    have tg : tgSeq 2 (tgsCons (tgN 3) (tgsCons (tgN 4) tgsNil)) (ptD q) (some (.val T) :: some (.val B) :: some (.own P) :: s3 :: s4 :: r) = some (some (.val T) :: some (.val B) :: some (.own P) :: some (.val (.int q.1)) :: some (.val (.int q.2)) :: r) := rfl
    show turnD _ bodP2 (ptD q) _ = _
    unfold turnD
    rw [tg]
    unfold bodP2
    generalize lnS (Rw.p q).w = CS at *
    generalize "pocket " ++ iS q.1 ++ " " = Q2 at *
    generalize "pocket " ++ iS q.1 = Q1 at *
    generalize iS q.1 = Q0 at *
    generalize iS q.2 = Q9 at *
    simp -implicitDefEqProofs [i1, i2, a1, a2, a3, hP]
theorem b_loop2 (T B : D) : ∀ (L : List Bl) (P : List D) (s3 s4 s5 s6 : Option Sl), (∀ b ∈ L, (Rw.b b).ok) → P.length + L.length < 16777216 → ∃ s5', forD (tgN 5) bodB2 (L.map blOf) [some (.val T), some (.val B), some (.own P), s3, s4, s5, s6] = some (.nx [some (.val T), some (.val B), some (.own (P ++ L.map fun b => D.str (lnS (Rw.b b).w))), s3, s4, s5', s6])
  | [], P, s3, s4, s5, s6, _, _ => ⟨s5, by rw [List.map_nil, List.map_nil, List.append_nil]; rfl⟩
  | b :: L, P, s3, s4, s5, s6, h, hl => by
    have hb := h b (List.mem_cons_self ..)
    have rs := row_sum hb
    obtain ⟨h0, h1, h2, h3, h4, h5⟩ := hb
    obtain ⟨s5', e2⟩ := b_loop2 T B L (P ++ [.str (lnS (Rw.b b).w)]) s3 s4 (some (.val (blOf b))) s6 (fun x hx => h x (List.mem_cons_of_mem _ hx)) (by rw [List.length_append, List.length_singleton]; rw [List.length_cons] at hl; omega)
    refine ⟨s5', ?_⟩
    rw [List.append_assoc] at e2
    have sm : ((bW b).map (·.length)).sum + (bW b).length * 1 ≤ 400 := by
      have : ((Rw.b b).w.map (·.length)).sum = ("ball" : Str).length + ((bW b).map (·.length)).sum := rfl
      have : (Rw.b b).w.length = (bW b).length + 1 := rfl
      omega
    have jn : joinD " " (.lst ((bW b).map D.str)) = some (.str (Txt.join " " (bW b))) := join_ok (by rw [sp_len]; omega)
    have jl : (Txt.join " " (bW b)).length ≤ 400 := Nat.le_trans (join_len _ _ _) (by rw [sp_len]; exact sm)
    have w5 : ("ball " : Str).length = 5 := rfl
    have ad := adS (a := "ball ") (b := Txt.join " " (bW b)) (by omega)
    rw [ball_ln] at ad
    have c := c_lc (vs := [6]) (g := tgN 6) (mi := iSeq (dVar 5)) (mt := dYes) (me := dCB strD2 (dCons (dVar 6) dNil)) (ρ := [some (.val T), some (.val B), some (.own P), s3, s4, some (.val (blOf b)), s6]) (ds := [.str b.nm, .int b.x, .int b.y, .int b.dx, .int b.dy, .int b.t]) (R := (bW b).map D.str) rfl (show 6 < sizeLine by decide)
      (str_one rfl rfl rfl (str_one rfl rfl (str_ok (okN_log h1)) (str_one rfl rfl (str_ok (okN_log h2)) (str_one rfl rfl (str_ok (st_log h3)) (str_one rfl rfl (str_ok (st_log h4)) (str_one rfl rfl (str_ok (okN_log h5)) rfl))))))
    have hP : P.length < 16777216 := by rw [List.length_cons] at hl; omega
    refine forD_nx (ρ1 := [some (.val T), some (.val B), some (.own (P ++ [.str (lnS (Rw.b b).w)])), s3, s4, some (.val (blOf b)), s6]) ?_ e2
    unfold turnD
    generalize lnS (Rw.b b).w = CS at *
    generalize Txt.join " " (bW b) = JJ at *
    generalize (bW b).map D.str = BW at *
    generalize blOf b = BB at *
    unfold bodB2
    simp -implicitDefEqProofs [c, jn, ad, hP]
theorem v_lines {W H : Int} {ps : List (Int × Int)} {L : List Bl} (h : okSet W H ps L) : m_law_lines [.lst [.int W, .int H, .lst (ptsD ps)], .lst (L.map blOf)] = some (.ok (.lst ((rowsR W H ps L).map fun r => D.str (lnS r.w)))) := by
  obtain ⟨hW, hH, hp, hb⟩ := ok_parts h
  have i0 : ixD (.lst [.int W, .int H, .lst (ptsD ps)]) (.int 0) = some (.int W) := rfl
  have i1 : ixD (.lst [.int W, .int H, .lst (ptsD ps)]) (.int 1) = some (.int H) := rfl
  have l1 := iS_len hW
  have l2' := iS_len hH
  have w6 : ("table " : Str).length = 6 := rfl
  have n1 := str_ok (okN_log hW)
  have n2 := str_ok (okN_log hH)
  have a1 := adS (a := "table ") (b := iS W) (by omega)
  have a2 := adS (a := "table " ++ iS W) (b := " ") (by rw [app_len, sp_len]; omega)
  have a3 := adS (a := "table " ++ iS W ++ " ") (b := iS H) (by rw [app_len, app_len, sp_len]; omega)
  have eq : "table " ++ iS W ++ " " ++ iS H = lnS (Rw.t W H).w := by
    rw [← cat_t W H]
    apply ext_cps
    simp only [catS, app_cps, em_cps, List.append_nil, List.append_assoc]
  rw [eq] at a3
  have hd : dOp addD (dOp addD (dOp addD (dC (.str "table ")) (dCB strD2 (dCons (dOp ixD (dVar 0) (dC (.int 0))) dNil))) (dC (.str " "))) (dCB strD2 (dCons (dOp ixD (dVar 0) (dC (.int 1))) dNil)) [some (.val (.lst [.int W, .int H, .lst (ptsD ps)])), some (.val (.lst (L.map blOf))), none, none, none, none, none] = some (.ok (.str (lnS (Rw.t W H).w))) := by
    generalize D.lst [.int W, .int H, .lst (ptsD ps)] = PP at *
    generalize L.map blOf = LB at *
    generalize lnS (Rw.t W H).w = LT at *
    generalize "table " ++ iS W ++ " " = Q2 at *
    generalize "table " ++ iS W = Q1 at *
    generalize iS W = Q0 at *
    generalize iS H = Q9 at *
    simp -implicitDefEqProofs [i0, i1, n1, n2, a1, a2, a3]
  have ow : dOwn 2 (dCons (dOp addD (dOp addD (dOp addD (dC (.str "table ")) (dCB strD2 (dCons (dOp ixD (dVar 0) (dC (.int 0))) dNil))) (dC (.str " "))) (dCB strD2 (dCons (dOp ixD (dVar 0) (dC (.int 1))) dNil))) dNil) [some (.val (.lst [.int W, .int H, .lst (ptsD ps)])), some (.val (.lst (L.map blOf))), none, none, none, none, none] = some (.nx [some (.val (.lst [.int W, .int H, .lst (ptsD ps)])), some (.val (.lst (L.map blOf))), some (.own [.str (lnS (Rw.t W H).w)]), none, none, none, none]) := ow_one (i := 2) hd
  obtain ⟨s3, s4, e1⟩ := p_loop2 (.lst [.int W, .int H, .lst (ptsD ps)]) (.lst (L.map blOf)) [none, none] ps [.str (lnS (Rw.t W H).w)] none none hp (by have := h.2.1; rw [List.length_singleton]; omega)
  obtain ⟨s5, e2⟩ := b_loop2 (.lst [.int W, .int H, .lst (ptsD ps)]) (.lst (L.map blOf)) L ([.str (lnS (Rw.t W H).w)] ++ ps.map fun q => D.str (lnS (Rw.p q).w)) s3 s4 none none hb (by have := h.2.1; have := h.2.2; rw [List.length_append, List.length_map, List.length_singleton]; omega)
  have q1 : iSeq (dOp ixD (dVar 0) (dC (.int 2))) [some (.val (.lst [.int W, .int H, .lst (ptsD ps)])), some (.val (.lst (L.map blOf))), some (.own [.str (lnS (Rw.t W H).w)]), none, none, none, none] = some (.ok (ptsD ps)) := rfl
  have q2 : iSeq (dVar 1) [some (.val (.lst [.int W, .int H, .lst (ptsD ps)])), some (.val (.lst (L.map blOf))), some (.own ([D.str (lnS (Rw.t W H).w)] ++ ps.map fun q => D.str (lnS (Rw.p q).w))), s3, s4, none, none] = some (.ok (L.map blOf)) := rfl
  have rm : (rowsR W H ps L).map (fun r => D.str (lnS r.w)) = [D.str (lnS (Rw.t W H).w)] ++ (ps.map fun q => D.str (lnS (Rw.p q).w)) ++ L.map fun b => D.str (lnS (Rw.b b).w) := by rw [rows_map]; rfl
  rw [rm]
  generalize [D.str (lnS (Rw.t W H).w)] ++ (ps.map fun q => D.str (lnS (Rw.p q).w)) ++ (L.map fun b => D.str (lnS (Rw.b b).w)) = LL at *
  generalize [D.str (lnS (Rw.t W H).w)] ++ (ps.map fun q => D.str (lnS (Rw.p q).w)) = LP at *
  generalize lnS (Rw.t W H).w = LT at *
  generalize D.lst [.int W, .int H, .lst (ptsD ps)] = PP at *
  generalize ptsD ps = P at *
  generalize L.map blOf = LB at *
  unfold bodP2 at e1
  unfold bodB2 at e2
  unfold m_law_lines d_law_lines
  simp -implicitDefEqProofs [-c_seqf, N_law_lines, ow, q1, e1, q2, e2]
theorem chk_one {w h : Int} {qs : List (List Int)} {b : Bl} (hn : nmT b.nm) : m_check_ball [tabD w h qs, blOf b] = some (.ok .non) ∨ m_check_ball [tabD w h qs, blOf b] = some (.exc ⟨2, []⟩) := by
  have e := v_is_ball_gen (w := w) (h := h) (x := b.x) (y := b.y) (dx := b.dx) (dy := b.dy) (t := b.t) (qs := qs) (nm_facts hn).2.2
  have e2 := v_check_ball_gen e
  rw [e2]
  split
  · exact .inl rfl
  · exact .inr rfl
theorem first_bad {α : Type} {p : α → Prop} : ∀ L : List α, (∀ b ∈ L, p b) ∨ ∃ L1 b L2, L = L1 ++ b :: L2 ∧ (∀ x ∈ L1, p x) ∧ ¬ p b
  | [] => .inl fun b hb => nomatch hb
  | a :: L => by
    by_cases h : p a
    · rcases first_bad (p := p) L with q | ⟨L1, b, L2, e, h1, h2⟩
      · exact .inl fun b hb => by
          rcases List.mem_cons.mp hb with rfl | hb
          · exact h
          · exact q b hb
      · refine .inr ⟨a :: L1, b, L2, by rw [e]; rfl, fun x hx => ?_, h2⟩
        rcases List.mem_cons.mp hx with rfl | hx
        · exact h
        · exact h1 x hx
    · exact .inr ⟨[], a, L, rfl, (fun x hx => nomatch hx), h⟩
theorem chk_any {w h : Int} {qs : List (List Int)} {L : List Bl} (hn : ∀ b ∈ L, nmT b.nm) (ll : L.length < 1000) : m_check_balls [tabD w h qs, .lst (L.map blOf)] = some (.ok .non) ∨ m_check_balls [tabD w h qs, .lst (L.map blOf)] = some (.exc ⟨2, []⟩) := by
  rcases first_bad (p := fun b => m_check_ball [tabD w h qs, blOf b] = some (.ok .non)) L with q | ⟨L1, b, L2, e, h1, h2⟩
  · have g := v_check_balls_good (T := tabD w h qs) q ll
    by_cases c : L.length ≤ 12 ∧ (L.map Bl.nm).Nodup
    · exact .inl (g.1 c.1 c.2)
    · exact .inr (g.2 c)
  · have hb : m_check_ball [tabD w h qs, blOf b] = some (.exc ⟨2, []⟩) := (chk_one (hn b (by rw [e]; exact List.mem_append_right _ (List.mem_cons_self ..)))).resolve_left h2
    have := v_check_balls_bad (T := tabD w h qs) h1 hb (L2.map blOf)
    right
    rw [e, List.map_append, List.map_cons]
    exact this
theorem eq_strS (x : Str) : eqO (.str x) (.str x) = some (.bl true) := by
  show (eqD (.str x) (.str x)).map _ = _
  show (some (decide (x = x))).map (fun b => D.bl b) = _
  simp
theorem ne_strS (x : Str) : neO (.str x) (.str x) = some (.bl false) := by
  show (eqD (.str x) (.str x)).map _ = _
  show (some (decide (x = x))).map (fun b => D.bl !b) = _
  simp
theorem sh_nmT {s : Str} (h : nmT s) : sh 0 (.str s) := by
  obtain ⟨l, rfl, g⟩ := h
  refine ⟨?_, Nat.zero_le _⟩
  show (txS l).cps.all (· < 0x110000) = true
  rw [← Array.all_toList, List.all_eq_true]
  intro c hc
  have z : c ∈ l := by simpa [txS, txT] using hc
  have := g.all c z
  simp only [low, dig, List.cons_append, List.nil_append, List.mem_cons, List.not_mem_nil, or_false] at this
  exact decide_eq_true (by omega)
theorem sh_all {W H : Int} {ps : List (Int × Int)} {L : List Bl} (h : ∀ b ∈ L, nmT b.nm) : sh 3 (.lst [.int W, .int H, .tup (ptsD ps), .lst (L.map blOf)]) := sh_lst (n := 2) fun d hd => by
  have up : ∀ {n : Nat} {d : D}, sh n d → n ≤ 2 → sh 2 d := fun s hn => ⟨s.1, Nat.le_trans s.2 hn⟩
  simp only [List.mem_cons, List.not_mem_nil, or_false] at hd
  rcases hd with rfl | rfl | rfl | rfl
  · exact sh_int
  · exact sh_int
  · exact sh_tup (n := 1) fun d hd => by
      obtain ⟨c, _, rfl⟩ := List.mem_map.mp hd
      exact sh_tup (n := 0) fun e he => by
        rcases List.mem_cons.mp he with rfl | he
        · exact sh_int
        rw [List.mem_singleton.mp he]
        exact sh_int
  · exact sh_lst (n := 1) fun d hd => by
      obtain ⟨b, hb, rfl⟩ := List.mem_map.mp hd
      exact sh_tup (n := 0) fun e he => by
        simp only [List.mem_cons, List.not_mem_nil, or_false] at he
        rcases he with rfl | rfl | rfl | rfl | rfl | rfl
        · exact sh_nmT (h b hb)
        all_goals exact sh_int
theorem p_exc1 {s : Str} (e : m_parse_setup [.str s] = some (.exc ⟨1, []⟩)) : m_law_parsed [.str s] = some (.ok (.str "table")) := by
  have ix1 : ixD (.lst [.str "odd", .str "table"]) (.int 1) = some (.str "table") := rfl
  have ix2 : ixD (.lst [.str "odd", .str "ball"]) (.int 1) = some (.str "ball") := rfl
  generalize D.str s = S at *
  unfold m_law_parsed d_law_parsed
  simp [N_law_parsed, dTryN, e, c_asg, hdD, exP, plainE, plainS, dIsE, gone, kit_InvalidNotation, ix1, ix2, intD]
theorem p_exc2 {s : Str} (e : m_parse_setup [.str s] = some (.exc ⟨2, []⟩)) : m_law_parsed [.str s] = some (.ok (.str "ball")) := by
  have ix1 : ixD (.lst [.str "odd", .str "table"]) (.int 1) = some (.str "table") := rfl
  have ix2 : ixD (.lst [.str "odd", .str "ball"]) (.int 1) = some (.str "ball") := rfl
  generalize D.str s = S at *
  unfold m_law_parsed d_law_parsed
  simp [N_law_parsed, dTryN, e, c_asg, hdD, exP, plainE, plainS, dIsE, gone, kit_InvalidNotation, ix1, ix2, intD]
theorem p_ok {s : Str} {W H : Int} {P : List D} {B : D} (e : m_parse_setup [.str s] = some (.ok (.tup [.obj 4 [.int W, .int H, .tup P], B]))) : m_law_parsed [.str s] = some (.ok (.lst [.int W, .int H, .tup P, B])) := by
  have tg : ∀ S s1 s2 s3, tgSeq 2 (tgsCons (tgN 1) (tgsCons (tgN 2) tgsNil)) (.tup [.obj 4 [.int W, .int H, .tup P], B]) [S, s1, s2, s3] = some [S, some (.val (.obj 4 [.int W, .int H, .tup P])), some (.val B), s3] := fun _ _ _ _ => rfl
  have f1 : ∀ (s0 : Option Sl) (r : Den.Env), dFld 4 (fnP 4) "width" (dVar 1) (s0 :: some (.val (.obj 4 [.int W, .int H, .tup P])) :: r) = some (.ok (.int W)) := fun _ _ => rfl
  have f2 : ∀ (s0 : Option Sl) (r : Den.Env), dFld 4 (fnP 4) "height" (dVar 1) (s0 :: some (.val (.obj 4 [.int W, .int H, .tup P])) :: r) = some (.ok (.int H)) := fun _ _ => rfl
  have f3 : ∀ (s0 : Option Sl) (r : Den.Env), dFld 4 (fnP 4) "pockets" (dVar 1) (s0 :: some (.val (.obj 4 [.int W, .int H, .tup P])) :: r) = some (.ok (.tup P)) := fun _ _ => rfl
  generalize D.tup [.obj 4 [.int W, .int H, .tup P], B] = TT at *
  generalize D.obj 4 [.int W, .int H, .tup P] = OB at *
  generalize D.str s = S at *
  unfold m_law_parsed d_law_parsed
  simp -implicitDefEqProofs [-c_fld, N_law_parsed, dTryN, e, c_asg, tg, f1, f2, f3]
theorem d_exc1 {P B : D} (e : m_law_made [P] = some (.exc ⟨1, []⟩)) : m_law_due [P, B] = some (.ok (.str "table")) := by
  unfold m_law_due d_law_due
  simp -implicitDefEqProofs [N_law_due, dTry, e, exP, plainE, plainS, noX]
theorem d_exc2 {P B T : D} (e : m_law_made [P] = some (.ok T)) (e2 : m_check_balls [T, B] = some (.exc ⟨2, []⟩)) : m_law_due [P, B] = some (.ok (.str "ball")) := by
  unfold m_law_due d_law_due
  simp -implicitDefEqProofs [N_law_due, dTry, e, e2, exP, plainE, plainS, noX]
theorem d_ok {W H : Int} {Q : List D} {B T : D} (e : m_law_made [.lst [.int W, .int H, .lst Q]] = some (.ok T)) (e2 : m_check_balls [T, B] = some (.ok .non)) : m_law_due [.lst [.int W, .int H, .lst Q], B] = some (.ok (.lst [.int W, .int H, .tup Q, B])) := by
  have i0 : ixD (.lst [.int W, .int H, .lst Q]) (.int 0) = some (.int W) := rfl
  have i1 : ixD (.lst [.int W, .int H, .lst Q]) (.int 1) = some (.int H) := rfl
  have i2 : ixD (.lst [.int W, .int H, .lst Q]) (.int 2) = some (.lst Q) := rfl
  have tu : tupleD [.lst Q] = some (.tup Q) := rfl
  generalize D.lst [.int W, .int H, .lst Q] = P at *
  unfold m_law_due d_law_due
  simp -implicitDefEqProofs [N_law_due, dTry, e, e2, i0, i1, i2, tu]
open Classical in
theorem both_same {W H : Int} {ps : List (Int × Int)} {L : List Bl} (o : okSet W H ps L) (hn : ∀ b ∈ L, nmT b.nm) : ∃ A : D, m_law_parsed [.str (setS W H ps L)] = some (.ok A) ∧ m_law_due [.lst [.int W, .int H, .lst (ptsD ps)], .lst (L.map blOf)] = some (.ok A) ∧ eqO A A = some (.bl true) ∧ neO A A = some (.bl false) := by
  have hq : (ps.map fun p => [p.1, p.2]).length < 16777216 := by rw [List.length_map]; have := o.2.1; omega
  have vi := v_init W H (ps.map fun p => [p.1, p.2]) (.lst ((ps.map fun p => [p.1, p.2]).map tpD)) (.inl rfl) hq
  have vm := v_made W H (ps.map fun p => [p.1, p.2]) hq
  rw [← pts_tp] at vi vm
  obtain ⟨_, _, p1, p2, p3, _⟩ := v_parse o
  by_cases g : goodSide W ∧ goodSide H ∧ goodPk W H (ps.map fun p => [p.1, p.2])
  · rcases chk_any (w := W) (h := H) (qs := ps.map fun p => [p.1, p.2]) hn (by have := o.2.2; omega) with c | c
    · refine ⟨.lst [.int W, .int H, .tup (ptsD ps), .lst (L.map blOf)], p_ok ?_, d_ok (vm.1 g) c, eqO_lst_me (sh_all hn) (by decide), neO_lst_me (sh_all hn) (by decide)⟩
      have e := p1 _ (vi.1 g) c
      rw [show tabD W H (ps.map fun p => [p.1, p.2]) = .obj 4 [.int W, .int H, .tup (ptsD ps)] from by rw [pts_tp]] at e
      exact e
    · exact ⟨.str "ball", p_exc2 (p3 _ _ (vi.1 g) c), d_exc2 (vm.1 g) c, eq_strS _, ne_strS _⟩
  · exact ⟨.str "table", p_exc1 (p2 _ (vi.2 g)), d_exc1 (vm.2 g), eq_strS _, ne_strS _⟩
theorem okN_v {i : Int} (h0 : 0 ≤ i) (h1 : i ≤ 1000000000000000000000000000001) : okN i := ⟨h0, by
  have : (1000000000000000000000000000001 : Nat) < 10 ^ 31 := by decide
  omega⟩
theorem cut_from (ds : List D) {m : Int} (h : 0 ≤ m) : cutD (.lst ds) (some m) none = some (.lst (ds.drop m.toNat)) := by
  obtain ⟨k, rfl⟩ := Int.eq_ofNat_of_zero_le h
  show some (D.lst (cutA ds (some ((k : Nat) : Int)) none)) = _
  unfold cutA
  rw [HT.sIx_none, HT.sIx_nat]
  congr 2
  show (ds.drop (min k ds.length)).take (ds.length - min k ds.length) = ds.drop k
  rcases Nat.le_total k ds.length with h | h
  · rw [Nat.min_eq_left h, List.take_of_length_le (by rw [List.length_drop]; exact Nat.le_refl _)]
  · rw [Nat.min_eq_right h, List.drop_of_length_le h, List.drop_length]
    exact List.take_nil
theorem add_l {a b : List D} (h : a.length + b.length ≤ 1000) : addD (.lst a) (.lst b) = some (.lst (a ++ b)) := if_pos (Nat.le_trans h (by decide))
theorem ix_hd0 (a : D) (l : List D) : ixD (.lst (a :: l)) (.int 0) = some a := by
  show atI (a :: l) 0 = some a
  unfold atI ixN
  rw [if_pos (by decide), if_pos (by rw [List.length_cons]; omega)]
  rfl
theorem first_or {α : Type} (f : α → D) (ok : α → Prop) (z : α) (hz : ok z) (L : List α) (hL : ∀ a ∈ L, ok a) (ll : L.length ≤ 100) {m : Int} (h : 0 ≤ m) : ∃ a, ok a ∧ ∃ C, cutD (.lst (L.map f)) (some m) none = some C ∧ ∃ E, addD C (.lst [f z]) = some E ∧ ixD E (.int 0) = some (f a) := by
  have c := cut_from (L.map f) h
  have a := add_l (a := (L.map f).drop m.toNat) (b := [f z]) (by rw [List.length_drop, List.length_map, List.length_singleton]; omega)
  cases hd : L.drop m.toNat with
  | nil =>
    rw [← List.map_drop, hd] at c a
    exact ⟨z, hz, _, c, _, a, ix_hd0 _ _⟩
  | cons x r =>
    rw [← List.map_drop, hd] at c a
    exact ⟨x, hL x (List.mem_of_mem_drop (by rw [hd]; exact List.mem_cons_self ..)), _, c, _, a, ix_hd0 _ _⟩
theorem spliced {α : Type} (f : α → D) (ok : α → Prop) (L : List α) (hL : ∀ a ∈ L, ok a) (ll : L.length ≤ 12) {z : α} (hz : ok z) {m b : Int} (h : 0 ≤ m) (hb : 0 ≤ b) : ∃ (L' : List α) (C1 E1 C2 : D), (∀ a ∈ L', ok a) ∧ L'.length ≤ 13 ∧ cutD (.lst (L.map f)) none (some m) = some C1 ∧ addD C1 (.lst [f z]) = some E1 ∧ cutD (.lst (L.map f)) (some (m + b)) none = some C2 ∧ addD E1 C2 = some (.lst (L'.map f)) := by
  have c1 := cut_hi (L.map f) m h
  have c2 := cut_from (L.map f) (m := m + b) (by omega)
  have a1 := add_l (a := (L.map f).take m.toNat) (b := [f z]) (by rw [List.length_take, List.length_map, List.length_singleton]; omega)
  have a2 := add_l (a := (L.map f).take m.toNat ++ [f z]) (b := (L.map f).drop (m + b).toNat) (by rw [List.length_append, List.length_take, List.length_drop, List.length_map, List.length_singleton]; omega)
  refine ⟨L.take m.toNat ++ [z] ++ L.drop (m + b).toNat, _, _, _, fun a ha => ?_, ?_, c1, a1, c2, ?_⟩
  · rcases List.mem_append.mp ha with ha | ha
    · rcases List.mem_append.mp ha with ha | ha
      · exact hL a (List.mem_of_mem_take ha)
      · rw [List.mem_singleton.mp ha]; exact hz
    · exact hL a (List.mem_of_mem_drop ha)
  · rw [List.length_append, List.length_append, List.length_take, List.length_drop, List.length_singleton]; omega
  · rw [a2, List.map_append, List.map_append, List.map_take, List.map_drop]
    rfl
def okQ (q : Int × Int) : Prop := okN q.1 ∧ okN q.2
def okBl (b : Bl) : Prop := (Rw.b b).ok
theorem set_of {W H : Int} {ps : List (Int × Int)} {L : List Bl} (hW : okN W) (hH : okN H) (hp : ∀ q ∈ ps, okQ q) (hL : ∀ b ∈ L, okBl b) (pl : ps.length ≤ 20) (ll : L.length ≤ 20) : okSet W H ps L := by
  refine ⟨fun r hr => ?_, pl, ll⟩
  rcases List.mem_cons.mp hr with rfl | hr
  · exact ⟨hW, hH⟩
  rcases List.mem_append.mp hr with hr | hr
  · obtain ⟨q, hq, rfl⟩ := List.mem_map.mp hr
    exact hp q hq
  · obtain ⟨b, hb, rfl⟩ := List.mem_map.mp hr
    exact hL b hb
theorem nm_z : nmT "zzzzz" := ⟨[122, 122, 122, 122, 122], rfl, ⟨by decide, by decide, ⟨122, [122, 122, 122, 122], rfl, by decide⟩⟩⟩
abbrev zB : Bl := ⟨"zzzzz", 0, 0, 1, 0, 0⟩
theorem z_ok : okBl zB := ⟨nm_z, okN_v (by decide) (by decide), okN_v (by decide) (by decide), .inr (.inl rfl), .inl rfl, okN_v (by decide) (by decide)⟩
theorem pw30 : powD (.int 10) (.int 30) = some (.int 1000000000000000000000000000000) := by rfl
abbrev ptE (w h : Int) (ps : List (Int × Int)) : D := .lst [.int w, .int h, .lst (ptsD ps)]
theorem v_changed {xs : List Int} (hx : smalls xs) (hxl : xs.length = 310) {w h : Int} {ps : List (Int × Int)} {L : List Bl} (hw : 0 ≤ w ∧ w ≤ 1000000000000000000000000000000) (hh : 0 ≤ h ∧ h ≤ 1000000000000000000000000000000) (hp : ∀ q ∈ ps, okQ q) (hL : ∀ b ∈ L, okBl b) (pl : ps.length ≤ 12) (ll : L.length ≤ 12) :
    ∃ (W H : Int) (ps' : List (Int × Int)) (L' : List Bl), okN W ∧ okN H ∧ (∀ q ∈ ps', okQ q) ∧ (∀ b ∈ L', okBl b) ∧ ps'.length ≤ 20 ∧ L'.length ≤ 20 ∧ m_law_changed [ptE w h ps, .lst (L.map blOf), lsI xs] = some (.ok (.lst [ptE W H ps', .lst (L'.map blOf)])) := by
  obtain ⟨c, c0, c1, ec⟩ := v_ix hx (i := 300) (by decide) (by omega)
  obtain ⟨n, n0, n1, en⟩ := v_ix hx (i := 301) (by decide) (by omega)
  obtain ⟨u, u0, u1, eu⟩ := v_ix hx (i := 302) (by decide) (by omega)
  have m0 := Int.emod_nonneg c (show (10 : Int) ≠ 0 by omega)
  have m1 := Int.emod_lt_of_pos c (show (0 : Int) < 10 by omega)
  have md : modD (.int c) (.int 10) = some (.int (c % 10)) := c_mod (by decide)
  generalize c % 10 = ch at *
  have q0 := Int.emod_nonneg n (show (8 : Int) ≠ 0 by omega)
  have q1 := Int.emod_lt_of_pos n (show (0 : Int) < 8 by omega)
  have md8 : modD (.int n) (.int 8) = some (.int (n % 8)) := c_mod (by decide)
  obtain ⟨v, v0, v1, ev⟩ : ∃ v : Int, 0 ≤ v ∧ v ≤ 1000000000000000000000000000001 ∧ ixD (.lst [.int 0, .int 1, .int w, .int (w + 1), .int h, .int (h + 1), .int 1000000000000000000000000000000, .int (1000000000000000000000000000000 + 1)]) (.int (n % 8)) = some (.int v) := by
    have : n % 8 = 0 ∨ n % 8 = 1 ∨ n % 8 = 2 ∨ n % 8 = 3 ∨ n % 8 = 4 ∨ n % 8 = 5 ∨ n % 8 = 6 ∨ n % 8 = 7 := by omega
    rcases this with q | q | q | q | q | q | q | q <;> rw [q]
    · exact ⟨0, by decide, by decide, rfl⟩
    · exact ⟨1, by decide, by decide, rfl⟩
    · exact ⟨w, by omega, by omega, rfl⟩
    · exact ⟨w + 1, by omega, by omega, rfl⟩
    · exact ⟨h, by omega, by omega, rfl⟩
    · exact ⟨h + 1, by omega, by omega, rfl⟩
    · exact ⟨1000000000000000000000000000000, by decide, by decide, rfl⟩
    · exact ⟨1000000000000000000000000000000 + 1, by decide, by decide, rfl⟩
  generalize n % 8 = n8 at *
  have ov := okN_v v0 v1
  have ow := okN_v hw.1 (show w ≤ 1000000000000000000000000000001 by omega)
  have oh := okN_v hh.1 (show h ≤ 1000000000000000000000000000001 by omega)
  have tg : ∀ s1 s2 s3 s4 s5 (r : Den.Env), tgSeq 3 (tgsCons (tgN 3) (tgsCons (tgN 4) (tgsCons (tgN 5) tgsNil))) (ptE w h ps) (some (.val (ptE w h ps)) :: s1 :: s2 :: s3 :: s4 :: s5 :: r) = some (some (.val (ptE w h ps)) :: s1 :: s2 :: some (.val (.int w)) :: some (.val (.int h)) :: some (.val (.lst (ptsD ps))) :: r) := fun _ _ _ _ _ _ => rfl
  have pw := pw30
  have dv : divD (.int n) (.int 8) = some (.int (n / 8)) := c_div (by decide) (by decide)
  have dv2 : divD (.int n) (.int 100) = some (.int (n / 100)) := c_div (by decide) (by decide)
  have md2 : modD (.int (n / 100)) (.int 2) = some (.int (n / 100 % 2)) := c_mod (by decide)
  have b0 := Int.emod_nonneg (n / 100) (show (2 : Int) ≠ 0 by omega)
  generalize n / 100 % 2 = bb at *
  by_cases e0 : ch = 0
  · subst e0
    refine ⟨v, h, ps, L, ov, oh, hp, hL, by omega, by omega, ?_⟩
    show _ = some (Den.R.ok (.lst [.lst [.int v, .int h, .lst (ptsD ps)], .lst (L.map blOf)]))
    generalize ptE w h ps = P at *
    generalize ptsD ps = PD at *
    generalize L.map blOf = LB at *
    generalize lsI xs = X at *
    generalize (1000000000000000000000000000000 : Int) = TT at *
    unfold m_law_changed d_law_changed
    simp -implicitDefEqProofs [-c_mod, N_law_changed, c_asg, tg, ec, en, md, md8, pw, ev]
  by_cases e1 : ch = 1
  · subst e1
    refine ⟨w, v, ps, L, ow, ov, hp, hL, by omega, by omega, ?_⟩
    show _ = some (Den.R.ok (.lst [.lst [.int w, .int v, .lst (ptsD ps)], .lst (L.map blOf)]))
    generalize ptE w h ps = P at *
    generalize ptsD ps = PD at *
    generalize L.map blOf = LB at *
    generalize lsI xs = X at *
    generalize (1000000000000000000000000000000 : Int) = TT at *
    unfold m_law_changed d_law_changed
    simp -implicitDefEqProofs [-c_mod, N_law_changed, c_asg, tg, ec, en, md, md8, pw, ev]
  by_cases e5 : ch < 5
  · have ln : lenD [.lst (ptsD ps)] = some (.int (ps.length : Int)) := by rw [c_lenl, List.length_map]
    have a0 := Int.emod_nonneg (n / 8) (show (ps.length : Int) + 1 ≠ 0 by omega)
    have mda : modD (.int (n / 8)) (.int ((ps.length : Int) + 1)) = some (.int (n / 8 % ((ps.length : Int) + 1))) := c_mod (by omega)
    generalize n / 8 % ((ps.length : Int) + 1) = at' at *
    obtain ⟨q, oq, C, f1, E, f2, f3⟩ := first_or ptD okQ (0, 0) ⟨okN_v (by decide) (by decide), okN_v (by decide) (by decide)⟩ ps hp (by omega) a0
    have j0 : ixD (ptD q) (.int 0) = some (.int q.1) := rfl
    have j1 : ixD (ptD q) (.int 1) = some (.int q.2) := rfl
    obtain ⟨q', oq', eq'⟩ : ∃ q' : Int × Int, okQ q' ∧ ixD (.lst [.tup [.int v, .int q.2], .tup [.int q.1, .int v], ptD q]) (.int (ch - 2)) = some (ptD q') := by
      have : ch = 2 ∨ ch = 3 ∨ ch = 4 := by omega
      rcases this with rfl | rfl | rfl
      · exact ⟨(v, q.2), ⟨ov, oq.2⟩, rfl⟩
      · exact ⟨(q.1, v), ⟨oq.1, ov⟩, rfl⟩
      · exact ⟨q, oq, rfl⟩
    obtain ⟨ps', C1, E1, C2, o', l', g1, g2, g3, g4⟩ := spliced ptD okQ ps hp pl oq' a0 b0
    refine ⟨w, h, ps', L, ow, oh, o', hL, by omega, by omega, ?_⟩
    have zz : (D.tup [.int 0, .int 0]) = ptD (0, 0) := rfl
    have f2 : addD C (.lst [.tup [.int 0, .int 0]]) = some E := f2
    show _ = some (Den.R.ok (.lst [.lst [.int w, .int h, .lst (ps'.map ptD)], .lst (L.map blOf)]))
    have f1 : cutD (.lst (ptsD ps)) (some at') none = some C := f1
    have g1 : cutD (.lst (ptsD ps)) none (some at') = some C1 := g1
    have g3 : cutD (.lst (ptsD ps)) (some (at' + bb)) none = some C2 := g3
    clear zz
    generalize ptE w h ps = P at *
    generalize ptsD ps = PD at *
    generalize ps'.map ptD = PD' at *
    generalize ptD q' = Q' at *
    generalize ptD q = Q at *
    generalize L.map blOf = LB at *
    generalize lsI xs = X at *
    generalize (ps.length : Int) = pln at *
    generalize (1000000000000000000000000000000 : Int) = TT at *
    generalize n / 8 = nd8 at *
    generalize n / 100 = nd100 at *
    unfold m_law_changed d_law_changed
    simp -implicitDefEqProofs [-c_mod, -c_div, -c_lenl, N_law_changed, c_asg, tg, ec, en, md, md8, pw, ev, e0, e1, e5, ln, dv, mda, f1, f2, f3, j0, j1, eq', g1, g2, dv2, md2, g3, g4]
  · have ln : lenD [.lst (L.map blOf)] = some (.int (L.length : Int)) := by rw [c_lenl, List.length_map]
    have a0 := Int.emod_nonneg (n / 8) (show (L.length : Int) + 1 ≠ 0 by omega)
    have mda : modD (.int (n / 8)) (.int ((L.length : Int) + 1)) = some (.int (n / 8 % ((L.length : Int) + 1))) := c_mod (by omega)
    generalize n / 8 % ((L.length : Int) + 1) = at' at *
    obtain ⟨b, ob, C, f1, E, f2, f3⟩ := first_or blOf okBl zB z_ok L hL (by omega) a0
    have f2 : addD C (.lst [.tup [.str "zzzzz", .int 0, .int 0, .int 1, .int 0, .int 0]]) = some E := f2
    obtain ⟨dd, od, edd⟩ : ∃ dd : Int × Int, (st3' dd.1 ∧ st3' dd.2) ∧ ixD (.lst [.tup [.int 0, .int 0], .tup [.int 0, .int 1], .tup [.int (-1), .int 0]]) (.int (u % 3)) = some (ptD dd) := by
      have : u % 3 = 0 ∨ u % 3 = 1 ∨ u % 3 = 2 := by omega
      rcases this with q | q | q <;> rw [q]
      · exact ⟨(0, 0), ⟨.inl rfl, .inl rfl⟩, rfl⟩
      · exact ⟨(0, 1), ⟨.inl rfl, .inr (.inl rfl)⟩, rfl⟩
      · exact ⟨(-1, 0), ⟨.inr (.inr rfl), .inl rfl⟩, rfl⟩
    have md3 : modD (.int u) (.int 3) = some (.int (u % 3)) := c_mod (by decide)
    generalize u % 3 = u3 at *
    obtain ⟨o1, o2, o3, o4, o5, o6⟩ := ob
    have key : ∀ b' : Bl, okBl b' → (∃ s : Prop, s) → ∃ (L' : List Bl) (C1 E1 C2 : D), (∀ a ∈ L', okBl a) ∧ L'.length ≤ 13 ∧ cutD (.lst (L.map blOf)) none (some at') = some C1 ∧ addD C1 (.lst [blOf b']) = some E1 ∧ cutD (.lst (L.map blOf)) (some (at' + bb)) none = some C2 ∧ addD E1 C2 = some (.lst (L'.map blOf)) := fun b' ob' _ => spliced blOf okBl L hL ll ob' a0 b0
    have neg1 : negD (.int 1) = some (.int (-1)) := rfl
    by_cases c5 : ch = 5
    · subst c5
      obtain ⟨L', C1, E1, C2, o', l', g1, g2, g3, g4⟩ := key { b with x := v } ⟨o1, ov, o3, o4, o5, o6⟩ ⟨True, trivial⟩
      refine ⟨w, h, ps, L', ow, oh, hp, o', by omega, by omega, ?_⟩
      have k1 : cutD (blOf b) none (some 1) = some (.tup [.str b.nm]) := rfl
      have k2 : addD (.tup [.str b.nm]) (.tup [.int v]) = some (.tup [.str b.nm, .int v]) := rfl
      have k3 : cutD (blOf b) (some 2) none = some (.tup [.int b.y, .int b.dx, .int b.dy, .int b.t]) := rfl
      have k4 : addD (.tup [.str b.nm, .int v]) (.tup [.int b.y, .int b.dx, .int b.dy, .int b.t]) = some (blOf { b with x := v }) := rfl
      generalize blOf { b with x := v } = B' at *
      generalize blOf b = B at *
      generalize ptE w h ps = P at *
      generalize ptsD ps = PD at *
      generalize L'.map blOf = LB' at *
      generalize L.map blOf = LB at *
      generalize D.str b.nm = NM at *
      generalize D.tup [.int b.y, .int b.dx, .int b.dy, .int b.t] = REST at *
      generalize lsI xs = X at *
      generalize (L.length : Int) = pln at *
      generalize (1000000000000000000000000000000 : Int) = TT at *
      generalize n / 8 = nd8 at *
      generalize n / 100 = nd100 at *
      unfold m_law_changed d_law_changed
      simp -implicitDefEqProofs [-c_mod, -c_div, -c_lenl, N_law_changed, c_asg, tg, ec, en, md, md8, pw, ev, ln, dv, mda, f1, f2, f3, k1, k2, k3, k4, g1, g2, dv2, md2, g3, g4]
    by_cases c6 : ch = 6
    · subst c6
      obtain ⟨L', C1, E1, C2, o', l', g1, g2, g3, g4⟩ := key { b with y := v } ⟨o1, o2, ov, o4, o5, o6⟩ ⟨True, trivial⟩
      refine ⟨w, h, ps, L', ow, oh, hp, o', by omega, by omega, ?_⟩
      have k1 : cutD (blOf b) none (some 2) = some (.tup [.str b.nm, .int b.x]) := rfl
      have k2 : addD (.tup [.str b.nm, .int b.x]) (.tup [.int v]) = some (.tup [.str b.nm, .int b.x, .int v]) := rfl
      have k3 : cutD (blOf b) (some 3) none = some (.tup [.int b.dx, .int b.dy, .int b.t]) := rfl
      have k4 : addD (.tup [.str b.nm, .int b.x, .int v]) (.tup [.int b.dx, .int b.dy, .int b.t]) = some (blOf { b with y := v }) := rfl
      generalize blOf { b with y := v } = B' at *
      generalize blOf b = B at *
      generalize ptE w h ps = P at *
      generalize ptsD ps = PD at *
      generalize L'.map blOf = LB' at *
      generalize L.map blOf = LB at *
      generalize D.str b.nm = NM at *
      generalize D.tup [.int b.dx, .int b.dy, .int b.t] = REST at *
      generalize lsI xs = X at *
      generalize (L.length : Int) = pln at *
      generalize (1000000000000000000000000000000 : Int) = TT at *
      generalize n / 8 = nd8 at *
      generalize n / 100 = nd100 at *
      unfold m_law_changed d_law_changed
      simp -implicitDefEqProofs [-c_mod, -c_div, -c_lenl, N_law_changed, c_asg, tg, ec, en, md, md8, pw, ev, ln, dv, mda, f1, f2, f3, k1, k2, k3, k4, g1, g2, dv2, md2, g3, g4]
    by_cases c7 : ch = 7
    · subst c7
      obtain ⟨L', C1, E1, C2, o', l', g1, g2, g3, g4⟩ := key { b with dx := dd.1, dy := dd.2 } ⟨o1, o2, o3, od.1, od.2, o6⟩ ⟨True, trivial⟩
      refine ⟨w, h, ps, L', ow, oh, hp, o', by omega, by omega, ?_⟩
      have k1 : cutD (blOf b) none (some 3) = some (.tup [.str b.nm, .int b.x, .int b.y]) := rfl
      have k2 : addD (.tup [.str b.nm, .int b.x, .int b.y]) (ptD dd) = some (.tup [.str b.nm, .int b.x, .int b.y, .int dd.1, .int dd.2]) := rfl
      have k3 : cutD (blOf b) (some 5) none = some (.tup [.int b.t]) := rfl
      have k4 : addD (.tup [.str b.nm, .int b.x, .int b.y, .int dd.1, .int dd.2]) (.tup [.int b.t]) = some (blOf { b with dx := dd.1, dy := dd.2 }) := rfl
      generalize blOf { b with dx := dd.1, dy := dd.2 } = B' at *
      generalize blOf b = B at *
      generalize ptE w h ps = P at *
      generalize ptsD ps = PD at *
      generalize L'.map blOf = LB' at *
      generalize L.map blOf = LB at *
      generalize D.tup [.str b.nm, .int b.x, .int b.y, .int dd.1, .int dd.2] = K2 at *
      generalize D.tup [.str b.nm, .int b.x, .int b.y] = K1 at *
      generalize ptD dd = DD at *
      generalize D.tup [.int b.t] = REST at *
      generalize lsI xs = X at *
      generalize (L.length : Int) = pln at *
      generalize (1000000000000000000000000000000 : Int) = TT at *
      generalize n / 8 = nd8 at *
      generalize n / 100 = nd100 at *
      unfold m_law_changed d_law_changed
      simp -implicitDefEqProofs [-c_mod, -c_div, -c_lenl, N_law_changed, c_asg, tg, ec, en, md, md8, pw, ev, ln, dv, mda, f1, f2, f3, neg1, eu, md3, edd, k1, k2, k3, k4, g1, g2, dv2, md2, g3, g4]
    by_cases c8 : ch = 8
    · subst c8
      obtain ⟨L', C1, E1, C2, o', l', g1, g2, g3, g4⟩ := key { b with t := v } ⟨o1, o2, o3, o4, o5, ov⟩ ⟨True, trivial⟩
      refine ⟨w, h, ps, L', ow, oh, hp, o', by omega, by omega, ?_⟩
      have k1 : cutD (blOf b) none (some 5) = some (.tup [.str b.nm, .int b.x, .int b.y, .int b.dx, .int b.dy]) := rfl
      have k2 : addD (.tup [.str b.nm, .int b.x, .int b.y, .int b.dx, .int b.dy]) (.tup [.int v]) = some (blOf { b with t := v }) := rfl
      generalize blOf { b with t := v } = B' at *
      generalize blOf b = B at *
      generalize ptE w h ps = P at *
      generalize ptsD ps = PD at *
      generalize L'.map blOf = LB' at *
      generalize L.map blOf = LB at *
      generalize D.tup [.str b.nm, .int b.x, .int b.y, .int b.dx, .int b.dy] = K1 at *
      generalize lsI xs = X at *
      generalize (L.length : Int) = pln at *
      generalize (1000000000000000000000000000000 : Int) = TT at *
      generalize n / 8 = nd8 at *
      generalize n / 100 = nd100 at *
      unfold m_law_changed d_law_changed
      simp -implicitDefEqProofs [-c_mod, -c_div, -c_lenl, N_law_changed, c_asg, tg, ec, en, md, md8, pw, ev, ln, dv, mda, f1, f2, f3, k1, k2, g1, g2, dv2, md2, g3, g4]
    · obtain ⟨L', C1, E1, C2, o', l', g1, g2, g3, g4⟩ := key b ⟨o1, o2, o3, o4, o5, o6⟩ ⟨True, trivial⟩
      refine ⟨w, h, ps, L', ow, oh, hp, o', by omega, by omega, ?_⟩
      generalize blOf b = B at *
      generalize ptE w h ps = P at *
      generalize ptsD ps = PD at *
      generalize L'.map blOf = LB' at *
      generalize L.map blOf = LB at *
      generalize lsI xs = X at *
      generalize (L.length : Int) = pln at *
      generalize (1000000000000000000000000000000 : Int) = TT at *
      generalize n / 8 = nd8 at *
      generalize n / 100 = nd100 at *
      unfold m_law_changed d_law_changed
      simp -implicitDefEqProofs [-c_mod, -c_div, -c_lenl, N_law_changed, c_asg, tg, ec, en, md, md8, pw, ev, e0, e1, e5, c5, c6, c7, c8, ln, dv, mda, f1, f2, f3, g1, g2, dv2, md2, g3, g4]
theorem nm_of {b : Bl} (h : okBl b) : nmT b.nm := h.1
theorem dir_st {dx dy : Int} (h : dirB dx dy = true) : st3' dx ∧ st3' dy := by
  unfold dirB at h
  simp at h
  unfold st3'
  omega
theorem ball_ok {w h : Int} {b : Bl} (hw : w ≤ 1000000000000000000000000000000) (hh : h ≤ 1000000000000000000000000000000) (g : goodB w h b) (hn : nmT b.nm) : okBl b := by
  obtain ⟨g1, g2, ⟨x, y, e, i1, i2, i3, i4⟩, g4, g5⟩ := g
  injection e with e1 e
  injection e with e2 _
  obtain ⟨d1, d2⟩ := dir_st g2
  exact ⟨hn, okN_v (by omega) (by omega), okN_v (by omega) (by omega), d1, d2, okN_v (by omega) (by omega)⟩
theorem nm_a : nmT "a" := ⟨[97], rfl, ⟨by decide, by decide, ⟨97, [], rfl, by decide⟩⟩⟩
theorem last_text : setS 0 1 [] [⟨"a", 9, 9, 1, 0, 0⟩] = "table 0 1\nball a 9 9 1 0 0" := by rfl
theorem last_one : m_law_parsed [.str "table 0 1\nball a 9 9 1 0 0"] = some (.ok (.str "table")) := by
  have o : okSet 0 1 [] [⟨"a", 9, 9, 1, 0, 0⟩] := set_of (okN_v (by decide) (by decide)) (okN_v (by decide) (by decide)) (fun q hq => nomatch hq) (fun b hb => by
    rw [List.mem_singleton.mp hb]
    exact ⟨nm_a, okN_v (by decide) (by decide), okN_v (by decide) (by decide), .inr (.inl rfl), .inl rfl, okN_v (by decide) (by decide)⟩) (by decide) (show 1 ≤ 20 by decide)
  obtain ⟨_, _, p1, p2, p3, _⟩ := v_parse o
  have vi := (v_init 0 1 [] (.lst []) (.inl rfl) (by decide)).2 (fun g => by have := g.1.1; omega)
  have e := p2 _ vi
  rw [last_text] at e
  exact p_exc1 e
theorem law_true (ns : List Int) (hl : ns.length ≤ 63) : m_law [.lst (ns.map D.int)] = some (.ok (.bl true)) := by
  obtain ⟨xs, x1, hx, x3⟩ := v_law_numbers ns hl 310 (by decide) (by decide)
  have hxl : xs.length = 310 := x1
  obtain ⟨w, h, ps, w0, w1, h0, h1, pl, pin, pnd, eP⟩ := v_law_parts hx (by omega)
  obtain ⟨c, c0, c1, ec⟩ := v_ix hx (i := 149) (by decide) (by omega)
  obtain ⟨k, k0, k1, ek⟩ := v_law_count (n := c) (most := 12) (by decide) (by decide)
  obtain ⟨pre, post, a5, hnm, hb⟩ := v_law_balls hx (by omega)
  obtain ⟨L, ll, hL, nmL, eL⟩ := hb 150 w h k (by decide) (by omega) (by omega) k0 (by omega) (by omega)
  have hn : ∀ b ∈ L, nmT b.nm := fun b hb => by
    have : b.nm ∈ L.map Bl.nm := List.mem_map_of_mem hb
    rw [nmL] at this
    obtain ⟨j, hj, e⟩ := List.mem_map.mp this
    have hj := List.mem_range.mp hj
    exact ⟨_, e.symm, hnm (j : Int) (by omega) (by omega)⟩
  have hL2 : ∀ b ∈ L, okBl b := fun b hb => ball_ok w1 h1 (hL b hb) (hn b hb)
  have hp : ∀ q ∈ ps, okQ q := fun q hq => by
    have := pin q hq
    exact ⟨okN_v (by omega) (by omega), okN_v (by omega) (by omega)⟩
  have o1 := set_of (okN_v (show 0 ≤ w by omega) (by omega)) (okN_v (show 0 ≤ h by omega) (by omega)) hp hL2 (by omega) (by omega : L.length ≤ 20)
  obtain ⟨W, H, ps', L', oW, oH, op, oL, l1, l2', eC⟩ := v_changed hx hxl (w := w) (h := h) (ps := ps) (L := L) ⟨by omega, w1⟩ ⟨by omega, h1⟩ hp hL2 pl (by omega)
  have o2 := set_of oW oH op oL l1 l2'
  obtain ⟨A1, a1, a2r, a3, a4⟩ := both_same o1 hn
  obtain ⟨A2, b1, b2r, b3, b4⟩ := both_same o2 fun b hb => nm_of (oL b hb)
  have li1 : m_law_lines [ptE w h ps, .lst (L.map blOf)] = some (.ok (.lst ((rowsR w h ps L).map fun r => D.str (lnS r.w)))) := v_lines o1
  have li2 : m_law_lines [ptE W H ps', .lst (L'.map blOf)] = some (.ok (.lst ((rowsR W H ps' L').map fun r => D.str (lnS r.w)))) := v_lines o2
  have a2 : m_law_due [ptE w h ps, .lst (L.map blOf)] = some (.ok A1) := a2r
  have b2 : m_law_due [ptE W H ps', .lst (L'.map blOf)] = some (.ok A2) := b2r
  clear a2r b2r
  have jn1 := set_join o1
  have jn2 := set_join o2
  have lo := last_one
  have eqt := eq_strS "table"
  have j0 : ixD (ptE w h ps) (.int 0) = some (.int w) := rfl
  have j1 : ixD (ptE w h ps) (.int 1) = some (.int h) := rfl
  have ePA : m_law_parts [lsI xs] = some (.ok (ptE w h ps)) := eP
  clear eP
  have tg : ∀ s0 s1 s2 s3 s4 s5 s6 s7 : Option Sl, tgSeq 2 (tgsCons (tgN 4) (tgsCons (tgN 5) tgsNil)) (.lst [ptE W H ps', .lst (L'.map blOf)]) [s0, s1, s2, s3, s4, s5, s6, s7] = some [s0, s1, s2, s3, some (.val (ptE W H ps')), some (.val (.lst (L'.map blOf))), s6, s7] := fun _ _ _ _ _ _ _ _ => rfl
  clear o1 o2
  generalize D.lst [ptE W H ps', .lst (L'.map blOf)] = CH at *
  generalize ptE W H ps' = PT2 at *
  generalize ptE w h ps = PT1 at *
  generalize (rowsR w h ps L).map (fun r => D.str (lnS r.w)) = RW1 at *
  generalize (rowsR W H ps' L').map (fun r => D.str (lnS r.w)) = RW2 at *
  generalize setS w h ps L = S1 at *
  generalize setS W H ps' L' = S2 at *
  generalize L.map blOf = LB1 at *
  generalize L'.map blOf = LB2 at *
  unfold lsI at *
  generalize xs.map D.int = X at *
  unfold m_law d_law d_law_1 d_law_2 d_law_3 d_law_4 d_law_5 d_law_6 d_law_7
  simp -implicitDefEqProofs [-c_lenl, N_law, c_asg, x3, ePA, ec, ek, j0, j1, eL, eC, tg, li2, jn2, b2, b1, b4, li1, jn1, a1, a2, a4, b3, lo, eqt]

end

theorem all_mk {P : Program} {w : World} {K : PySem.W.Frag} {h : Heap} {mg : Str → Option Value} {fa : Addr} (X : K.In h) (G : h.Ns mainGlobals mg) (hfa : mg "law" = some (.ref fa))
    {u_law_row : Addr} {od_law_row an_law_row : Option Addr} {sl_law_row : Array (Option Value)} {oc_law_row kV_law_row dc_law_row pm_law_row cd_law_row ct_law_row : Value}
    {u_law_numbers : Addr} {od_law_numbers an_law_numbers : Option Addr} {sl_law_numbers : Array (Option Value)} {oc_law_numbers kV_law_numbers dc_law_numbers pm_law_numbers cd_law_numbers ct_law_numbers : Value}
    {u_law_big : Addr} {od_law_big an_law_big : Option Addr} {sl_law_big : Array (Option Value)} {oc_law_big kV_law_big dc_law_big pm_law_big cd_law_big ct_law_big : Value}
    {u_law_count : Addr} {od_law_count an_law_count : Option Addr} {sl_law_count : Array (Option Value)} {oc_law_count kV_law_count dc_law_count pm_law_count cd_law_count ct_law_count : Value}
    {u_law_points : Addr} {od_law_points an_law_points : Option Addr} {sl_law_points : Array (Option Value)} {oc_law_points kV_law_points dc_law_points pm_law_points cd_law_points ct_law_points : Value}
    {u_law_parts : Addr} {od_law_parts an_law_parts : Option Addr} {sl_law_parts : Array (Option Value)} {oc_law_parts kV_law_parts dc_law_parts pm_law_parts cd_law_parts ct_law_parts : Value}
    {u_law_name : Addr} {od_law_name an_law_name : Option Addr} {sl_law_name : Array (Option Value)} {oc_law_name kV_law_name dc_law_name pm_law_name cd_law_name ct_law_name : Value}
    {u_law_balls : Addr} {od_law_balls an_law_balls : Option Addr} {sl_law_balls : Array (Option Value)} {oc_law_balls kV_law_balls dc_law_balls pm_law_balls cd_law_balls ct_law_balls : Value}
    {u_law_changed : Addr} {od_law_changed an_law_changed : Option Addr} {sl_law_changed : Array (Option Value)} {oc_law_changed kV_law_changed dc_law_changed pm_law_changed cd_law_changed ct_law_changed : Value}
    {u_law_lines : Addr} {od_law_lines an_law_lines : Option Addr} {sl_law_lines : Array (Option Value)} {oc_law_lines kV_law_lines dc_law_lines pm_law_lines cd_law_lines ct_law_lines : Value}
    {u_check_size : Addr} {od_check_size an_check_size : Option Addr} {sl_check_size : Array (Option Value)} {oc_check_size kV_check_size dc_check_size pm_check_size cd_check_size ct_check_size : Value}
    {u_Table_is_point : Addr} {od_Table_is_point an_Table_is_point : Option Addr} {sl_Table_is_point : Array (Option Value)} {oc_Table_is_point kV_Table_is_point dc_Table_is_point pm_Table_is_point cd_Table_is_point ct_Table_is_point : Value}
    {u_check_pockets : Addr} {od_check_pockets an_check_pockets : Option Addr} {sl_check_pockets : Array (Option Value)} {oc_check_pockets kV_check_pockets dc_check_pockets pm_check_pockets cd_check_pockets ct_check_pockets : Value}
    {u_Table___init o_Table___init : Addr} {od_Table___init an_Table___init : Option Addr} {sl_Table___init : Array (Option Value)} {oc_Table___init kV_Table___init dc_Table___init pm_Table___init cd_Table___init ct_Table___init : Value}
    {e_Table___init : Addr} {ot_Table___init oe_Table___init : Option Addr} {nt_Table___init ne_Table___init : Nat} {st_Table___init se_Table___init : Array (Option Value)}
    {u_law_made : Addr} {od_law_made an_law_made : Option Addr} {sl_law_made : Array (Option Value)} {oc_law_made kV_law_made dc_law_made pm_law_made cd_law_made ct_law_made : Value}
    {u_is_integer : Addr} {od_is_integer an_is_integer : Option Addr} {sl_is_integer : Array (Option Value)} {oc_is_integer kV_is_integer dc_is_integer pm_is_integer cd_is_integer ct_is_integer : Value}
    {u_is_name : Addr} {od_is_name an_is_name : Option Addr} {sl_is_name : Array (Option Value)} {oc_is_name kV_is_name dc_is_name pm_is_name cd_is_name ct_is_name : Value}
    {u_is_ball : Addr} {od_is_ball an_is_ball : Option Addr} {sl_is_ball : Array (Option Value)} {oc_is_ball kV_is_ball dc_is_ball pm_is_ball cd_is_ball ct_is_ball : Value}
    {u_check_ball : Addr} {od_check_ball an_check_ball : Option Addr} {sl_check_ball : Array (Option Value)} {oc_check_ball kV_check_ball dc_check_ball pm_check_ball cd_check_ball ct_check_ball : Value}
    {u_check_balls : Addr} {od_check_balls an_check_balls : Option Addr} {sl_check_balls : Array (Option Value)} {oc_check_balls kV_check_balls dc_check_balls pm_check_balls cd_check_balls ct_check_balls : Value}
    {u_law_due : Addr} {od_law_due an_law_due : Option Addr} {sl_law_due : Array (Option Value)} {oc_law_due kV_law_due dc_law_due pm_law_due cd_law_due ct_law_due : Value}
    {u_is_number o_is_number : Addr} {od_is_number an_is_number : Option Addr} {sl_is_number : Array (Option Value)} {oc_is_number kV_is_number dc_is_number pm_is_number cd_is_number ct_is_number : Value}
    {tke_is_number : Tok} {ot_is_number : Option Addr} {nt_is_number : Nat} {st_is_number : Array (Option Value)}
    {u_is_ball_line : Addr} {od_is_ball_line an_is_ball_line : Option Addr} {sl_is_ball_line : Array (Option Value)} {oc_is_ball_line kV_is_ball_line dc_is_ball_line pm_is_ball_line cd_is_ball_line ct_is_ball_line : Value}
    {u_is_line : Addr} {od_is_line an_is_line : Option Addr} {sl_is_line : Array (Option Value)} {oc_is_line kV_is_line dc_is_line pm_is_line cd_is_line ct_is_line : Value}
    {u_check_form : Addr} {od_check_form an_check_form : Option Addr} {sl_check_form : Array (Option Value)} {oc_check_form kV_check_form dc_check_form pm_check_form cd_check_form ct_check_form : Value}
    {u_read_pair : Addr} {od_read_pair an_read_pair : Option Addr} {sl_read_pair : Array (Option Value)} {oc_read_pair kV_read_pair dc_read_pair pm_read_pair cd_read_pair ct_read_pair : Value}
    {u_read_ball : Addr} {od_read_ball an_read_ball : Option Addr} {sl_read_ball : Array (Option Value)} {oc_read_ball kV_read_ball dc_read_ball pm_read_ball cd_read_ball ct_read_ball : Value}
    {u_parse_setup : Addr} {od_parse_setup an_parse_setup : Option Addr} {sl_parse_setup : Array (Option Value)} {oc_parse_setup kV_parse_setup dc_parse_setup pm_parse_setup cd_parse_setup ct_parse_setup : Value}
    {u_law_parsed : Addr} {od_law_parsed an_law_parsed : Option Addr} {sl_law_parsed : Array (Option Value)} {oc_law_parsed kV_law_parsed dc_law_parsed pm_law_parsed cd_law_parsed ct_law_parsed : Value}
    {u_law : Addr} {od_law an_law : Option Addr} {sl_law : Array (Option Value)} {oc_law kV_law dc_law pm_law cd_law ct_law : Value}
    {c_CushionedError : Addr}
    {c_InvalidTable : Addr}
    {c_InvalidBall : Addr}
    {c_InvalidNotation : Addr}
    {c_Table : Addr}
    {q_NEXT_WORDS : Addr} {nq_NEXT_WORDS : Nat}
    {hh_NEXT_WORDS_0 hh_NEXT_WORDS_1 hh_NEXT_WORDS_2 hh_NEXT_WORDS_3 : Int}
    {ts_NEXT_WORDS_0 ts_NEXT_WORDS_1 ts_NEXT_WORDS_2 ts_NEXT_WORDS_3 : Tok}
    {q_NEXT_WORDS_0 : Addr} {oq_NEXT_WORDS_0 : Option Addr} {nq_NEXT_WORDS_0 : Nat} {sq_NEXT_WORDS_0 : Array (Option Value)}
    {t_NEXT_WORDS_0_0 : Tok}
    {q_NEXT_WORDS_1 : Addr} {oq_NEXT_WORDS_1 : Option Addr} {nq_NEXT_WORDS_1 : Nat} {sq_NEXT_WORDS_1 : Array (Option Value)}
    {t_NEXT_WORDS_1_0 t_NEXT_WORDS_1_1 : Tok}
    {q_NEXT_WORDS_2 : Addr} {oq_NEXT_WORDS_2 : Option Addr} {nq_NEXT_WORDS_2 : Nat} {sq_NEXT_WORDS_2 : Array (Option Value)}
    {t_NEXT_WORDS_2_0 t_NEXT_WORDS_2_1 : Tok}
    {q_NEXT_WORDS_3 : Addr} {oq_NEXT_WORDS_3 : Option Addr} {nq_NEXT_WORDS_3 : Nat} {sq_NEXT_WORDS_3 : Array (Option Value)}
    {t_NEXT_WORDS_3_0 : Tok}
    {td_STEP_WORDS_0 td_STEP_WORDS_1 td_STEP_WORDS_2 : Tok}
    {q_STEP_WORDS : Addr} {nq_STEP_WORDS : Nat}
    {hh_STEP_WORDS_0 hh_STEP_WORDS_1 hh_STEP_WORDS_2 : Int}
    {ts_STEP_WORDS_0 ts_STEP_WORDS_1 ts_STEP_WORDS_2 : Tok}
    {q_STEPS : Addr} {oq_STEPS : Option Addr} {nq_STEPS : Nat} {sq_STEPS : Array (Option Value)}
    {t_STEPS_0 t_STEPS_1 t_STEPS_2 : Tok}
    {tk_DIGITS : Tok}
    {tk_GREATEST_SIDE : Tok}
    {tk_LATEST_START : Tok}
    {tk_LETTERS : Tok}
    {tk_LONGEST_NAME : Tok}
    {tk_MOST_BALLS : Tok}
    {tk_MOST_POCKETS : Tok}
    (h_cc_Table : PySem.W.nsIn K mainGlobals "Table" = some (some (.ref c_Table)))
    (h_cc_InvalidNotation : PySem.W.nsIn K mainGlobals "InvalidNotation" = some (some (.ref c_InvalidNotation)))
    (h_cc_InvalidBall : PySem.W.nsIn K mainGlobals "InvalidBall" = some (some (.ref c_InvalidBall)))
    (h_cc_InvalidTable : PySem.W.nsIn K mainGlobals "InvalidTable" = some (some (.ref c_InvalidTable)))
    (h_cc_CushionedError : PySem.W.nsIn K mainGlobals "CushionedError" = some (some (.ref c_CushionedError)))
    (h_a_law_row : PySem.W.nsIn K mainGlobals "_law_row" = some (some (.ref u_law_row)))
    (h_l_law_row : K.lookup u_law_row = some ⟨oc_law_row, od_law_row, .func (PySem.W.fnOf "_law_row" "_law_row" (defArgs s_law_row) (defBody s_law_row) (defScope s_law_row) .none kV_law_row dc_law_row pm_law_row an_law_row cd_law_row ct_law_row), sl_law_row⟩)
    (h_c_law_row : PySem.W.codeIn K cd_law_row "_law_row" = true)
    (h_k_law_row : PySem.W.keepIn K (.ref u_law_row) = true)
    (h_a_law_numbers : PySem.W.nsIn K mainGlobals "_law_numbers" = some (some (.ref u_law_numbers)))
    (h_l_law_numbers : K.lookup u_law_numbers = some ⟨oc_law_numbers, od_law_numbers, .func (PySem.W.fnOf "_law_numbers" "_law_numbers" (defArgs s_law_numbers) (defBody s_law_numbers) (defScope s_law_numbers) .none kV_law_numbers dc_law_numbers pm_law_numbers an_law_numbers cd_law_numbers ct_law_numbers), sl_law_numbers⟩)
    (h_c_law_numbers : PySem.W.codeIn K cd_law_numbers "_law_numbers" = true)
    (h_k_law_numbers : PySem.W.keepIn K (.ref u_law_numbers) = true)
    (h_a_law_big : PySem.W.nsIn K mainGlobals "_law_big" = some (some (.ref u_law_big)))
    (h_l_law_big : K.lookup u_law_big = some ⟨oc_law_big, od_law_big, .func (PySem.W.fnOf "_law_big" "_law_big" (defArgs s_law_big) (defBody s_law_big) (defScope s_law_big) .none kV_law_big dc_law_big pm_law_big an_law_big cd_law_big ct_law_big), sl_law_big⟩)
    (h_c_law_big : PySem.W.codeIn K cd_law_big "_law_big" = true)
    (h_k_law_big : PySem.W.keepIn K (.ref u_law_big) = true)
    (h_a_law_count : PySem.W.nsIn K mainGlobals "_law_count" = some (some (.ref u_law_count)))
    (h_l_law_count : K.lookup u_law_count = some ⟨oc_law_count, od_law_count, .func (PySem.W.fnOf "_law_count" "_law_count" (defArgs s_law_count) (defBody s_law_count) (defScope s_law_count) .none kV_law_count dc_law_count pm_law_count an_law_count cd_law_count ct_law_count), sl_law_count⟩)
    (h_c_law_count : PySem.W.codeIn K cd_law_count "_law_count" = true)
    (h_k_law_count : PySem.W.keepIn K (.ref u_law_count) = true)
    (h_a_law_points : PySem.W.nsIn K mainGlobals "_law_points" = some (some (.ref u_law_points)))
    (h_l_law_points : K.lookup u_law_points = some ⟨oc_law_points, od_law_points, .func (PySem.W.fnOf "_law_points" "_law_points" (defArgs s_law_points) (defBody s_law_points) (defScope s_law_points) .none kV_law_points dc_law_points pm_law_points an_law_points cd_law_points ct_law_points), sl_law_points⟩)
    (h_c_law_points : PySem.W.codeIn K cd_law_points "_law_points" = true)
    (h_k_law_points : PySem.W.keepIn K (.ref u_law_points) = true)
    (h_a_law_parts : PySem.W.nsIn K mainGlobals "_law_parts" = some (some (.ref u_law_parts)))
    (h_l_law_parts : K.lookup u_law_parts = some ⟨oc_law_parts, od_law_parts, .func (PySem.W.fnOf "_law_parts" "_law_parts" (defArgs s_law_parts) (defBody s_law_parts) (defScope s_law_parts) .none kV_law_parts dc_law_parts pm_law_parts an_law_parts cd_law_parts ct_law_parts), sl_law_parts⟩)
    (h_c_law_parts : PySem.W.codeIn K cd_law_parts "_law_parts" = true)
    (h_k_law_parts : PySem.W.keepIn K (.ref u_law_parts) = true)
    (h_a_law_name : PySem.W.nsIn K mainGlobals "_law_name" = some (some (.ref u_law_name)))
    (h_l_law_name : K.lookup u_law_name = some ⟨oc_law_name, od_law_name, .func (PySem.W.fnOf "_law_name" "_law_name" (defArgs s_law_name) (defBody s_law_name) (defScope s_law_name) .none kV_law_name dc_law_name pm_law_name an_law_name cd_law_name ct_law_name), sl_law_name⟩)
    (h_c_law_name : PySem.W.codeIn K cd_law_name "_law_name" = true)
    (h_k_law_name : PySem.W.keepIn K (.ref u_law_name) = true)
    (h_a_law_balls : PySem.W.nsIn K mainGlobals "_law_balls" = some (some (.ref u_law_balls)))
    (h_l_law_balls : K.lookup u_law_balls = some ⟨oc_law_balls, od_law_balls, .func (PySem.W.fnOf "_law_balls" "_law_balls" (defArgs s_law_balls) (defBody s_law_balls) (defScope s_law_balls) .none kV_law_balls dc_law_balls pm_law_balls an_law_balls cd_law_balls ct_law_balls), sl_law_balls⟩)
    (h_c_law_balls : PySem.W.codeIn K cd_law_balls "_law_balls" = true)
    (h_k_law_balls : PySem.W.keepIn K (.ref u_law_balls) = true)
    (h_a_law_changed : PySem.W.nsIn K mainGlobals "_law_changed" = some (some (.ref u_law_changed)))
    (h_l_law_changed : K.lookup u_law_changed = some ⟨oc_law_changed, od_law_changed, .func (PySem.W.fnOf "_law_changed" "_law_changed" (defArgs s_law_changed) (defBody s_law_changed) (defScope s_law_changed) .none kV_law_changed dc_law_changed pm_law_changed an_law_changed cd_law_changed ct_law_changed), sl_law_changed⟩)
    (h_c_law_changed : PySem.W.codeIn K cd_law_changed "_law_changed" = true)
    (h_k_law_changed : PySem.W.keepIn K (.ref u_law_changed) = true)
    (h_a_law_lines : PySem.W.nsIn K mainGlobals "_law_lines" = some (some (.ref u_law_lines)))
    (h_l_law_lines : K.lookup u_law_lines = some ⟨oc_law_lines, od_law_lines, .func (PySem.W.fnOf "_law_lines" "_law_lines" (defArgs s_law_lines) (defBody s_law_lines) (defScope s_law_lines) .none kV_law_lines dc_law_lines pm_law_lines an_law_lines cd_law_lines ct_law_lines), sl_law_lines⟩)
    (h_c_law_lines : PySem.W.codeIn K cd_law_lines "_law_lines" = true)
    (h_k_law_lines : PySem.W.keepIn K (.ref u_law_lines) = true)
    (h_a_check_size : PySem.W.nsIn K mainGlobals "check_size" = some (some (.ref u_check_size)))
    (h_l_check_size : K.lookup u_check_size = some ⟨oc_check_size, od_check_size, .func (PySem.W.fnOf "check_size" "check_size" (defArgs s_check_size) (defBody s_check_size) (defScope s_check_size) .none kV_check_size dc_check_size pm_check_size an_check_size cd_check_size ct_check_size), sl_check_size⟩)
    (h_c_check_size : PySem.W.codeIn K cd_check_size "check_size" = true)
    (h_k_check_size : PySem.W.keepIn K (.ref u_check_size) = true)
    (h_a_Table_is_point : PySem.W.findIn K (.ref c_Table) "is_point" = some (some (.ref u_Table_is_point)))
    (h_l_Table_is_point : K.lookup u_Table_is_point = some ⟨oc_Table_is_point, od_Table_is_point, .func (PySem.W.fnOf "is_point" "Table.is_point" (defArgs s_Table_is_point) (defBody s_Table_is_point) (defScope s_Table_is_point) .none kV_Table_is_point dc_Table_is_point pm_Table_is_point an_Table_is_point cd_Table_is_point ct_Table_is_point), sl_Table_is_point⟩)
    (h_c_Table_is_point : PySem.W.codeIn K cd_Table_is_point "Table.is_point" = true)
    (h_k_Table_is_point : PySem.W.keepIn K (.ref u_Table_is_point) = true)
    (h_a_check_pockets : PySem.W.nsIn K mainGlobals "check_pockets" = some (some (.ref u_check_pockets)))
    (h_l_check_pockets : K.lookup u_check_pockets = some ⟨oc_check_pockets, od_check_pockets, .func (PySem.W.fnOf "check_pockets" "check_pockets" (defArgs s_check_pockets) (defBody s_check_pockets) (defScope s_check_pockets) .none kV_check_pockets dc_check_pockets pm_check_pockets an_check_pockets cd_check_pockets ct_check_pockets), sl_check_pockets⟩)
    (h_c_check_pockets : PySem.W.codeIn K cd_check_pockets "check_pockets" = true)
    (h_k_check_pockets : PySem.W.keepIn K (.ref u_check_pockets) = true)
    (h_a_Table___init : PySem.W.findIn K (.ref c_Table) "__init__" = some (some (.ref u_Table___init)))
    (h_l_Table___init : K.lookup u_Table___init = some ⟨oc_Table___init, od_Table___init, .func (PySem.W.fnOf "__init__" "Table.__init__" (defArgs s_Table___init) (defBody s_Table___init) (defScope s_Table___init) (.ref o_Table___init) kV_Table___init dc_Table___init pm_Table___init an_Table___init cd_Table___init ct_Table___init), sl_Table___init⟩)
    (h_c_Table___init : PySem.W.codeIn K cd_Table___init "Table.__init__" = true)
    (h_k_Table___init : PySem.W.keepIn K (.ref u_Table___init) = true)
    (h_t_Table___init : K.lookup o_Table___init = some ⟨.type "tuple", ot_Table___init, .seq #[.ref e_Table___init] nt_Table___init, st_Table___init⟩)
    (h_e_Table___init : K.lookup e_Table___init = some ⟨.type "tuple", oe_Table___init, .seq #[] ne_Table___init, se_Table___init⟩)
    (h_a_law_made : PySem.W.nsIn K mainGlobals "_law_made" = some (some (.ref u_law_made)))
    (h_l_law_made : K.lookup u_law_made = some ⟨oc_law_made, od_law_made, .func (PySem.W.fnOf "_law_made" "_law_made" (defArgs s_law_made) (defBody s_law_made) (defScope s_law_made) .none kV_law_made dc_law_made pm_law_made an_law_made cd_law_made ct_law_made), sl_law_made⟩)
    (h_c_law_made : PySem.W.codeIn K cd_law_made "_law_made" = true)
    (h_k_law_made : PySem.W.keepIn K (.ref u_law_made) = true)
    (h_a_is_integer : PySem.W.nsIn K mainGlobals "is_integer" = some (some (.ref u_is_integer)))
    (h_l_is_integer : K.lookup u_is_integer = some ⟨oc_is_integer, od_is_integer, .func (PySem.W.fnOf "is_integer" "is_integer" (defArgs s_is_integer) (defBody s_is_integer) (defScope s_is_integer) .none kV_is_integer dc_is_integer pm_is_integer an_is_integer cd_is_integer ct_is_integer), sl_is_integer⟩)
    (h_c_is_integer : PySem.W.codeIn K cd_is_integer "is_integer" = true)
    (h_k_is_integer : PySem.W.keepIn K (.ref u_is_integer) = true)
    (h_a_is_name : PySem.W.nsIn K mainGlobals "is_name" = some (some (.ref u_is_name)))
    (h_l_is_name : K.lookup u_is_name = some ⟨oc_is_name, od_is_name, .func (PySem.W.fnOf "is_name" "is_name" (defArgs s_is_name) (defBody s_is_name) (defScope s_is_name) .none kV_is_name dc_is_name pm_is_name an_is_name cd_is_name ct_is_name), sl_is_name⟩)
    (h_c_is_name : PySem.W.codeIn K cd_is_name "is_name" = true)
    (h_k_is_name : PySem.W.keepIn K (.ref u_is_name) = true)
    (h_a_is_ball : PySem.W.nsIn K mainGlobals "is_ball" = some (some (.ref u_is_ball)))
    (h_l_is_ball : K.lookup u_is_ball = some ⟨oc_is_ball, od_is_ball, .func (PySem.W.fnOf "is_ball" "is_ball" (defArgs s_is_ball) (defBody s_is_ball) (defScope s_is_ball) .none kV_is_ball dc_is_ball pm_is_ball an_is_ball cd_is_ball ct_is_ball), sl_is_ball⟩)
    (h_c_is_ball : PySem.W.codeIn K cd_is_ball "is_ball" = true)
    (h_k_is_ball : PySem.W.keepIn K (.ref u_is_ball) = true)
    (h_a_check_ball : PySem.W.nsIn K mainGlobals "check_ball" = some (some (.ref u_check_ball)))
    (h_l_check_ball : K.lookup u_check_ball = some ⟨oc_check_ball, od_check_ball, .func (PySem.W.fnOf "check_ball" "check_ball" (defArgs s_check_ball) (defBody s_check_ball) (defScope s_check_ball) .none kV_check_ball dc_check_ball pm_check_ball an_check_ball cd_check_ball ct_check_ball), sl_check_ball⟩)
    (h_c_check_ball : PySem.W.codeIn K cd_check_ball "check_ball" = true)
    (h_k_check_ball : PySem.W.keepIn K (.ref u_check_ball) = true)
    (h_a_check_balls : PySem.W.nsIn K mainGlobals "check_balls" = some (some (.ref u_check_balls)))
    (h_l_check_balls : K.lookup u_check_balls = some ⟨oc_check_balls, od_check_balls, .func (PySem.W.fnOf "check_balls" "check_balls" (defArgs s_check_balls) (defBody s_check_balls) (defScope s_check_balls) .none kV_check_balls dc_check_balls pm_check_balls an_check_balls cd_check_balls ct_check_balls), sl_check_balls⟩)
    (h_c_check_balls : PySem.W.codeIn K cd_check_balls "check_balls" = true)
    (h_k_check_balls : PySem.W.keepIn K (.ref u_check_balls) = true)
    (h_a_law_due : PySem.W.nsIn K mainGlobals "_law_due" = some (some (.ref u_law_due)))
    (h_l_law_due : K.lookup u_law_due = some ⟨oc_law_due, od_law_due, .func (PySem.W.fnOf "_law_due" "_law_due" (defArgs s_law_due) (defBody s_law_due) (defScope s_law_due) .none kV_law_due dc_law_due pm_law_due an_law_due cd_law_due ct_law_due), sl_law_due⟩)
    (h_c_law_due : PySem.W.codeIn K cd_law_due "_law_due" = true)
    (h_k_law_due : PySem.W.keepIn K (.ref u_law_due) = true)
    (h_a_is_number : PySem.W.nsIn K mainGlobals "is_number" = some (some (.ref u_is_number)))
    (h_l_is_number : K.lookup u_is_number = some ⟨oc_is_number, od_is_number, .func (PySem.W.fnOf "is_number" "is_number" (defArgs s_is_number) (defBody s_is_number) (defScope s_is_number) (.ref o_is_number) kV_is_number dc_is_number pm_is_number an_is_number cd_is_number ct_is_number), sl_is_number⟩)
    (h_c_is_number : PySem.W.codeIn K cd_is_number "is_number" = true)
    (h_k_is_number : PySem.W.keepIn K (.ref u_is_number) = true)
    (h_t_is_number : K.lookup o_is_number = some ⟨.type "tuple", ot_is_number, .seq #[.int (31) tke_is_number] nt_is_number, st_is_number⟩)
    (h_a_is_ball_line : PySem.W.nsIn K mainGlobals "is_ball_line" = some (some (.ref u_is_ball_line)))
    (h_l_is_ball_line : K.lookup u_is_ball_line = some ⟨oc_is_ball_line, od_is_ball_line, .func (PySem.W.fnOf "is_ball_line" "is_ball_line" (defArgs s_is_ball_line) (defBody s_is_ball_line) (defScope s_is_ball_line) .none kV_is_ball_line dc_is_ball_line pm_is_ball_line an_is_ball_line cd_is_ball_line ct_is_ball_line), sl_is_ball_line⟩)
    (h_c_is_ball_line : PySem.W.codeIn K cd_is_ball_line "is_ball_line" = true)
    (h_k_is_ball_line : PySem.W.keepIn K (.ref u_is_ball_line) = true)
    (h_a_is_line : PySem.W.nsIn K mainGlobals "is_line" = some (some (.ref u_is_line)))
    (h_l_is_line : K.lookup u_is_line = some ⟨oc_is_line, od_is_line, .func (PySem.W.fnOf "is_line" "is_line" (defArgs s_is_line) (defBody s_is_line) (defScope s_is_line) .none kV_is_line dc_is_line pm_is_line an_is_line cd_is_line ct_is_line), sl_is_line⟩)
    (h_c_is_line : PySem.W.codeIn K cd_is_line "is_line" = true)
    (h_k_is_line : PySem.W.keepIn K (.ref u_is_line) = true)
    (h_a_check_form : PySem.W.nsIn K mainGlobals "check_form" = some (some (.ref u_check_form)))
    (h_l_check_form : K.lookup u_check_form = some ⟨oc_check_form, od_check_form, .func (PySem.W.fnOf "check_form" "check_form" (defArgs s_check_form) (defBody s_check_form) (defScope s_check_form) .none kV_check_form dc_check_form pm_check_form an_check_form cd_check_form ct_check_form), sl_check_form⟩)
    (h_c_check_form : PySem.W.codeIn K cd_check_form "check_form" = true)
    (h_k_check_form : PySem.W.keepIn K (.ref u_check_form) = true)
    (h_a_read_pair : PySem.W.nsIn K mainGlobals "read_pair" = some (some (.ref u_read_pair)))
    (h_l_read_pair : K.lookup u_read_pair = some ⟨oc_read_pair, od_read_pair, .func (PySem.W.fnOf "read_pair" "read_pair" (defArgs s_read_pair) (defBody s_read_pair) (defScope s_read_pair) .none kV_read_pair dc_read_pair pm_read_pair an_read_pair cd_read_pair ct_read_pair), sl_read_pair⟩)
    (h_c_read_pair : PySem.W.codeIn K cd_read_pair "read_pair" = true)
    (h_k_read_pair : PySem.W.keepIn K (.ref u_read_pair) = true)
    (h_a_read_ball : PySem.W.nsIn K mainGlobals "read_ball" = some (some (.ref u_read_ball)))
    (h_l_read_ball : K.lookup u_read_ball = some ⟨oc_read_ball, od_read_ball, .func (PySem.W.fnOf "read_ball" "read_ball" (defArgs s_read_ball) (defBody s_read_ball) (defScope s_read_ball) .none kV_read_ball dc_read_ball pm_read_ball an_read_ball cd_read_ball ct_read_ball), sl_read_ball⟩)
    (h_c_read_ball : PySem.W.codeIn K cd_read_ball "read_ball" = true)
    (h_k_read_ball : PySem.W.keepIn K (.ref u_read_ball) = true)
    (h_a_parse_setup : PySem.W.nsIn K mainGlobals "parse_setup" = some (some (.ref u_parse_setup)))
    (h_l_parse_setup : K.lookup u_parse_setup = some ⟨oc_parse_setup, od_parse_setup, .func (PySem.W.fnOf "parse_setup" "parse_setup" (defArgs s_parse_setup) (defBody s_parse_setup) (defScope s_parse_setup) .none kV_parse_setup dc_parse_setup pm_parse_setup an_parse_setup cd_parse_setup ct_parse_setup), sl_parse_setup⟩)
    (h_c_parse_setup : PySem.W.codeIn K cd_parse_setup "parse_setup" = true)
    (h_k_parse_setup : PySem.W.keepIn K (.ref u_parse_setup) = true)
    (h_a_law_parsed : PySem.W.nsIn K mainGlobals "_law_parsed" = some (some (.ref u_law_parsed)))
    (h_l_law_parsed : K.lookup u_law_parsed = some ⟨oc_law_parsed, od_law_parsed, .func (PySem.W.fnOf "_law_parsed" "_law_parsed" (defArgs s_law_parsed) (defBody s_law_parsed) (defScope s_law_parsed) .none kV_law_parsed dc_law_parsed pm_law_parsed an_law_parsed cd_law_parsed ct_law_parsed), sl_law_parsed⟩)
    (h_c_law_parsed : PySem.W.codeIn K cd_law_parsed "_law_parsed" = true)
    (h_k_law_parsed : PySem.W.keepIn K (.ref u_law_parsed) = true)
    (h_a_law : PySem.W.nsIn K mainGlobals "law" = some (some (.ref u_law)))
    (h_l_law : K.lookup u_law = some ⟨oc_law, od_law, .func (PySem.W.fnOf "law" "law" (defArgs s_law) (defBody s_law) (defScope s_law) .none kV_law dc_law pm_law an_law cd_law ct_law), sl_law⟩)
    (h_c_law : PySem.W.codeIn K cd_law "law" = true)
    (h_k_law : PySem.W.keepIn K (.ref u_law) = true)
    (h_q_NEXT_WORDS : PySem.W.nsIn K mainGlobals "NEXT_WORDS" = some (some (.ref q_NEXT_WORDS)))
    (h_ql_NEXT_WORDS : K.lookup q_NEXT_WORDS = some ⟨.type "dict", none, .dict #[⟨hh_NEXT_WORDS_0, .str "" ts_NEXT_WORDS_0, .ref q_NEXT_WORDS_0⟩, ⟨hh_NEXT_WORDS_1, .str "table" ts_NEXT_WORDS_1, .ref q_NEXT_WORDS_1⟩, ⟨hh_NEXT_WORDS_2, .str "pocket" ts_NEXT_WORDS_2, .ref q_NEXT_WORDS_2⟩, ⟨hh_NEXT_WORDS_3, .str "ball" ts_NEXT_WORDS_3, .ref q_NEXT_WORDS_3⟩] nq_NEXT_WORDS, #[]⟩)
    (h_hh_NEXT_WORDS_0 : hh_NEXT_WORDS_0 = PyData.keyHash w.params "")
    (h_hh_NEXT_WORDS_1 : hh_NEXT_WORDS_1 = PyData.keyHash w.params "table")
    (h_hh_NEXT_WORDS_2 : hh_NEXT_WORDS_2 = PyData.keyHash w.params "pocket")
    (h_hh_NEXT_WORDS_3 : hh_NEXT_WORDS_3 = PyData.keyHash w.params "ball")
    (h_lo_NEXT_WORDS : (q_NEXT_WORDS == sysModules) = false)
    (h_ql_NEXT_WORDS_0 : K.lookup q_NEXT_WORDS_0 = some ⟨.type "tuple", oq_NEXT_WORDS_0, .seq #[.str "table" t_NEXT_WORDS_0_0] nq_NEXT_WORDS_0, sq_NEXT_WORDS_0⟩)
    (h_ql_NEXT_WORDS_1 : K.lookup q_NEXT_WORDS_1 = some ⟨.type "tuple", oq_NEXT_WORDS_1, .seq #[.str "pocket" t_NEXT_WORDS_1_0, .str "ball" t_NEXT_WORDS_1_1] nq_NEXT_WORDS_1, sq_NEXT_WORDS_1⟩)
    (h_ql_NEXT_WORDS_2 : K.lookup q_NEXT_WORDS_2 = some ⟨.type "tuple", oq_NEXT_WORDS_2, .seq #[.str "pocket" t_NEXT_WORDS_2_0, .str "ball" t_NEXT_WORDS_2_1] nq_NEXT_WORDS_2, sq_NEXT_WORDS_2⟩)
    (h_ql_NEXT_WORDS_3 : K.lookup q_NEXT_WORDS_3 = some ⟨.type "tuple", oq_NEXT_WORDS_3, .seq #[.str "ball" t_NEXT_WORDS_3_0] nq_NEXT_WORDS_3, sq_NEXT_WORDS_3⟩)
    (h_q_STEP_WORDS : PySem.W.nsIn K mainGlobals "STEP_WORDS" = some (some (.ref q_STEP_WORDS)))
    (h_ql_STEP_WORDS : K.lookup q_STEP_WORDS = some ⟨.type "dict", none, .dict #[⟨hh_STEP_WORDS_0, .str "-1" ts_STEP_WORDS_0, .int (-1) td_STEP_WORDS_0⟩, ⟨hh_STEP_WORDS_1, .str "0" ts_STEP_WORDS_1, .int (0) td_STEP_WORDS_1⟩, ⟨hh_STEP_WORDS_2, .str "1" ts_STEP_WORDS_2, .int (1) td_STEP_WORDS_2⟩] nq_STEP_WORDS, #[]⟩)
    (h_hh_STEP_WORDS_0 : hh_STEP_WORDS_0 = PyData.keyHash w.params "-1")
    (h_hh_STEP_WORDS_1 : hh_STEP_WORDS_1 = PyData.keyHash w.params "0")
    (h_hh_STEP_WORDS_2 : hh_STEP_WORDS_2 = PyData.keyHash w.params "1")
    (h_lo_STEP_WORDS : (q_STEP_WORDS == sysModules) = false)
    (h_q_STEPS : PySem.W.nsIn K mainGlobals "STEPS" = some (some (.ref q_STEPS)))
    (h_ql_STEPS : K.lookup q_STEPS = some ⟨.type "tuple", oq_STEPS, .seq #[.int (-1) t_STEPS_0, .int (0) t_STEPS_1, .int (1) t_STEPS_2] nq_STEPS, sq_STEPS⟩)
    (h_q_DIGITS : PySem.W.nsIn K mainGlobals "DIGITS" = some (some (.str "0123456789" tk_DIGITS)))
    (h_q_GREATEST_SIDE : PySem.W.nsIn K mainGlobals "GREATEST_SIDE" = some (some (.int (1000000000000000000000000000000) tk_GREATEST_SIDE)))
    (h_q_LATEST_START : PySem.W.nsIn K mainGlobals "LATEST_START" = some (some (.int (1000000000000000000000000000000) tk_LATEST_START)))
    (h_q_LETTERS : PySem.W.nsIn K mainGlobals "LETTERS" = some (some (.str "abcdefghijklmnopqrstuvwxyz" tk_LETTERS)))
    (h_q_LONGEST_NAME : PySem.W.nsIn K mainGlobals "LONGEST_NAME" = some (some (.int (12) tk_LONGEST_NAME)))
    (h_q_MOST_BALLS : PySem.W.nsIn K mainGlobals "MOST_BALLS" = some (some (.int (12) tk_MOST_BALLS)))
    (h_q_MOST_POCKETS : PySem.W.nsIn K mainGlobals "MOST_POCKETS" = some (some (.int (12) tk_MOST_POCKETS)))
    (h_pg_Table : PySem.W.plainGet K c_Table Str.empty = true)
    (h_hd_Table : PySem.W.hasDictIn K c_Table = true)
    (h_po_Table : PySem.W.plainOver K c_Table = true)
    (h_sa_Table : PySem.W.findIn K (.ref c_Table) "__setattr__" = some (some (.builtin "object.__setattr__")))
    (h_mk_Table : PySem.W.makesIn K c_Table = true)
    (h_mf_Table : PySem.W.isFn K (.ref u_Table___init) = true)
    (h_kk_Table : PySem.W.keepIn K (.ref c_Table) = true)
    (h_if_Table_is_point : PySem.W.isFn K (.ref u_Table_is_point) = true)
    (h_no_Table_height : PySem.W.findIn K (.ref c_Table) "height" = some none)
    (h_no_Table_pockets : PySem.W.findIn K (.ref c_Table) "pockets" = some none)
    (h_no_Table_width : PySem.W.findIn K (.ref c_Table) "width" = some none)
    (h_n_abs : PySem.W.nsIn K mainGlobals "abs" = some none)
    (h_n_all : PySem.W.nsIn K mainGlobals "all" = some none)
    (h_n_bool : PySem.W.nsIn K mainGlobals "bool" = some none)
    (h_n_enumerate : PySem.W.nsIn K mainGlobals "enumerate" = some none)
    (h_n_int : PySem.W.nsIn K mainGlobals "int" = some none)
    (h_n_isinstance : PySem.W.nsIn K mainGlobals "isinstance" = some none)
    (h_n_len : PySem.W.nsIn K mainGlobals "len" = some none)
    (h_n_list : PySem.W.nsIn K mainGlobals "list" = some none)
    (h_n_max : PySem.W.nsIn K mainGlobals "max" = some none)
    (h_n_min : PySem.W.nsIn K mainGlobals "min" = some none)
    (h_n_range : PySem.W.nsIn K mainGlobals "range" = some none)
    (h_n_set : PySem.W.nsIn K mainGlobals "set" = some none)
    (h_n_str : PySem.W.nsIn K mainGlobals "str" = some none)
    (h_n_tuple : PySem.W.nsIn K mainGlobals "tuple" = some none)
    (h_sb_CushionedError : PySem.W.subIn K (.ref c_CushionedError) (.type "BaseException") = some true)
    (h_tc_CushionedError : PySem.W.typeIn K (.ref c_CushionedError) = some (.type "type"))
    (h_sb_InvalidTable : PySem.W.subIn K (.ref c_InvalidTable) (.type "BaseException") = some true)
    (h_tc_InvalidTable : PySem.W.typeIn K (.ref c_InvalidTable) = some (.type "type"))
    (h_sb_InvalidBall : PySem.W.subIn K (.ref c_InvalidBall) (.type "BaseException") = some true)
    (h_tc_InvalidBall : PySem.W.typeIn K (.ref c_InvalidBall) = some (.type "type"))
    (h_sb_InvalidNotation : PySem.W.subIn K (.ref c_InvalidNotation) (.type "BaseException") = some true)
    (h_tc_InvalidNotation : PySem.W.typeIn K (.ref c_InvalidNotation) = some (.type "type"))
    (h_x_InvalidBall : PySem.W.excIn K c_InvalidBall [.type "ValueError", .type "Exception", .type "BaseException", .type "object"] "ValueError.__new__" = true)
    (h_kc_InvalidBall : PySem.W.keepIn K (.ref c_InvalidBall) = true)
    (h_x_InvalidTable : PySem.W.excIn K c_InvalidTable [.type "ValueError", .type "Exception", .type "BaseException", .type "object"] "ValueError.__new__" = true)
    (h_kc_InvalidTable : PySem.W.keepIn K (.ref c_InvalidTable) = true)
    (h_hx_InvalidBall : PySem.W.hasDictIn K c_InvalidBall = true)
    (h_su_CushionedError_InvalidBall : PySem.W.subIn K (.ref c_CushionedError) (.ref c_InvalidBall) = some false)
    (h_su_InvalidTable_InvalidBall : PySem.W.subIn K (.ref c_InvalidTable) (.ref c_InvalidBall) = some false)
    (h_su_InvalidBall_InvalidBall : PySem.W.subIn K (.ref c_InvalidBall) (.ref c_InvalidBall) = some true)
    (h_su_InvalidNotation_InvalidBall : PySem.W.subIn K (.ref c_InvalidNotation) (.ref c_InvalidBall) = some false)
    (h_hx_InvalidTable : PySem.W.hasDictIn K c_InvalidTable = true)
    (h_su_CushionedError_InvalidTable : PySem.W.subIn K (.ref c_CushionedError) (.ref c_InvalidTable) = some false)
    (h_su_InvalidTable_InvalidTable : PySem.W.subIn K (.ref c_InvalidTable) (.ref c_InvalidTable) = some true)
    (h_su_InvalidBall_InvalidTable : PySem.W.subIn K (.ref c_InvalidBall) (.ref c_InvalidTable) = some false)
    (h_su_InvalidNotation_InvalidTable : PySem.W.subIn K (.ref c_InvalidNotation) (.ref c_InvalidTable) = some false)
    (h_hg_CushionedError : PySem.W.findIn K (.ref c_CushionedError) "__getattribute__" = some (some (.builtin "BaseException.__getattribute__")))
    (h_hk_CushionedError : PySem.W.findIn K (.ref c_CushionedError) "__getattr__" = some none)
    (h_hdd_CushionedError : PySem.W.hasDictIn K c_CushionedError = true)
    (h_hac_CushionedError : PySem.W.findIn K (.ref c_CushionedError) "__class__" = some (some (.builtin "object.__class__")))
    (h_hmo_CushionedError : PySem.W.mroIn K c_CushionedError (.type "object") = some true)
    (h_hg_InvalidTable : PySem.W.findIn K (.ref c_InvalidTable) "__getattribute__" = some (some (.builtin "BaseException.__getattribute__")))
    (h_hk_InvalidTable : PySem.W.findIn K (.ref c_InvalidTable) "__getattr__" = some none)
    (h_hdd_InvalidTable : PySem.W.hasDictIn K c_InvalidTable = true)
    (h_hac_InvalidTable : PySem.W.findIn K (.ref c_InvalidTable) "__class__" = some (some (.builtin "object.__class__")))
    (h_hmo_InvalidTable : PySem.W.mroIn K c_InvalidTable (.type "object") = some true)
    (h_hg_InvalidBall : PySem.W.findIn K (.ref c_InvalidBall) "__getattribute__" = some (some (.builtin "BaseException.__getattribute__")))
    (h_hk_InvalidBall : PySem.W.findIn K (.ref c_InvalidBall) "__getattr__" = some none)
    (h_hdd_InvalidBall : PySem.W.hasDictIn K c_InvalidBall = true)
    (h_hac_InvalidBall : PySem.W.findIn K (.ref c_InvalidBall) "__class__" = some (some (.builtin "object.__class__")))
    (h_hmo_InvalidBall : PySem.W.mroIn K c_InvalidBall (.type "object") = some true)
    (h_hg_InvalidNotation : PySem.W.findIn K (.ref c_InvalidNotation) "__getattribute__" = some (some (.builtin "BaseException.__getattribute__")))
    (h_hk_InvalidNotation : PySem.W.findIn K (.ref c_InvalidNotation) "__getattr__" = some none)
    (h_hdd_InvalidNotation : PySem.W.hasDictIn K c_InvalidNotation = true)
    (h_hac_InvalidNotation : PySem.W.findIn K (.ref c_InvalidNotation) "__class__" = some (some (.builtin "object.__class__")))
    (h_hmo_InvalidNotation : PySem.W.mroIn K c_InvalidNotation (.type "object") = some true)
    (h_gsn : PySem.W.specialIn K (.builtin "object.__class__") "__get__" = some (some (.builtin "getset_descriptor.__get__")))
    (h_gst : PySem.W.takesIn K (.builtin "object.__class__") = some true)
    (h_kt_CushionedError_InvalidNotation : PySem.W.kitOne K (.ref c_CushionedError) (.ref c_InvalidNotation) = some false)
    (h_kt_InvalidTable_InvalidNotation : PySem.W.kitOne K (.ref c_InvalidTable) (.ref c_InvalidNotation) = some false)
    (h_kt_InvalidBall_InvalidNotation : PySem.W.kitOne K (.ref c_InvalidBall) (.ref c_InvalidNotation) = some false)
    (h_kt_InvalidNotation_InvalidNotation : PySem.W.kitOne K (.ref c_InvalidNotation) (.ref c_InvalidNotation) = some true)
    : ∃ fd : FuncData, (∀ (s : Shared) (v : Value), BindsTo s fd ⟨[v], []⟩ [("script", v)]) ∧ ∀ base : Heap, K.In base → base.Ns mainGlobals mg → FnOk P w K mg base (L2.CX P w) 7 fa fd ["script"] (spLaw K) := by
  obtain rfl : u_law = fa := by
    have e := (PySem.W.mg_of X G h_a_law).symm.trans hfa
    injection e with e
    injection e
  have TF_law_row : FunD K "_law_row" "_law_row" (defArgs s_law_row) (defBody s_law_row) (defScope s_law_row) [] [] u_law_row (PySem.W.fnOf "_law_row" "_law_row" (defArgs s_law_row) (defBody s_law_row) (defScope s_law_row) .none kV_law_row dc_law_row pm_law_row an_law_row cd_law_row ct_law_row) := ⟨⟨_, _, _, _, _, _, _, _, _, _, rfl, h_l_law_row, h_c_law_row, .inl ⟨rfl, rfl⟩, .inl rfl⟩, h_k_law_row⟩
  have TF_law_numbers : FunD K "_law_numbers" "_law_numbers" (defArgs s_law_numbers) (defBody s_law_numbers) (defScope s_law_numbers) [] [] u_law_numbers (PySem.W.fnOf "_law_numbers" "_law_numbers" (defArgs s_law_numbers) (defBody s_law_numbers) (defScope s_law_numbers) .none kV_law_numbers dc_law_numbers pm_law_numbers an_law_numbers cd_law_numbers ct_law_numbers) := ⟨⟨_, _, _, _, _, _, _, _, _, _, rfl, h_l_law_numbers, h_c_law_numbers, .inl ⟨rfl, rfl⟩, .inl rfl⟩, h_k_law_numbers⟩
  have TF_law_big : FunD K "_law_big" "_law_big" (defArgs s_law_big) (defBody s_law_big) (defScope s_law_big) [] [] u_law_big (PySem.W.fnOf "_law_big" "_law_big" (defArgs s_law_big) (defBody s_law_big) (defScope s_law_big) .none kV_law_big dc_law_big pm_law_big an_law_big cd_law_big ct_law_big) := ⟨⟨_, _, _, _, _, _, _, _, _, _, rfl, h_l_law_big, h_c_law_big, .inl ⟨rfl, rfl⟩, .inl rfl⟩, h_k_law_big⟩
  have TF_law_count : FunD K "_law_count" "_law_count" (defArgs s_law_count) (defBody s_law_count) (defScope s_law_count) [] [] u_law_count (PySem.W.fnOf "_law_count" "_law_count" (defArgs s_law_count) (defBody s_law_count) (defScope s_law_count) .none kV_law_count dc_law_count pm_law_count an_law_count cd_law_count ct_law_count) := ⟨⟨_, _, _, _, _, _, _, _, _, _, rfl, h_l_law_count, h_c_law_count, .inl ⟨rfl, rfl⟩, .inl rfl⟩, h_k_law_count⟩
  have TF_law_points : FunD K "_law_points" "_law_points" (defArgs s_law_points) (defBody s_law_points) (defScope s_law_points) [] [] u_law_points (PySem.W.fnOf "_law_points" "_law_points" (defArgs s_law_points) (defBody s_law_points) (defScope s_law_points) .none kV_law_points dc_law_points pm_law_points an_law_points cd_law_points ct_law_points) := ⟨⟨_, _, _, _, _, _, _, _, _, _, rfl, h_l_law_points, h_c_law_points, .inl ⟨rfl, rfl⟩, .inl rfl⟩, h_k_law_points⟩
  have TF_law_parts : FunD K "_law_parts" "_law_parts" (defArgs s_law_parts) (defBody s_law_parts) (defScope s_law_parts) [] [] u_law_parts (PySem.W.fnOf "_law_parts" "_law_parts" (defArgs s_law_parts) (defBody s_law_parts) (defScope s_law_parts) .none kV_law_parts dc_law_parts pm_law_parts an_law_parts cd_law_parts ct_law_parts) := ⟨⟨_, _, _, _, _, _, _, _, _, _, rfl, h_l_law_parts, h_c_law_parts, .inl ⟨rfl, rfl⟩, .inl rfl⟩, h_k_law_parts⟩
  have TF_law_name : FunD K "_law_name" "_law_name" (defArgs s_law_name) (defBody s_law_name) (defScope s_law_name) [] [] u_law_name (PySem.W.fnOf "_law_name" "_law_name" (defArgs s_law_name) (defBody s_law_name) (defScope s_law_name) .none kV_law_name dc_law_name pm_law_name an_law_name cd_law_name ct_law_name) := ⟨⟨_, _, _, _, _, _, _, _, _, _, rfl, h_l_law_name, h_c_law_name, .inl ⟨rfl, rfl⟩, .inl rfl⟩, h_k_law_name⟩
  have TF_law_balls : FunD K "_law_balls" "_law_balls" (defArgs s_law_balls) (defBody s_law_balls) (defScope s_law_balls) [] [] u_law_balls (PySem.W.fnOf "_law_balls" "_law_balls" (defArgs s_law_balls) (defBody s_law_balls) (defScope s_law_balls) .none kV_law_balls dc_law_balls pm_law_balls an_law_balls cd_law_balls ct_law_balls) := ⟨⟨_, _, _, _, _, _, _, _, _, _, rfl, h_l_law_balls, h_c_law_balls, .inl ⟨rfl, rfl⟩, .inl rfl⟩, h_k_law_balls⟩
  have TF_law_changed : FunD K "_law_changed" "_law_changed" (defArgs s_law_changed) (defBody s_law_changed) (defScope s_law_changed) [] [] u_law_changed (PySem.W.fnOf "_law_changed" "_law_changed" (defArgs s_law_changed) (defBody s_law_changed) (defScope s_law_changed) .none kV_law_changed dc_law_changed pm_law_changed an_law_changed cd_law_changed ct_law_changed) := ⟨⟨_, _, _, _, _, _, _, _, _, _, rfl, h_l_law_changed, h_c_law_changed, .inl ⟨rfl, rfl⟩, .inl rfl⟩, h_k_law_changed⟩
  have TF_law_lines : FunD K "_law_lines" "_law_lines" (defArgs s_law_lines) (defBody s_law_lines) (defScope s_law_lines) [] [] u_law_lines (PySem.W.fnOf "_law_lines" "_law_lines" (defArgs s_law_lines) (defBody s_law_lines) (defScope s_law_lines) .none kV_law_lines dc_law_lines pm_law_lines an_law_lines cd_law_lines ct_law_lines) := ⟨⟨_, _, _, _, _, _, _, _, _, _, rfl, h_l_law_lines, h_c_law_lines, .inl ⟨rfl, rfl⟩, .inl rfl⟩, h_k_law_lines⟩
  have TF_check_size : FunD K "check_size" "check_size" (defArgs s_check_size) (defBody s_check_size) (defScope s_check_size) [] [] u_check_size (PySem.W.fnOf "check_size" "check_size" (defArgs s_check_size) (defBody s_check_size) (defScope s_check_size) .none kV_check_size dc_check_size pm_check_size an_check_size cd_check_size ct_check_size) := ⟨⟨_, _, _, _, _, _, _, _, _, _, rfl, h_l_check_size, h_c_check_size, .inl ⟨rfl, rfl⟩, .inl rfl⟩, h_k_check_size⟩
  have TF_Table_is_point : FunD K "is_point" "Table.is_point" (defArgs s_Table_is_point) (defBody s_Table_is_point) (defScope s_Table_is_point) [] [] u_Table_is_point (PySem.W.fnOf "is_point" "Table.is_point" (defArgs s_Table_is_point) (defBody s_Table_is_point) (defScope s_Table_is_point) .none kV_Table_is_point dc_Table_is_point pm_Table_is_point an_Table_is_point cd_Table_is_point ct_Table_is_point) := ⟨⟨_, _, _, _, _, _, _, _, _, _, rfl, h_l_Table_is_point, h_c_Table_is_point, .inl ⟨rfl, rfl⟩, .inl rfl⟩, h_k_Table_is_point⟩
  have TF_check_pockets : FunD K "check_pockets" "check_pockets" (defArgs s_check_pockets) (defBody s_check_pockets) (defScope s_check_pockets) [] [] u_check_pockets (PySem.W.fnOf "check_pockets" "check_pockets" (defArgs s_check_pockets) (defBody s_check_pockets) (defScope s_check_pockets) .none kV_check_pockets dc_check_pockets pm_check_pockets an_check_pockets cd_check_pockets ct_check_pockets) := ⟨⟨_, _, _, _, _, _, _, _, _, _, rfl, h_l_check_pockets, h_c_check_pockets, .inl ⟨rfl, rfl⟩, .inl rfl⟩, h_k_check_pockets⟩
  have TF_Table___init : FunD K "__init__" "Table.__init__" (defArgs s_Table___init) (defBody s_Table___init) (defScope s_Table___init) [V.ref e_Table___init] [] u_Table___init (PySem.W.fnOf "__init__" "Table.__init__" (defArgs s_Table___init) (defBody s_Table___init) (defScope s_Table___init) (.ref o_Table___init) kV_Table___init dc_Table___init pm_Table___init an_Table___init cd_Table___init ct_Table___init) := ⟨⟨_, _, _, _, _, _, _, _, _, _, rfl, h_l_Table___init, h_c_Table___init, .inr ⟨by simp, _, _, [.ref e_Table___init], nt_Table___init, rfl, h_t_Table___init, rfl, .cons rfl .nil⟩, .inl rfl⟩, h_k_Table___init⟩
  have TF_law_made : FunD K "_law_made" "_law_made" (defArgs s_law_made) (defBody s_law_made) (defScope s_law_made) [] [] u_law_made (PySem.W.fnOf "_law_made" "_law_made" (defArgs s_law_made) (defBody s_law_made) (defScope s_law_made) .none kV_law_made dc_law_made pm_law_made an_law_made cd_law_made ct_law_made) := ⟨⟨_, _, _, _, _, _, _, _, _, _, rfl, h_l_law_made, h_c_law_made, .inl ⟨rfl, rfl⟩, .inl rfl⟩, h_k_law_made⟩
  have TF_is_integer : FunD K "is_integer" "is_integer" (defArgs s_is_integer) (defBody s_is_integer) (defScope s_is_integer) [] [] u_is_integer (PySem.W.fnOf "is_integer" "is_integer" (defArgs s_is_integer) (defBody s_is_integer) (defScope s_is_integer) .none kV_is_integer dc_is_integer pm_is_integer an_is_integer cd_is_integer ct_is_integer) := ⟨⟨_, _, _, _, _, _, _, _, _, _, rfl, h_l_is_integer, h_c_is_integer, .inl ⟨rfl, rfl⟩, .inl rfl⟩, h_k_is_integer⟩
  have TF_is_name : FunD K "is_name" "is_name" (defArgs s_is_name) (defBody s_is_name) (defScope s_is_name) [] [] u_is_name (PySem.W.fnOf "is_name" "is_name" (defArgs s_is_name) (defBody s_is_name) (defScope s_is_name) .none kV_is_name dc_is_name pm_is_name an_is_name cd_is_name ct_is_name) := ⟨⟨_, _, _, _, _, _, _, _, _, _, rfl, h_l_is_name, h_c_is_name, .inl ⟨rfl, rfl⟩, .inl rfl⟩, h_k_is_name⟩
  have TF_is_ball : FunD K "is_ball" "is_ball" (defArgs s_is_ball) (defBody s_is_ball) (defScope s_is_ball) [] [] u_is_ball (PySem.W.fnOf "is_ball" "is_ball" (defArgs s_is_ball) (defBody s_is_ball) (defScope s_is_ball) .none kV_is_ball dc_is_ball pm_is_ball an_is_ball cd_is_ball ct_is_ball) := ⟨⟨_, _, _, _, _, _, _, _, _, _, rfl, h_l_is_ball, h_c_is_ball, .inl ⟨rfl, rfl⟩, .inl rfl⟩, h_k_is_ball⟩
  have TF_check_ball : FunD K "check_ball" "check_ball" (defArgs s_check_ball) (defBody s_check_ball) (defScope s_check_ball) [] [] u_check_ball (PySem.W.fnOf "check_ball" "check_ball" (defArgs s_check_ball) (defBody s_check_ball) (defScope s_check_ball) .none kV_check_ball dc_check_ball pm_check_ball an_check_ball cd_check_ball ct_check_ball) := ⟨⟨_, _, _, _, _, _, _, _, _, _, rfl, h_l_check_ball, h_c_check_ball, .inl ⟨rfl, rfl⟩, .inl rfl⟩, h_k_check_ball⟩
  have TF_check_balls : FunD K "check_balls" "check_balls" (defArgs s_check_balls) (defBody s_check_balls) (defScope s_check_balls) [] [] u_check_balls (PySem.W.fnOf "check_balls" "check_balls" (defArgs s_check_balls) (defBody s_check_balls) (defScope s_check_balls) .none kV_check_balls dc_check_balls pm_check_balls an_check_balls cd_check_balls ct_check_balls) := ⟨⟨_, _, _, _, _, _, _, _, _, _, rfl, h_l_check_balls, h_c_check_balls, .inl ⟨rfl, rfl⟩, .inl rfl⟩, h_k_check_balls⟩
  have TF_law_due : FunD K "_law_due" "_law_due" (defArgs s_law_due) (defBody s_law_due) (defScope s_law_due) [] [] u_law_due (PySem.W.fnOf "_law_due" "_law_due" (defArgs s_law_due) (defBody s_law_due) (defScope s_law_due) .none kV_law_due dc_law_due pm_law_due an_law_due cd_law_due ct_law_due) := ⟨⟨_, _, _, _, _, _, _, _, _, _, rfl, h_l_law_due, h_c_law_due, .inl ⟨rfl, rfl⟩, .inl rfl⟩, h_k_law_due⟩
  have TF_is_number : FunD K "is_number" "is_number" (defArgs s_is_number) (defBody s_is_number) (defScope s_is_number) [V.int (31)] [] u_is_number (PySem.W.fnOf "is_number" "is_number" (defArgs s_is_number) (defBody s_is_number) (defScope s_is_number) (.ref o_is_number) kV_is_number dc_is_number pm_is_number an_is_number cd_is_number ct_is_number) := ⟨⟨_, _, _, _, _, _, _, _, _, _, rfl, h_l_is_number, h_c_is_number, .inr ⟨by simp, _, _, [.int (31) tke_is_number], nt_is_number, rfl, h_t_is_number, rfl, .cons ⟨_, rfl⟩ .nil⟩, .inl rfl⟩, h_k_is_number⟩
  have TF_is_ball_line : FunD K "is_ball_line" "is_ball_line" (defArgs s_is_ball_line) (defBody s_is_ball_line) (defScope s_is_ball_line) [] [] u_is_ball_line (PySem.W.fnOf "is_ball_line" "is_ball_line" (defArgs s_is_ball_line) (defBody s_is_ball_line) (defScope s_is_ball_line) .none kV_is_ball_line dc_is_ball_line pm_is_ball_line an_is_ball_line cd_is_ball_line ct_is_ball_line) := ⟨⟨_, _, _, _, _, _, _, _, _, _, rfl, h_l_is_ball_line, h_c_is_ball_line, .inl ⟨rfl, rfl⟩, .inl rfl⟩, h_k_is_ball_line⟩
  have TF_is_line : FunD K "is_line" "is_line" (defArgs s_is_line) (defBody s_is_line) (defScope s_is_line) [] [] u_is_line (PySem.W.fnOf "is_line" "is_line" (defArgs s_is_line) (defBody s_is_line) (defScope s_is_line) .none kV_is_line dc_is_line pm_is_line an_is_line cd_is_line ct_is_line) := ⟨⟨_, _, _, _, _, _, _, _, _, _, rfl, h_l_is_line, h_c_is_line, .inl ⟨rfl, rfl⟩, .inl rfl⟩, h_k_is_line⟩
  have TF_check_form : FunD K "check_form" "check_form" (defArgs s_check_form) (defBody s_check_form) (defScope s_check_form) [] [] u_check_form (PySem.W.fnOf "check_form" "check_form" (defArgs s_check_form) (defBody s_check_form) (defScope s_check_form) .none kV_check_form dc_check_form pm_check_form an_check_form cd_check_form ct_check_form) := ⟨⟨_, _, _, _, _, _, _, _, _, _, rfl, h_l_check_form, h_c_check_form, .inl ⟨rfl, rfl⟩, .inl rfl⟩, h_k_check_form⟩
  have TF_read_pair : FunD K "read_pair" "read_pair" (defArgs s_read_pair) (defBody s_read_pair) (defScope s_read_pair) [] [] u_read_pair (PySem.W.fnOf "read_pair" "read_pair" (defArgs s_read_pair) (defBody s_read_pair) (defScope s_read_pair) .none kV_read_pair dc_read_pair pm_read_pair an_read_pair cd_read_pair ct_read_pair) := ⟨⟨_, _, _, _, _, _, _, _, _, _, rfl, h_l_read_pair, h_c_read_pair, .inl ⟨rfl, rfl⟩, .inl rfl⟩, h_k_read_pair⟩
  have TF_read_ball : FunD K "read_ball" "read_ball" (defArgs s_read_ball) (defBody s_read_ball) (defScope s_read_ball) [] [] u_read_ball (PySem.W.fnOf "read_ball" "read_ball" (defArgs s_read_ball) (defBody s_read_ball) (defScope s_read_ball) .none kV_read_ball dc_read_ball pm_read_ball an_read_ball cd_read_ball ct_read_ball) := ⟨⟨_, _, _, _, _, _, _, _, _, _, rfl, h_l_read_ball, h_c_read_ball, .inl ⟨rfl, rfl⟩, .inl rfl⟩, h_k_read_ball⟩
  have TF_parse_setup : FunD K "parse_setup" "parse_setup" (defArgs s_parse_setup) (defBody s_parse_setup) (defScope s_parse_setup) [] [] u_parse_setup (PySem.W.fnOf "parse_setup" "parse_setup" (defArgs s_parse_setup) (defBody s_parse_setup) (defScope s_parse_setup) .none kV_parse_setup dc_parse_setup pm_parse_setup an_parse_setup cd_parse_setup ct_parse_setup) := ⟨⟨_, _, _, _, _, _, _, _, _, _, rfl, h_l_parse_setup, h_c_parse_setup, .inl ⟨rfl, rfl⟩, .inl rfl⟩, h_k_parse_setup⟩
  have TF_law_parsed : FunD K "_law_parsed" "_law_parsed" (defArgs s_law_parsed) (defBody s_law_parsed) (defScope s_law_parsed) [] [] u_law_parsed (PySem.W.fnOf "_law_parsed" "_law_parsed" (defArgs s_law_parsed) (defBody s_law_parsed) (defScope s_law_parsed) .none kV_law_parsed dc_law_parsed pm_law_parsed an_law_parsed cd_law_parsed ct_law_parsed) := ⟨⟨_, _, _, _, _, _, _, _, _, _, rfl, h_l_law_parsed, h_c_law_parsed, .inl ⟨rfl, rfl⟩, .inl rfl⟩, h_k_law_parsed⟩
  have TF_law : FunD K "law" "law" (defArgs s_law) (defBody s_law) (defScope s_law) [] [] u_law (PySem.W.fnOf "law" "law" (defArgs s_law) (defBody s_law) (defScope s_law) .none kV_law dc_law pm_law an_law cd_law ct_law) := ⟨⟨_, _, _, _, _, _, _, _, _, _, rfl, h_l_law, h_c_law, .inl ⟨rfl, rfl⟩, .inl rfl⟩, h_k_law⟩
  obtain ⟨v_is_number_1, hv_is_number_1, hb_is_number_1⟩ := FunD.binds1 (ps := ["word", "most_digits"]) TF_is_number 1 0 (by simp) (by simp) fun T kV doc pm an cdv ct us its hl hi => match us, hl, its, hi with | [_], _, [_], _ => ⟨_, rfl, rfl⟩
  let A : Ad := { a_law_row := u_law_row, f_law_row := PySem.W.fnOf "_law_row" "_law_row" (defArgs s_law_row) (defBody s_law_row) (defScope s_law_row) .none kV_law_row dc_law_row pm_law_row an_law_row cd_law_row ct_law_row, a_law_numbers := u_law_numbers, f_law_numbers := PySem.W.fnOf "_law_numbers" "_law_numbers" (defArgs s_law_numbers) (defBody s_law_numbers) (defScope s_law_numbers) .none kV_law_numbers dc_law_numbers pm_law_numbers an_law_numbers cd_law_numbers ct_law_numbers, a_law_big := u_law_big, f_law_big := PySem.W.fnOf "_law_big" "_law_big" (defArgs s_law_big) (defBody s_law_big) (defScope s_law_big) .none kV_law_big dc_law_big pm_law_big an_law_big cd_law_big ct_law_big, a_law_count := u_law_count, f_law_count := PySem.W.fnOf "_law_count" "_law_count" (defArgs s_law_count) (defBody s_law_count) (defScope s_law_count) .none kV_law_count dc_law_count pm_law_count an_law_count cd_law_count ct_law_count, a_law_points := u_law_points, f_law_points := PySem.W.fnOf "_law_points" "_law_points" (defArgs s_law_points) (defBody s_law_points) (defScope s_law_points) .none kV_law_points dc_law_points pm_law_points an_law_points cd_law_points ct_law_points, a_law_parts := u_law_parts, f_law_parts := PySem.W.fnOf "_law_parts" "_law_parts" (defArgs s_law_parts) (defBody s_law_parts) (defScope s_law_parts) .none kV_law_parts dc_law_parts pm_law_parts an_law_parts cd_law_parts ct_law_parts, a_law_name := u_law_name, f_law_name := PySem.W.fnOf "_law_name" "_law_name" (defArgs s_law_name) (defBody s_law_name) (defScope s_law_name) .none kV_law_name dc_law_name pm_law_name an_law_name cd_law_name ct_law_name, a_law_balls := u_law_balls, f_law_balls := PySem.W.fnOf "_law_balls" "_law_balls" (defArgs s_law_balls) (defBody s_law_balls) (defScope s_law_balls) .none kV_law_balls dc_law_balls pm_law_balls an_law_balls cd_law_balls ct_law_balls, a_law_changed := u_law_changed, f_law_changed := PySem.W.fnOf "_law_changed" "_law_changed" (defArgs s_law_changed) (defBody s_law_changed) (defScope s_law_changed) .none kV_law_changed dc_law_changed pm_law_changed an_law_changed cd_law_changed ct_law_changed, a_law_lines := u_law_lines, f_law_lines := PySem.W.fnOf "_law_lines" "_law_lines" (defArgs s_law_lines) (defBody s_law_lines) (defScope s_law_lines) .none kV_law_lines dc_law_lines pm_law_lines an_law_lines cd_law_lines ct_law_lines, a_check_size := u_check_size, f_check_size := PySem.W.fnOf "check_size" "check_size" (defArgs s_check_size) (defBody s_check_size) (defScope s_check_size) .none kV_check_size dc_check_size pm_check_size an_check_size cd_check_size ct_check_size, a_Table_is_point := u_Table_is_point, f_Table_is_point := PySem.W.fnOf "is_point" "Table.is_point" (defArgs s_Table_is_point) (defBody s_Table_is_point) (defScope s_Table_is_point) .none kV_Table_is_point dc_Table_is_point pm_Table_is_point an_Table_is_point cd_Table_is_point ct_Table_is_point, a_check_pockets := u_check_pockets, f_check_pockets := PySem.W.fnOf "check_pockets" "check_pockets" (defArgs s_check_pockets) (defBody s_check_pockets) (defScope s_check_pockets) .none kV_check_pockets dc_check_pockets pm_check_pockets an_check_pockets cd_check_pockets ct_check_pockets, a_Table___init := u_Table___init, f_Table___init := PySem.W.fnOf "__init__" "Table.__init__" (defArgs s_Table___init) (defBody s_Table___init) (defScope s_Table___init) (.ref o_Table___init) kV_Table___init dc_Table___init pm_Table___init an_Table___init cd_Table___init ct_Table___init, e_Table___init := e_Table___init, a_law_made := u_law_made, f_law_made := PySem.W.fnOf "_law_made" "_law_made" (defArgs s_law_made) (defBody s_law_made) (defScope s_law_made) .none kV_law_made dc_law_made pm_law_made an_law_made cd_law_made ct_law_made, a_is_integer := u_is_integer, f_is_integer := PySem.W.fnOf "is_integer" "is_integer" (defArgs s_is_integer) (defBody s_is_integer) (defScope s_is_integer) .none kV_is_integer dc_is_integer pm_is_integer an_is_integer cd_is_integer ct_is_integer, a_is_name := u_is_name, f_is_name := PySem.W.fnOf "is_name" "is_name" (defArgs s_is_name) (defBody s_is_name) (defScope s_is_name) .none kV_is_name dc_is_name pm_is_name an_is_name cd_is_name ct_is_name, a_is_ball := u_is_ball, f_is_ball := PySem.W.fnOf "is_ball" "is_ball" (defArgs s_is_ball) (defBody s_is_ball) (defScope s_is_ball) .none kV_is_ball dc_is_ball pm_is_ball an_is_ball cd_is_ball ct_is_ball, a_check_ball := u_check_ball, f_check_ball := PySem.W.fnOf "check_ball" "check_ball" (defArgs s_check_ball) (defBody s_check_ball) (defScope s_check_ball) .none kV_check_ball dc_check_ball pm_check_ball an_check_ball cd_check_ball ct_check_ball, a_check_balls := u_check_balls, f_check_balls := PySem.W.fnOf "check_balls" "check_balls" (defArgs s_check_balls) (defBody s_check_balls) (defScope s_check_balls) .none kV_check_balls dc_check_balls pm_check_balls an_check_balls cd_check_balls ct_check_balls, a_law_due := u_law_due, f_law_due := PySem.W.fnOf "_law_due" "_law_due" (defArgs s_law_due) (defBody s_law_due) (defScope s_law_due) .none kV_law_due dc_law_due pm_law_due an_law_due cd_law_due ct_law_due, a_is_number := u_is_number, f_is_number := PySem.W.fnOf "is_number" "is_number" (defArgs s_is_number) (defBody s_is_number) (defScope s_is_number) (.ref o_is_number) kV_is_number dc_is_number pm_is_number an_is_number cd_is_number ct_is_number, a_is_ball_line := u_is_ball_line, f_is_ball_line := PySem.W.fnOf "is_ball_line" "is_ball_line" (defArgs s_is_ball_line) (defBody s_is_ball_line) (defScope s_is_ball_line) .none kV_is_ball_line dc_is_ball_line pm_is_ball_line an_is_ball_line cd_is_ball_line ct_is_ball_line, a_is_line := u_is_line, f_is_line := PySem.W.fnOf "is_line" "is_line" (defArgs s_is_line) (defBody s_is_line) (defScope s_is_line) .none kV_is_line dc_is_line pm_is_line an_is_line cd_is_line ct_is_line, a_check_form := u_check_form, f_check_form := PySem.W.fnOf "check_form" "check_form" (defArgs s_check_form) (defBody s_check_form) (defScope s_check_form) .none kV_check_form dc_check_form pm_check_form an_check_form cd_check_form ct_check_form, a_read_pair := u_read_pair, f_read_pair := PySem.W.fnOf "read_pair" "read_pair" (defArgs s_read_pair) (defBody s_read_pair) (defScope s_read_pair) .none kV_read_pair dc_read_pair pm_read_pair an_read_pair cd_read_pair ct_read_pair, a_read_ball := u_read_ball, f_read_ball := PySem.W.fnOf "read_ball" "read_ball" (defArgs s_read_ball) (defBody s_read_ball) (defScope s_read_ball) .none kV_read_ball dc_read_ball pm_read_ball an_read_ball cd_read_ball ct_read_ball, a_parse_setup := u_parse_setup, f_parse_setup := PySem.W.fnOf "parse_setup" "parse_setup" (defArgs s_parse_setup) (defBody s_parse_setup) (defScope s_parse_setup) .none kV_parse_setup dc_parse_setup pm_parse_setup an_parse_setup cd_parse_setup ct_parse_setup, a_law_parsed := u_law_parsed, f_law_parsed := PySem.W.fnOf "_law_parsed" "_law_parsed" (defArgs s_law_parsed) (defBody s_law_parsed) (defScope s_law_parsed) .none kV_law_parsed dc_law_parsed pm_law_parsed an_law_parsed cd_law_parsed ct_law_parsed, a_law := u_law, f_law := PySem.W.fnOf "law" "law" (defArgs s_law) (defBody s_law) (defScope s_law) .none kV_law dc_law pm_law an_law cd_law ct_law, c_CushionedError := c_CushionedError, c_InvalidTable := c_InvalidTable, c_InvalidBall := c_InvalidBall, c_InvalidNotation := c_InvalidNotation, c_Table := c_Table, q_NEXT_WORDS := q_NEXT_WORDS, q_STEP_WORDS := q_STEP_WORDS, q_STEPS := q_STEPS, v_is_number_1 := v_is_number_1 }
  have T : Tx K mg A := {
    F_law_row := (TF_law_row),
    g_law_row := (PySem.W.mg_of X G h_a_law_row),
    F_law_numbers := (TF_law_numbers),
    g_law_numbers := (PySem.W.mg_of X G h_a_law_numbers),
    F_law_big := (TF_law_big),
    g_law_big := (PySem.W.mg_of X G h_a_law_big),
    F_law_count := (TF_law_count),
    g_law_count := (PySem.W.mg_of X G h_a_law_count),
    F_law_points := (TF_law_points),
    g_law_points := (PySem.W.mg_of X G h_a_law_points),
    F_law_parts := (TF_law_parts),
    g_law_parts := (PySem.W.mg_of X G h_a_law_parts),
    F_law_name := (TF_law_name),
    g_law_name := (PySem.W.mg_of X G h_a_law_name),
    F_law_balls := (TF_law_balls),
    g_law_balls := (PySem.W.mg_of X G h_a_law_balls),
    F_law_changed := (TF_law_changed),
    g_law_changed := (PySem.W.mg_of X G h_a_law_changed),
    F_law_lines := (TF_law_lines),
    g_law_lines := (PySem.W.mg_of X G h_a_law_lines),
    F_check_size := (TF_check_size),
    g_check_size := (PySem.W.mg_of X G h_a_check_size),
    F_Table_is_point := (TF_Table_is_point),
    F_check_pockets := (TF_check_pockets),
    g_check_pockets := (PySem.W.mg_of X G h_a_check_pockets),
    F_Table___init := (TF_Table___init),
    F_law_made := (TF_law_made),
    g_law_made := (PySem.W.mg_of X G h_a_law_made),
    F_is_integer := (TF_is_integer),
    g_is_integer := (PySem.W.mg_of X G h_a_is_integer),
    F_is_name := (TF_is_name),
    g_is_name := (PySem.W.mg_of X G h_a_is_name),
    F_is_ball := (TF_is_ball),
    g_is_ball := (PySem.W.mg_of X G h_a_is_ball),
    F_check_ball := (TF_check_ball),
    g_check_ball := (PySem.W.mg_of X G h_a_check_ball),
    F_check_balls := (TF_check_balls),
    g_check_balls := (PySem.W.mg_of X G h_a_check_balls),
    F_law_due := (TF_law_due),
    g_law_due := (PySem.W.mg_of X G h_a_law_due),
    F_is_number := (TF_is_number),
    g_is_number := (PySem.W.mg_of X G h_a_is_number),
    F_is_ball_line := (TF_is_ball_line),
    g_is_ball_line := (PySem.W.mg_of X G h_a_is_ball_line),
    F_is_line := (TF_is_line),
    g_is_line := (PySem.W.mg_of X G h_a_is_line),
    F_check_form := (TF_check_form),
    g_check_form := (PySem.W.mg_of X G h_a_check_form),
    F_read_pair := (TF_read_pair),
    g_read_pair := (PySem.W.mg_of X G h_a_read_pair),
    F_read_ball := (TF_read_ball),
    g_read_ball := (PySem.W.mg_of X G h_a_read_ball),
    F_parse_setup := (TF_parse_setup),
    g_parse_setup := (PySem.W.mg_of X G h_a_parse_setup),
    F_law_parsed := (TF_law_parsed),
    g_law_parsed := (PySem.W.mg_of X G h_a_law_parsed),
    F_law := (TF_law),
    g_law := (PySem.W.mg_of X G h_a_law),
    gd_NEXT_WORDS := (PySem.W.mg_of X G h_q_NEXT_WORDS),
    gd_STEP_WORDS := (PySem.W.mg_of X G h_q_STEP_WORDS),
    kv_STEPS := (⟨_, PySem.W.mg_of X G h_q_STEPS, rfl⟩),
    r_STEPS := (fun F => (.tup (xs := [V.int (-1), V.int (0), V.int (1)]) (.inr ⟨_, _, _, h_ql_STEPS, rfl, rfl, (by show 3 ≤ sizeLine; decide), (.cons ⟨_, rfl⟩ (.cons ⟨_, rfl⟩ (.cons ⟨_, rfl⟩ .nil)))⟩) (.cons (.int _) (.cons (.int _) (.cons (.int _) .nil))))),
    kv_DIGITS := (⟨_, PySem.W.mg_of X G h_q_DIGITS, _, rfl⟩),
    r_DIGITS := (fun F => .str _),
    kv_GREATEST_SIDE := (⟨_, PySem.W.mg_of X G h_q_GREATEST_SIDE, _, rfl⟩),
    r_GREATEST_SIDE := (fun F => .int _),
    kv_LATEST_START := (⟨_, PySem.W.mg_of X G h_q_LATEST_START, _, rfl⟩),
    r_LATEST_START := (fun F => .int _),
    kv_LETTERS := (⟨_, PySem.W.mg_of X G h_q_LETTERS, _, rfl⟩),
    r_LETTERS := (fun F => .str _),
    kv_LONGEST_NAME := (⟨_, PySem.W.mg_of X G h_q_LONGEST_NAME, _, rfl⟩),
    r_LONGEST_NAME := (fun F => .int _),
    kv_MOST_BALLS := (⟨_, PySem.W.mg_of X G h_q_MOST_BALLS, _, rfl⟩),
    r_MOST_BALLS := (fun F => .int _),
    kv_MOST_POCKETS := (⟨_, PySem.W.mg_of X G h_q_MOST_POCKETS, _, rfl⟩),
    r_MOST_POCKETS := (fun F => .int _),
    b_Table___init := (bindsFull TF_Table___init (by simp) fun T kV doc pm an cdv ct us its hl hi => match us, hl, its, hi with | [_, _, _, _], _, [_], _ => ⟨_, rfl, rfl⟩),
    b_Table_is_point := (FunD.bindsN TF_Table_is_point fun _ _ _ _ _ _ us hl => match us, hl with | [_, _], _ => rfl),
    b_law_balls := (FunD.bindsN TF_law_balls fun _ _ _ _ _ _ us hl => match us, hl with | [_, _, _, _, _], _ => rfl),
    b_law_big := (FunD.bindsN TF_law_big fun _ _ _ _ _ _ us hl => match us, hl with | [_, _, _, _], _ => rfl),
    b_law_changed := (FunD.bindsN TF_law_changed fun _ _ _ _ _ _ us hl => match us, hl with | [_, _, _], _ => rfl),
    b_law_count := (FunD.bindsN TF_law_count fun _ _ _ _ _ _ us hl => match us, hl with | [_, _], _ => rfl),
    b_law_due := (FunD.bindsN TF_law_due fun _ _ _ _ _ _ us hl => match us, hl with | [_, _], _ => rfl),
    b_law_lines := (FunD.bindsN TF_law_lines fun _ _ _ _ _ _ us hl => match us, hl with | [_, _], _ => rfl),
    b_law_made := (FunD.bindsN TF_law_made fun _ _ _ _ _ _ us hl => match us, hl with | [_], _ => rfl),
    b_law_name := (FunD.bindsN TF_law_name fun _ _ _ _ _ _ us hl => match us, hl with | [_, _, _], _ => rfl),
    b_law_numbers := (FunD.bindsN TF_law_numbers fun _ _ _ _ _ _ us hl => match us, hl with | [_, _], _ => rfl),
    b_law_parsed := (FunD.bindsN TF_law_parsed fun _ _ _ _ _ _ us hl => match us, hl with | [_], _ => rfl),
    b_law_parts := (FunD.bindsN TF_law_parts fun _ _ _ _ _ _ us hl => match us, hl with | [_], _ => rfl),
    b_law_points := (FunD.bindsN TF_law_points fun _ _ _ _ _ _ us hl => match us, hl with | [_, _, _, _, _], _ => rfl),
    b_law_row := (FunD.bindsN TF_law_row fun _ _ _ _ _ _ us hl => match us, hl with | [_, _], _ => rfl),
    b_check_ball := (FunD.bindsN TF_check_ball fun _ _ _ _ _ _ us hl => match us, hl with | [_, _], _ => rfl),
    b_check_balls := (FunD.bindsN TF_check_balls fun _ _ _ _ _ _ us hl => match us, hl with | [_, _], _ => rfl),
    b_check_form := (FunD.bindsN TF_check_form fun _ _ _ _ _ _ us hl => match us, hl with | [_], _ => rfl),
    b_check_pockets := (FunD.bindsN TF_check_pockets fun _ _ _ _ _ _ us hl => match us, hl with | [_], _ => rfl),
    b_check_size := (FunD.bindsN TF_check_size fun _ _ _ _ _ _ us hl => match us, hl with | [_, _], _ => rfl),
    b_is_ball := (FunD.bindsN TF_is_ball fun _ _ _ _ _ _ us hl => match us, hl with | [_, _], _ => rfl),
    b_is_ball_line := (FunD.bindsN TF_is_ball_line fun _ _ _ _ _ _ us hl => match us, hl with | [_], _ => rfl),
    b_is_integer := (FunD.bindsN TF_is_integer fun _ _ _ _ _ _ us hl => match us, hl with | [_], _ => rfl),
    b_is_line := (FunD.bindsN TF_is_line fun _ _ _ _ _ _ us hl => match us, hl with | [_], _ => rfl),
    b_is_name := (FunD.bindsN TF_is_name fun _ _ _ _ _ _ us hl => match us, hl with | [_], _ => rfl),
    b_is_number_1 := (hb_is_number_1),
    d_is_number_1 := (⟨hv_is_number_1, fun F => .cons (.int _) .nil⟩),
    b_law := (FunD.bindsN TF_law fun _ _ _ _ _ _ us hl => match us, hl with | [_], _ => rfl),
    b_parse_setup := (FunD.bindsN TF_parse_setup fun _ _ _ _ _ _ us hl => match us, hl with | [_], _ => rfl),
    b_read_ball := (FunD.bindsN TF_read_ball fun _ _ _ _ _ _ us hl => match us, hl with | [_], _ => rfl),
    b_read_pair := (FunD.bindsN TF_read_pair fun _ _ _ _ _ _ us hl => match us, hl with | [_], _ => rfl),
    cls_Table := (⟨h_pg_Table, h_hd_Table, h_po_Table, h_sa_Table⟩),
    mk_Table := (⟨h_mk_Table, h_a_Table___init, h_mf_Table, h_kk_Table⟩),
    m_Table_is_point := (⟨h_a_Table_is_point, h_if_Table_is_point, h_k_Table_is_point⟩),
    no_Table_height := (h_no_Table_height),
    no_Table_pockets := (h_no_Table_pockets),
    no_Table_width := (h_no_Table_width),
    gc_InvalidBall := (PySem.W.mg_of X G h_cc_InvalidBall),
    gc_InvalidNotation := (PySem.W.mg_of X G h_cc_InvalidNotation),
    gc_InvalidTable := (PySem.W.mg_of X G h_cc_InvalidTable),
    gc_Table := (PySem.W.mg_of X G h_cc_Table),
    n_abs := (PySem.W.mg_none_of X G h_n_abs),
    n_all := (PySem.W.mg_none_of X G h_n_all),
    n_bool := (PySem.W.mg_none_of X G h_n_bool),
    n_enumerate := (PySem.W.mg_none_of X G h_n_enumerate),
    n_int := (PySem.W.mg_none_of X G h_n_int),
    n_isinstance := (PySem.W.mg_none_of X G h_n_isinstance),
    n_len := (PySem.W.mg_none_of X G h_n_len),
    n_list := (PySem.W.mg_none_of X G h_n_list),
    n_max := (PySem.W.mg_none_of X G h_n_max),
    n_min := (PySem.W.mg_none_of X G h_n_min),
    n_range := (PySem.W.mg_none_of X G h_n_range),
    n_set := (PySem.W.mg_none_of X G h_n_set),
    n_str := (PySem.W.mg_none_of X G h_n_str),
    n_tuple := (PySem.W.mg_none_of X G h_n_tuple),
    x_InvalidBall := (h_x_InvalidBall),
    kc_InvalidBall := (h_kc_InvalidBall),
    sb_InvalidBall := (h_sb_InvalidBall),
    tc_InvalidBall := (h_tc_InvalidBall),
    x_InvalidTable := (h_x_InvalidTable),
    kc_InvalidTable := (h_kc_InvalidTable),
    sb_InvalidTable := (h_sb_InvalidTable),
    tc_InvalidTable := (h_tc_InvalidTable),
    ex_InvalidBall := (fun i b h => match i, b, h with | 0, _, rfl => PySem.W.exm_ref h_sb_InvalidBall h_hx_InvalidBall h_tc_InvalidBall h_su_CushionedError_InvalidBall | 1, _, rfl => PySem.W.exm_ref h_sb_InvalidBall h_hx_InvalidBall h_tc_InvalidBall h_su_InvalidTable_InvalidBall | 2, _, rfl => PySem.W.exm_ref h_sb_InvalidBall h_hx_InvalidBall h_tc_InvalidBall h_su_InvalidBall_InvalidBall | 3, _, rfl => PySem.W.exm_ref h_sb_InvalidBall h_hx_InvalidBall h_tc_InvalidBall h_su_InvalidNotation_InvalidBall | 4, _, h => (nomatch h) | n + 5, _, h => (nomatch h)),
    ex_InvalidTable := (fun i b h => match i, b, h with | 0, _, rfl => PySem.W.exm_ref h_sb_InvalidTable h_hx_InvalidTable h_tc_InvalidTable h_su_CushionedError_InvalidTable | 1, _, rfl => PySem.W.exm_ref h_sb_InvalidTable h_hx_InvalidTable h_tc_InvalidTable h_su_InvalidTable_InvalidTable | 2, _, rfl => PySem.W.exm_ref h_sb_InvalidTable h_hx_InvalidTable h_tc_InvalidTable h_su_InvalidBall_InvalidTable | 3, _, rfl => PySem.W.exm_ref h_sb_InvalidTable h_hx_InvalidTable h_tc_InvalidTable h_su_InvalidNotation_InvalidTable | 4, _, h => (nomatch h) | n + 5, _, h => (nomatch h)),
    exc_InvalidBall := (fun i h => match i, h with | 0, h => (nomatch h) | 1, h => (nomatch h) | 2, _ => ⟨⟨h_hg_InvalidBall, h_hk_InvalidBall, h_sb_InvalidBall, h_hdd_InvalidBall, h_hac_InvalidBall, h_gsn, h_gst, h_hmo_InvalidBall⟩, rfl⟩ | 3, h => (nomatch h) | 4, h => (nomatch h) | n + 5, h => (nomatch h)),
    exc_InvalidTable := (fun i h => match i, h with | 0, h => (nomatch h) | 1, _ => ⟨⟨h_hg_InvalidTable, h_hk_InvalidTable, h_sb_InvalidTable, h_hdd_InvalidTable, h_hac_InvalidTable, h_gsn, h_gst, h_hmo_InvalidTable⟩, rfl⟩ | 2, h => (nomatch h) | 3, h => (nomatch h) | 4, h => (nomatch h) | n + 5, h => (nomatch h)),
    kit_InvalidNotation := (fun i b h => match i, b, h with | 0, _, rfl => h_kt_CushionedError_InvalidNotation | 1, _, rfl => h_kt_InvalidTable_InvalidNotation | 2, _, rfl => h_kt_InvalidBall_InvalidNotation | 3, _, rfl => h_kt_InvalidNotation_InvalidNotation | 4, _, h => (nomatch h) | n + 5, _, h => (nomatch h)) }
  have TD : TDx w K A := {
    kd_NEXT_WORDS := (kdT_of kd_NEXT_WORDS h_ql_NEXT_WORDS h_lo_NEXT_WORDS ⟨⟨_, _, rfl, h_hh_NEXT_WORDS_0⟩, ⟨⟨_, _, rfl, h_hh_NEXT_WORDS_1⟩, ⟨⟨_, _, rfl, h_hh_NEXT_WORDS_2⟩, ⟨⟨_, _, rfl, h_hh_NEXT_WORDS_3⟩, trivial⟩⟩⟩⟩ (kd_cons (v := .ref q_NEXT_WORDS_0) rfl (fun F => (.tup (xs := [V.str "table"]) (.inr ⟨_, _, _, h_ql_NEXT_WORDS_0, rfl, rfl, (by show 1 ≤ sizeLine; decide), (.cons ⟨_, rfl⟩ .nil)⟩) (.cons (.str _) .nil))) (kd_cons (v := .ref q_NEXT_WORDS_1) rfl (fun F => (.tup (xs := [V.str "pocket", V.str "ball"]) (.inr ⟨_, _, _, h_ql_NEXT_WORDS_1, rfl, rfl, (by show 2 ≤ sizeLine; decide), (.cons ⟨_, rfl⟩ (.cons ⟨_, rfl⟩ .nil))⟩) (.cons (.str _) (.cons (.str _) .nil)))) (kd_cons (v := .ref q_NEXT_WORDS_2) rfl (fun F => (.tup (xs := [V.str "pocket", V.str "ball"]) (.inr ⟨_, _, _, h_ql_NEXT_WORDS_2, rfl, rfl, (by show 2 ≤ sizeLine; decide), (.cons ⟨_, rfl⟩ (.cons ⟨_, rfl⟩ .nil))⟩) (.cons (.str _) (.cons (.str _) .nil)))) (kd_cons (v := .ref q_NEXT_WORDS_3) rfl (fun F => (.tup (xs := [V.str "ball"]) (.inr ⟨_, _, _, h_ql_NEXT_WORDS_3, rfl, rfl, (by show 1 ≤ sizeLine; decide), (.cons ⟨_, rfl⟩ .nil)⟩) (.cons (.str _) .nil))) (kd_nil (K := K) (Y := coreOf A)))))) rfl),
    kd_STEP_WORDS := (kdT_of kd_STEP_WORDS h_ql_STEP_WORDS h_lo_STEP_WORDS ⟨⟨_, _, rfl, h_hh_STEP_WORDS_0⟩, ⟨⟨_, _, rfl, h_hh_STEP_WORDS_1⟩, ⟨⟨_, _, rfl, h_hh_STEP_WORDS_2⟩, trivial⟩⟩⟩ (kd_cons (v := .int (-1)) ⟨_, rfl⟩ (fun F => .int _) (kd_cons (v := .int (0)) ⟨_, rfl⟩ (fun F => .int _) (kd_cons (v := .int (1)) ⟨_, rfl⟩ (fun F => .int _) (kd_nil (K := K) (Y := coreOf A))))) rfl) }
  refine ⟨PySem.W.fnOf "law" "law" (defArgs s_law) (defBody s_law) (defScope s_law) .none kV_law dc_law pm_law an_law cd_law ct_law, fun s v => .of_eq rfl, fun base _ _ => (ok_law (P := P) (w := w) (base := base) T TD).imp fun vs H Q E hq => ?_⟩
  obtain ⟨a, ns, rfl, hs, hl, hQ⟩ := hq
  exact ⟨H, [.lst (ns.map D.int)], _, ⟨Den.Ex.refl H, fun _ h => nomatch h⟩, .cons (.lst hs (reps_ints ns)) .nil, rfl, law_true ns hl, fun v F' H' _ r => (by cases r; exact hQ H')⟩
theorem walk {l : PySem.W.OpenLaw} {q : Program} {loose : List Str} {XP : (Str → Option Value) → Heap → Prop} {YP : World → Heap → Prop} {d : DefRec} {K : Params → PySem.W.Frag} (hn : l.most = some 63) (hdf : d.params.defaults = [])
    (hY : ∀ (w : World) (h : Heap), YP w h → (K w.params).In h)
    (F : ∀ (w : World) (mg : Str → Option Value) (fa : Addr) (h : Heap), (K w.params).In h → h.Ns mainGlobals mg → mg d.name = some (.ref fa) →
      ∃ fd : FuncData, (∀ (s : Shared) (u : Value), BindsTo s fd ⟨[u], []⟩ [("script", u)]) ∧ ∀ base : Heap, (K w.params).In base → base.Ns mainGlobals mg → FnOk l.prog w (K w.params) mg base (L2.CX l.prog w) 7 fa fd ["script"] (spLaw (K w.params))) :
    PySem.W.WalkO q loose XP YP l.row.toRowW d [] (fun f vs => PySem.call f vs) :=
  L2.walk_of (n := 63) (k := 7) (x := "script") (CX := fun w => L2.CX l.prog w) (sp := fun w => spLaw (K w.params)) hn (by decide) hdf ⟨rfl, by decide, by decide⟩ hY F (fun _ _ a ns hl _ hS => ⟨a, ns, rfl, hS, hl, fun _ => rfl⟩) fun _ _ _ _ _ z => (by
    obtain ⟨_, _, _, _, _, _, _, _, _, _, _, _, z⟩ := z
    exact z)
end My
open PySem PySem.W PyProof.Rows
set_option maxRecDepth 100000 in
set_option maxHeartbeats 0 in
theorem PySem.Challenge.cw_cushioned_k08_texts_of_no_setup_holds : PySem.Challenge.rw_cushioned_k08_texts_of_no_setup.Holds := by
  w_on; o_law; k_head; (case hw => w_witness2)
  k_fill
  refine My.walk (l := PySem.Challenge.rw_cushioned_k08_texts_of_no_setup) rfl rfl (fun w h Y => PySem.W.kIn_of Y) ?F
  case F =>
    intro w mg fa h KX G hmg
    refine' My.all_mk KX G hmg ?cc_Table ?cc_InvalidNotation ?cc_InvalidBall ?cc_InvalidTable ?cc_CushionedError ?a_law_row ?l_law_row ?c_law_row ?k_law_row ?a_law_numbers ?l_law_numbers ?c_law_numbers ?k_law_numbers ?a_law_big ?l_law_big ?c_law_big ?k_law_big ?a_law_count ?l_law_count ?c_law_count ?k_law_count ?a_law_points ?l_law_points ?c_law_points ?k_law_points ?a_law_parts ?l_law_parts ?c_law_parts ?k_law_parts ?a_law_name ?l_law_name ?c_law_name ?k_law_name ?a_law_balls ?l_law_balls ?c_law_balls ?k_law_balls ?a_law_changed ?l_law_changed ?c_law_changed ?k_law_changed ?a_law_lines ?l_law_lines ?c_law_lines ?k_law_lines ?a_check_size ?l_check_size ?c_check_size ?k_check_size ?a_Table_is_point ?l_Table_is_point ?c_Table_is_point ?k_Table_is_point ?a_check_pockets ?l_check_pockets ?c_check_pockets ?k_check_pockets ?a_Table___init ?l_Table___init ?c_Table___init ?k_Table___init ?t_Table___init ?e_Table___init ?a_law_made ?l_law_made ?c_law_made ?k_law_made ?a_is_integer ?l_is_integer ?c_is_integer ?k_is_integer ?a_is_name ?l_is_name ?c_is_name ?k_is_name ?a_is_ball ?l_is_ball ?c_is_ball ?k_is_ball ?a_check_ball ?l_check_ball ?c_check_ball ?k_check_ball ?a_check_balls ?l_check_balls ?c_check_balls ?k_check_balls ?a_law_due ?l_law_due ?c_law_due ?k_law_due ?a_is_number ?l_is_number ?c_is_number ?k_is_number ?t_is_number ?a_is_ball_line ?l_is_ball_line ?c_is_ball_line ?k_is_ball_line ?a_is_line ?l_is_line ?c_is_line ?k_is_line ?a_check_form ?l_check_form ?c_check_form ?k_check_form ?a_read_pair ?l_read_pair ?c_read_pair ?k_read_pair ?a_read_ball ?l_read_ball ?c_read_ball ?k_read_ball ?a_parse_setup ?l_parse_setup ?c_parse_setup ?k_parse_setup ?a_law_parsed ?l_law_parsed ?c_law_parsed ?k_law_parsed ?a_law ?l_law ?c_law ?k_law ?q_NEXT_WORDS ?ql_NEXT_WORDS ?hh_NEXT_WORDS_0 ?hh_NEXT_WORDS_1 ?hh_NEXT_WORDS_2 ?hh_NEXT_WORDS_3 ?lo_NEXT_WORDS ?ql_NEXT_WORDS_0 ?ql_NEXT_WORDS_1 ?ql_NEXT_WORDS_2 ?ql_NEXT_WORDS_3 ?q_STEP_WORDS ?ql_STEP_WORDS ?hh_STEP_WORDS_0 ?hh_STEP_WORDS_1 ?hh_STEP_WORDS_2 ?lo_STEP_WORDS ?q_STEPS ?ql_STEPS ?q_DIGITS ?q_GREATEST_SIDE ?q_LATEST_START ?q_LETTERS ?q_LONGEST_NAME ?q_MOST_BALLS ?q_MOST_POCKETS ?pg_Table ?hd_Table ?po_Table ?sa_Table ?mk_Table ?mf_Table ?kk_Table ?if_Table_is_point ?no_Table_height ?no_Table_pockets ?no_Table_width ?n_abs ?n_all ?n_bool ?n_enumerate ?n_int ?n_isinstance ?n_len ?n_list ?n_max ?n_min ?n_range ?n_set ?n_str ?n_tuple ?sb_CushionedError ?tc_CushionedError ?sb_InvalidTable ?tc_InvalidTable ?sb_InvalidBall ?tc_InvalidBall ?sb_InvalidNotation ?tc_InvalidNotation ?x_InvalidBall ?kc_InvalidBall ?x_InvalidTable ?kc_InvalidTable ?hx_InvalidBall ?su_CushionedError_InvalidBall ?su_InvalidTable_InvalidBall ?su_InvalidBall_InvalidBall ?su_InvalidNotation_InvalidBall ?hx_InvalidTable ?su_CushionedError_InvalidTable ?su_InvalidTable_InvalidTable ?su_InvalidBall_InvalidTable ?su_InvalidNotation_InvalidTable ?hg_CushionedError ?hk_CushionedError ?hdd_CushionedError ?hac_CushionedError ?hmo_CushionedError ?hg_InvalidTable ?hk_InvalidTable ?hdd_InvalidTable ?hac_InvalidTable ?hmo_InvalidTable ?hg_InvalidBall ?hk_InvalidBall ?hdd_InvalidBall ?hac_InvalidBall ?hmo_InvalidBall ?hg_InvalidNotation ?hk_InvalidNotation ?hdd_InvalidNotation ?hac_InvalidNotation ?hmo_InvalidNotation ?gsn ?gst ?kt_CushionedError_InvalidNotation ?kt_InvalidTable_InvalidNotation ?kt_InvalidBall_InvalidNotation ?kt_InvalidNotation_InvalidNotation
    (case cc_Table => k_is)
    (case cc_InvalidNotation => k_is)
    (case cc_InvalidBall => k_is)
    (case cc_InvalidTable => k_is)
    (case cc_CushionedError => k_is)
    (case a_law_row => k_is)
    (case l_law_row => k_is)
    (case c_law_row => k_is)
    (case k_law_row => k_is)
    (case a_law_numbers => k_is)
    (case l_law_numbers => k_is)
    (case c_law_numbers => k_is)
    (case k_law_numbers => k_is)
    (case a_law_big => k_is)
    (case l_law_big => k_is)
    (case c_law_big => k_is)
    (case k_law_big => k_is)
    (case a_law_count => k_is)
    (case l_law_count => k_is)
    (case c_law_count => k_is)
    (case k_law_count => k_is)
    (case a_law_points => k_is)
    (case l_law_points => k_is)
    (case c_law_points => k_is)
    (case k_law_points => k_is)
    (case a_law_parts => k_is)
    (case l_law_parts => k_is)
    (case c_law_parts => k_is)
    (case k_law_parts => k_is)
    (case a_law_name => k_is)
    (case l_law_name => k_is)
    (case c_law_name => k_is)
    (case k_law_name => k_is)
    (case a_law_balls => k_is)
    (case l_law_balls => k_is)
    (case c_law_balls => k_is)
    (case k_law_balls => k_is)
    (case a_law_changed => k_is)
    (case l_law_changed => k_is)
    (case c_law_changed => k_is)
    (case k_law_changed => k_is)
    (case a_law_lines => k_is)
    (case l_law_lines => k_is)
    (case c_law_lines => k_is)
    (case k_law_lines => k_is)
    (case a_check_size => k_is)
    (case l_check_size => k_is)
    (case c_check_size => k_is)
    (case k_check_size => k_is)
    (case a_Table_is_point => k_is)
    (case l_Table_is_point => k_is)
    (case c_Table_is_point => k_is)
    (case k_Table_is_point => k_is)
    (case a_check_pockets => k_is)
    (case l_check_pockets => k_is)
    (case c_check_pockets => k_is)
    (case k_check_pockets => k_is)
    (case a_Table___init => k_is)
    (case l_Table___init => k_is)
    (case c_Table___init => k_is)
    (case k_Table___init => k_is)
    (case t_Table___init => k_is)
    (case e_Table___init => k_is)
    (case a_law_made => k_is)
    (case l_law_made => k_is)
    (case c_law_made => k_is)
    (case k_law_made => k_is)
    (case a_is_integer => k_is)
    (case l_is_integer => k_is)
    (case c_is_integer => k_is)
    (case k_is_integer => k_is)
    (case a_is_name => k_is)
    (case l_is_name => k_is)
    (case c_is_name => k_is)
    (case k_is_name => k_is)
    (case a_is_ball => k_is)
    (case l_is_ball => k_is)
    (case c_is_ball => k_is)
    (case k_is_ball => k_is)
    (case a_check_ball => k_is)
    (case l_check_ball => k_is)
    (case c_check_ball => k_is)
    (case k_check_ball => k_is)
    (case a_check_balls => k_is)
    (case l_check_balls => k_is)
    (case c_check_balls => k_is)
    (case k_check_balls => k_is)
    (case a_law_due => k_is)
    (case l_law_due => k_is)
    (case c_law_due => k_is)
    (case k_law_due => k_is)
    (case a_is_number => k_is)
    (case l_is_number => k_is)
    (case c_is_number => k_is)
    (case k_is_number => k_is)
    (case t_is_number => k_is)
    (case a_is_ball_line => k_is)
    (case l_is_ball_line => k_is)
    (case c_is_ball_line => k_is)
    (case k_is_ball_line => k_is)
    (case a_is_line => k_is)
    (case l_is_line => k_is)
    (case c_is_line => k_is)
    (case k_is_line => k_is)
    (case a_check_form => k_is)
    (case l_check_form => k_is)
    (case c_check_form => k_is)
    (case k_check_form => k_is)
    (case a_read_pair => k_is)
    (case l_read_pair => k_is)
    (case c_read_pair => k_is)
    (case k_read_pair => k_is)
    (case a_read_ball => k_is)
    (case l_read_ball => k_is)
    (case c_read_ball => k_is)
    (case k_read_ball => k_is)
    (case a_parse_setup => k_is)
    (case l_parse_setup => k_is)
    (case c_parse_setup => k_is)
    (case k_parse_setup => k_is)
    (case a_law_parsed => k_is)
    (case l_law_parsed => k_is)
    (case c_law_parsed => k_is)
    (case k_law_parsed => k_is)
    (case a_law => k_is)
    (case l_law => k_is)
    (case c_law => k_is)
    (case k_law => k_is)
    (case q_NEXT_WORDS => k_is)
    (case ql_NEXT_WORDS => k_is)
    (case hh_NEXT_WORDS_0 => first | rfl | k_is)
    (case hh_NEXT_WORDS_1 => first | rfl | k_is)
    (case hh_NEXT_WORDS_2 => first | rfl | k_is)
    (case hh_NEXT_WORDS_3 => first | rfl | k_is)
    (case lo_NEXT_WORDS => first | rfl | decide | k_is)
    (case ql_NEXT_WORDS_0 => k_is)
    (case ql_NEXT_WORDS_1 => k_is)
    (case ql_NEXT_WORDS_2 => k_is)
    (case ql_NEXT_WORDS_3 => k_is)
    (case q_STEP_WORDS => k_is)
    (case ql_STEP_WORDS => k_is)
    (case hh_STEP_WORDS_0 => first | rfl | k_is)
    (case hh_STEP_WORDS_1 => first | rfl | k_is)
    (case hh_STEP_WORDS_2 => first | rfl | k_is)
    (case lo_STEP_WORDS => first | rfl | decide | k_is)
    (case q_STEPS => k_is)
    (case ql_STEPS => k_is)
    (case q_DIGITS => k_is)
    (case q_GREATEST_SIDE => k_is)
    (case q_LATEST_START => k_is)
    (case q_LETTERS => k_is)
    (case q_LONGEST_NAME => k_is)
    (case q_MOST_BALLS => k_is)
    (case q_MOST_POCKETS => k_is)
    (case pg_Table => k_is)
    (case hd_Table => k_is)
    (case po_Table => k_is)
    (case sa_Table => k_is)
    (case mk_Table => k_is)
    (case mf_Table => k_is)
    (case kk_Table => k_is)
    (case if_Table_is_point => k_is)
    (case no_Table_height => k_is)
    (case no_Table_pockets => k_is)
    (case no_Table_width => k_is)
    (case n_abs => k_is)
    (case n_all => k_is)
    (case n_bool => k_is)
    (case n_enumerate => k_is)
    (case n_int => k_is)
    (case n_isinstance => k_is)
    (case n_len => k_is)
    (case n_list => k_is)
    (case n_max => k_is)
    (case n_min => k_is)
    (case n_range => k_is)
    (case n_set => k_is)
    (case n_str => k_is)
    (case n_tuple => k_is)
    (case sb_CushionedError => k_is)
    (case tc_CushionedError => k_is)
    (case sb_InvalidTable => k_is)
    (case tc_InvalidTable => k_is)
    (case sb_InvalidBall => k_is)
    (case tc_InvalidBall => k_is)
    (case sb_InvalidNotation => k_is)
    (case tc_InvalidNotation => k_is)
    (case x_InvalidBall => k_exc)
    (case kc_InvalidBall => k_is)
    (case x_InvalidTable => k_exc)
    (case kc_InvalidTable => k_is)
    (case hx_InvalidBall => k_is)
    (case su_CushionedError_InvalidBall => first | rfl | k_is)
    (case su_InvalidTable_InvalidBall => first | rfl | k_is)
    (case su_InvalidBall_InvalidBall => first | rfl | k_is)
    (case su_InvalidNotation_InvalidBall => first | rfl | k_is)
    (case hx_InvalidTable => k_is)
    (case su_CushionedError_InvalidTable => first | rfl | k_is)
    (case su_InvalidTable_InvalidTable => first | rfl | k_is)
    (case su_InvalidBall_InvalidTable => first | rfl | k_is)
    (case su_InvalidNotation_InvalidTable => first | rfl | k_is)
    (case hg_CushionedError => k_is)
    (case hk_CushionedError => k_is)
    (case hdd_CushionedError => k_is)
    (case hac_CushionedError => k_is)
    (case hmo_CushionedError => k_is)
    (case hg_InvalidTable => k_is)
    (case hk_InvalidTable => k_is)
    (case hdd_InvalidTable => k_is)
    (case hac_InvalidTable => k_is)
    (case hmo_InvalidTable => k_is)
    (case hg_InvalidBall => k_is)
    (case hk_InvalidBall => k_is)
    (case hdd_InvalidBall => k_is)
    (case hac_InvalidBall => k_is)
    (case hmo_InvalidBall => k_is)
    (case hg_InvalidNotation => k_is)
    (case hk_InvalidNotation => k_is)
    (case hdd_InvalidNotation => k_is)
    (case hac_InvalidNotation => k_is)
    (case hmo_InvalidNotation => k_is)
    (case gsn => k_is)
    (case gst => k_is)
    (case kt_CushionedError_InvalidNotation => first | rfl | k_is)
    (case kt_InvalidTable_InvalidNotation => first | rfl | k_is)
    (case kt_InvalidBall_InvalidNotation => first | rfl | k_is)
    (case kt_InvalidNotation_InvalidNotation => first | rfl | k_is)
